/- What is asked of things, and what is made of them. -/
import Derived.Test.YtchgejomcgoaeaaGreatG23
import Derived.Test.YtchgejomcgoaeaaGreatG14
set_option linter.unusedVariables false
set_option maxRecDepth 100000
namespace Go.Proofs.YtchgejomcgoaeaaGreat
open Go.RowKit
open Pt
variable {w : World} {a b e2 : Option Addr} {n c m d mm m2 d2 m3 d3 : Nat} {p q x r y : List Int} {u : Value} {vs : Nat → Value} {k : Nat → Pt} {i : Int} {cb : Bool}
theorem Zb7 {ds : List Int} (h : ds.length = 32) : (Tryz.prog.info? 50).map (·.size) = some (B8 ds).size := by rw [B8_size, h]; kernel_rfl
theorem Zka (h1 : Sk An w a n c p) (h2 : Sk An w b m d q) (hn : n ≤ 140737488355328) (hm : m ≤ 140737488355328) : Calls Tryz.prog 65 #[.slice a n c, .slice b m d] w fun e w' => ∃ v, e = .returned v ∧ RVl w (.int .i64 ((Ni.com p q : Nat) : Int)) v w' :=
  (Ni.common_any a b n c m d p q w h1.ag h2.ag hn hm).mono fun e w' h => ⟨_, h.1, rfl, h.2⟩
set_option maxHeartbeats 1000000 in
theorem Zv4  : Calls Tryz.prog 94 #[.nilIface] w fun e w' => ∃ v', e = .returned v' ∧ RVl w (.bool false) v' w' := by
 have hB : Bl w w := Bl.refl w
 refine Zaj Tryz.func94 rfl 11 rfl ?_
 show CW _ _ _ _ _ _ _ [(0, .nilIface)] _
 refine Zac ?_
 refine Zaa ?_
 refine rp 2 (.bool false) ?_
 refine Zad ?_
 refine Zab ?_
 refine Zac ?_
 refine Zaa ?_
 refine rp 6 (.nilIface) ?_
 refine rp 7 (.tuple #[.agg (brc (fun _ => .nilIface) (.slice none 0 0)), .bool false]) ?_
 refine rp 5 (.tuple #[.agg (brc (fun _ => .nilIface) (.slice none 0 0)), .bool false]) ?_
 refine rp 8 (.agg (brc (fun _ => .nilIface) (.slice none 0 0))) ?_
 refine rp 9 (.bool false) ?_
 refine Zar 3 (brc (fun _ => .nilIface) (.slice none 0 0)) 116 (fun _ => by kernel_rfl) (fun _ => by kernel_rfl) ?_
 intro w1 g2 hn3
 have hr4 : Rw g2 w1 (brc (fun _ => .nilIface) (.slice none 0 0)) 116 := hn3.row
 refine Zav g2 (brc (fun _ => .nilIface) (.slice none 0 0)) (fun _ => by kernel_rfl) (fun _ => Zao 116 _ _ _ _ _ 116 rfl (by kernel_rfl) (by kernel_rfl) hr4 (by kernel_rfl) (by kernel_rfl) (Zbl (KA.none w))) ?_
 intro w5 hp6
 replace hn3 := hn3.put hp6
 clear hr4
 have hzg2 : w.heap.size ≤ g2 := by have := hB.size; have := hn3.hg; omega
 replace hB := hB.go hn3.below
 have hr8 : Rw g2 w5 (brc (fun _ => .nilIface) (.slice none 0 0)) 116 := hn3.row
 refine rp 4 (.bool false) ?_
 refine Zad ?_
 refine Zab ?_
 refine Zac ?_
 refine Zaa ?_
 refine rp 10 (.bool false) ?_
 refine rp 2 (.bool false) ?_
 refine Zad ?_
 refine Zab ?_
 refine Zap ?_
 refine Zae (.bool false) (fun _ => by kernel_rfl) ?_
 exact ⟨_, rfl, rfl, hB⟩
set_option maxHeartbeats 1000000 in
theorem Zv3 {d : List Int} (hd : d.length = 32)  : Calls Tryz.prog 94 #[.iface 50 (.agg (B8 d))] w fun e w' => ∃ v', e = .returned v' ∧ RVl w (.bool false) v' w' := by
 have hB : Bl w w := Bl.refl w
 refine Zaj Tryz.func94 rfl 11 rfl ?_
 show CW _ _ _ _ _ _ _ [(0, .iface 50 (.agg (B8 d)))] _
 refine Zac ?_
 refine Zaa ?_
 refine rp 2 (.bool false) ?_
 refine Zad ?_
 refine Zab ?_
 refine Zac ?_
 refine Zaa ?_
 refine rp 6 (.iface 50 (.agg (B8 d))) ?_
 refine rp 7 (.tuple #[.agg (brc (fun _ => .nilIface) (.slice none 0 0)), .bool false]) ?_
 refine rp 5 (.tuple #[.agg (brc (fun _ => .nilIface) (.slice none 0 0)), .bool false]) ?_
 refine rp 8 (.agg (brc (fun _ => .nilIface) (.slice none 0 0))) ?_
 refine rp 9 (.bool false) ?_
 refine Zar 3 (brc (fun _ => .nilIface) (.slice none 0 0)) 116 (fun _ => by kernel_rfl) (fun _ => by kernel_rfl) ?_
 intro w1 g2 hn3
 have hr4 : Rw g2 w1 (brc (fun _ => .nilIface) (.slice none 0 0)) 116 := hn3.row
 refine Zav g2 (brc (fun _ => .nilIface) (.slice none 0 0)) (fun _ => by kernel_rfl) (fun _ => Zao 116 _ _ _ _ _ 116 rfl (by kernel_rfl) (by kernel_rfl) hr4 (by kernel_rfl) (by kernel_rfl) (Zbl (KA.none w))) ?_
 intro w5 hp6
 replace hn3 := hn3.put hp6
 clear hr4
 have hzg2 : w.heap.size ≤ g2 := by have := hB.size; have := hn3.hg; omega
 replace hB := hB.go hn3.below
 have hr8 : Rw g2 w5 (brc (fun _ => .nilIface) (.slice none 0 0)) 116 := hn3.row
 refine rp 4 (.bool false) ?_
 refine Zad ?_
 refine Zab ?_
 refine Zac ?_
 refine Zaa ?_
 refine rp 10 (.bool false) ?_
 refine rp 2 (.bool false) ?_
 refine Zad ?_
 refine Zab ?_
 refine Zap ?_
 refine Zae (.bool false) (fun _ => by kernel_rfl) ?_
 exact ⟨_, rfl, rfl, hB⟩
set_option maxHeartbeats 1000000 in
theorem Zqe (hp : Sk An w a n c p) (hx : Sk An w b m d x) (hm : m ≤ 256) (hn : n ≤ 140737488351232)  : Calls Tryz.prog 94 #[.iface 110 (.agg #[.slice a n c, .slice b m d])] w fun e w' => ∃ v', e = .returned v' ∧ RVl w (.bool false) v' w' := by
 have hB : Bl w w := Bl.refl w
 refine Zaj Tryz.func94 rfl 11 rfl ?_
 show CW _ _ _ _ _ _ _ [(0, .iface 110 (.agg #[.slice a n c, .slice b m d]))] _
 refine Zac ?_
 refine Zaa ?_
 refine rp 2 (.bool false) ?_
 refine Zad ?_
 refine Zab ?_
 refine Zac ?_
 refine Zaa ?_
 refine rp 6 (.iface 110 (.agg #[.slice a n c, .slice b m d])) ?_
 refine rp 7 (.tuple #[.agg (brc (fun _ => .nilIface) (.slice none 0 0)), .bool false]) ?_
 refine rp 5 (.tuple #[.agg (brc (fun _ => .nilIface) (.slice none 0 0)), .bool false]) ?_
 refine rp 8 (.agg (brc (fun _ => .nilIface) (.slice none 0 0))) ?_
 refine rp 9 (.bool false) ?_
 refine Zar 3 (brc (fun _ => .nilIface) (.slice none 0 0)) 116 (fun _ => by kernel_rfl) (fun _ => by kernel_rfl) ?_
 intro w1 g2 hn3
 have hr4 : Rw g2 w1 (brc (fun _ => .nilIface) (.slice none 0 0)) 116 := hn3.row
 refine Zav g2 (brc (fun _ => .nilIface) (.slice none 0 0)) (fun _ => by kernel_rfl) (fun _ => Zao 116 _ _ _ _ _ 116 rfl (by kernel_rfl) (by kernel_rfl) hr4 (by kernel_rfl) (by kernel_rfl) (Zbl (KA.none w))) ?_
 intro w5 hp6
 replace hn3 := hn3.put hp6
 clear hr4
 have hzg2 : w.heap.size ≤ g2 := by have := hB.size; have := hn3.hg; omega
 replace hB := hB.go hn3.below
 replace hp := hp.go hn3.below
 replace hx := hx.go hn3.below
 have hr8 : Rw g2 w5 (brc (fun _ => .nilIface) (.slice none 0 0)) 116 := hn3.row
 refine rp 4 (.bool false) ?_
 refine Zad ?_
 refine Zab ?_
 refine Zac ?_
 refine Zaa ?_
 refine rp 10 (.bool false) ?_
 refine rp 2 (.bool false) ?_
 refine Zad ?_
 refine Zab ?_
 refine Zap ?_
 refine Zae (.bool false) (fun _ => by kernel_rfl) ?_
 exact ⟨_, rfl, rfl, hB⟩
set_option maxHeartbeats 1000000 in
theorem Zs0 {t : Pt} (hp : Sk An w a n c p) (hn : n ≤ 140737488351232) (ht : ThA w t u)  : Calls Tryz.prog 94 #[.iface 113 (.agg #[.slice a n c, u])] w fun e w' => ∃ v', e = .returned v' ∧ RVl w (.bool false) v' w' := by
 have hB : Bl w w := Bl.refl w
 refine Zaj Tryz.func94 rfl 11 rfl ?_
 show CW _ _ _ _ _ _ _ [(0, .iface 113 (.agg #[.slice a n c, u]))] _
 refine Zac ?_
 refine Zaa ?_
 refine rp 2 (.bool false) ?_
 refine Zad ?_
 refine Zab ?_
 refine Zac ?_
 refine Zaa ?_
 refine rp 6 (.iface 113 (.agg #[.slice a n c, u])) ?_
 refine rp 7 (.tuple #[.agg (brc (fun _ => .nilIface) (.slice none 0 0)), .bool false]) ?_
 refine rp 5 (.tuple #[.agg (brc (fun _ => .nilIface) (.slice none 0 0)), .bool false]) ?_
 refine rp 8 (.agg (brc (fun _ => .nilIface) (.slice none 0 0))) ?_
 refine rp 9 (.bool false) ?_
 refine Zar 3 (brc (fun _ => .nilIface) (.slice none 0 0)) 116 (fun _ => by kernel_rfl) (fun _ => by kernel_rfl) ?_
 intro w1 g2 hn3
 have hr4 : Rw g2 w1 (brc (fun _ => .nilIface) (.slice none 0 0)) 116 := hn3.row
 refine Zav g2 (brc (fun _ => .nilIface) (.slice none 0 0)) (fun _ => by kernel_rfl) (fun _ => Zao 116 _ _ _ _ _ 116 rfl (by kernel_rfl) (by kernel_rfl) hr4 (by kernel_rfl) (by kernel_rfl) (Zbl (KA.none w))) ?_
 intro w5 hp6
 replace hn3 := hn3.put hp6
 clear hr4
 have hzg2 : w.heap.size ≤ g2 := by have := hB.size; have := hn3.hg; omega
 replace hB := hB.go hn3.below
 replace hp := hp.go hn3.below
 replace ht := ht.go hn3.below
 have hr8 : Rw g2 w5 (brc (fun _ => .nilIface) (.slice none 0 0)) 116 := hn3.row
 refine rp 4 (.bool false) ?_
 refine Zad ?_
 refine Zab ?_
 refine Zac ?_
 refine Zaa ?_
 refine rp 10 (.bool false) ?_
 refine rp 2 (.bool false) ?_
 refine Zad ?_
 refine Zab ?_
 refine Zap ?_
 refine Zae (.bool false) (fun _ => by kernel_rfl) ?_
 exact ⟨_, rfl, rfl, hB⟩
set_option maxHeartbeats 1000000 in
theorem Zv5 (hk : KA w k vs) (hx : Sk An w a n c x) (hn : n ≤ 256)  : Calls Tryz.prog 94 #[.iface 116 (.agg (brc vs (.slice a n c)))] w fun e w' => ∃ v', e = .returned v' ∧ RVl w (.bool true) v' w' := by
 have hB : Bl w w := Bl.refl w
 refine Zaj Tryz.func94 rfl 11 rfl ?_
 show CW _ _ _ _ _ _ _ [(0, .iface 116 (.agg (brc vs (.slice a n c))))] _
 refine Zac ?_
 refine Zaa ?_
 refine rp 2 (.bool false) ?_
 refine Zad ?_
 refine Zab ?_
 refine Zac ?_
 refine Zaa ?_
 refine rp 6 (.iface 116 (.agg (brc vs (.slice a n c)))) ?_
 refine rp 7 (.tuple #[.agg (brc vs (.slice a n c)), .bool true]) ?_
 refine rp 5 (.tuple #[.agg (brc vs (.slice a n c)), .bool true]) ?_
 refine rp 8 (.agg (brc vs (.slice a n c))) ?_
 refine rp 9 (.bool true) ?_
 refine Zar 3 (brc (fun _ => .nilIface) (.slice none 0 0)) 116 (fun _ => by kernel_rfl) (fun _ => by kernel_rfl) ?_
 intro w1 g2 hn3
 have hr4 : Rw g2 w1 (brc (fun _ => .nilIface) (.slice none 0 0)) 116 := hn3.row
 refine Zav g2 (brc vs (.slice a n c)) (fun _ => by kernel_rfl) (fun _ => Zao 116 _ _ _ _ _ 116 rfl (by kernel_rfl) (by kernel_rfl) hr4 (by kernel_rfl) (by kernel_rfl) (Zbl hk)) ?_
 intro w5 hp6
 replace hn3 := hn3.put hp6
 clear hr4
 have hzg2 : w.heap.size ≤ g2 := by have := hB.size; have := hn3.hg; omega
 replace hB := hB.go hn3.below
 replace hk := hk.go hn3.below
 replace hx := hx.go hn3.below
 have hr8 : Rw g2 w5 (brc vs (.slice a n c)) 116 := hn3.row
 refine rp 4 (.bool true) ?_
 refine Zad ?_
 refine Zab ?_
 refine Zac ?_
 refine Zaa ?_
 refine rp 10 (.bool true) ?_
 refine rp 2 (.bool true) ?_
 refine Zad ?_
 refine Zab ?_
 refine Zap ?_
 refine Zae (.bool true) (fun _ => by kernel_rfl) ?_
 exact ⟨_, rfl, rfl, hB⟩
theorem Zmf {t : Pt} {v : Value} (h : ThA w t v) : Calls Tryz.prog 94 #[v] w fun e w' => ∃ v, e = .returned v ∧ RVl w (.bool t.isBr) v w' := by
 cases t with
 | no => obtain rfl : v = .nilIface := h; exact Zv4
 | st d => obtain ⟨rfl, hd, _⟩ := h; exact Zv3 hd
 | leaf p x => obtain ⟨a, n, c, b, m, d, rfl, hp, hx, hm, hn⟩ := h; exact Zqe hp hx hm hn
 | ext p t => obtain ⟨a, n, c, u, rfl, hp, hn, ht⟩ := h; exact Zs0 hp hn ht
 | br k x => obtain ⟨vs, a, n, c, rfl, hk, hx, hn⟩ := h; exact Zv5 hk hx hn
def FitS (t : Pt) (m : Nat) : Prop := ∀ {w : World} {v : Value} {l : Nat}, ThA w t v → l + m ≤ 100000 ∧ m ≤ 1000 → Calls Tryz.prog 95 #[v, .int .i64 ((l : Nat) : Int)] w fun e w' => ∃ v, e = .returned v ∧ RVl w (.bool (fitP t l)) v w'
set_option maxHeartbeats 1000000 in
theorem Zqm {l : Nat} (hl : l ≤ 100000)  : Calls Tryz.prog 95 #[.nilIface, .int .i64 ((l : Nat) : Int)] w fun e w' => ∃ v', e = .returned v' ∧ RVl w (.bool (fitP no l)) v' w' := by
 have hB : Bl w w := Bl.refl w
 refine Zaj Tryz.func95 rfl 52 rfl ?_
 show CW _ _ _ _ _ _ _ [(0, .nilIface), (1, .int .i64 ((l : Nat) : Int))] _
 refine Zac ?_
 refine Zaa ?_
 refine rp 4 (.bool false) ?_
 refine Zad ?_
 refine Zab ?_
 refine Zac ?_
 refine Zac ?_
 refine Zaa ?_
 refine rp 10 (.nilIface) ?_
 refine Zad ?_
 refine Zab ?_
 refine Zan ?_
 refine Zac ?_
 refine Zaa ?_
 refine rp 11 (.tuple #[.agg (#[.slice none 0 0, .slice none 0 0]), .bool false]) ?_
 refine rp 12 (.bool false) ?_
 refine rp 13 (.agg (#[.slice none 0 0, .slice none 0 0])) ?_
 refine Zad ?_
 refine Zab ?_
 refine Zaf (fun _ => by kernel_rfl) ?_
 refine Zac ?_
 refine Zaa ?_
 refine rp 20 (.tuple #[.agg (#[.slice none 0 0, .nilIface]), .bool false]) ?_
 refine rp 21 (.bool false) ?_
 refine rp 22 (.agg (#[.slice none 0 0, .nilIface])) ?_
 refine Zad ?_
 refine Zab ?_
 refine Zaf (fun _ => by kernel_rfl) ?_
 refine Zac ?_
 refine Zaa ?_
 refine rp 36 (.tuple #[.agg (brc (fun _ => .nilIface) (.slice none 0 0)), .bool false]) ?_
 refine rp 37 (.bool false) ?_
 refine rp 38 (.agg (brc (fun _ => .nilIface) (.slice none 0 0))) ?_
 refine Zad ?_
 refine Zab ?_
 refine Zaf (fun _ => by kernel_rfl) ?_
 refine Zam ?_
 refine Zau ?_
 refine Zab ?_
 refine Zac ?_
 refine Zaa ?_
 refine rp 4 (.bool true) ?_
 refine Zad ?_
 refine Zab ?_
 refine Zap ?_
 refine Zae (.bool true) (fun _ => by kernel_rfl) ?_
 refine ⟨_, rfl, congrArg Value.bool ?_, hB⟩
 rfl
set_option maxHeartbeats 1000000 in
theorem Zql {l : Nat} {d : List Int} (hd : d.length = 32) (hl : l ≤ 100000)  : Calls Tryz.prog 95 #[.iface 50 (.agg (B8 d)), .int .i64 ((l : Nat) : Int)] w fun e w' => ∃ v', e = .returned v' ∧ RVl w (.bool (fitP (st d) l)) v' w' := by
 have hB : Bl w w := Bl.refl w
 refine Zaj Tryz.func95 rfl 52 rfl ?_
 show CW _ _ _ _ _ _ _ [(0, .iface 50 (.agg (B8 d))), (1, .int .i64 ((l : Nat) : Int))] _
 refine Zac ?_
 refine Zaa ?_
 refine rp 4 (.bool false) ?_
 refine Zad ?_
 refine Zab ?_
 refine Zac ?_
 refine Zac ?_
 refine Zaa ?_
 refine rp 10 (.iface 50 (.agg (B8 d))) ?_
 refine Zad ?_
 refine Zab ?_
 refine Zan ?_
 refine Zac ?_
 refine Zaa ?_
 refine rp 11 (.tuple #[.agg (#[.slice none 0 0, .slice none 0 0]), .bool false]) ?_
 refine rp 12 (.bool false) ?_
 refine rp 13 (.agg (#[.slice none 0 0, .slice none 0 0])) ?_
 refine Zad ?_
 refine Zab ?_
 refine Zaf (fun _ => by kernel_rfl) ?_
 refine Zac ?_
 refine Zaa ?_
 refine rp 20 (.tuple #[.agg (#[.slice none 0 0, .nilIface]), .bool false]) ?_
 refine rp 21 (.bool false) ?_
 refine rp 22 (.agg (#[.slice none 0 0, .nilIface])) ?_
 refine Zad ?_
 refine Zab ?_
 refine Zaf (fun _ => by kernel_rfl) ?_
 refine Zac ?_
 refine Zaa ?_
 refine rp 36 (.tuple #[.agg (brc (fun _ => .nilIface) (.slice none 0 0)), .bool false]) ?_
 refine rp 37 (.bool false) ?_
 refine rp 38 (.agg (brc (fun _ => .nilIface) (.slice none 0 0))) ?_
 refine Zad ?_
 refine Zab ?_
 refine Zaf (fun _ => by kernel_rfl) ?_
 refine Zam ?_
 refine Zau ?_
 refine Zab ?_
 refine Zac ?_
 refine Zaa ?_
 refine rp 4 (.bool true) ?_
 refine Zad ?_
 refine Zab ?_
 refine Zap ?_
 refine Zae (.bool true) (fun _ => by kernel_rfl) ?_
 refine ⟨_, rfl, congrArg Value.bool ?_, hB⟩
 rfl
set_option maxHeartbeats 1000000 in
theorem Zj7 {l : Nat} (hp : Sk An w a n c p) (hx : Sk An w b m d x) (hm : m ≤ 256) (hn : n ≤ 140737488351232) (hl : l ≤ 100000)  : Calls Tryz.prog 95 #[.iface 110 (.agg #[.slice a n c, .slice b m d]), .int .i64 ((l : Nat) : Int)] w fun e w' => ∃ v', e = .returned v' ∧ RVl w (.bool (fitP (leaf p x) l)) v' w' := by
 have hpl := hp.len
 have hB : Bl w w := Bl.refl w
 refine Zaj Tryz.func95 rfl 52 rfl ?_
 show CW _ _ _ _ _ _ _ [(0, .iface 110 (.agg #[.slice a n c, .slice b m d])), (1, .int .i64 ((l : Nat) : Int))] _
 refine Zac ?_
 refine Zaa ?_
 refine rp 4 (.bool false) ?_
 refine Zad ?_
 refine Zab ?_
 refine Zac ?_
 refine Zac ?_
 refine Zaa ?_
 refine rp 10 (.iface 110 (.agg #[.slice a n c, .slice b m d])) ?_
 refine Zad ?_
 refine Zab ?_
 refine Zan ?_
 refine Zac ?_
 refine Zaa ?_
 refine rp 11 (.tuple #[.agg #[.slice a n c, .slice b m d], .bool true]) ?_
 refine rp 12 (.bool true) ?_
 refine rp 13 (.agg #[.slice a n c, .slice b m d]) ?_
 refine Zad ?_
 refine Zab ?_
 refine Zai (fun _ => by kernel_rfl) ?_
 refine Zac ?_
 refine Zaa ?_
 refine Zar 5 (#[.slice none 0 0, .slice none 0 0]) 110 (fun _ => by kernel_rfl) (fun _ => by kernel_rfl) ?_
 intro w1 g2 hn3
 have hr4 : Rw g2 w1 (#[.slice none 0 0, .slice none 0 0]) 110 := hn3.row
 refine Zav g2 (#[.slice a n c, .slice b m d]) (fun _ => by kernel_rfl) (fun _ => Zao 110 _ _ _ _ _ 110 rfl (by kernel_rfl) (by kernel_rfl) hr4 (by kernel_rfl) (by kernel_rfl) (by kernel_rfl)) ?_
 intro w5 hp6
 replace hn3 := hn3.put hp6
 clear hr4
 have hzg2 : w.heap.size ≤ g2 := by have := hB.size; have := hn3.hg; omega
 replace hB := hB.go hn3.below
 replace hp := hp.go hn3.below
 replace hx := hx.go hn3.below
 have hr8 : Rw g2 w5 (#[.slice a n c, .slice b m d]) 110 := hn3.row
 refine Zad ?_
 refine Zab ?_
 refine Zac ?_
 refine Zaa ?_
 refine rp 14 (.int .i64 ((l : Nat) : Int)) ?_
 refine rp 15 (.pointer (some ⟨g2, 0, none⟩)) ?_
 refine rv 16 (.slice a n c) (fun _ => Zag 29 _ ⟨g2, 0, none⟩ _ _ rfl (by kernel_rfl) (by rw [cell_of_row _ _ _ _ _ _ hr8]; rfl) Tryz.underlying29 rfl) ?_
 refine rp 17 (.int .i64 n) ?_
 refine rv 18 (.int .i64 ((l + n : Nat) : Int)) (fun _ => Zal (v := .int .i64 (IntKind.i64.wrap (((l : Nat) : Int) + (n : Int)))) (by kernel_rfl) (congrArg (Value.int .i64) ((Zbc (by omega) (by omega)).trans (by omega)))) ?_
 refine rp 19 (.bool (decide (((l + n : Nat) : Int) ≤ (64 : Int)))) ?_
 refine rp 4 (.bool (decide (((l + n : Nat) : Int) ≤ (64 : Int)))) ?_
 refine Zad ?_
 refine Zab ?_
 refine Zap ?_
 refine Zaq ?_
 refine Zah ?_
 refine Zae (.bool (decide (((l + n : Nat) : Int) ≤ (64 : Int)))) (fun _ => by kernel_rfl) ?_
 refine ⟨_, rfl, congrArg Value.bool ?_, hB⟩
 show decide _ = decide _
 rw [decide_eq_decide]
 omega
set_option maxHeartbeats 1000000 in
theorem Ztb {l : Nat} {t : Pt} (hp : Sk An w a n c p) (hn : n ≤ 140737488351232) (ht : ThA w t u) (hl : l + mm ≤ 99999 ∧ mm ≤ 999) (ih : FitS t mm)  : Calls Tryz.prog 95 #[.iface 113 (.agg #[.slice a n c, u]), .int .i64 ((l : Nat) : Int)] w fun e w' => ∃ v', e = .returned v' ∧ RVl w (.bool (fitP (ext p t) l)) v' w' := by
 have hpl := hp.len
 have hB : Bl w w := Bl.refl w
 refine Zaj Tryz.func95 rfl 52 rfl ?_
 show CW _ _ _ _ _ _ _ [(0, .iface 113 (.agg #[.slice a n c, u])), (1, .int .i64 ((l : Nat) : Int))] _
 refine Zac ?_
 refine Zaa ?_
 refine rp 4 (.bool false) ?_
 refine Zad ?_
 refine Zab ?_
 refine Zac ?_
 refine Zac ?_
 refine Zaa ?_
 refine rp 10 (.iface 113 (.agg #[.slice a n c, u])) ?_
 refine Zad ?_
 refine Zab ?_
 refine Zan ?_
 refine Zac ?_
 refine Zaa ?_
 refine rp 11 (.tuple #[.agg (#[.slice none 0 0, .slice none 0 0]), .bool false]) ?_
 refine rp 12 (.bool false) ?_
 refine rp 13 (.agg (#[.slice none 0 0, .slice none 0 0])) ?_
 refine Zad ?_
 refine Zab ?_
 refine Zaf (fun _ => by kernel_rfl) ?_
 refine Zac ?_
 refine Zaa ?_
 refine rp 20 (.tuple #[.agg #[.slice a n c, u], .bool true]) ?_
 refine rp 21 (.bool true) ?_
 refine rp 22 (.agg #[.slice a n c, u]) ?_
 refine Zad ?_
 refine Zab ?_
 refine Zai (fun _ => by kernel_rfl) ?_
 refine Zac ?_
 refine Zaa ?_
 refine Zar 6 (#[.slice none 0 0, .nilIface]) 113 (fun _ => by kernel_rfl) (fun _ => by kernel_rfl) ?_
 intro w1 g2 hn3
 have hr4 : Rw g2 w1 (#[.slice none 0 0, .nilIface]) 113 := hn3.row
 refine Zav g2 (#[.slice a n c, u]) (fun _ => by kernel_rfl) (fun _ => Zao 113 _ _ _ _ _ 113 rfl (by kernel_rfl) (by kernel_rfl) hr4 (by kernel_rfl) (by kernel_rfl) (one2 rfl ht.one)) ?_
 intro w5 hp6
 replace hn3 := hn3.put hp6
 clear hr4
 have hzg2 : w.heap.size ≤ g2 := by have := hB.size; have := hn3.hg; omega
 replace hB := hB.go hn3.below
 replace hp := hp.go hn3.below
 replace ht := ht.go hn3.below
 have hr8 : Rw g2 w5 (#[.slice a n c, u]) 113 := hn3.row
 refine Zad ?_
 refine Zab ?_
 refine Zac ?_
 refine Zaa ?_
 refine rp 23 (.int .i64 ((l : Nat) : Int)) ?_
 refine rp 24 (.pointer (some ⟨g2, 0, none⟩)) ?_
 refine rv 25 (.slice a n c) (fun _ => Zag 29 _ ⟨g2, 0, none⟩ _ _ rfl (by kernel_rfl) (by rw [cell_of_row _ _ _ _ _ _ hr8]; rfl) Tryz.underlying29 rfl) ?_
 refine rp 26 (.int .i64 n) ?_
 refine rv 27 (.int .i64 ((l + n : Nat) : Int)) (fun _ => Zal (v := .int .i64 (IntKind.i64.wrap (((l : Nat) : Int) + (n : Int)))) (by kernel_rfl) (congrArg (Value.int .i64) ((Zbc (by omega) (by omega)).trans (by omega)))) ?_
 refine rp 1 (.int .i64 ((l + n : Nat) : Int)) ?_
 refine Zad ?_
 refine Zab ?_
 refine Zac ?_
 refine Zaa ?_
 refine rp 28 (.int .i64 ((l + n : Nat) : Int)) ?_
 refine rp 29 (.bool (decide (((l + n : Nat) : Int) ≤ (64 : Int)))) ?_
 refine rp 30 (.bool (decide (((l + n : Nat) : Int) ≤ (64 : Int)))) ?_
 cases hq9 : (decide (((l + n : Nat) : Int) ≤ (64 : Int))) with
 | true =>
  refine rp 31 (.pointer (some ⟨g2, 1, none⟩)) ?_
  refine rv 32 (u) (fun _ => Zag 47 _ ⟨g2, 1, none⟩ _ _ rfl (by kernel_rfl) (by rw [cell_of_row _ _ _ _ _ _ hr8]; rfl) Tryz.underlying47 rfl) ?_
  refine rp 33 (.int .i64 ((l + n : Nat) : Int)) ?_
  refine Zak 34 95 #[u, .int .i64 ((l + n : Nat) : Int)] (fun _ => by kernel_rfl) (fun _ => by kernel_rfl) (R := RVl w5 (.bool (fitP t (l + n)))) (ih ht (by have := of_decide_eq_true hq9; omega)) ?_
  rintro _ w10 ⟨rfl, hb11⟩
  replace hB := hB.go hb11
  replace hp := hp.go hb11
  replace ht := ht.go hb11
  replace hr8 := hr8.go hb11
  refine rp 35 (.bool (fitP t (l + n))) ?_
  refine rp 4 (.bool (fitP t (l + n))) ?_
  refine Zad ?_
  refine Zab ?_
  refine Zap ?_
  refine Zaq ?_
  refine Zah ?_
  refine Zae (.bool (fitP t (l + n))) (fun _ => by kernel_rfl) ?_
  refine ⟨_, rfl, congrArg Value.bool ?_, hB⟩
  show _ = (decide _ && fitP t (l + p.length))
  rw [hpl, decide_eq_true (show l + n ≤ 64 by have := of_decide_eq_true hq9; omega), Bool.true_and]
 | false =>
  refine Za8 31 (fun _ => by kernel_rfl) ?_
  refine Za8 32 (fun _ => by kernel_rfl) ?_
  refine Za8 33 (fun _ => by kernel_rfl) ?_
  refine Za8 34 (fun _ => by kernel_rfl) ?_
  refine rp 35 (.bool false) ?_
  refine rp 4 (.bool false) ?_
  refine Zad ?_
  refine Zab ?_
  refine Zap ?_
  refine Zaq ?_
  refine Zah ?_
  refine Zae (.bool false) (fun _ => by kernel_rfl) ?_
  refine ⟨_, rfl, congrArg Value.bool ?_, hB⟩
  show _ = (decide _ && fitP t (l + p.length))
  rw [hpl, decide_eq_false (show ¬ l + n ≤ 64 by have := of_decide_eq_false hq9; omega), Bool.false_and]
set_option maxHeartbeats 1000000 in
theorem Zwc {l : Nat} (hk : KA w k vs) (hx : Sk An w a n c x) (hn : n ≤ 256) (hl : l + mm ≤ 99999 ∧ mm ≤ 999) (ih : ∀ i, i < 16 → FitS (k i) mm)  : Calls Tryz.prog 95 #[.iface 116 (.agg (brc vs (.slice a n c))), .int .i64 ((l : Nat) : Int)] w fun e w' => ∃ v', e = .returned v' ∧ RVl w (.bool (fitP (br k x) l)) v' w' := by
  have hB : Bl w w := Bl.refl w
  refine Zaj Tryz.func95 rfl 52 rfl ?_
  show CW _ _ _ _ _ _ _ [(0, .iface 116 (.agg (brc vs (.slice a n c)))), (1, .int .i64 ((l : Nat) : Int))] _
  refine Zac ?_
  refine Zaa ?_
  refine rp 4 (.bool false) ?_
  refine Zad ?_
  refine Zab ?_
  refine Zac ?_
  refine Zac ?_
  refine Zaa ?_
  refine rp 10 (.iface 116 (.agg (brc vs (.slice a n c)))) ?_
  refine Zad ?_
  refine Zab ?_
  refine Zan ?_
  refine Zac ?_
  refine Zaa ?_
  refine rp 11 (.tuple #[.agg (#[.slice none 0 0, .slice none 0 0]), .bool false]) ?_
  refine rp 12 (.bool false) ?_
  refine rp 13 (.agg (#[.slice none 0 0, .slice none 0 0])) ?_
  refine Zad ?_
  refine Zab ?_
  refine Zaf (fun _ => by kernel_rfl) ?_
  refine Zac ?_
  refine Zaa ?_
  refine rp 20 (.tuple #[.agg (#[.slice none 0 0, .nilIface]), .bool false]) ?_
  refine rp 21 (.bool false) ?_
  refine rp 22 (.agg (#[.slice none 0 0, .nilIface])) ?_
  refine Zad ?_
  refine Zab ?_
  refine Zaf (fun _ => by kernel_rfl) ?_
  refine Zac ?_
  refine Zaa ?_
  refine rp 36 (.tuple #[.agg (brc vs (.slice a n c)), .bool true]) ?_
  refine rp 37 (.bool true) ?_
  refine rp 38 (.agg (brc vs (.slice a n c))) ?_
  refine Zad ?_
  refine Zab ?_
  refine Zai (fun _ => by kernel_rfl) ?_
  refine Zac ?_
  refine Zaa ?_
  refine Zar 7 (brc (fun _ => .nilIface) (.slice none 0 0)) 116 (fun _ => by kernel_rfl) (fun _ => by kernel_rfl) ?_
  intro w1 g2 hn3
  have hr4 : Rw g2 w1 (brc (fun _ => .nilIface) (.slice none 0 0)) 116 := hn3.row
  refine Zav g2 (brc vs (.slice a n c)) (fun _ => by kernel_rfl) (fun _ => Zao 116 _ _ _ _ _ 116 rfl (by kernel_rfl) (by kernel_rfl) hr4 (by kernel_rfl) (by kernel_rfl) (Zbl hk)) ?_
  intro w5 hp6
  replace hn3 := hn3.put hp6
  clear hr4
  have hzg2 : w.heap.size ≤ g2 := by have := hB.size; have := hn3.hg; omega
  replace hB := hB.go hn3.below
  replace hk := hk.go hn3.below
  replace hx := hx.go hn3.below
  have hr8 : Rw g2 w5 (brc vs (.slice a n c)) 116 := hn3.row
  refine Zad ?_
  refine Zab ?_
  refine Zac ?_
  refine Zac ?_
  refine Zaa ?_
  refine rp 39 (.pointer (some ⟨g2, 0, none⟩)) ?_
  refine rv 40 (.agg (bra vs)) (fun _ => Zpn hr8 _ rfl (by kernel_rfl)) ?_
  refine rp 41 (.int .i64 0) ?_
  refine Zad ?_
  refine Zab ?_
  refine Zan ?_
  refine Zb8 (X := Nat) (fun i => [(41, .int .i64 ((i : Nat) : Int)), (40, .agg (bra vs)), (1, .int .i64 ((l : Nat) : Int)), (4, .bool false)]) (fun i v => Bl w v ∧ KA v k vs ∧ i ≤ 16 ∧ ∀ j, j < i → fitP (k j) (l + 1) = true) (fun i => 16 - i) 0 (by exact ⟨fun _ => by kernel_rfl, ⟨fun _ => by kernel_rfl, ⟨fun _ => by kernel_rfl, ⟨fun _ => by kernel_rfl, trivial⟩⟩⟩⟩) ⟨hB, hk, by omega, fun j hj => by omega⟩ ?_
  clear hB hk
  rintro i v ⟨hB, hk, hi, hF⟩
  show CW _ _ _ _ _ _ _ [(41, .int .i64 ((i : Nat) : Int)), (40, .agg (bra vs)), (1, .int .i64 ((l : Nat) : Int)), (4, .bool false)] _
  by_cases hlt : i < 16
  · skip
    have hki := hk i hlt
    refine Zac ?_
    refine Zaa ?_
    refine rv 42 (.bool true) (fun _ => Zal (v := .bool (decide (((i : Nat) : Int) < (16 : Int)))) (by kernel_rfl) (congrArg Value.bool (decide_eq_true (by omega)))) ?_
    refine Zad ?_
    refine Zab ?_
    refine Zac ?_
    refine Zai (fun _ => by kernel_rfl) ?_
    refine Zam ?_
    refine Zab ?_
    refine Zac ?_
    refine Zan ?_
    refine Zac ?_
    refine Zaa ?_
    refine rv 43 (vs i) (fun _ => Zpj _ _ vs i (by omega) rfl (by kernel_rfl) (by kernel_rfl)) ?_
    refine rp 9 (vs i) ?_
    refine Zad ?_
    refine Zab ?_
    refine Zac ?_
    refine Zaa ?_
    refine rp 44 (vs i) ?_
    refine rp 45 (.int .i64 ((l : Nat) : Int)) ?_
    refine rv 46 (.int .i64 ((l + 1 : Nat) : Int)) (fun _ => Zal (v := .int .i64 (IntKind.i64.wrap (((l : Nat) : Int) + (1 : Int)))) (by kernel_rfl) (congrArg (Value.int .i64) ((Zbc (by omega) (by omega)).trans (by omega)))) ?_
    refine Zak 47 95 #[vs i, .int .i64 ((l + 1 : Nat) : Int)] (fun _ => by kernel_rfl) (fun _ => by kernel_rfl) (R := RVl v (.bool (fitP (k i) (l + 1)))) (ih i hlt hki (by omega)) ?_
    rintro _ w9 ⟨rfl, hb10⟩
    replace hB := hB.go hb10
    replace hk := hk.go hb10
    replace hki := hki.go hb10
    refine rp 48 (.bool (!(fitP (k i) (l + 1)))) ?_
    refine Zad ?_
    refine Zab ?_
    cases hq11 : (!(fitP (k i) (l + 1))) with
    | true =>
      refine Zai (fun _ => by kernel_rfl) ?_
      refine Zac ?_
      refine Zaa ?_
      refine rp 4 (.bool false) ?_
      refine Zad ?_
      refine Zab ?_
      refine Zap ?_
      refine Zaq ?_
      refine Zah ?_
      refine Zah ?_
      refine Zaq ?_
      refine Zah ?_
      refine Zaq ?_
      refine Zah ?_
      refine Zae (.bool false) (fun _ => by kernel_rfl) ?_
      refine ⟨_, rfl, congrArg Value.bool ?_, hB⟩
      rw [Bool.not_eq_true'] at hq11
      show false = ((List.range 16).all (fun i => fitP (k i) (l + 1)) && decide (l ≤ 64))
      rw [show (List.range 16).all (fun i => fitP (k i) (l + 1)) = false from List.all_eq_false.2 ⟨i, List.mem_range.2 hlt, by rw [hq11]; exact Bool.false_ne_true⟩, Bool.false_and]
    | false =>
      refine Zaf (fun _ => by kernel_rfl) ?_
      refine Zam ?_
      refine Zau ?_
      refine Zab ?_
      refine Zaa ?_
      refine rv 49 (.int .i64 ((i + 1 : Nat) : Int)) (fun _ => Zal (v := .int .i64 (IntKind.i64.wrap (((i : Nat) : Int) + (1 : Int)))) (by kernel_rfl) (congrArg (Value.int .i64) ((Zbc (by omega) (by omega)).trans (by omega)))) ?_
      refine rp 41 (.int .i64 ((i + 1 : Nat) : Int)) ?_
      refine Zad ?_
      rw [Bool.not_eq_false'] at hq11
      exact Za7 (E := fun i => [(41, .int .i64 ((i : Nat) : Int)), (40, .agg (bra vs)), (1, .int .i64 ((l : Nat) : Int)), (4, .bool false)]) (R := fun i v => Bl w v ∧ KA v k vs ∧ i ≤ 16 ∧ ∀ j, j < i → fitP (k j) (l + 1) = true) (μ := fun i => 16 - i) (x := i) (i + 1) (by exact ⟨fun _ => by kernel_rfl, ⟨fun _ => by kernel_rfl, ⟨fun _ => by kernel_rfl, ⟨fun _ => by kernel_rfl, trivial⟩⟩⟩⟩) ⟨hB, hk, by omega, fun j hj => by
        by_cases e : j = i
        · rw [e]; exact hq11
        · exact hF j (by omega)⟩ (by show 16 - (i + 1) < 16 - i; omega)
  obtain rfl : i = 16 := by omega
  refine Zac ?_
  refine Zaa ?_
  refine rv 42 (.bool false) (fun _ => Zal (v := .bool (decide (((16 : Nat) : Int) < (16 : Int)))) (by kernel_rfl) (congrArg Value.bool (decide_eq_false (by omega)))) ?_
  refine Zad ?_
  refine Zab ?_
  refine Zac ?_
  refine Zaf (fun _ => by kernel_rfl) ?_
  refine Zb1 ?_
  refine Zat ?_
  refine Zat ?_
  refine Za1 ?_
  refine Zab ?_
  refine Zac ?_
  refine Zaa ?_
  refine rp 50 (.int .i64 ((l : Nat) : Int)) ?_
  refine rp 51 (.bool (decide (((l : Nat) : Int) ≤ (64 : Int)))) ?_
  refine rp 4 (.bool (decide (((l : Nat) : Int) ≤ (64 : Int)))) ?_
  refine Zad ?_
  refine Zab ?_
  refine Zap ?_
  refine Zaq ?_
  refine Zah ?_
  refine Zae (.bool (decide (((l : Nat) : Int) ≤ (64 : Int)))) (fun _ => by kernel_rfl) ?_
  refine ⟨_, rfl, congrArg Value.bool ?_, hB⟩
  show _ = ((List.range 16).all (fun i => fitP (k i) (l + 1)) && decide (l ≤ 64))
  rw [show (List.range 16).all (fun i => fitP (k i) (l + 1)) = true from List.all_eq_true.2 fun j hj => hF j (by have := List.mem_range.1 hj; omega), Bool.true_and, decide_eq_decide]
  omega
theorem Zmm : ∀ (m : Nat) (t : Pt), Wn m t → FitS t m := by
 intro m
 induction m with
 | zero =>
  intro t hw w v l h hl
  cases t with
  | no => obtain rfl : v = .nilIface := h; exact Zqm (by omega)
  | st d => obtain ⟨rfl, hd, _⟩ := h; exact Zql hd (by omega)
  | leaf p x => obtain ⟨a, n, c, b, m, d, rfl, hp, hx, hm, hn⟩ := h; exact Zj7 hp hx hm hn (by omega)
  | ext p t => exact hw.elim
  | br k x => exact hw.elim
 | succ mm ih =>
  intro t hw w v l h hl
  cases t with
  | no => obtain rfl : v = .nilIface := h; exact Zqm (by omega)
  | st d => obtain ⟨rfl, hd, _⟩ := h; exact Zql hd (by omega)
  | leaf p x => obtain ⟨a, n, c, b, m, d, rfl, hp, hx, hm, hn⟩ := h; exact Zj7 hp hx hm hn (by omega)
  | ext p t => obtain ⟨a, n, c, u, rfl, hp, hn, ht⟩ := h; exact Ztb hp hn ht (mm := mm) (by omega) (ih t hw.2.2.2)
  | br k x => obtain ⟨vs, a, n, c, rfl, hk, hx, hn⟩ := h; exact Zwc hk hx hn (mm := mm) (by omega) (fun i hi => ih (k i) (hw i hi))
set_option maxHeartbeats 1000000 in
theorem Zsc {e : Option Addr} {v : List Int} (hk : KA w k vs) (hx : Sk An w a n c x) (hn : n ≤ 256) (hq : Sk An w b m d []) (hv : Sk An w e m2 d2 v) (hm2 : m2 ≤ 256) : Calls Tryz.prog 66 #[.agg (brc vs (.slice a n c)), .slice b m d, .slice e m2 d2] w fun e w' => ∃ v', e = .returned v' ∧ RBr w (Pt.plus k x [] v) v' w' := by
 have hql := hq.len
 obtain rfl : 0 = m := hql
 have hB : Bl w w := Bl.refl w
 refine Zaj Tryz.func66 rfl 23 rfl ?_
 show CW _ _ _ _ _ _ _ [(0, .agg (brc vs (.slice a n c))), (1, .slice b 0 d), (2, .slice e m2 d2)] _
 refine Zac ?_
 refine Zaa ?_
 refine Zar 3 (brc vs (.slice a n c)) 116 (fun _ => by kernel_rfl) (fun _ => by kernel_rfl) ?_
 intro w1 g2 hn3
 have hzg2 : w.heap.size ≤ g2 := by have := hB.size; have := hn3.hg; omega
 replace hB := hB.go hn3.below
 replace hk := hk.go hn3.below
 replace hx := hx.go hn3.below
 replace hv := hv.go hn3.below
 replace hq := hq.go hn3.below
 have hr4 : Rw g2 w1 (brc vs (.slice a n c)) 116 := hn3.row
 refine Zar 6 (brc (fun _ => .nilIface) (.slice none 0 0)) 116 (fun _ => by kernel_rfl) (fun _ => by kernel_rfl) ?_
 intro w5 g6 hn7
 have hlg2g6 : g2 < g6 := by have := hr4.lt; have := hn7.hg; omega
 have hzg6 : w.heap.size ≤ g6 := by have := hB.size; have := hn7.hg; omega
 replace hB := hB.go hn7.below
 replace hk := hk.go hn7.below
 replace hx := hx.go hn7.below
 replace hv := hv.go hn7.below
 replace hq := hq.go hn7.below
 replace hr4 := hr4.go hn7.below
 have hr8 : Rw g6 w5 (brc (fun _ => .nilIface) (.slice none 0 0)) 116 := hn7.row
 refine Zad ?_
 refine Zab ?_
 refine Zac ?_
 refine Zac ?_
 refine Zaa ?_
 refine rp 7 (.slice b 0 d) ?_
 refine rp 8 (.int .i64 0) ?_
 refine rp 9 (.bool true) ?_
 refine Zad ?_
 refine Zab ?_
 refine Zai (fun _ => by kernel_rfl) ?_
 refine Zaa ?_
 refine rp 10 (.slice e m2 d2) ?_
 refine rp 11 (.pointer (some ⟨g2, 16, none⟩)) ?_
 refine Zb0 g2 (16) (.slice e m2 d2) (fun _ => by kernel_rfl) (fun _ => Zbr 29 _ _ g2 _ _ 116 _ hr4 rfl (by kernel_rfl) (by kernel_rfl) (by show 16 < 17; omega) rfl rfl (by kernel_rfl)) ?_
 intro w9 hs10
 have hnt11 := Nt.rows hr4 (Zdi hk) hs10.touch
 replace hB := hB.tou hs10.touch hzg2
 replace hk := hk.nt hnt11
 replace hx := hx.nt hnt11
 replace hv := hv.nt hnt11
 replace hq := hq.nt hnt11
 replace hr8 := hr8.past hs10.touch (by omega)
 replace hr4 := hr4.set (cells' := (brc vs (.slice e m2 d2))) hs10 (by kernel_rfl)
 refine Zad ?_
 refine Zab ?_
 refine Zac ?_
 refine Zaa ?_
 refine rv 22 (.agg (brc vs (.slice e m2 d2))) (fun _ => Za2 116 _ _ _ _ _ _ rfl (by kernel_rfl) hr4 Tryz.underlying116 rfl (by kernel_rfl)) ?_
 refine Zav g6 (brc vs (.slice e m2 d2)) (fun _ => by kernel_rfl) (fun _ => Zao 116 _ _ _ _ _ 116 rfl (by kernel_rfl) (by kernel_rfl) hr8 (by kernel_rfl) (by kernel_rfl) (Zbl hk)) ?_
 intro w12 hp13
 have hnt14 := Nt.rows hr8 (Zdi (KA.none w)) hp13.touch
 replace hB := hB.tou hp13.touch hzg6
 replace hk := hk.nt hnt14
 replace hx := hx.nt hnt14
 replace hv := hv.nt hnt14
 replace hq := hq.nt hnt14
 replace hr4 := hr4.past hp13.touch (by omega)
 replace hr8 := hp13.row hr8
 refine Zad ?_
 refine Zab ?_
 refine Zap ?_
 refine Zae (.agg (brc vs (.slice e m2 d2))) (fun _ => Zch rfl _ g6 _ (by kernel_rfl) hr8 Tryz.underlying116 rfl (by kernel_rfl)) ?_
 exact ⟨_, rfl, ⟨_, _, _, _, _, _, rfl, rfl, hk, hv, by omega⟩, hB⟩
set_option maxHeartbeats 1000000 in
theorem Zo7 {e : Option Addr} {v : List Int} (hk : KA w k vs) (hx : Sk An w a n c x) (hn : n ≤ 256) (hq : Sk An w b m d (i :: r)) (hv : Sk An w e m2 d2 v) (hm2 : m2 ≤ 256) (hi : 0 ≤ i ∧ i < 16) (hmm : m ≤ 1000) : Calls Tryz.prog 66 #[.agg (brc vs (.slice a n c)), .slice b m d, .slice e m2 d2] w fun e w' => ∃ v', e = .returned v' ∧ RBr w (Pt.plus k x (i :: r) v) v' w' := by
 have hql := hq.len
 rw [List.length_cons] at hql
 obtain ⟨gq, oq, rfl, hcq, hq0⟩ := hq.head
 have hB : Bl w w := Bl.refl w
 refine Zaj Tryz.func66 rfl 23 rfl ?_
 show CW _ _ _ _ _ _ _ [(0, .agg (brc vs (.slice a n c))), (1, .slice (some ⟨gq, oq, none⟩) m d), (2, .slice e m2 d2)] _
 have hit : i.toNat < 16 := by omega
 have hcq0 := hcq
 refine Zac ?_
 refine Zaa ?_
 refine Zar 3 (brc vs (.slice a n c)) 116 (fun _ => by kernel_rfl) (fun _ => by kernel_rfl) ?_
 intro w1 g2 hn3
 have hzg2 : w.heap.size ≤ g2 := by have := hB.size; have := hn3.hg; omega
 replace hB := hB.go hn3.below
 replace hk := hk.go hn3.below
 replace hx := hx.go hn3.below
 replace hv := hv.go hn3.below
 replace hq := hq.go hn3.below
 replace hcq := Zdh hcq hn3.below
 have hr4 : Rw g2 w1 (brc vs (.slice a n c)) 116 := hn3.row
 refine Zar 6 (brc (fun _ => .nilIface) (.slice none 0 0)) 116 (fun _ => by kernel_rfl) (fun _ => by kernel_rfl) ?_
 intro w5 g6 hn7
 have hlg2g6 : g2 < g6 := by have := hr4.lt; have := hn7.hg; omega
 have hzg6 : w.heap.size ≤ g6 := by have := hB.size; have := hn7.hg; omega
 replace hB := hB.go hn7.below
 replace hk := hk.go hn7.below
 replace hx := hx.go hn7.below
 replace hv := hv.go hn7.below
 replace hq := hq.go hn7.below
 replace hcq := Zdh hcq hn7.below
 replace hr4 := hr4.go hn7.below
 have hr8 : Rw g6 w5 (brc (fun _ => .nilIface) (.slice none 0 0)) 116 := hn7.row
 refine Zad ?_
 refine Zab ?_
 refine Zac ?_
 refine Zac ?_
 refine Zaa ?_
 refine rp 7 (.slice (some ⟨gq, oq, none⟩) m d) ?_
 refine rp 8 (.int .i64 m) ?_
 refine rv 9 (.bool false) (fun _ => Zal (v := .bool ((m : Int) == (0 : Int))) (by kernel_rfl) (congrArg Value.bool (beq_eq_false_iff_ne.2 (by omega)))) ?_
 refine Zad ?_
 refine Zab ?_
 refine Zaf (fun _ => by kernel_rfl) ?_
 have hcq2 : (w5).drew.cell? ⟨gq, oq + 0 * 1, none⟩ = some (.int .u8 i) := hcq
 refine Zbd (fun _ => True) (by kernel_rfl) (trivial) ?_
 replace hB := hB.go (Below.refl _ _).drew
 replace hk := hk.go (Below.refl _ _).drew
 replace hx := hx.go (Below.refl _ _).drew
 replace hv := hv.go (Below.refl _ _).drew
 replace hq := hq.go (Below.refl _ _).drew
 replace hcq := Zdh hcq (Below.refl _ _).drew
 replace hr4 := hr4.go (Below.refl _ _).drew
 replace hr8 := hr8.go (Below.refl _ _).drew
 refine dt 0 12 (.slice (some ⟨gq, oq, none⟩) m d) (fun v hv _ => by kernel_rfl) trivial ?_
 refine dt 1 13 (.pointer (some ⟨gq, oq + 0 * 1, none⟩)) (fun v hv _ => Za0 29 _ _ gq oq 0 m d 1 5 rfl (by kernel_rfl) (by kernel_rfl) hq0 Tryz.underlying29 (by kernel_rfl)) trivial ?_
 refine dt 3 15 (.slice (some ⟨gq, oq, none⟩) m d) (fun v hv _ => by kernel_rfl) trivial ?_
 obtain ⟨a9, n10, c11, hr12, hs13⟩ := hq.cutFrom 1 (by omega)
 refine dt 4 16 (.slice a9 n10 c11) (fun v hv => (fun _ => hr12 _ _ _ _ _ _ rfl (by kernel_rfl) (by kernel_rfl) rfl)) trivial ?_
 refine dt 5 17 (.slice e m2 d2) (fun v hv _ => by kernel_rfl) trivial ?_
 refine dt 6 18 (.agg #[.slice a9 n10 c11, .slice e m2 d2]) (fun v hv => (fun _ => by kernel_rfl)) trivial ?_
 refine dt 7 19 (.iface 110 (.agg #[.slice a9 n10 c11, .slice e m2 d2])) (fun v hv _ => by kernel_rfl) trivial ?_
 refine dt 8 20 (.pointer (some ⟨g2, 0, none⟩)) (fun v hv _ => by kernel_rfl) trivial ?_
 refine Zas [2] (by kernel_rfl) (by simp) ?_
 refine ar_v 2 14 (.int .u8 i) rfl (fun _ => by kernel_rfl) (fun _ => Zag 5 _ ⟨gq, oq + 0 * 1, none⟩ _ _ rfl (by kernel_rfl) hcq2 Tryz.underlying5 rfl) trivial ?_ Zaz
 refine Zi2 9 21 (.pointer (some ⟨g2, 0 + i.toNat * 1, none⟩)) rfl (by kernel_rfl) (fun _ _ _ h => h) (fun _ => by kernel_rfl) (fun v hv => (fun _ => Zb5 114 _ _ g2 0 i.toNat 16 1 47 rfl (by kernel_rfl) (by show Value.int .u8 i = _; rw [Int.toNat_of_nonneg hi.1]) hit (by omega) Tryz.underlying114 (by kernel_rfl))) trivial ?_
 refine Zas [10] (by kernel_rfl) (by simp) ?_
 have hl14 : ThA w5.drew (leaf r v) (.iface 110 (.agg #[.slice a9 n10 c11, .slice e m2 d2])) := ⟨_, _, _, _, _, _, rfl, hs13, hv, hm2, by have := hs13.len; rw [List.length_drop, List.length_cons] at this; omega⟩
 refine Zq6 10 g2 (0 + i.toNat * 1) (.iface 110 (.agg #[.slice a9 n10 c11, .slice e m2 d2])) rfl (fun _ => by kernel_rfl) (fun _ => Zbr 47 _ _ g2 _ _ 116 _ hr4 rfl (by kernel_rfl) (by kernel_rfl) (by show 0 + i.toNat * 1 < 17; omega) rfl rfl (by kernel_rfl)) (fun _ _ => trivial) ?_ Zaz
 intro w15 hs16
 have hnt17 := Nt.rows hr4 (Zdi hk) hs16.touch
 replace hB := hB.tou hs16.touch hzg2
 replace hk := hk.nt hnt17
 replace hx := hx.nt hnt17
 replace hv := hv.nt hnt17
 replace hq := hq.nt hnt17
 replace hr8 := hr8.past hs16.touch (by omega)
 replace hs13 := hs13.nt hnt17
 replace hl14 := hl14.nt hnt17
 replace hr4 := hr4.set (cells' := (brc (updv vs i.toNat (.iface 110 (.agg #[.slice a9 n10 c11, .slice e m2 d2]))) (.slice a n c))) hs16 (by rw [Nat.zero_add, Nat.mul_one]; exact Zg8 _ _ _ _ hit)
 have hk9 := hk.put (i := i.toNat) hl14
 refine Za6 (by kernel_rfl) ?_
 refine Zab ?_
 refine Zac ?_
 refine Zaa ?_
 refine rv 22 (.agg (brc (updv vs i.toNat (.iface 110 (.agg #[.slice a9 n10 c11, .slice e m2 d2]))) (.slice a n c))) (fun _ => Za2 116 _ _ _ _ _ _ rfl (by kernel_rfl) hr4 Tryz.underlying116 rfl (by kernel_rfl)) ?_
 refine Zav g6 (brc (updv vs i.toNat (.iface 110 (.agg #[.slice a9 n10 c11, .slice e m2 d2]))) (.slice a n c)) (fun _ => by kernel_rfl) (fun _ => Zao 116 _ _ _ _ _ 116 rfl (by kernel_rfl) (by kernel_rfl) hr8 (by kernel_rfl) (by kernel_rfl) (Zbl hk9)) ?_
 intro w18 hp19
 have hnt20 := Nt.rows hr8 (Zdi (KA.none w)) hp19.touch
 replace hB := hB.tou hp19.touch hzg6
 replace hk := hk.nt hnt20
 replace hx := hx.nt hnt20
 replace hv := hv.nt hnt20
 replace hq := hq.nt hnt20
 replace hr4 := hr4.past hp19.touch (by omega)
 replace hs13 := hs13.nt hnt20
 replace hl14 := hl14.nt hnt20
 replace hk9 := hk9.nt hnt20
 replace hr8 := hp19.row hr8
 refine Zad ?_
 refine Zab ?_
 refine Zap ?_
 refine Zae (.agg (brc (updv vs i.toNat (.iface 110 (.agg #[.slice a9 n10 c11, .slice e m2 d2]))) (.slice a n c))) (fun _ => Zch rfl _ g6 _ (by kernel_rfl) hr8 Tryz.underlying116 rfl (by kernel_rfl)) ?_
 exact ⟨_, rfl, ⟨_, _, _, _, _, _, rfl, rfl, hk9, hx, by omega⟩, hB⟩
theorem Zfz {t : Pt} {e : Option Addr} {v : List Int} (ht : BrA w (br k x) u) (hq : Sk An w b m d q) (hb : nibs q) (hm : m ≤ 1000) (hv : Sk An w e m2 d2 v) (hm2 : m2 ≤ 256) : Calls Tryz.prog 66 #[u, .slice b m d, .slice e m2 d2] w fun e w' => ∃ v', e = .returned v' ∧ RBr w (Pt.plus k x q v) v' w' := by
 obtain ⟨k', x', vs, a, n, c, h0, rfl, hk, hx, hn⟩ := ht
 cases h0
 cases q with
 | nil => exact Zsc hk hx hn hq hv hm2
 | cons i r => exact Zo7 hk hx hn hq hv hm2 (hb i (by simp)) hm
set_option maxHeartbeats 1000000 in
theorem behind_any {l : Nat} {t : Pt} (hp : Sk An w a n c p) (hn : n ≤ 1000) (ht : ThA w t u) (hl : l ≤ n) : Calls Tryz.prog 67 #[.agg #[.slice a n c, u], .int .i64 ((l : Nat) : Int)] w fun e w' => ∃ v', e = .returned v' ∧ RTh w (bhd p t l) v' w' := by
 have hpl := hp.len
 have hB : Bl w w := Bl.refl w
 refine Zaj Tryz.func67 rfl 20 rfl ?_
 show CW _ _ _ _ _ _ _ [(0, .agg #[.slice a n c, u]), (1, .int .i64 ((l : Nat) : Int))] _
 refine Zac ?_
 refine Zaa ?_
 refine Zar 2 (#[.slice a n c, u]) 113 (fun _ => by kernel_rfl) (fun _ => by kernel_rfl) ?_
 intro w1 g2 hn3
 have hzg2 : w.heap.size ≤ g2 := by have := hB.size; have := hn3.hg; omega
 replace hB := hB.go hn3.below
 replace hp := hp.go hn3.below
 replace ht := ht.go hn3.below
 have hr4 : Rw g2 w1 (#[.slice a n c, u]) 113 := hn3.row
 refine rp 4 (.nilIface) ?_
 refine Zad ?_
 refine Zab ?_
 refine Zac ?_
 refine Zac ?_
 refine Zaa ?_
 refine rp 5 (.int .i64 ((l : Nat) : Int)) ?_
 refine rp 6 (.pointer (some ⟨g2, 0, none⟩)) ?_
 refine rv 7 (.slice a n c) (fun _ => Zag 29 _ ⟨g2, 0, none⟩ _ _ rfl (by kernel_rfl) (by rw [cell_of_row _ _ _ _ _ _ hr4]; rfl) Tryz.underlying29 rfl) ?_
 refine rp 8 (.int .i64 n) ?_
 refine rp 9 (.bool (((l : Nat) : Int) == (n : Int))) ?_
 refine Zad ?_
 refine Zab ?_
 cases hq5 : (((l : Nat) : Int) == (n : Int)) with
 | true =>
  refine Zai (fun _ => by kernel_rfl) ?_
  refine Zac ?_
  refine Zaa ?_
  refine rp 10 (.pointer (some ⟨g2, 1, none⟩)) ?_
  refine rv 11 (u) (fun _ => Zag 47 _ ⟨g2, 1, none⟩ _ _ rfl (by kernel_rfl) (by rw [cell_of_row _ _ _ _ _ _ hr4]; rfl) Tryz.underlying47 rfl) ?_
  refine rp 4 (u) ?_
  refine Zad ?_
  refine Zab ?_
  refine Zap ?_
  refine Zah ?_
  refine Zae (u) (fun _ => by kernel_rfl) ?_
  exact ⟨_, rfl, by rw [bhd, if_pos (by have := eq_of_beq hq5; omega)]; exact ht, hB⟩
 | false =>
  refine Zaf (fun _ => by kernel_rfl) ?_
  refine Zam ?_
  refine Zab ?_
  refine Zac ?_
  refine Zbd (fun v => Rw g2 v #[.slice a n c, u] 113) (by kernel_rfl) (hr4) ?_
  replace hB := hB.go (Below.refl _ _).drew
  replace hp := hp.go (Below.refl _ _).drew
  replace ht := ht.go (Below.refl _ _).drew
  replace hr4 := hr4.go (Below.refl _ _).drew
  refine dt 0 12 (.pointer (some ⟨g2, 0, none⟩)) (fun v hv _ => by kernel_rfl) hr4 ?_
  refine dt 1 13 (.slice a n c) (fun v hv _ => Zag 29 _ ⟨g2, 0, none⟩ _ _ rfl (by kernel_rfl) (by rw [cell_of_row _ _ _ _ _ _ hv]; rfl) Tryz.underlying29 rfl) hr4 ?_
  refine dt 2 14 (.int .i64 ((l : Nat) : Int)) (fun v hv _ => by kernel_rfl) hr4 ?_
  obtain ⟨a6, n7, c8, hr9, hs10⟩ := hp.cutFrom l (by have := hp.len; omega)
  refine dt 3 15 (.slice a6 n7 c8) (fun v hv => (fun _ => hr9 _ _ _ _ _ _ rfl (by kernel_rfl) (by kernel_rfl) rfl)) hr4 ?_
  refine dt 4 16 (.pointer (some ⟨g2, 1, none⟩)) (fun v hv _ => by kernel_rfl) hr4 ?_
  refine dt 5 17 (u) (fun v hv _ => Zag 47 _ ⟨g2, 1, none⟩ _ _ rfl (by kernel_rfl) (by rw [cell_of_row _ _ _ _ _ _ hv]; rfl) Tryz.underlying47 rfl) hr4 ?_
  refine dt 6 18 (.agg #[.slice a6 n7 c8, u]) (fun v hv => (fun _ => Zbz 113 _ rfl [(0, .slice a6 n7 c8), (1, u)] (by kernel_rfl) _ (Zlb ht _ _ _))) hr4 ?_
  refine dt 7 19 (.iface 113 (.agg #[.slice a6 n7 c8, u])) (fun v hv _ => by kernel_rfl) hr4 ?_
  refine dt 8 4 (.iface 113 (.agg #[.slice a6 n7 c8, u])) (fun v hv _ => by kernel_rfl) hr4 ?_
  refine Za6 (by kernel_rfl) ?_
  refine Zab ?_
  refine Zap ?_
  refine Zae (.iface 113 (.agg #[.slice a6 n7 c8, u])) (fun _ => by kernel_rfl) ?_
  exact ⟨_, rfl, by rw [bhd, if_neg (by have := beq_eq_false_iff_ne.1 hq5; omega)]; exact ⟨_, _, _, _, rfl, hs10, by have := hs10.len; rw [List.length_drop] at this; omega, ht⟩, hB⟩
theorem Zuv (t : Pt) : und [] t = t := rfl
theorem Zw5 (h : ¬ q = []) : und q no = ext q no := by simp [und, h]
theorem Zw4 {d : List Int} (h : ¬ q = []) : und q (st d) = ext q (st d) := by simp [und, h]
theorem Zrt (h : ¬ q = []) : und q (leaf p x) = leaf (q ++ p) x := by simp [und, h]
theorem Zuu {t : Pt} (h : ¬ q = []) : und q (ext p t) = ext (q ++ p) t := by simp [und, h]
theorem Zw6 (h : ¬ q = []) : und q (br k x) = ext q (br k x) := by simp [und, h]
set_option maxHeartbeats 1000000 in
theorem Zob {t : Pt} {e : Option Addr} (ht : ThA w t u) : Calls Tryz.prog 62 #[u, .slice e 0 d2] w fun e w' => ∃ v', e = .returned v' ∧ RTh w t v' w' := by
 have hB : Bl w w := Bl.refl w
 refine Zaj Tryz.func62 rfl 40 rfl ?_
 show CW _ _ _ _ _ _ _ [(0, u), (1, .slice e 0 d2)] _
 refine Zac ?_
 refine Zaa ?_
 refine rp 4 (.nilIface) ?_
 refine Zad ?_
 refine Zab ?_
 refine Zac ?_
 refine Zac ?_
 refine Zaa ?_
 refine rp 7 (.slice e 0 d2) ?_
 refine rp 8 (.int .i64 0) ?_
 refine rp 9 (.bool true) ?_
 refine Zad ?_
 refine Zab ?_
 refine Zai (fun _ => by kernel_rfl) ?_
 refine Zac ?_
 refine Zaa ?_
 refine rp 10 (u) ?_
 refine rp 4 (u) ?_
 refine Zad ?_
 refine Zab ?_
 refine Zap ?_
 refine Zah ?_
 refine Zae u (fun _ => by kernel_rfl) ?_
 exact ⟨_, rfl, ht, hB⟩
set_option maxHeartbeats 1000000 in
theorem Zrr {e : Option Addr} (hq : Sk An w e m2 d2 q) (h0 : 0 < m2) (hm2 : m2 ≤ 1000) : Calls Tryz.prog 62 #[.nilIface, .slice e m2 d2] w fun e w' => ∃ v', e = .returned v' ∧ RTh w (und q no) v' w' := by
 have hql := hq.len
 have hne : ¬ q = [] := fun e => by rw [e] at hql; simp at hql; omega
 rw [Zw5 hne]
 have hB : Bl w w := Bl.refl w
 refine Zaj Tryz.func62 rfl 40 rfl ?_
 show CW _ _ _ _ _ _ _ [(0, .nilIface), (1, .slice e m2 d2)] _
 refine Zac ?_
 refine Zaa ?_
 refine rp 4 (.nilIface) ?_
 refine Zad ?_
 refine Zab ?_
 refine Zac ?_
 refine Zac ?_
 refine Zaa ?_
 refine rp 7 (.slice e m2 d2) ?_
 refine rp 8 (.int .i64 m2) ?_
 refine rv 9 (.bool false) (fun _ => Zal (v := .bool ((m2 : Int) == (0 : Int))) (by kernel_rfl) (congrArg Value.bool (beq_eq_false_iff_ne.2 (by omega)))) ?_
 refine Zad ?_
 refine Zab ?_
 refine Zaf (fun _ => by kernel_rfl) ?_
 refine Zam ?_
 refine Zab ?_
 refine Zac ?_
 refine Zac ?_
 refine Zaa ?_
 refine rp 11 (.nilIface) ?_
 refine Zad ?_
 refine Zab ?_
 refine Zan ?_
 refine Zac ?_
 refine Zaa ?_
 refine rp 12 (.tuple #[.agg (#[.slice none 0 0, .slice none 0 0]), .bool false]) ?_
 refine rp 13 (.bool false) ?_
 refine rp 14 (.agg (#[.slice none 0 0, .slice none 0 0])) ?_
 refine Zad ?_
 refine Zab ?_
 refine Zaf (fun _ => by kernel_rfl) ?_
 refine Zac ?_
 refine Zaa ?_
 refine rp 24 (.tuple #[.agg (#[.slice none 0 0, .nilIface]), .bool false]) ?_
 refine rp 25 (.bool false) ?_
 refine rp 26 (.agg (#[.slice none 0 0, .nilIface])) ?_
 refine Zad ?_
 refine Zab ?_
 refine Zaf (fun _ => by kernel_rfl) ?_
 refine Zam ?_
 refine Zau ?_
 refine Zab ?_
 refine Zac ?_
 refine Zaa ?_
 refine rp 36 (.slice e m2 d2) ?_
 refine rp 37 (.nilIface) ?_
 refine rp 38 (.agg #[.slice e m2 d2, .nilIface]) ?_
 refine rp 39 (.iface 113 (.agg #[.slice e m2 d2, .nilIface])) ?_
 refine rp 4 (.iface 113 (.agg #[.slice e m2 d2, .nilIface])) ?_
 refine Zad ?_
 refine Zab ?_
 refine Zap ?_
 refine Zae (.iface 113 (.agg #[.slice e m2 d2, .nilIface])) (fun _ => by kernel_rfl) ?_
 exact ⟨_, rfl, ⟨_, _, _, _, rfl, hq, by omega, (show ThA _ no .nilIface from rfl)⟩, hB⟩
set_option maxHeartbeats 1000000 in
theorem Zrq {d : List Int} {e : Option Addr} (hd : d.length = 32) (hdb : isB d) (hq : Sk An w e m2 d2 q) (h0 : 0 < m2) (hm2 : m2 ≤ 1000) : Calls Tryz.prog 62 #[.iface 50 (.agg (B8 d)), .slice e m2 d2] w fun e w' => ∃ v', e = .returned v' ∧ RTh w (und q (st d)) v' w' := by
 have hql := hq.len
 have hne : ¬ q = [] := fun e => by rw [e] at hql; simp at hql; omega
 rw [Zw4 hne]
 have hB : Bl w w := Bl.refl w
 refine Zaj Tryz.func62 rfl 40 rfl ?_
 show CW _ _ _ _ _ _ _ [(0, .iface 50 (.agg (B8 d))), (1, .slice e m2 d2)] _
 refine Zac ?_
 refine Zaa ?_
 refine rp 4 (.nilIface) ?_
 refine Zad ?_
 refine Zab ?_
 refine Zac ?_
 refine Zac ?_
 refine Zaa ?_
 refine rp 7 (.slice e m2 d2) ?_
 refine rp 8 (.int .i64 m2) ?_
 refine rv 9 (.bool false) (fun _ => Zal (v := .bool ((m2 : Int) == (0 : Int))) (by kernel_rfl) (congrArg Value.bool (beq_eq_false_iff_ne.2 (by omega)))) ?_
 refine Zad ?_
 refine Zab ?_
 refine Zaf (fun _ => by kernel_rfl) ?_
 refine Zam ?_
 refine Zab ?_
 refine Zac ?_
 refine Zac ?_
 refine Zaa ?_
 refine rp 11 (.iface 50 (.agg (B8 d))) ?_
 refine Zad ?_
 refine Zab ?_
 refine Zan ?_
 refine Zac ?_
 refine Zaa ?_
 refine rp 12 (.tuple #[.agg (#[.slice none 0 0, .slice none 0 0]), .bool false]) ?_
 refine rp 13 (.bool false) ?_
 refine rp 14 (.agg (#[.slice none 0 0, .slice none 0 0])) ?_
 refine Zad ?_
 refine Zab ?_
 refine Zaf (fun _ => by kernel_rfl) ?_
 refine Zac ?_
 refine Zaa ?_
 refine rp 24 (.tuple #[.agg (#[.slice none 0 0, .nilIface]), .bool false]) ?_
 refine rp 25 (.bool false) ?_
 refine rp 26 (.agg (#[.slice none 0 0, .nilIface])) ?_
 refine Zad ?_
 refine Zab ?_
 refine Zaf (fun _ => by kernel_rfl) ?_
 refine Zam ?_
 refine Zau ?_
 refine Zab ?_
 refine Zac ?_
 refine Zaa ?_
 refine rp 36 (.slice e m2 d2) ?_
 refine rp 37 (.iface 50 (.agg (B8 d))) ?_
 refine rp 38 (.agg #[.slice e m2 d2, .iface 50 (.agg (B8 d))]) ?_
 refine rp 39 (.iface 113 (.agg #[.slice e m2 d2, .iface 50 (.agg (B8 d))])) ?_
 refine rp 4 (.iface 113 (.agg #[.slice e m2 d2, .iface 50 (.agg (B8 d))])) ?_
 refine Zad ?_
 refine Zab ?_
 refine Zap ?_
 refine Zae (.iface 113 (.agg #[.slice e m2 d2, .iface 50 (.agg (B8 d))])) (fun _ => by kernel_rfl) ?_
 exact ⟨_, rfl, ⟨_, _, _, _, rfl, hq, by omega, ⟨rfl, hd, hdb⟩⟩, hB⟩
set_option maxHeartbeats 1000000 in
theorem Zm6 {e : Option Addr} (hp : Sk An w a n c p) (hx : Sk An w b m d x) (hm : m ≤ 256) (hn : n ≤ 1000) (hq : Sk An w e m2 d2 q) (h0 : 0 < m2) (hm2 : m2 ≤ 1000) : Calls Tryz.prog 62 #[.iface 110 (.agg #[.slice a n c, .slice b m d]), .slice e m2 d2] w fun e w' => ∃ v', e = .returned v' ∧ RTh w (und q (leaf p x)) v' w' := by
 have hql := hq.len
 have hne : ¬ q = [] := fun e => by rw [e] at hql; simp at hql; omega
 rw [Zrt hne]
 have hB : Bl w w := Bl.refl w
 refine Zaj Tryz.func62 rfl 40 rfl ?_
 show CW _ _ _ _ _ _ _ [(0, .iface 110 (.agg #[.slice a n c, .slice b m d])), (1, .slice e m2 d2)] _
 refine Zac ?_
 refine Zaa ?_
 refine rp 4 (.nilIface) ?_
 refine Zad ?_
 refine Zab ?_
 refine Zac ?_
 refine Zac ?_
 refine Zaa ?_
 refine rp 7 (.slice e m2 d2) ?_
 refine rp 8 (.int .i64 m2) ?_
 refine rv 9 (.bool false) (fun _ => Zal (v := .bool ((m2 : Int) == (0 : Int))) (by kernel_rfl) (congrArg Value.bool (beq_eq_false_iff_ne.2 (by omega)))) ?_
 refine Zad ?_
 refine Zab ?_
 refine Zaf (fun _ => by kernel_rfl) ?_
 refine Zam ?_
 refine Zab ?_
 refine Zac ?_
 refine Zac ?_
 refine Zaa ?_
 refine rp 11 (.iface 110 (.agg #[.slice a n c, .slice b m d])) ?_
 refine Zad ?_
 refine Zab ?_
 refine Zan ?_
 refine Zac ?_
 refine Zaa ?_
 refine rp 12 (.tuple #[.agg #[.slice a n c, .slice b m d], .bool true]) ?_
 refine rp 13 (.bool true) ?_
 refine rp 14 (.agg #[.slice a n c, .slice b m d]) ?_
 refine Zad ?_
 refine Zab ?_
 refine Zai (fun _ => by kernel_rfl) ?_
 refine Zac ?_
 refine Zaa ?_
 refine Zar 5 (#[.slice none 0 0, .slice none 0 0]) 110 (fun _ => by kernel_rfl) (fun _ => by kernel_rfl) ?_
 intro w1 g2 hn3
 have hr4 : Rw g2 w1 (#[.slice none 0 0, .slice none 0 0]) 110 := hn3.row
 refine Zav g2 (#[.slice a n c, .slice b m d]) (fun _ => by kernel_rfl) (fun _ => Zao 110 _ _ _ _ _ 110 rfl (by kernel_rfl) (by kernel_rfl) hr4 (by kernel_rfl) (by kernel_rfl) (by kernel_rfl)) ?_
 intro w5 hp6
 replace hn3 := hn3.put hp6
 clear hr4
 have hzg2 : w.heap.size ≤ g2 := by have := hB.size; have := hn3.hg; omega
 replace hB := hB.go hn3.below
 replace hp := hp.go hn3.below
 replace hx := hx.go hn3.below
 replace hq := hq.go hn3.below
 have hr8 : Rw g2 w5 (#[.slice a n c, .slice b m d]) 110 := hn3.row
 refine Zad ?_
 refine Zab ?_
 refine Zac ?_
 refine Zbd (fun v => Rw g2 v (#[.slice a n c, .slice b m d]) 110) (by kernel_rfl) (hr8) ?_
 replace hB := hB.go (Below.refl _ _).drew
 replace hp := hp.go (Below.refl _ _).drew
 replace hx := hx.go (Below.refl _ _).drew
 replace hq := hq.go (Below.refl _ _).drew
 replace hr8 := hr8.go (Below.refl _ _).drew
 refine dt 0 15 (.slice e m2 d2) (fun v hv _ => by kernel_rfl) hr8 ?_
 refine dt 1 16 (.pointer (some ⟨g2, 0, none⟩)) (fun v hv _ => by kernel_rfl) hr8 ?_
 refine dt 2 17 (.slice a n c) (fun v hv _ => Zag 29 _ ⟨g2, 0, none⟩ _ _ rfl (by kernel_rfl) (by rw [cell_of_row _ _ _ _ _ _ hv]; rfl) Tryz.underlying29 rfl) hr8 ?_
 refine dt 5 20 (.pointer (some ⟨g2, 1, none⟩)) (fun v hv _ => by kernel_rfl) hr8 ?_
 refine dt 6 21 (.slice b m d) (fun v hv _ => Zag 29 _ ⟨g2, 1, none⟩ _ _ rfl (by kernel_rfl) (by rw [cell_of_row _ _ _ _ _ _ hv]; rfl) Tryz.underlying29 rfl) hr8 ?_
 refine Zas [3] (by kernel_rfl) (by simp) ?_
 refine Zlc 3 18 #[.slice e m2 d2, .slice a n c] 29 2 rfl (fun _ => by kernel_rfl) (fun _ => by kernel_rfl) (fun w' g h9 => hr8.go h9.below) ?_ Zaz
 intro w9 g10 hn11
 replace hB := hB.go hn11.below
 replace hp := hp.go hn11.below
 replace hx := hx.go hn11.below
 replace hq := hq.go hn11.below
 replace hr8 := hr8.go hn11.below
 have hr12 : Rw g10 w9 #[.slice e m2 d2, .slice a n c] 29 := hn11.row
 refine Zas [4] (by kernel_rfl) (by simp) ?_
 refine Za5 4 19 97 #[.slice (some ⟨g10, 0, none⟩) 2 2] rfl (fun _ => by kernel_rfl) (fun _ => by kernel_rfl) (R := fun u w' => ∃ a2 n2 c2, u = .slice a2 n2 c2 ∧ Sk (fun b => (w9).heap.size ≤ b) w' a2 n2 c2 (q ++ p) ∧ Bl w9 w') (Zh5 hq hp hr12 (by omega) (by omega)) (fun u w' h9 => hr8.go (h9.choose_spec.choose_spec.choose_spec.2.2)) ?_ Zaz
 rintro _ w16 ⟨a13, n14, c15, rfl, ha17, hb18⟩
 replace ha17 := ha17.any
 replace hB := hB.go hb18
 replace hp := hp.go hb18
 replace hx := hx.go hb18
 replace hq := hq.go hb18
 replace hr8 := hr8.go hb18
 replace hr12 := hr12.go hb18
 refine dt 7 22 (.agg #[.slice a13 n14 c15, .slice b m d]) (fun v hv => (fun _ => by kernel_rfl)) hr8 ?_
 refine dt 8 23 (.iface 110 (.agg #[.slice a13 n14 c15, .slice b m d])) (fun v hv _ => by kernel_rfl) hr8 ?_
 refine dt 9 4 (.iface 110 (.agg #[.slice a13 n14 c15, .slice b m d])) (fun v hv _ => by kernel_rfl) hr8 ?_
 refine Za6 (by kernel_rfl) ?_
 refine Zab ?_
 refine Zap ?_
 refine Zaq ?_
 refine Zah ?_
 refine Zae (.iface 110 (.agg #[.slice a13 n14 c15, .slice b m d])) (fun _ => by kernel_rfl) ?_
 exact ⟨_, rfl, ⟨_, _, _, _, _, _, rfl, ha17, hx, hm, by have := ha17.len; have := hp.len; rw [List.length_append] at *; omega⟩, hB⟩
set_option maxHeartbeats 1000000 in
theorem Zoc {t : Pt} {e : Option Addr} (hp : Sk An w a n c p) (hn : n ≤ 1000) (ht : ThA w t u) (hq : Sk An w e m2 d2 q) (h0 : 0 < m2) (hm2 : m2 ≤ 1000) : Calls Tryz.prog 62 #[.iface 113 (.agg #[.slice a n c, u]), .slice e m2 d2] w fun e w' => ∃ v', e = .returned v' ∧ RTh w (und q (ext p t)) v' w' := by
 have hql := hq.len
 have hne : ¬ q = [] := fun e => by rw [e] at hql; simp at hql; omega
 rw [Zuu hne]
 have hB : Bl w w := Bl.refl w
 refine Zaj Tryz.func62 rfl 40 rfl ?_
 show CW _ _ _ _ _ _ _ [(0, .iface 113 (.agg #[.slice a n c, u])), (1, .slice e m2 d2)] _
 refine Zac ?_
 refine Zaa ?_
 refine rp 4 (.nilIface) ?_
 refine Zad ?_
 refine Zab ?_
 refine Zac ?_
 refine Zac ?_
 refine Zaa ?_
 refine rp 7 (.slice e m2 d2) ?_
 refine rp 8 (.int .i64 m2) ?_
 refine rv 9 (.bool false) (fun _ => Zal (v := .bool ((m2 : Int) == (0 : Int))) (by kernel_rfl) (congrArg Value.bool (beq_eq_false_iff_ne.2 (by omega)))) ?_
 refine Zad ?_
 refine Zab ?_
 refine Zaf (fun _ => by kernel_rfl) ?_
 refine Zam ?_
 refine Zab ?_
 refine Zac ?_
 refine Zac ?_
 refine Zaa ?_
 refine rp 11 (.iface 113 (.agg #[.slice a n c, u])) ?_
 refine Zad ?_
 refine Zab ?_
 refine Zan ?_
 refine Zac ?_
 refine Zaa ?_
 refine rp 12 (.tuple #[.agg (#[.slice none 0 0, .slice none 0 0]), .bool false]) ?_
 refine rp 13 (.bool false) ?_
 refine rp 14 (.agg (#[.slice none 0 0, .slice none 0 0])) ?_
 refine Zad ?_
 refine Zab ?_
 refine Zaf (fun _ => by kernel_rfl) ?_
 refine Zac ?_
 refine Zaa ?_
 refine rp 24 (.tuple #[.agg #[.slice a n c, u], .bool true]) ?_
 refine rp 25 (.bool true) ?_
 refine rp 26 (.agg #[.slice a n c, u]) ?_
 refine Zad ?_
 refine Zab ?_
 refine Zai (fun _ => by kernel_rfl) ?_
 refine Zac ?_
 refine Zaa ?_
 refine Zar 6 (#[.slice none 0 0, .nilIface]) 113 (fun _ => by kernel_rfl) (fun _ => by kernel_rfl) ?_
 intro w1 g2 hn3
 have hr4 : Rw g2 w1 (#[.slice none 0 0, .nilIface]) 113 := hn3.row
 refine Zav g2 (#[.slice a n c, u]) (fun _ => by kernel_rfl) (fun _ => Zao 113 _ _ _ _ _ 113 rfl (by kernel_rfl) (by kernel_rfl) hr4 (by kernel_rfl) (by kernel_rfl) (one2 rfl ht.one)) ?_
 intro w5 hp6
 replace hn3 := hn3.put hp6
 clear hr4
 have hzg2 : w.heap.size ≤ g2 := by have := hB.size; have := hn3.hg; omega
 replace hB := hB.go hn3.below
 replace hp := hp.go hn3.below
 replace ht := ht.go hn3.below
 replace hq := hq.go hn3.below
 have hr8 : Rw g2 w5 (#[.slice a n c, u]) 113 := hn3.row
 refine Zad ?_
 refine Zab ?_
 refine Zac ?_
 refine Zbd (fun v => Rw g2 v (#[.slice a n c, u]) 113) (by kernel_rfl) (hr8) ?_
 replace hB := hB.go (Below.refl _ _).drew
 replace hp := hp.go (Below.refl _ _).drew
 replace ht := ht.go (Below.refl _ _).drew
 replace hq := hq.go (Below.refl _ _).drew
 replace hr8 := hr8.go (Below.refl _ _).drew
 refine dt 0 27 (.slice e m2 d2) (fun v hv _ => by kernel_rfl) hr8 ?_
 refine dt 1 28 (.pointer (some ⟨g2, 0, none⟩)) (fun v hv _ => by kernel_rfl) hr8 ?_
 refine dt 2 29 (.slice a n c) (fun v hv _ => Zag 29 _ ⟨g2, 0, none⟩ _ _ rfl (by kernel_rfl) (by rw [cell_of_row _ _ _ _ _ _ hv]; rfl) Tryz.underlying29 rfl) hr8 ?_
 refine dt 5 32 (.pointer (some ⟨g2, 1, none⟩)) (fun v hv _ => by kernel_rfl) hr8 ?_
 refine dt 6 33 (u) (fun v hv _ => Zag 47 _ ⟨g2, 1, none⟩ _ _ rfl (by kernel_rfl) (by rw [cell_of_row _ _ _ _ _ _ hv]; rfl) Tryz.underlying47 rfl) hr8 ?_
 refine Zas [3] (by kernel_rfl) (by simp) ?_
 refine Zlc 3 30 #[.slice e m2 d2, .slice a n c] 29 2 rfl (fun _ => by kernel_rfl) (fun _ => by kernel_rfl) (fun w' g h9 => hr8.go h9.below) ?_ Zaz
 intro w9 g10 hn11
 replace hB := hB.go hn11.below
 replace hp := hp.go hn11.below
 replace ht := ht.go hn11.below
 replace hq := hq.go hn11.below
 replace hr8 := hr8.go hn11.below
 have hr12 : Rw g10 w9 #[.slice e m2 d2, .slice a n c] 29 := hn11.row
 refine Zas [4] (by kernel_rfl) (by simp) ?_
 refine Za5 4 31 97 #[.slice (some ⟨g10, 0, none⟩) 2 2] rfl (fun _ => by kernel_rfl) (fun _ => by kernel_rfl) (R := fun u w' => ∃ a2 n2 c2, u = .slice a2 n2 c2 ∧ Sk (fun b => (w9).heap.size ≤ b) w' a2 n2 c2 (q ++ p) ∧ Bl w9 w') (Zh5 hq hp hr12 (by omega) (by omega)) (fun u w' h9 => hr8.go (h9.choose_spec.choose_spec.choose_spec.2.2)) ?_ Zaz
 rintro _ w16 ⟨a13, n14, c15, rfl, ha17, hb18⟩
 replace ha17 := ha17.any
 replace hB := hB.go hb18
 replace hp := hp.go hb18
 replace ht := ht.go hb18
 replace hq := hq.go hb18
 replace hr8 := hr8.go hb18
 replace hr12 := hr12.go hb18
 refine dt 7 34 (.agg #[.slice a13 n14 c15, u]) (fun v hv => (fun _ => Zbz 113 _ rfl [(0, .slice a13 n14 c15), (1, u)] (by kernel_rfl) _ (Zlb ht _ _ _))) hr8 ?_
 refine dt 8 35 (.iface 113 (.agg #[.slice a13 n14 c15, u])) (fun v hv _ => by kernel_rfl) hr8 ?_
 refine dt 9 4 (.iface 113 (.agg #[.slice a13 n14 c15, u])) (fun v hv _ => by kernel_rfl) hr8 ?_
 refine Za6 (by kernel_rfl) ?_
 refine Zab ?_
 refine Zap ?_
 refine Zaq ?_
 refine Zah ?_
 refine Zae (.iface 113 (.agg #[.slice a13 n14 c15, u])) (fun _ => by kernel_rfl) ?_
 exact ⟨_, rfl, ⟨_, _, _, _, rfl, ha17, by have := ha17.len; have := hp.len; rw [List.length_append] at *; omega, ht⟩, hB⟩
set_option maxHeartbeats 1000000 in
theorem Zrs {e : Option Addr} (hk : KA w k vs) (hx : Sk An w a n c x) (hn : n ≤ 256) (hq : Sk An w e m2 d2 q) (h0 : 0 < m2) (hm2 : m2 ≤ 1000) : Calls Tryz.prog 62 #[.iface 116 (.agg (brc vs (.slice a n c))), .slice e m2 d2] w fun e w' => ∃ v', e = .returned v' ∧ RTh w (und q (br k x)) v' w' := by
 have hql := hq.len
 have hne : ¬ q = [] := fun e => by rw [e] at hql; simp at hql; omega
 rw [Zw6 hne]
 have hB : Bl w w := Bl.refl w
 refine Zaj Tryz.func62 rfl 40 rfl ?_
 show CW _ _ _ _ _ _ _ [(0, .iface 116 (.agg (brc vs (.slice a n c)))), (1, .slice e m2 d2)] _
 refine Zac ?_
 refine Zaa ?_
 refine rp 4 (.nilIface) ?_
 refine Zad ?_
 refine Zab ?_
 refine Zac ?_
 refine Zac ?_
 refine Zaa ?_
 refine rp 7 (.slice e m2 d2) ?_
 refine rp 8 (.int .i64 m2) ?_
 refine rv 9 (.bool false) (fun _ => Zal (v := .bool ((m2 : Int) == (0 : Int))) (by kernel_rfl) (congrArg Value.bool (beq_eq_false_iff_ne.2 (by omega)))) ?_
 refine Zad ?_
 refine Zab ?_
 refine Zaf (fun _ => by kernel_rfl) ?_
 refine Zam ?_
 refine Zab ?_
 refine Zac ?_
 refine Zac ?_
 refine Zaa ?_
 refine rp 11 (.iface 116 (.agg (brc vs (.slice a n c)))) ?_
 refine Zad ?_
 refine Zab ?_
 refine Zan ?_
 refine Zac ?_
 refine Zaa ?_
 refine rp 12 (.tuple #[.agg (#[.slice none 0 0, .slice none 0 0]), .bool false]) ?_
 refine rp 13 (.bool false) ?_
 refine rp 14 (.agg (#[.slice none 0 0, .slice none 0 0])) ?_
 refine Zad ?_
 refine Zab ?_
 refine Zaf (fun _ => by kernel_rfl) ?_
 refine Zac ?_
 refine Zaa ?_
 refine rp 24 (.tuple #[.agg (#[.slice none 0 0, .nilIface]), .bool false]) ?_
 refine rp 25 (.bool false) ?_
 refine rp 26 (.agg (#[.slice none 0 0, .nilIface])) ?_
 refine Zad ?_
 refine Zab ?_
 refine Zaf (fun _ => by kernel_rfl) ?_
 refine Zam ?_
 refine Zau ?_
 refine Zab ?_
 refine Zac ?_
 refine Zaa ?_
 refine rp 36 (.slice e m2 d2) ?_
 refine rp 37 (.iface 116 (.agg (brc vs (.slice a n c)))) ?_
 refine rp 38 (.agg #[.slice e m2 d2, .iface 116 (.agg (brc vs (.slice a n c)))]) ?_
 refine rp 39 (.iface 113 (.agg #[.slice e m2 d2, .iface 116 (.agg (brc vs (.slice a n c)))])) ?_
 refine rp 4 (.iface 113 (.agg #[.slice e m2 d2, .iface 116 (.agg (brc vs (.slice a n c)))])) ?_
 refine Zad ?_
 refine Zab ?_
 refine Zap ?_
 refine Zae (.iface 113 (.agg #[.slice e m2 d2, .iface 116 (.agg (brc vs (.slice a n c)))])) (fun _ => by kernel_rfl) ?_
 exact ⟨_, rfl, ⟨_, _, _, _, rfl, hq, by omega, ⟨_, _, _, _, rfl, hk, hx, hn⟩⟩, hB⟩
theorem Zdn {t : Pt} {e : Option Addr} {l : Nat} (h : ThA w t u) (hw : Wg t l) (hq : Sk An w e m2 d2 q) (hm2 : m2 ≤ 1000) : Calls Tryz.prog 62 #[u, .slice e m2 d2] w fun e w' => ∃ v', e = .returned v' ∧ RTh w (und q t) v' w' := by
 by_cases h0 : m2 = 0
 ·subst h0
  have hq0 : q = [] := List.eq_nil_of_length_eq_zero hq.len
  rw [hq0, Zuv]
  exact Zob h
 cases t with
 | no => obtain rfl : u = .nilIface := h; exact Zrr hq (by omega) hm2
 | st d => obtain ⟨rfl, hd, hdb⟩ := h; exact Zrq hd hdb hq (by omega) hm2
 | leaf p x => obtain ⟨a, n, c, b, m, d, rfl, hp, hx, hm, hn⟩ := h; exact Zm6 hp hx hm (by have := hp.len; have := hw.1; omega) hq (by omega) hm2
 | ext p t => obtain ⟨a, n, c, u, rfl, hp, hn, ht⟩ := h; exact Zoc hp (by have := hp.len; have := hw.1; omega) ht hq (by omega) hm2
 | br k x => obtain ⟨vs, a, n, c, rfl, hk, hx, hn⟩ := h; exact Zrs hk hx hn hq (by omega) hm2
set_option maxHeartbeats 1000000 in
theorem Zup {e : Option Addr} {l : Nat} (hw : Wg no l) (hq : Sk An w e m2 d2 q) (hl : l + q.length ≤ 64) (hqn : nibs q) (hy : Sk An w e2 m3 d3 y) (hy2 : m3 ≤ 256) : Calls Tryz.prog 40 #[.nilIface, .slice e m2 d2, .slice e2 m3 d3] w fun e w' => ∃ v', e = .returned v' ∧ RTh w (wit no q y) v' w' := by
 have hql := hq.len
 have hw9 := Zf8 (v := y) hw hl hqn
 unfold wit
 simp only
 have hB : Bl w w := Bl.refl w
 refine Zaj Tryz.func40 rfl 88 rfl ?_
 show CW _ _ _ _ _ _ _ [(0, .nilIface), (1, .slice e m2 d2), (2, .slice e2 m3 d3)] _
 refine Zac ?_
 refine Zaa ?_
 refine rp 6 (.nilIface) ?_
 refine Zad ?_
 refine Zab ?_
 refine Zac ?_
 refine Zac ?_
 refine Zaa ?_
 refine rp 13 (.nilIface) ?_
 refine Zad ?_
 refine Zab ?_
 refine Zan ?_
 refine Zac ?_
 refine Zaa ?_
 refine rp 14 (.tuple #[.agg (#[.slice none 0 0, .slice none 0 0]), .bool false]) ?_
 refine rp 15 (.bool false) ?_
 refine rp 16 (.agg (#[.slice none 0 0, .slice none 0 0])) ?_
 refine Zad ?_
 refine Zab ?_
 refine Zaf (fun _ => by kernel_rfl) ?_
 refine Zac ?_
 refine Zaa ?_
 refine rp 47 (.tuple #[.agg (#[.slice none 0 0, .nilIface]), .bool false]) ?_
 refine rp 48 (.bool false) ?_
 refine rp 49 (.agg (#[.slice none 0 0, .nilIface])) ?_
 refine Zad ?_
 refine Zab ?_
 refine Zaf (fun _ => by kernel_rfl) ?_
 refine Zac ?_
 refine Zaa ?_
 refine rp 76 (.tuple #[.agg (brc (fun _ => .nilIface) (.slice none 0 0)), .bool false]) ?_
 refine rp 77 (.bool false) ?_
 refine rp 78 (.agg (brc (fun _ => .nilIface) (.slice none 0 0))) ?_
 refine Zad ?_
 refine Zab ?_
 refine Zaf (fun _ => by kernel_rfl) ?_
 refine Zam ?_
 refine Zau ?_
 refine Zab ?_
 refine Zac ?_
 refine Zaa ?_
 refine rp 84 (.slice e m2 d2) ?_
 refine rp 85 (.slice e2 m3 d3) ?_
 refine rp 86 (.agg #[.slice e m2 d2, .slice e2 m3 d3]) ?_
 refine rp 87 (.iface 110 (.agg #[.slice e m2 d2, .slice e2 m3 d3])) ?_
 refine rp 6 (.iface 110 (.agg #[.slice e m2 d2, .slice e2 m3 d3])) ?_
 refine Zad ?_
 refine Zab ?_
 refine Zap ?_
 refine Zae (.iface 110 (.agg #[.slice e m2 d2, .slice e2 m3 d3])) (fun _ => by kernel_rfl) ?_
 exact ⟨_, rfl, ⟨_, _, _, _, _, _, rfl, hq, hy, hy2, by omega⟩, hB⟩
set_option maxHeartbeats 1000000 in
theorem Zuo {d : List Int} {e : Option Addr} {l : Nat} (hd : d.length = 32) (hw : Wg (st d) l) (hq : Sk An w e m2 d2 q) (hl : l + q.length ≤ 64) (hqn : nibs q) (hy : Sk An w e2 m3 d3 y) (hy2 : m3 ≤ 256) : Calls Tryz.prog 40 #[.iface 50 (.agg (B8 d)), .slice e m2 d2, .slice e2 m3 d3] w fun e w' => ∃ v', e = .returned v' ∧ RTh w (wit (st d) q y) v' w' := by
 have hql := hq.len
 have hw9 := Zf8 (v := y) hw hl hqn
 unfold wit
 simp only
 have hB : Bl w w := Bl.refl w
 refine Zaj Tryz.func40 rfl 88 rfl ?_
 show CW _ _ _ _ _ _ _ [(0, .iface 50 (.agg (B8 d))), (1, .slice e m2 d2), (2, .slice e2 m3 d3)] _
 refine Zac ?_
 refine Zaa ?_
 refine rp 6 (.nilIface) ?_
 refine Zad ?_
 refine Zab ?_
 refine Zac ?_
 refine Zac ?_
 refine Zaa ?_
 refine rp 13 (.iface 50 (.agg (B8 d))) ?_
 refine Zad ?_
 refine Zab ?_
 refine Zan ?_
 refine Zac ?_
 refine Zaa ?_
 refine rp 14 (.tuple #[.agg (#[.slice none 0 0, .slice none 0 0]), .bool false]) ?_
 refine rp 15 (.bool false) ?_
 refine rp 16 (.agg (#[.slice none 0 0, .slice none 0 0])) ?_
 refine Zad ?_
 refine Zab ?_
 refine Zaf (fun _ => by kernel_rfl) ?_
 refine Zac ?_
 refine Zaa ?_
 refine rp 47 (.tuple #[.agg (#[.slice none 0 0, .nilIface]), .bool false]) ?_
 refine rp 48 (.bool false) ?_
 refine rp 49 (.agg (#[.slice none 0 0, .nilIface])) ?_
 refine Zad ?_
 refine Zab ?_
 refine Zaf (fun _ => by kernel_rfl) ?_
 refine Zac ?_
 refine Zaa ?_
 refine rp 76 (.tuple #[.agg (brc (fun _ => .nilIface) (.slice none 0 0)), .bool false]) ?_
 refine rp 77 (.bool false) ?_
 refine rp 78 (.agg (brc (fun _ => .nilIface) (.slice none 0 0))) ?_
 refine Zad ?_
 refine Zab ?_
 refine Zaf (fun _ => by kernel_rfl) ?_
 refine Zam ?_
 refine Zau ?_
 refine Zab ?_
 refine Zac ?_
 refine Zaa ?_
 refine rp 84 (.slice e m2 d2) ?_
 refine rp 85 (.slice e2 m3 d3) ?_
 refine rp 86 (.agg #[.slice e m2 d2, .slice e2 m3 d3]) ?_
 refine rp 87 (.iface 110 (.agg #[.slice e m2 d2, .slice e2 m3 d3])) ?_
 refine rp 6 (.iface 110 (.agg #[.slice e m2 d2, .slice e2 m3 d3])) ?_
 refine Zad ?_
 refine Zab ?_
 refine Zap ?_
 refine Zae (.iface 110 (.agg #[.slice e m2 d2, .slice e2 m3 d3])) (fun _ => by kernel_rfl) ?_
 exact ⟨_, rfl, ⟨_, _, _, _, _, _, rfl, hq, hy, hy2, by omega⟩, hB⟩
set_option maxHeartbeats 1000000 in
theorem Zn3 {e : Option Addr} {l : Nat} (hp : Sk An w a n c p) (hx : Sk An w b m d x) (hm : m ≤ 256) (hn : n ≤ 140737488351232) (hw : Wg (leaf p x) l) (hq : Sk An w e m2 d2 q) (hl : l + q.length ≤ 64) (hqn : nibs q) (hy : Sk An w e2 m3 d3 y) (hy2 : m3 ≤ 256) : Calls Tryz.prog 40 #[.iface 110 (.agg #[.slice a n c, .slice b m d]), .slice e m2 d2, .slice e2 m3 d3] w fun e w' => ∃ v', e = .returned v' ∧ RTh w (wit (leaf p x) q y) v' w' := by
 have hql := hq.len
 have hw9 := Zf8 (v := y) hw hl hqn
 have hpl := hp.len
 have hcl := Ni.com_le p q
 have hwl := hw.1
 unfold wit
 simp only
 have hB : Bl w w := Bl.refl w
 refine Zaj Tryz.func40 rfl 88 rfl ?_
 show CW _ _ _ _ _ _ _ [(0, .iface 110 (.agg #[.slice a n c, .slice b m d])), (1, .slice e m2 d2), (2, .slice e2 m3 d3)] _
 refine Zac ?_
 refine Zaa ?_
 refine rp 6 (.nilIface) ?_
 refine Zad ?_
 refine Zab ?_
 refine Zac ?_
 refine Zac ?_
 refine Zaa ?_
 refine rp 13 (.iface 110 (.agg #[.slice a n c, .slice b m d])) ?_
 refine Zad ?_
 refine Zab ?_
 refine Zan ?_
 refine Zac ?_
 refine Zaa ?_
 refine rp 14 (.tuple #[.agg #[.slice a n c, .slice b m d], .bool true]) ?_
 refine rp 15 (.bool true) ?_
 refine rp 16 (.agg #[.slice a n c, .slice b m d]) ?_
 refine Zad ?_
 refine Zab ?_
 refine Zai (fun _ => by kernel_rfl) ?_
 refine Zac ?_
 refine Zaa ?_
 refine Zar 7 (#[.slice none 0 0, .slice none 0 0]) 110 (fun _ => by kernel_rfl) (fun _ => by kernel_rfl) ?_
 intro w1 g2 hn3
 have hr4 : Rw g2 w1 (#[.slice none 0 0, .slice none 0 0]) 110 := hn3.row
 refine Zav g2 (#[.slice a n c, .slice b m d]) (fun _ => by kernel_rfl) (fun _ => Zao 110 _ _ _ _ _ 110 rfl (by kernel_rfl) (by kernel_rfl) hr4 (by kernel_rfl) (by kernel_rfl) (by kernel_rfl)) ?_
 intro w5 hp6
 replace hn3 := hn3.put hp6
 clear hr4
 have hzg2 : w.heap.size ≤ g2 := by have := hB.size; have := hn3.hg; omega
 replace hB := hB.go hn3.below
 replace hp := hp.go hn3.below
 replace hx := hx.go hn3.below
 replace hq := hq.go hn3.below
 replace hy := hy.go hn3.below
 have hr8 : Rw g2 w5 (#[.slice a n c, .slice b m d]) 110 := hn3.row
 refine Zad ?_
 refine Zab ?_
 refine Zac ?_
 refine Zac ?_
 refine Zaa ?_
 refine rp 17 (.pointer (some ⟨g2, 0, none⟩)) ?_
 refine rv 18 (.slice a n c) (fun _ => Zag 29 _ ⟨g2, 0, none⟩ _ _ rfl (by kernel_rfl) (by rw [cell_of_row _ _ _ _ _ _ hr8]; rfl) Tryz.underlying29 rfl) ?_
 refine rp 19 (.slice e m2 d2) ?_
 refine Zak 20 64 #[.slice a n c, .slice e m2 d2] (fun _ => by kernel_rfl) (fun _ => by kernel_rfl) (R := fun u w' => u = .bool (decide (p = q)) ∧ Bl (w5) w') (Zg3 hp hq) ?_
 rintro _ w9 ⟨rfl, hb10⟩
 replace hB := hB.go hb10
 replace hp := hp.go hb10
 replace hx := hx.go hb10
 replace hq := hq.go hb10
 replace hy := hy.go hb10
 replace hr8 := hr8.go hb10
 refine Zad ?_
 refine Zab ?_
 cases hq11 : (decide (p = q)) with
 | true =>
  rw [if_pos (of_decide_eq_true hq11)]
  refine Zai (fun _ => by kernel_rfl) ?_
  refine Zac ?_
  refine Zaa ?_
  refine rp 21 (.slice e m2 d2) ?_
  refine rp 22 (.slice e2 m3 d3) ?_
  refine rp 23 (.agg #[.slice e m2 d2, .slice e2 m3 d3]) ?_
  refine rp 24 (.iface 110 (.agg #[.slice e m2 d2, .slice e2 m3 d3])) ?_
  refine rp 6 (.iface 110 (.agg #[.slice e m2 d2, .slice e2 m3 d3])) ?_
  refine Zad ?_
  refine Zab ?_
  refine Zap ?_
  refine Zah ?_
  refine Zaq ?_
  refine Zah ?_
  refine Zae (.iface 110 (.agg #[.slice e m2 d2, .slice e2 m3 d3])) (fun _ => by kernel_rfl) ?_
  exact ⟨_, rfl, ⟨_, _, _, _, _, _, rfl, hq, hy, hy2, by omega⟩, hB⟩
 | false =>
  rw [if_neg (of_decide_eq_false hq11)]
  refine Zaf (fun _ => by kernel_rfl) ?_
  refine Zam ?_
  refine Zab ?_
  refine Zac ?_
  refine Zaa ?_
  refine rp 25 (.pointer (some ⟨g2, 0, none⟩)) ?_
  refine rv 26 (.slice a n c) (fun _ => Zag 29 _ ⟨g2, 0, none⟩ _ _ rfl (by kernel_rfl) (by rw [cell_of_row _ _ _ _ _ _ hr8]; rfl) Tryz.underlying29 rfl) ?_
  refine rp 27 (.slice e m2 d2) ?_
  refine Zak 28 65 #[.slice a n c, .slice e m2 d2] (fun _ => by kernel_rfl) (fun _ => by kernel_rfl) (R := RVl w9 (.int .i64 ((Ni.com p q : Nat) : Int))) (Zka hp hq (by omega) (by omega)) ?_
  rintro _ w12 ⟨rfl, hb13⟩
  replace hB := hB.go hb13
  replace hp := hp.go hb13
  replace hx := hx.go hb13
  replace hq := hq.go hb13
  replace hy := hy.go hb13
  replace hr8 := hr8.go hb13
  refine rp 8 (.int .i64 ((Ni.com p q : Nat) : Int)) ?_
  refine Zad ?_
  refine Zab ?_
  refine Zac ?_
  refine Zbd (fun v => Rw g2 v (#[.slice a n c, .slice b m d]) 110) (by kernel_rfl) (hr8) ?_
  replace hB := hB.go (Below.refl _ _).drew
  replace hp := hp.go (Below.refl _ _).drew
  replace hx := hx.go (Below.refl _ _).drew
  replace hq := hq.go (Below.refl _ _).drew
  replace hy := hy.go (Below.refl _ _).drew
  replace hr8 := hr8.go (Below.refl _ _).drew
  refine dt 0 29 (.agg (brc (fun _ => .nilIface) (.slice none 0 0))) (fun v hv => (fun _ => by kernel_rfl)) hr8 ?_
  refine dt 1 30 (.pointer (some ⟨g2, 0, none⟩)) (fun v hv _ => by kernel_rfl) hr8 ?_
  refine dt 2 31 (.slice a n c) (fun v hv _ => Zag 29 _ ⟨g2, 0, none⟩ _ _ rfl (by kernel_rfl) (by rw [cell_of_row _ _ _ _ _ _ hv]; rfl) Tryz.underlying29 rfl) hr8 ?_
  refine dt 3 32 (.int .i64 ((Ni.com p q : Nat) : Int)) (fun v hv _ => by kernel_rfl) hr8 ?_
  obtain ⟨a14, n15, c16, hr17, hs18⟩ := hp.cutFrom (Ni.com p q) (by have := hp.len; omega)
  refine dt 4 33 (.slice a14 n15 c16) (fun v hv => (fun _ => hr17 _ _ _ _ _ _ rfl (by kernel_rfl) (by kernel_rfl) rfl)) hr8 ?_
  refine dt 5 34 (.pointer (some ⟨g2, 1, none⟩)) (fun v hv _ => by kernel_rfl) hr8 ?_
  refine dt 6 35 (.slice b m d) (fun v hv _ => Zag 29 _ ⟨g2, 1, none⟩ _ _ rfl (by kernel_rfl) (by rw [cell_of_row _ _ _ _ _ _ hv]; rfl) Tryz.underlying29 rfl) hr8 ?_
  refine dt 8 37 (.slice e m2 d2) (fun v hv _ => by kernel_rfl) hr8 ?_
  refine dt 9 38 (.int .i64 ((Ni.com p q : Nat) : Int)) (fun v hv _ => by kernel_rfl) hr8 ?_
  obtain ⟨a19, n20, c21, hr22, hs23⟩ := hq.cutFrom (Ni.com p q) (by have := hq.len; omega)
  refine dt 10 39 (.slice a19 n20 c21) (fun v hv => (fun _ => hr22 _ _ _ _ _ _ rfl (by kernel_rfl) (by kernel_rfl) rfl)) hr8 ?_
  refine dt 11 40 (.slice e2 m3 d3) (fun v hv _ => by kernel_rfl) hr8 ?_
  refine dt 14 43 (.slice e m2 d2) (fun v hv _ => by kernel_rfl) hr8 ?_
  refine dt 15 44 (.int .i64 ((Ni.com p q : Nat) : Int)) (fun v hv _ => by kernel_rfl) hr8 ?_
  obtain ⟨a24, n25, c26, hr27, hs28⟩ := hq.cutTo (Ni.com p q) (by have := hq.len; omega)
  refine dt 16 45 (.slice a24 n25 c26) (fun v hv => (fun _ => hr27 _ _ _ _ _ _ rfl (by kernel_rfl) (by kernel_rfl) rfl)) hr8 ?_
  refine Zas [7] (by kernel_rfl) (by simp) ?_
  refine Za5 7 36 66 #[.agg (brc (fun _ => .nilIface) (.slice none 0 0)), .slice a14 n15 c16, .slice b m d] rfl (fun _ => by kernel_rfl) (fun _ => by kernel_rfl) (R := RBr w12.drew (Pt.plus nk ([]) (p.drop (Ni.com p q)) x)) (Zfz (t := .no) ⟨_, _, _, _, _, _, rfl, rfl, (KA.none _), (Sk.nil _ _), (by omega)⟩ hs18 (Zbh hw.2 _) (by have := hs18.len; rw [List.length_drop] at this; omega) hx hm) (fun u w' h9 => hr8.go h9.2) ?_ Zaz
  rintro _ w39 ⟨⟨k29, x30, vs31, a32, n33, c34, he35, rfl, hk36, hx37, hn38⟩, hb40⟩
  replace hB := hB.go hb40
  replace hp := hp.go hb40
  replace hx := hx.go hb40
  replace hq := hq.go hb40
  replace hy := hy.go hb40
  replace hr8 := hr8.go hb40
  replace hs18 := hs18.go hb40
  replace hs23 := hs23.go hb40
  replace hs28 := hs28.go hb40
  refine Zas [12] (by kernel_rfl) (by simp) ?_
  refine Za5 12 41 66 #[.agg (brc vs31 (.slice a32 n33 c34)), .slice a19 n20 c21, .slice e2 m3 d3] rfl (fun _ => by kernel_rfl) (fun _ => by kernel_rfl) (R := RBr w39 (Pt.plus k29 x30 (q.drop (Ni.com p q)) y)) (Zfz (t := .no) ⟨_, _, _, _, _, _, rfl, rfl, hk36, hx37, hn38⟩ hs23 (Zbh hqn _) (by have := hs23.len; rw [List.length_drop] at this; omega) hy hy2) (fun u w' h9 => hr8.go h9.2) ?_ Zaz
  rintro _ w51 ⟨⟨k41, x42, vs43, a44, n45, c46, he47, rfl, hk48, hx49, hn50⟩, hb52⟩
  replace hB := hB.go hb52
  replace hp := hp.go hb52
  replace hx := hx.go hb52
  replace hq := hq.go hb52
  replace hy := hy.go hb52
  replace hr8 := hr8.go hb52
  replace hs18 := hs18.go hb52
  replace hs23 := hs23.go hb52
  replace hs28 := hs28.go hb52
  replace hk36 := hk36.go hb52
  replace hx37 := hx37.go hb52
  refine dt 13 42 (.iface 116 (.agg (brc vs43 (.slice a44 n45 c46)))) (fun v hv _ => by kernel_rfl) hr8 ?_
  refine Zas [17] (by kernel_rfl) (by simp) ?_
  have hu2 : Wg (br k41 x42) (l + Ni.com p q) := by rw [← he47]; have := Zl0 (l := l + Ni.com p q) (v := x) (v' := y) (x := []) (Zsm _) (q := p.drop (Ni.com p q)) (by rw [List.length_drop]; omega) (Zbh hw.2 _) (q' := q.drop (Ni.com p q)) (by rw [List.length_drop]; omega) (Zbh hqn _); rw [he35] at this; exact this
  refine Za5 17 46 62 #[.iface 116 (.agg (brc vs43 (.slice a44 n45 c46))), .slice a24 n25 c26] rfl (fun _ => by kernel_rfl) (fun _ => by kernel_rfl) (R := RTh w51 (und (q.take (Ni.com p q)) (br k41 x42))) (Zdn (t := br k41 x42) (l := l + Ni.com p q) ⟨_, _, _, _, rfl, hk48, hx49, hn50⟩ hu2 hs28 ((by have := hs28.len; rw [List.length_take] at this; omega))) (fun u w' h9 => hr8.go h9.2) ?_ Zaz
  rintro u53 w54 ⟨ht55, hb56⟩
  replace hB := hB.go hb56
  replace hp := hp.go hb56
  replace hx := hx.go hb56
  replace hq := hq.go hb56
  replace hy := hy.go hb56
  replace hr8 := hr8.go hb56
  replace hs18 := hs18.go hb56
  replace hs23 := hs23.go hb56
  replace hs28 := hs28.go hb56
  replace hk36 := hk36.go hb56
  replace hx37 := hx37.go hb56
  replace hk48 := hk48.go hb56
  replace hx49 := hx49.go hb56
  refine dt 18 6 (u53) (fun v hv _ => by kernel_rfl) hr8 ?_
  refine Za6 (by kernel_rfl) ?_
  refine Zab ?_
  refine Zap ?_
  refine Zaq ?_
  refine Zah ?_
  refine Zae (u53) (fun _ => by kernel_rfl) ?_
  rw [he35]
  have e9 := he47
  simp only [plusT] at *
  rw [e9]
  exact ⟨_, rfl, ht55, hB⟩
set_option maxHeartbeats 1000000 in
theorem Zrk {t : Pt} {e : Option Addr} {l : Nat} (hp : Sk An w a n c p) (hn : n ≤ 140737488351232) (ht : ThA w t u) (hw : Wg (ext p t) l) (hq : Sk An w e m2 d2 q) (hl : l + q.length ≤ 64) (hqn : nibs q) (hy : Sk An w e2 m3 d3 y) (hy2 : m3 ≤ 256) (hne : Ni.com p q ≠ p.length) : Calls Tryz.prog 40 #[.iface 113 (.agg #[.slice a n c, u]), .slice e m2 d2, .slice e2 m3 d3] w fun e w' => ∃ v', e = .returned v' ∧ RTh w (wit (ext p t) q y) v' w' := by
 have hql := hq.len
 have hw9 := Zf8 (v := y) hw hl hqn
 have hpl := hp.len
 have hcl := Ni.com_le p q
 have hwl := hw.1
 unfold wit
 simp only
 have hB : Bl w w := Bl.refl w
 refine Zaj Tryz.func40 rfl 88 rfl ?_
 show CW _ _ _ _ _ _ _ [(0, .iface 113 (.agg #[.slice a n c, u])), (1, .slice e m2 d2), (2, .slice e2 m3 d3)] _
 have hcp : Ni.com p q < n := by omega
 refine Zac ?_
 refine Zaa ?_
 refine rp 6 (.nilIface) ?_
 refine Zad ?_
 refine Zab ?_
 refine Zac ?_
 refine Zac ?_
 refine Zaa ?_
 refine rp 13 (.iface 113 (.agg #[.slice a n c, u])) ?_
 refine Zad ?_
 refine Zab ?_
 refine Zan ?_
 refine Zac ?_
 refine Zaa ?_
 refine rp 14 (.tuple #[.agg (#[.slice none 0 0, .slice none 0 0]), .bool false]) ?_
 refine rp 15 (.bool false) ?_
 refine rp 16 (.agg (#[.slice none 0 0, .slice none 0 0])) ?_
 refine Zad ?_
 refine Zab ?_
 refine Zaf (fun _ => by kernel_rfl) ?_
 refine Zac ?_
 refine Zaa ?_
 refine rp 47 (.tuple #[.agg #[.slice a n c, u], .bool true]) ?_
 refine rp 48 (.bool true) ?_
 refine rp 49 (.agg #[.slice a n c, u]) ?_
 refine Zad ?_
 refine Zab ?_
 refine Zai (fun _ => by kernel_rfl) ?_
 refine Zac ?_
 refine Zaa ?_
 refine Zar 9 (#[.slice none 0 0, .nilIface]) 113 (fun _ => by kernel_rfl) (fun _ => by kernel_rfl) ?_
 intro w1 g2 hn3
 have hr4 : Rw g2 w1 (#[.slice none 0 0, .nilIface]) 113 := hn3.row
 refine Zav g2 (#[.slice a n c, u]) (fun _ => by kernel_rfl) (fun _ => Zao 113 _ _ _ _ _ 113 rfl (by kernel_rfl) (by kernel_rfl) hr4 (by kernel_rfl) (by kernel_rfl) (one2 rfl ht.one)) ?_
 intro w5 hp6
 replace hn3 := hn3.put hp6
 clear hr4
 have hzg2 : w.heap.size ≤ g2 := by have := hB.size; have := hn3.hg; omega
 replace hB := hB.go hn3.below
 replace hp := hp.go hn3.below
 replace ht := ht.go hn3.below
 replace hq := hq.go hn3.below
 replace hy := hy.go hn3.below
 have hr8 : Rw g2 w5 (#[.slice a n c, u]) 113 := hn3.row
 refine Zad ?_
 refine Zab ?_
 refine Zac ?_
 refine Zaa ?_
 refine rp 50 (.pointer (some ⟨g2, 0, none⟩)) ?_
 refine rv 51 (.slice a n c) (fun _ => Zag 29 _ ⟨g2, 0, none⟩ _ _ rfl (by kernel_rfl) (by rw [cell_of_row _ _ _ _ _ _ hr8]; rfl) Tryz.underlying29 rfl) ?_
 refine rp 52 (.slice e m2 d2) ?_
 refine Zak 53 65 #[.slice a n c, .slice e m2 d2] (fun _ => by kernel_rfl) (fun _ => by kernel_rfl) (R := RVl w5 (.int .i64 ((Ni.com p q : Nat) : Int))) (Zka hp hq (by omega) (by omega)) ?_
 rintro _ w9 ⟨rfl, hb10⟩
 replace hB := hB.go hb10
 replace hp := hp.go hb10
 replace ht := ht.go hb10
 replace hq := hq.go hb10
 replace hy := hy.go hb10
 replace hr8 := hr8.go hb10
 refine rp 10 (.int .i64 ((Ni.com p q : Nat) : Int)) ?_
 refine Zad ?_
 refine Zab ?_
 refine Zac ?_
 have hcs0 : ∀ {gp op : Nat}, a = some ⟨gp, op, none⟩ → gp < (w9).heap.size := fun e => by obtain ⟨g0, o0, e0, _, _, hc0⟩ := ag_head hp.ag (by omega); rw [e] at e0; cases e0; exact block_lt_of_cell (hc0 0 (by omega))
 refine Zaa ?_
 refine Zar 11 (brc (fun _ => .nilIface) (.slice none 0 0)) 116 (fun _ => by kernel_rfl) (fun _ => by kernel_rfl) ?_
 intro w11 g12 hn13
 have hlg2g12 : g2 < g12 := by have := hr8.lt; have := hn13.hg; omega
 have hzg12 : w.heap.size ≤ g12 := by have := hB.size; have := hn13.hg; omega
 replace hB := hB.go hn13.below
 replace hp := hp.go hn13.below
 replace ht := ht.go hn13.below
 replace hq := hq.go hn13.below
 replace hy := hy.go hn13.below
 replace hr8 := hr8.go hn13.below
 have hr14 : Rw g12 w11 (brc (fun _ => .nilIface) (.slice none 0 0)) 116 := hn13.row
 refine Zad ?_
 refine Zab ?_
 refine Zac ?_
 obtain ⟨gp, op, rfl, _, _, hcs⟩ := ag_head hp.ag (by omega)
 have hcc := hcs (Ni.com p q) hcp
 have hi15 := hw.2.1 (p.getD (Ni.com p q) 0) (by rw [List.getD, List.getElem?_eq_getElem (by omega)]; exact List.getElem_mem _)
 obtain ⟨i, hie⟩ : ∃ i, p.getD (Ni.com p q) 0 = i := ⟨_, rfl⟩
 rw [hie] at hcc hi15 ⊢
 have hit : i.toNat < 16 := by omega
 have hpl11 : gp < g12 := by have : gp < _ := hcs0 rfl; have := hn13.hg; omega
 refine Zbd (fun v => Rw g2 v (#[.slice (some ⟨gp, op, none⟩) n c, u]) 113 ∧ v.cell? ⟨gp, op + Ni.com p q, none⟩ = some (.int .u8 i)) (by kernel_rfl) (⟨hr8, hcc⟩) ?_
 replace hB := hB.go (Below.refl _ _).drew
 replace hp := hp.go (Below.refl _ _).drew
 replace ht := ht.go (Below.refl _ _).drew
 replace hq := hq.go (Below.refl _ _).drew
 replace hy := hy.go (Below.refl _ _).drew
 replace hr8 := hr8.go (Below.refl _ _).drew
 replace hr14 := hr14.go (Below.refl _ _).drew
 replace hcc := Zdh hcc (Below.refl _ _).drew
 refine dt 0 54 (.pointer (some ⟨g2, 0, none⟩)) (fun v hv _ => by kernel_rfl) ⟨hr8, hcc⟩ ?_
 refine dt 1 55 (.slice (some ⟨gp, op, none⟩) n c) (fun v hv _ => Zag 29 _ ⟨g2, 0, none⟩ _ _ rfl (by kernel_rfl) (by rw [cell_of_row _ _ _ _ _ _ hv.1]; rfl) Tryz.underlying29 rfl) ⟨hr8, hcc⟩ ?_
 refine dt 2 56 (.int .i64 ((Ni.com p q : Nat) : Int)) (fun v hv _ => by kernel_rfl) ⟨hr8, hcc⟩ ?_
 refine dt 3 57 (.pointer (some ⟨gp, op + Ni.com p q * 1, none⟩)) (fun v hv _ => Za0 29 _ _ gp op (Ni.com p q) n c 1 5 rfl (by kernel_rfl) (by kernel_rfl) hcp Tryz.underlying29 (by kernel_rfl)) ⟨hr8, hcc⟩ ?_
 refine dt 4 58 (.int .u8 i) (fun v hv _ => Zag 5 _ ⟨gp, op + Ni.com p q * 1, none⟩ _ _ rfl (by kernel_rfl) (by rw [Nat.mul_one]; exact hv.2) Tryz.underlying5 rfl) ⟨hr8, hcc⟩ ?_
 refine dt 5 59 (.agg (#[.slice (some ⟨gp, op, none⟩) n c, u])) (fun v hv _ => Za2 113 _ _ _ _ _ _ rfl (by kernel_rfl) hv.1 Tryz.underlying113 rfl (by kernel_rfl)) ⟨hr8, hcc⟩ ?_
 refine dt 6 60 (.int .i64 ((Ni.com p q : Nat) : Int)) (fun v hv _ => by kernel_rfl) ⟨hr8, hcc⟩ ?_
 refine dt 7 61 (.int .i64 ((Ni.com p q + 1 : Nat) : Int)) (fun v hv => (fun _ => Zal (v := .int .i64 (IntKind.i64.wrap (((Ni.com p q : Nat) : Int) + (1 : Int)))) (by kernel_rfl) (congrArg (Value.int .i64) ((Zbc (by omega) (by omega)).trans (by omega))))) ⟨hr8, hcc⟩ ?_
 refine dt 9 63 (.pointer (some ⟨g12, 0, none⟩)) (fun v hv _ => by kernel_rfl) ⟨hr8, hcc⟩ ?_
 refine Zas [8] (by kernel_rfl) (by simp) ?_
 refine Za5 8 62 67 #[.agg (#[.slice (some ⟨gp, op, none⟩) n c, u]), .int .i64 ((Ni.com p q + 1 : Nat) : Int)] rfl (fun _ => by kernel_rfl) (fun _ => by kernel_rfl) (R := RTh w11.drew (bhd p t (Ni.com p q + 1))) (behind_any hp (by omega) ht (by omega)) (fun u w' h9 => ⟨hr8.go h9.2, Zdh hcc h9.2⟩) ?_ Zaz
 rintro u15 w16 ⟨ht17, hb18⟩
 replace hB := hB.go hb18
 replace hp := hp.go hb18
 replace ht := ht.go hb18
 replace hq := hq.go hb18
 replace hy := hy.go hb18
 replace hr8 := hr8.go hb18
 replace hr14 := hr14.go hb18
 replace hcc := Zdh hcc hb18
 refine Zi2 10 64 (.pointer (some ⟨g12, 0 + i.toNat * 1, none⟩)) rfl (by kernel_rfl) (fun _ _ _ h => h) (fun _ => by kernel_rfl) (fun v hv => (fun _ => Zb5 114 _ _ g12 0 i.toNat 16 1 47 rfl (by kernel_rfl) (by show Value.int .u8 i = _; rw [Int.toNat_of_nonneg hi15.1]) hit (by omega) Tryz.underlying114 (by kernel_rfl))) ⟨hr8, hcc⟩ ?_
 refine Zas [11] (by kernel_rfl) (by simp) ?_
 refine Zq6 11 g12 (0 + i.toNat * 1) (u15) rfl (fun _ => by kernel_rfl) (fun _ => Zbr 47 _ _ g12 _ _ 116 _ hr14 rfl (by kernel_rfl) (by kernel_rfl) (by show 0 + i.toNat * 1 < 17; omega) ht17.cells ht17.one (by kernel_rfl)) (fun w' hs => ⟨hr8.past hs.touch (by omega), (World.cell?_of_block (hs.other (k := gp) (by omega))).trans hcc⟩) ?_ Zaz
 intro w19 hs20
 have hnt21 := Nt.rows hr14 (Zdi (KA.none w)) hs20.touch
 replace hB := hB.tou hs20.touch hzg12
 replace hp := hp.nt hnt21
 replace ht := ht.nt hnt21
 replace hq := hq.nt hnt21
 replace hy := hy.nt hnt21
 replace hr8 := hr8.past hs20.touch (by omega)
 replace ht17 := ht17.nt hnt21
 replace hr14 := hr14.set (cells' := (brc (updv (fun _ => .nilIface) i.toNat u15) (.slice none 0 0))) hs20 (by rw [Nat.zero_add, Nat.mul_one]; exact Zg8 _ _ _ _ hit)
 have hk9 : KA w19 (Pt.upd nk i.toNat (bhd p t (Ni.com p q + 1))) _ := (KA.none w19).put (i := i.toNat) ht17
 refine Za6 (by kernel_rfl) ?_
 refine Zab ?_
 refine Zac ?_
 refine Zbd (fun v => Rw g12 v (brc (updv (fun _ => .nilIface) i.toNat u15) (.slice none 0 0)) 116) (by kernel_rfl) (hr14) ?_
 replace hB := hB.go (Below.refl _ _).drew
 replace hp := hp.go (Below.refl _ _).drew
 replace ht := ht.go (Below.refl _ _).drew
 replace hq := hq.go (Below.refl _ _).drew
 replace hy := hy.go (Below.refl _ _).drew
 replace hr8 := hr8.go (Below.refl _ _).drew
 replace hr14 := hr14.go (Below.refl _ _).drew
 replace ht17 := ht17.go (Below.refl _ _).drew
 replace hk9 := hk9.go (Below.refl _ _).drew
 refine dt 0 65 (.agg (brc (updv (fun _ => .nilIface) i.toNat u15) (.slice none 0 0))) (fun v hv _ => Za2 116 _ _ _ _ _ _ rfl (by kernel_rfl) hv Tryz.underlying116 rfl (by kernel_rfl)) hr14 ?_
 refine dt 1 66 (.slice e m2 d2) (fun v hv _ => by kernel_rfl) hr14 ?_
 refine dt 2 67 (.int .i64 ((Ni.com p q : Nat) : Int)) (fun v hv _ => by kernel_rfl) hr14 ?_
 obtain ⟨a22, n23, c24, hr25, hs26⟩ := hq.cutFrom (Ni.com p q) (by have := hq.len; omega)
 refine dt 3 68 (.slice a22 n23 c24) (fun v hv => (fun _ => hr25 _ _ _ _ _ _ rfl (by kernel_rfl) (by kernel_rfl) rfl)) hr14 ?_
 refine dt 4 69 (.slice e2 m3 d3) (fun v hv _ => by kernel_rfl) hr14 ?_
 refine dt 7 72 (.slice e m2 d2) (fun v hv _ => by kernel_rfl) hr14 ?_
 refine dt 8 73 (.int .i64 ((Ni.com p q : Nat) : Int)) (fun v hv _ => by kernel_rfl) hr14 ?_
 obtain ⟨a27, n28, c29, hr30, hs31⟩ := hq.cutTo (Ni.com p q) (by have := hq.len; omega)
 refine dt 9 74 (.slice a27 n28 c29) (fun v hv => (fun _ => hr30 _ _ _ _ _ _ rfl (by kernel_rfl) (by kernel_rfl) rfl)) hr14 ?_
 refine Zas [5] (by kernel_rfl) (by simp) ?_
 refine Za5 5 70 66 #[.agg (brc (updv (fun _ => .nilIface) i.toNat u15) (.slice none 0 0)), .slice a22 n23 c24, .slice e2 m3 d3] rfl (fun _ => by kernel_rfl) (fun _ => by kernel_rfl) (R := RBr w19.drew (Pt.plus (Pt.upd nk i.toNat (bhd p t (Ni.com p q + 1))) ([]) (q.drop (Ni.com p q)) y)) (Zfz (t := .no) ⟨_, _, _, _, _, _, rfl, rfl, hk9, (Sk.nil _ _), (by omega)⟩ hs26 (Zbh hqn _) (by have := hs26.len; rw [List.length_drop] at this; omega) hy hy2) (fun u w' h9 => hr14.go h9.2) ?_ Zaz
 rintro _ w42 ⟨⟨k32, x33, vs34, a35, n36, c37, he38, rfl, hk39, hx40, hn41⟩, hb43⟩
 replace hB := hB.go hb43
 replace hp := hp.go hb43
 replace ht := ht.go hb43
 replace hq := hq.go hb43
 replace hy := hy.go hb43
 replace hr8 := hr8.go hb43
 replace hr14 := hr14.go hb43
 replace ht17 := ht17.go hb43
 replace hk9 := hk9.go hb43
 replace hs26 := hs26.go hb43
 replace hs31 := hs31.go hb43
 refine dt 6 71 (.iface 116 (.agg (brc vs34 (.slice a35 n36 c37)))) (fun v hv _ => by kernel_rfl) hr14 ?_
 refine Zas [10] (by kernel_rfl) (by simp) ?_
 have hu2 : Wg (br k32 x33) (l + Ni.com p q) := by rw [← he38]; exact Zgk (Zd7 (Zsm _) (by have := Zug (n := Ni.com p q + 1) hw.2.2.2 hw.1 hw.2.1 (by omega); rw [show l + Ni.com p q + 1 = l + (Ni.com p q + 1) by omega]; exact this)) (by rw [List.length_drop]; omega) (Zbh hqn _)
 refine Za5 10 75 62 #[.iface 116 (.agg (brc vs34 (.slice a35 n36 c37))), .slice a27 n28 c29] rfl (fun _ => by kernel_rfl) (fun _ => by kernel_rfl) (R := RTh w42 (und (q.take (Ni.com p q)) (br k32 x33))) (Zdn (t := br k32 x33) (l := l + Ni.com p q) ⟨_, _, _, _, rfl, hk39, hx40, hn41⟩ hu2 hs31 ((by have := hs31.len; rw [List.length_take] at this; omega))) (fun u w' h9 => hr14.go h9.2) ?_ Zaz
 rintro u44 w45 ⟨ht46, hb47⟩
 replace hB := hB.go hb47
 replace hp := hp.go hb47
 replace ht := ht.go hb47
 replace hq := hq.go hb47
 replace hy := hy.go hb47
 replace hr8 := hr8.go hb47
 replace hr14 := hr14.go hb47
 replace ht17 := ht17.go hb47
 replace hk9 := hk9.go hb47
 replace hs26 := hs26.go hb47
 replace hs31 := hs31.go hb47
 replace hk39 := hk39.go hb47
 replace hx40 := hx40.go hb47
 refine dt 11 6 (u44) (fun v hv _ => by kernel_rfl) hr14 ?_
 refine Za6 (by kernel_rfl) ?_
 refine Zab ?_
 refine Zap ?_
 refine Zaq ?_
 refine Zah ?_
 refine Zae (u44) (fun _ => by kernel_rfl) ?_
 rw [he38]
 exact ⟨_, rfl, ht46, hB⟩
set_option maxHeartbeats 1000000 in
theorem Zuq {e : Option Addr} {l : Nat} (hk : KA w k vs) (hx : Sk An w a n c x) (hn : n ≤ 256) (hw : Wg (br k x) l) (hq : Sk An w e m2 d2 q) (hl : l + q.length ≤ 64) (hqn : nibs q) (hy : Sk An w e2 m3 d3 y) (hy2 : m3 ≤ 256) : Calls Tryz.prog 40 #[.iface 116 (.agg (brc vs (.slice a n c))), .slice e m2 d2, .slice e2 m3 d3] w fun e w' => ∃ v', e = .returned v' ∧ RTh w (wit (br k x) q y) v' w' := by
 have hql := hq.len
 have hw9 := Zf8 (v := y) hw hl hqn
 unfold wit
 simp only
 have hB : Bl w w := Bl.refl w
 refine Zaj Tryz.func40 rfl 88 rfl ?_
 show CW _ _ _ _ _ _ _ [(0, .iface 116 (.agg (brc vs (.slice a n c)))), (1, .slice e m2 d2), (2, .slice e2 m3 d3)] _
 refine Zac ?_
 refine Zaa ?_
 refine rp 6 (.nilIface) ?_
 refine Zad ?_
 refine Zab ?_
 refine Zac ?_
 refine Zac ?_
 refine Zaa ?_
 refine rp 13 (.iface 116 (.agg (brc vs (.slice a n c)))) ?_
 refine Zad ?_
 refine Zab ?_
 refine Zan ?_
 refine Zac ?_
 refine Zaa ?_
 refine rp 14 (.tuple #[.agg (#[.slice none 0 0, .slice none 0 0]), .bool false]) ?_
 refine rp 15 (.bool false) ?_
 refine rp 16 (.agg (#[.slice none 0 0, .slice none 0 0])) ?_
 refine Zad ?_
 refine Zab ?_
 refine Zaf (fun _ => by kernel_rfl) ?_
 refine Zac ?_
 refine Zaa ?_
 refine rp 47 (.tuple #[.agg (#[.slice none 0 0, .nilIface]), .bool false]) ?_
 refine rp 48 (.bool false) ?_
 refine rp 49 (.agg (#[.slice none 0 0, .nilIface])) ?_
 refine Zad ?_
 refine Zab ?_
 refine Zaf (fun _ => by kernel_rfl) ?_
 refine Zac ?_
 refine Zaa ?_
 refine rp 76 (.tuple #[.agg (brc vs (.slice a n c)), .bool true]) ?_
 refine rp 77 (.bool true) ?_
 refine rp 78 (.agg (brc vs (.slice a n c))) ?_
 refine Zad ?_
 refine Zab ?_
 refine Zai (fun _ => by kernel_rfl) ?_
 refine Zac ?_
 refine Zaa ?_
 refine Zar 12 (brc (fun _ => .nilIface) (.slice none 0 0)) 116 (fun _ => by kernel_rfl) (fun _ => by kernel_rfl) ?_
 intro w1 g2 hn3
 have hr4 : Rw g2 w1 (brc (fun _ => .nilIface) (.slice none 0 0)) 116 := hn3.row
 refine Zav g2 (brc vs (.slice a n c)) (fun _ => by kernel_rfl) (fun _ => Zao 116 _ _ _ _ _ 116 rfl (by kernel_rfl) (by kernel_rfl) hr4 (by kernel_rfl) (by kernel_rfl) (Zbl hk)) ?_
 intro w5 hp6
 replace hn3 := hn3.put hp6
 clear hr4
 have hzg2 : w.heap.size ≤ g2 := by have := hB.size; have := hn3.hg; omega
 replace hB := hB.go hn3.below
 replace hk := hk.go hn3.below
 replace hx := hx.go hn3.below
 replace hq := hq.go hn3.below
 replace hy := hy.go hn3.below
 have hr8 : Rw g2 w5 (brc vs (.slice a n c)) 116 := hn3.row
 refine Zad ?_
 refine Zab ?_
 refine Zac ?_
 refine Zaa ?_
 refine rv 79 (.agg (brc vs (.slice a n c))) (fun _ => Za2 116 _ _ _ _ _ _ rfl (by kernel_rfl) hr8 Tryz.underlying116 rfl (by kernel_rfl)) ?_
 refine rp 80 (.slice e m2 d2) ?_
 refine rp 81 (.slice e2 m3 d3) ?_
 refine Zak 82 66 #[.agg (brc vs (.slice a n c)), .slice e m2 d2, .slice e2 m3 d3] (fun _ => by kernel_rfl) (fun _ => by kernel_rfl) (R := RBr w5 (Pt.plus k x q y)) (Zfz (t := .no) ⟨_, _, _, _, _, _, rfl, rfl, hk, hx, hn⟩ hq hqn (by have := hq.len; omega) hy hy2) ?_
 rintro _ w19 ⟨⟨k9, x10, vs11, a12, n13, c14, he15, rfl, hk16, hx17, hn18⟩, hb20⟩
 replace hB := hB.go hb20
 replace hk := hk.go hb20
 replace hx := hx.go hb20
 replace hq := hq.go hb20
 replace hy := hy.go hb20
 replace hr8 := hr8.go hb20
 refine rp 83 (.iface 116 (.agg (brc vs11 (.slice a12 n13 c14)))) ?_
 refine rp 6 (.iface 116 (.agg (brc vs11 (.slice a12 n13 c14)))) ?_
 refine Zad ?_
 refine Zab ?_
 refine Zap ?_
 refine Zaq ?_
 refine Zah ?_
 refine Zae (.iface 116 (.agg (brc vs11 (.slice a12 n13 c14)))) (fun _ => by kernel_rfl) ?_
 rw [he15]
 exact ⟨_, rfl, ⟨_, _, _, _, rfl, hk16, hx17, hn18⟩, hB⟩
theorem Zli {t : Pt} {e : Option Addr} {l : Nat} (h : ThA w t u) (hw : Wg t l) (hq : Sk An w e m2 d2 q) (hl : l + q.length ≤ 64) (hqn : nibs q) (hy : Sk An w e2 m3 d3 y) (hy2 : m3 ≤ 256) (he : ∀ p c, t = ext p c → q.take p.length ≠ p) : Calls Tryz.prog 40 #[u, .slice e m2 d2, .slice e2 m3 d3] w fun e w' => ∃ v', e = .returned v' ∧ RTh w (wit t q y) v' w' := by
 cases t with
 | no => obtain rfl : u = .nilIface := h; exact Zup hw hq hl hqn hy hy2
 | st d => obtain ⟨rfl, hd, hdb⟩ := h; exact Zuo hd hw hq hl hqn hy hy2
 | leaf p x => obtain ⟨a, n, c, b, m, d, rfl, hp, hx, hm, hn⟩ := h; exact Zn3 hp hx hm hn hw hq hl hqn hy hy2
 | ext p t => obtain ⟨a, n, c, u, rfl, hp, hn, ht⟩ := h; exact Zrk hp hn ht hw hq hl hqn hy hy2 (fun e => he p t rfl (Zmu e))
 | br k x => obtain ⟨vs, a, n, c, rfl, hk, hx, hn⟩ := h; exact Zuq hk hx hn hw hq hl hqn hy hy2
def RNx (w : World) (r : Option Sp) : Value → World → Prop := fun u w' => (match r with
  | none => u = .tuple #[.agg #[.nilIface, .int .i64 0, .bool false], .bool false]
  | some s => ∃ v, u = .tuple #[.agg #[v, .int .i64 ((s.l : Nat) : Int), .bool s.c], .bool true] ∧ ThA w' s.t v) ∧ Bl w w'
def RSv (w : World) (b : List Int) : Value → World → Prop := fun u w' => (∃ a n c, u = .slice a n c ∧ Sk An w' a n c b ∧ n ≤ 256) ∧ Bl w w'
structure TU (gU : Nat) (w v : World) : Prop where
  t : Touch gU w v
  n : Nt w v
section
variable {gU g : Nat} {w v v' : World}
theorem TU.trans {w2 : World} (h : TU gU w v) (h2 : TU gU v w2) : TU gU w w2 := ⟨h.t.trans h2.t, h.n.trans h2.n⟩
theorem TU.go (h : TU gU w v) (hb : Below v.heap.size v v') : TU gU w v' := ⟨h.t.trans (Touch.of_below hb), h.n.trans (Nt.below hb)⟩
theorem TU.of (hb : Bl w v) : TU gU w v := ⟨Touch.of_below hb, Nt.below hb⟩
theorem TU.size (h : TU gU w v) : w.heap.size ≤ v.heap.size := h.t.size
theorem TU.tou (h : TU gU w v) (ht : Touch g v v') (hg : w.heap.size ≤ g) (hn : Nt v v') : TU gU w v' :=
  ⟨⟨ht.os.trans h.t.os, ht.tape.trans h.t.tape, ht.output.trans h.t.output, Nat.le_trans h.t.size ht.size, fun i hi hne => (ht.block i (Nat.lt_of_lt_of_le hi h.t.size) (by omega)).trans (h.t.block i hi hne)⟩, h.n.trans hn⟩
end
def RLk (w : World) (g gK gU : Nat) (t0 : Pt) (kn : Kn) (us : List (List Int)) (r : Option Pt) : Value → World → Prop := fun u w' => PAt w' g gK gU t0 kn us ∧ (match r with
  | none => u = .tuple #[.nilIface, .bool false]
  | some t => ∃ v, u = .tuple #[v, .bool true] ∧ ThA w' t v) ∧ TU gU w w'
abbrev RNm := RLk
def lkU (kn : Kn) (s : Sp) (us : List (List Int)) : List (List Int) := match s.t with
  | st d => match lookP kn s with
    | none => us
    | some _ => useP d us
  | _ => us
theorem Zk3 (k : Nat → Pt) : ∀ n, kidsN k n ≤ n
  | 0 => Nat.le_refl _
  | n + 1 => by unfold kidsN; have := Zk3 k n; split <;> omega
set_option maxHeartbeats 1000000 in
theorem Zvo {l : Nat} {e : Option Addr} (hq : Sk An w e m2 d2 q) (hl : l ≤ m2) (hm2 : m2 ≤ 1000) : Calls Tryz.prog 61 #[.agg #[.nilIface, .int .i64 ((l : Nat) : Int), .bool cb], .slice e m2 d2] w fun e w' => ∃ v', e = .returned v' ∧ RNx w none v' w' := by
 have hql := hq.len
 have hB : Bl w w := Bl.refl w
 refine Zaj Tryz.func61 rfl 48 rfl ?_
 show CW _ _ _ _ _ _ _ [(0, .agg #[.nilIface, .int .i64 ((l : Nat) : Int), .bool cb]), (1, .slice e m2 d2)] _
 refine Zac ?_
 refine Zaa ?_
 refine Zar 2 (#[.nilIface, .int .i64 ((l : Nat) : Int), .bool cb]) 88 (fun _ => by kernel_rfl) (fun _ => by kernel_rfl) ?_
 intro w1 g2 hn3
 have hzg2 : w.heap.size ≤ g2 := by have := hB.size; have := hn3.hg; omega
 replace hB := hB.go hn3.below
 replace hq := hq.go hn3.below
 have hr4 : Rw g2 w1 (#[.nilIface, .int .i64 ((l : Nat) : Int), .bool cb]) 88 := hn3.row
 refine Zar 4 (#[.nilIface, .int .i64 0, .bool false]) 88 (fun _ => by kernel_rfl) (fun _ => by kernel_rfl) ?_
 intro w5 g6 hn7
 have hlg2g6 : g2 < g6 := by have := hr4.lt; have := hn7.hg; omega
 have hzg6 : w.heap.size ≤ g6 := by have := hB.size; have := hn7.hg; omega
 replace hB := hB.go hn7.below
 replace hq := hq.go hn7.below
 replace hr4 := hr4.go hn7.below
 have hr8 : Rw g6 w5 (#[.nilIface, .int .i64 0, .bool false]) 88 := hn7.row
 refine rp 5 (.bool false) ?_
 refine Zad ?_
 refine Zab ?_
 refine Zac ?_
 refine Zaa ?_
 refine rp 9 (.slice e m2 d2) ?_
 refine rp 10 (.pointer (some ⟨g2, 1, none⟩)) ?_
 refine rv 11 (.int .i64 ((l : Nat) : Int)) (fun _ => Zag 3 _ ⟨g2, 1, none⟩ _ _ rfl (by kernel_rfl) (by rw [cell_of_row _ _ _ _ _ _ hr4]; rfl) Tryz.underlying3 rfl) ?_
 obtain ⟨a9, n10, c11, hr12, hs13⟩ := hq.cutFrom l (by omega)
 refine rv 12 (.slice a9 n10 c11) (fun _ => hr12 _ _ _ _ _ _ rfl (by kernel_rfl) (by kernel_rfl) rfl) ?_
 refine rp 6 (.slice a9 n10 c11) ?_
 refine Zad ?_
 refine Zab ?_
 refine Zac ?_
 refine Zac ?_
 refine Zaa ?_
 refine rp 13 (.pointer (some ⟨g2, 0, none⟩)) ?_
 refine rv 14 (.nilIface) (fun _ => Zag 47 _ ⟨g2, 0, none⟩ _ _ rfl (by kernel_rfl) (by rw [cell_of_row _ _ _ _ _ _ hr4]; rfl) Tryz.underlying47 rfl) ?_
 refine Zad ?_
 refine Zab ?_
 refine Zan ?_
 refine Zac ?_
 refine Zaa ?_
 refine rp 15 (.tuple #[.agg (#[.slice none 0 0, .nilIface]), .bool false]) ?_
 refine rp 16 (.bool false) ?_
 refine rp 17 (.agg (#[.slice none 0 0, .nilIface])) ?_
 refine Zad ?_
 refine Zab ?_
 refine Zaf (fun _ => by kernel_rfl) ?_
 refine Zac ?_
 refine Zaa ?_
 refine rp 31 (.tuple #[.agg (brc (fun _ => .nilIface) (.slice none 0 0)), .bool false]) ?_
 refine rp 32 (.bool false) ?_
 refine rp 33 (.agg (brc (fun _ => .nilIface) (.slice none 0 0))) ?_
 refine Zad ?_
 refine Zab ?_
 refine Zaf (fun _ => by kernel_rfl) ?_
 refine Zam ?_
 refine Zau ?_
 refine Zab ?_
 refine Zac ?_
 refine Zaa ?_
 refine rp 47 (.agg #[.nilIface, .int .i64 0, .bool false]) ?_
 refine Zav g6 (#[.nilIface, .int .i64 0, .bool false]) (fun _ => by kernel_rfl) (fun _ => Zao 88 _ _ _ _ _ 88 rfl (by kernel_rfl) (by kernel_rfl) hr8 (by kernel_rfl) (by kernel_rfl) (by kernel_rfl)) ?_
 intro w14 hp15
 have hnt16 := Nt.rows hr8 (nob3 (show ThA w .no .nilIface from rfl) (fun _ e => by cases e) (fun _ e => by cases e)) hp15.touch
 replace hB := hB.tou hp15.touch hzg6
 replace hq := hq.nt hnt16
 replace hr4 := hr4.past hp15.touch (by omega)
 replace hs13 := hs13.nt hnt16
 replace hr8 : Rw g6 w14 (#[.nilIface, .int .i64 0, .bool false]) 88 := hp15.row hr8
 refine rp 5 (.bool false) ?_
 refine Zad ?_
 refine Zab ?_
 refine Zap ?_
 refine Zae (.tuple #[.agg (#[.nilIface, .int .i64 0, .bool false]), .bool false]) (fun _ => Zgf rfl _ g6 _ _ (by kernel_rfl) (by kernel_rfl) hr8 Tryz.underlying88 rfl (by kernel_rfl)) ?_
 exact ⟨_, rfl, rfl, hB⟩
set_option maxHeartbeats 1000000 in
theorem Zvn {d : List Int} {l : Nat} {e : Option Addr} (hd : d.length = 32) (hq : Sk An w e m2 d2 q) (hl : l ≤ m2) (hm2 : m2 ≤ 1000) : Calls Tryz.prog 61 #[.agg #[.iface 50 (.agg (B8 d)), .int .i64 ((l : Nat) : Int), .bool cb], .slice e m2 d2] w fun e w' => ∃ v', e = .returned v' ∧ RNx w none v' w' := by
 have hql := hq.len
 have hB : Bl w w := Bl.refl w
 refine Zaj Tryz.func61 rfl 48 rfl ?_
 show CW _ _ _ _ _ _ _ [(0, .agg #[.iface 50 (.agg (B8 d)), .int .i64 ((l : Nat) : Int), .bool cb]), (1, .slice e m2 d2)] _
 refine Zac ?_
 refine Zaa ?_
 refine Zar 2 (#[.iface 50 (.agg (B8 d)), .int .i64 ((l : Nat) : Int), .bool cb]) 88 (fun _ => by kernel_rfl) (fun _ => by kernel_rfl) ?_
 intro w1 g2 hn3
 have hzg2 : w.heap.size ≤ g2 := by have := hB.size; have := hn3.hg; omega
 replace hB := hB.go hn3.below
 replace hq := hq.go hn3.below
 have hr4 : Rw g2 w1 (#[.iface 50 (.agg (B8 d)), .int .i64 ((l : Nat) : Int), .bool cb]) 88 := hn3.row
 refine Zar 4 (#[.nilIface, .int .i64 0, .bool false]) 88 (fun _ => by kernel_rfl) (fun _ => by kernel_rfl) ?_
 intro w5 g6 hn7
 have hlg2g6 : g2 < g6 := by have := hr4.lt; have := hn7.hg; omega
 have hzg6 : w.heap.size ≤ g6 := by have := hB.size; have := hn7.hg; omega
 replace hB := hB.go hn7.below
 replace hq := hq.go hn7.below
 replace hr4 := hr4.go hn7.below
 have hr8 : Rw g6 w5 (#[.nilIface, .int .i64 0, .bool false]) 88 := hn7.row
 refine rp 5 (.bool false) ?_
 refine Zad ?_
 refine Zab ?_
 refine Zac ?_
 refine Zaa ?_
 refine rp 9 (.slice e m2 d2) ?_
 refine rp 10 (.pointer (some ⟨g2, 1, none⟩)) ?_
 refine rv 11 (.int .i64 ((l : Nat) : Int)) (fun _ => Zag 3 _ ⟨g2, 1, none⟩ _ _ rfl (by kernel_rfl) (by rw [cell_of_row _ _ _ _ _ _ hr4]; rfl) Tryz.underlying3 rfl) ?_
 obtain ⟨a9, n10, c11, hr12, hs13⟩ := hq.cutFrom l (by omega)
 refine rv 12 (.slice a9 n10 c11) (fun _ => hr12 _ _ _ _ _ _ rfl (by kernel_rfl) (by kernel_rfl) rfl) ?_
 refine rp 6 (.slice a9 n10 c11) ?_
 refine Zad ?_
 refine Zab ?_
 refine Zac ?_
 refine Zac ?_
 refine Zaa ?_
 refine rp 13 (.pointer (some ⟨g2, 0, none⟩)) ?_
 refine rv 14 (.iface 50 (.agg (B8 d))) (fun _ => Zag 47 _ ⟨g2, 0, none⟩ _ _ rfl (by kernel_rfl) (by rw [cell_of_row _ _ _ _ _ _ hr4]; rfl) Tryz.underlying47 rfl) ?_
 refine Zad ?_
 refine Zab ?_
 refine Zan ?_
 refine Zac ?_
 refine Zaa ?_
 refine rp 15 (.tuple #[.agg (#[.slice none 0 0, .nilIface]), .bool false]) ?_
 refine rp 16 (.bool false) ?_
 refine rp 17 (.agg (#[.slice none 0 0, .nilIface])) ?_
 refine Zad ?_
 refine Zab ?_
 refine Zaf (fun _ => by kernel_rfl) ?_
 refine Zac ?_
 refine Zaa ?_
 refine rp 31 (.tuple #[.agg (brc (fun _ => .nilIface) (.slice none 0 0)), .bool false]) ?_
 refine rp 32 (.bool false) ?_
 refine rp 33 (.agg (brc (fun _ => .nilIface) (.slice none 0 0))) ?_
 refine Zad ?_
 refine Zab ?_
 refine Zaf (fun _ => by kernel_rfl) ?_
 refine Zam ?_
 refine Zau ?_
 refine Zab ?_
 refine Zac ?_
 refine Zaa ?_
 refine rp 47 (.agg #[.nilIface, .int .i64 0, .bool false]) ?_
 refine Zav g6 (#[.nilIface, .int .i64 0, .bool false]) (fun _ => by kernel_rfl) (fun _ => Zao 88 _ _ _ _ _ 88 rfl (by kernel_rfl) (by kernel_rfl) hr8 (by kernel_rfl) (by kernel_rfl) (by kernel_rfl)) ?_
 intro w14 hp15
 have hnt16 := Nt.rows hr8 (nob3 (show ThA w .no .nilIface from rfl) (fun _ e => by cases e) (fun _ e => by cases e)) hp15.touch
 replace hB := hB.tou hp15.touch hzg6
 replace hq := hq.nt hnt16
 replace hr4 := hr4.past hp15.touch (by omega)
 replace hs13 := hs13.nt hnt16
 replace hr8 : Rw g6 w14 (#[.nilIface, .int .i64 0, .bool false]) 88 := hp15.row hr8
 refine rp 5 (.bool false) ?_
 refine Zad ?_
 refine Zab ?_
 refine Zap ?_
 refine Zae (.tuple #[.agg (#[.nilIface, .int .i64 0, .bool false]), .bool false]) (fun _ => Zgf rfl _ g6 _ _ (by kernel_rfl) (by kernel_rfl) hr8 Tryz.underlying88 rfl (by kernel_rfl)) ?_
 exact ⟨_, rfl, rfl, hB⟩
set_option maxHeartbeats 1000000 in
theorem Zpv {l : Nat} {e : Option Addr} (hp : Sk An w a n c p) (hx : Sk An w b m d x) (hm : m ≤ 256) (hn : n ≤ 140737488351232) (hq : Sk An w e m2 d2 q) (hl : l ≤ m2) (hm2 : m2 ≤ 1000) : Calls Tryz.prog 61 #[.agg #[.iface 110 (.agg #[.slice a n c, .slice b m d]), .int .i64 ((l : Nat) : Int), .bool cb], .slice e m2 d2] w fun e w' => ∃ v', e = .returned v' ∧ RNx w none v' w' := by
 have hql := hq.len
 have hpl := hp.len
 have hB : Bl w w := Bl.refl w
 refine Zaj Tryz.func61 rfl 48 rfl ?_
 show CW _ _ _ _ _ _ _ [(0, .agg #[.iface 110 (.agg #[.slice a n c, .slice b m d]), .int .i64 ((l : Nat) : Int), .bool cb]), (1, .slice e m2 d2)] _
 refine Zac ?_
 refine Zaa ?_
 refine Zar 2 (#[.iface 110 (.agg #[.slice a n c, .slice b m d]), .int .i64 ((l : Nat) : Int), .bool cb]) 88 (fun _ => by kernel_rfl) (fun _ => by kernel_rfl) ?_
 intro w1 g2 hn3
 have hzg2 : w.heap.size ≤ g2 := by have := hB.size; have := hn3.hg; omega
 replace hB := hB.go hn3.below
 replace hp := hp.go hn3.below
 replace hx := hx.go hn3.below
 replace hq := hq.go hn3.below
 have hr4 : Rw g2 w1 (#[.iface 110 (.agg #[.slice a n c, .slice b m d]), .int .i64 ((l : Nat) : Int), .bool cb]) 88 := hn3.row
 refine Zar 4 (#[.nilIface, .int .i64 0, .bool false]) 88 (fun _ => by kernel_rfl) (fun _ => by kernel_rfl) ?_
 intro w5 g6 hn7
 have hlg2g6 : g2 < g6 := by have := hr4.lt; have := hn7.hg; omega
 have hzg6 : w.heap.size ≤ g6 := by have := hB.size; have := hn7.hg; omega
 replace hB := hB.go hn7.below
 replace hp := hp.go hn7.below
 replace hx := hx.go hn7.below
 replace hq := hq.go hn7.below
 replace hr4 := hr4.go hn7.below
 have hr8 : Rw g6 w5 (#[.nilIface, .int .i64 0, .bool false]) 88 := hn7.row
 refine rp 5 (.bool false) ?_
 refine Zad ?_
 refine Zab ?_
 refine Zac ?_
 refine Zaa ?_
 refine rp 9 (.slice e m2 d2) ?_
 refine rp 10 (.pointer (some ⟨g2, 1, none⟩)) ?_
 refine rv 11 (.int .i64 ((l : Nat) : Int)) (fun _ => Zag 3 _ ⟨g2, 1, none⟩ _ _ rfl (by kernel_rfl) (by rw [cell_of_row _ _ _ _ _ _ hr4]; rfl) Tryz.underlying3 rfl) ?_
 obtain ⟨a9, n10, c11, hr12, hs13⟩ := hq.cutFrom l (by omega)
 refine rv 12 (.slice a9 n10 c11) (fun _ => hr12 _ _ _ _ _ _ rfl (by kernel_rfl) (by kernel_rfl) rfl) ?_
 refine rp 6 (.slice a9 n10 c11) ?_
 refine Zad ?_
 refine Zab ?_
 refine Zac ?_
 refine Zac ?_
 refine Zaa ?_
 refine rp 13 (.pointer (some ⟨g2, 0, none⟩)) ?_
 refine rv 14 (.iface 110 (.agg #[.slice a n c, .slice b m d])) (fun _ => Zag 47 _ ⟨g2, 0, none⟩ _ _ rfl (by kernel_rfl) (by rw [cell_of_row _ _ _ _ _ _ hr4]; rfl) Tryz.underlying47 rfl) ?_
 refine Zad ?_
 refine Zab ?_
 refine Zan ?_
 refine Zac ?_
 refine Zaa ?_
 refine rp 15 (.tuple #[.agg (#[.slice none 0 0, .nilIface]), .bool false]) ?_
 refine rp 16 (.bool false) ?_
 refine rp 17 (.agg (#[.slice none 0 0, .nilIface])) ?_
 refine Zad ?_
 refine Zab ?_
 refine Zaf (fun _ => by kernel_rfl) ?_
 refine Zac ?_
 refine Zaa ?_
 refine rp 31 (.tuple #[.agg (brc (fun _ => .nilIface) (.slice none 0 0)), .bool false]) ?_
 refine rp 32 (.bool false) ?_
 refine rp 33 (.agg (brc (fun _ => .nilIface) (.slice none 0 0))) ?_
 refine Zad ?_
 refine Zab ?_
 refine Zaf (fun _ => by kernel_rfl) ?_
 refine Zam ?_
 refine Zau ?_
 refine Zab ?_
 refine Zac ?_
 refine Zaa ?_
 refine rp 47 (.agg #[.nilIface, .int .i64 0, .bool false]) ?_
 refine Zav g6 (#[.nilIface, .int .i64 0, .bool false]) (fun _ => by kernel_rfl) (fun _ => Zao 88 _ _ _ _ _ 88 rfl (by kernel_rfl) (by kernel_rfl) hr8 (by kernel_rfl) (by kernel_rfl) (by kernel_rfl)) ?_
 intro w14 hp15
 have hnt16 := Nt.rows hr8 (nob3 (show ThA w .no .nilIface from rfl) (fun _ e => by cases e) (fun _ e => by cases e)) hp15.touch
 replace hB := hB.tou hp15.touch hzg6
 replace hp := hp.nt hnt16
 replace hx := hx.nt hnt16
 replace hq := hq.nt hnt16
 replace hr4 := hr4.past hp15.touch (by omega)
 replace hs13 := hs13.nt hnt16
 replace hr8 : Rw g6 w14 (#[.nilIface, .int .i64 0, .bool false]) 88 := hp15.row hr8
 refine rp 5 (.bool false) ?_
 refine Zad ?_
 refine Zab ?_
 refine Zap ?_
 refine Zae (.tuple #[.agg (#[.nilIface, .int .i64 0, .bool false]), .bool false]) (fun _ => Zgf rfl _ g6 _ _ (by kernel_rfl) (by kernel_rfl) hr8 Tryz.underlying88 rfl (by kernel_rfl)) ?_
 exact ⟨_, rfl, rfl, hB⟩
set_option maxHeartbeats 1000000 in
theorem Zso {t : Pt} {l : Nat} {e : Option Addr} (hp : Sk An w a n c p) (hn : n ≤ 140737488351232) (ht : ThA w t u) (hq : Sk An w e m2 d2 q) (hl : l ≤ m2) (hm2 : m2 ≤ 1000) : Calls Tryz.prog 61 #[.agg #[.iface 113 (.agg #[.slice a n c, u]), .int .i64 ((l : Nat) : Int), .bool cb], .slice e m2 d2] w fun e w' => ∃ v', e = .returned v' ∧ RNx w (if (q.drop l).take p.length = p then some ⟨t, l + p.length, true⟩ else none) v' w' := by
 have hql := hq.len
 have hpl := hp.len
 have hB : Bl w w := Bl.refl w
 refine Zaj Tryz.func61 rfl 48 rfl ?_
 show CW _ _ _ _ _ _ _ [(0, .agg #[.iface 113 (.agg #[.slice a n c, u]), .int .i64 ((l : Nat) : Int), .bool cb]), (1, .slice e m2 d2)] _
 refine Zac ?_
 refine Zaa ?_
 refine Zar 2 (#[.iface 113 (.agg #[.slice a n c, u]), .int .i64 ((l : Nat) : Int), .bool cb]) 88 (fun _ => by kernel_rfl) (fun _ => by kernel_rfl) ?_
 intro w1 g2 hn3
 have hzg2 : w.heap.size ≤ g2 := by have := hB.size; have := hn3.hg; omega
 replace hB := hB.go hn3.below
 replace hp := hp.go hn3.below
 replace ht := ht.go hn3.below
 replace hq := hq.go hn3.below
 have hr4 : Rw g2 w1 (#[.iface 113 (.agg #[.slice a n c, u]), .int .i64 ((l : Nat) : Int), .bool cb]) 88 := hn3.row
 refine Zar 4 (#[.nilIface, .int .i64 0, .bool false]) 88 (fun _ => by kernel_rfl) (fun _ => by kernel_rfl) ?_
 intro w5 g6 hn7
 have hlg2g6 : g2 < g6 := by have := hr4.lt; have := hn7.hg; omega
 have hzg6 : w.heap.size ≤ g6 := by have := hB.size; have := hn7.hg; omega
 replace hB := hB.go hn7.below
 replace hp := hp.go hn7.below
 replace ht := ht.go hn7.below
 replace hq := hq.go hn7.below
 replace hr4 := hr4.go hn7.below
 have hr8 : Rw g6 w5 (#[.nilIface, .int .i64 0, .bool false]) 88 := hn7.row
 refine rp 5 (.bool false) ?_
 refine Zad ?_
 refine Zab ?_
 refine Zac ?_
 refine Zaa ?_
 refine rp 9 (.slice e m2 d2) ?_
 refine rp 10 (.pointer (some ⟨g2, 1, none⟩)) ?_
 refine rv 11 (.int .i64 ((l : Nat) : Int)) (fun _ => Zag 3 _ ⟨g2, 1, none⟩ _ _ rfl (by kernel_rfl) (by rw [cell_of_row _ _ _ _ _ _ hr4]; rfl) Tryz.underlying3 rfl) ?_
 obtain ⟨a9, n10, c11, hr12, hs13⟩ := hq.cutFrom l (by omega)
 refine rv 12 (.slice a9 n10 c11) (fun _ => hr12 _ _ _ _ _ _ rfl (by kernel_rfl) (by kernel_rfl) rfl) ?_
 refine rp 6 (.slice a9 n10 c11) ?_
 refine Zad ?_
 refine Zab ?_
 refine Zac ?_
 refine Zac ?_
 refine Zaa ?_
 refine rp 13 (.pointer (some ⟨g2, 0, none⟩)) ?_
 refine rv 14 (.iface 113 (.agg #[.slice a n c, u])) (fun _ => Zag 47 _ ⟨g2, 0, none⟩ _ _ rfl (by kernel_rfl) (by rw [cell_of_row _ _ _ _ _ _ hr4]; rfl) Tryz.underlying47 rfl) ?_
 refine Zad ?_
 refine Zab ?_
 refine Zan ?_
 refine Zac ?_
 refine Zaa ?_
 refine rp 15 (.tuple #[.agg #[.slice a n c, u], .bool true]) ?_
 refine rp 16 (.bool true) ?_
 refine rp 17 (.agg #[.slice a n c, u]) ?_
 refine Zad ?_
 refine Zab ?_
 refine Zai (fun _ => by kernel_rfl) ?_
 refine Zac ?_
 refine Zaa ?_
 refine Zar 7 (#[.slice none 0 0, .nilIface]) 113 (fun _ => by kernel_rfl) (fun _ => by kernel_rfl) ?_
 intro w14 g15 hn16
 have hr17 : Rw g15 w14 (#[.slice none 0 0, .nilIface]) 113 := hn16.row
 refine Zav g15 (#[.slice a n c, u]) (fun _ => by kernel_rfl) (fun _ => Zao 113 _ _ _ _ _ 113 rfl (by kernel_rfl) (by kernel_rfl) hr17 (by kernel_rfl) (by kernel_rfl) (one2 rfl ht.one)) ?_
 intro w18 hp19
 replace hn16 := hn16.put hp19
 clear hr17
 have hlg2g15 : g2 < g15 := by have := hr4.lt; have := hn16.hg; omega
 have hlg6g15 : g6 < g15 := by have := hr8.lt; have := hn16.hg; omega
 have hzg15 : w.heap.size ≤ g15 := by have := hB.size; have := hn16.hg; omega
 replace hB := hB.go hn16.below
 replace hp := hp.go hn16.below
 replace ht := ht.go hn16.below
 replace hq := hq.go hn16.below
 replace hr4 := hr4.go hn16.below
 replace hr8 := hr8.go hn16.below
 replace hs13 := hs13.go hn16.below
 have hr21 : Rw g15 w18 (#[.slice a n c, u]) 113 := hn16.row
 refine Zad ?_
 refine Zab ?_
 refine Zac ?_
 refine Zaa ?_
 refine rp 18 (.slice a9 n10 c11) ?_
 refine rp 19 (.pointer (some ⟨g15, 0, none⟩)) ?_
 refine rv 20 (.slice a n c) (fun _ => Zag 29 _ ⟨g15, 0, none⟩ _ _ rfl (by kernel_rfl) (by rw [cell_of_row _ _ _ _ _ _ hr21]; rfl) Tryz.underlying29 rfl) ?_
 refine Zak 21 96 #[.slice a9 n10 c11, .slice a n c] (fun _ => by kernel_rfl) (fun _ => by kernel_rfl) (R := fun u w' => u = .bool (decide ((q.drop l).take p.length = p)) ∧ Bl (w18) w') (Zix hs13 hp) ?_
 rintro _ w22 ⟨rfl, hb23⟩
 replace hB := hB.go hb23
 replace hp := hp.go hb23
 replace ht := ht.go hb23
 replace hq := hq.go hb23
 replace hr4 := hr4.go hb23
 replace hr8 := hr8.go hb23
 replace hs13 := hs13.go hb23
 replace hr21 := hr21.go hb23
 refine Zad ?_
 refine Zab ?_
 cases hq24 : (decide ((q.drop l).take p.length = p)) with
 | true =>
  refine Zai (fun _ => by kernel_rfl) ?_
  refine Zac ?_
  refine Zaa ?_
  refine rp 22 (.pointer (some ⟨g15, 1, none⟩)) ?_
  refine rv 23 (u) (fun _ => Zag 47 _ ⟨g15, 1, none⟩ _ _ rfl (by kernel_rfl) (by rw [cell_of_row _ _ _ _ _ _ hr21]; rfl) Tryz.underlying47 rfl) ?_
  refine rp 24 (.pointer (some ⟨g2, 1, none⟩)) ?_
  refine rv 25 (.int .i64 ((l : Nat) : Int)) (fun _ => Zag 3 _ ⟨g2, 1, none⟩ _ _ rfl (by kernel_rfl) (by rw [cell_of_row _ _ _ _ _ _ hr4]; rfl) Tryz.underlying3 rfl) ?_
  refine rp 26 (.pointer (some ⟨g15, 0, none⟩)) ?_
  refine rv 27 (.slice a n c) (fun _ => Zag 29 _ ⟨g15, 0, none⟩ _ _ rfl (by kernel_rfl) (by rw [cell_of_row _ _ _ _ _ _ hr21]; rfl) Tryz.underlying29 rfl) ?_
  refine rp 28 (.int .i64 n) ?_
  refine rv 29 (.int .i64 ((l + n : Nat) : Int)) (fun _ => Zal (v := .int .i64 (IntKind.i64.wrap (((l : Nat) : Int) + (n : Int)))) (by kernel_rfl) (congrArg (Value.int .i64) ((Zbc (by omega) (by omega)).trans (by omega)))) ?_
  refine rv 30 (.agg #[u, .int .i64 ((l + n : Nat) : Int), .bool true]) (fun _ => Zbz 88 _ rfl [(0, u), (1, .int .i64 ((l + n : Nat) : Int)), (2, .bool true)] (by kernel_rfl) _ (Zi5 ht _ _)) ?_
  refine Zav g6 (#[u, .int .i64 ((l + n : Nat) : Int), .bool true]) (fun _ => by kernel_rfl) (fun _ => Zao 88 _ _ _ _ _ 88 rfl (by kernel_rfl) (by kernel_rfl) hr8 (by kernel_rfl) (by kernel_rfl) (one3 ht.one rfl rfl)) ?_
  intro w25 hp26
  have hnt27 := Nt.rows hr8 (nob3 (show ThA w .no .nilIface from rfl) (fun _ e => by cases e) (fun _ e => by cases e)) hp26.touch
  replace hB := hB.tou hp26.touch hzg6
  replace hp := hp.nt hnt27
  replace ht := ht.nt hnt27
  replace hq := hq.nt hnt27
  replace hr4 := hr4.past hp26.touch (by omega)
  replace hs13 := hs13.nt hnt27
  replace hr21 := hr21.past hp26.touch (by omega)
  replace hr8 : Rw g6 w25 (#[u, .int .i64 ((l + n : Nat) : Int), .bool true]) 88 := hp26.row hr8
  refine rp 5 (.bool true) ?_
  refine Zad ?_
  refine Zab ?_
  refine Zap ?_
  refine Zaq ?_
  refine Zah ?_
  refine Zae (.tuple #[.agg (#[u, .int .i64 ((l + n : Nat) : Int), .bool true]), .bool true]) (fun _ => Zgf rfl _ g6 _ _ (by kernel_rfl) (by kernel_rfl) hr8 Tryz.underlying88 rfl (by kernel_rfl)) ?_
  rw [if_pos (of_decide_eq_true hq24)]
  refine ⟨_, rfl, ⟨_, ?_, ht⟩, hB⟩
  rw [hpl]
 | false =>
  refine Zaf (fun _ => by kernel_rfl) ?_
  refine Zam ?_
  refine Zau ?_
  refine Zab ?_
  refine Zac ?_
  refine Zaa ?_
  refine rp 47 (.agg #[.nilIface, .int .i64 0, .bool false]) ?_
  refine Zav g6 (#[.nilIface, .int .i64 0, .bool false]) (fun _ => by kernel_rfl) (fun _ => Zao 88 _ _ _ _ _ 88 rfl (by kernel_rfl) (by kernel_rfl) hr8 (by kernel_rfl) (by kernel_rfl) (by kernel_rfl)) ?_
  intro w28 hp29
  have hnt30 := Nt.rows hr8 (nob3 (show ThA w .no .nilIface from rfl) (fun _ e => by cases e) (fun _ e => by cases e)) hp29.touch
  replace hB := hB.tou hp29.touch hzg6
  replace hp := hp.nt hnt30
  replace ht := ht.nt hnt30
  replace hq := hq.nt hnt30
  replace hr4 := hr4.past hp29.touch (by omega)
  replace hs13 := hs13.nt hnt30
  replace hr21 := hr21.past hp29.touch (by omega)
  replace hr8 : Rw g6 w28 (#[.nilIface, .int .i64 0, .bool false]) 88 := hp29.row hr8
  refine rp 5 (.bool false) ?_
  refine Zad ?_
  refine Zab ?_
  refine Zap ?_
  refine Zae (.tuple #[.agg (#[.nilIface, .int .i64 0, .bool false]), .bool false]) (fun _ => Zgf rfl _ g6 _ _ (by kernel_rfl) (by kernel_rfl) hr8 Tryz.underlying88 rfl (by kernel_rfl)) ?_
  rw [if_neg (of_decide_eq_false hq24)]
  exact ⟨_, rfl, rfl, hB⟩
set_option maxHeartbeats 1000000 in
theorem Zsp {l : Nat} {e : Option Addr} (hk : KA w k vs) (hx : Sk An w a n c x) (hn : n ≤ 256) (hq : Sk An w e m2 d2 q) (hl : l ≤ m2) (hm2 : m2 ≤ 1000) (hd0 : q.drop l = []) : Calls Tryz.prog 61 #[.agg #[.iface 116 (.agg (brc vs (.slice a n c))), .int .i64 ((l : Nat) : Int), .bool cb], .slice e m2 d2] w fun e w' => ∃ v', e = .returned v' ∧ RNx w none v' w' := by
 have hql := hq.len
 have hB : Bl w w := Bl.refl w
 refine Zaj Tryz.func61 rfl 48 rfl ?_
 show CW _ _ _ _ _ _ _ [(0, .agg #[.iface 116 (.agg (brc vs (.slice a n c))), .int .i64 ((l : Nat) : Int), .bool cb]), (1, .slice e m2 d2)] _
 refine Zac ?_
 refine Zaa ?_
 refine Zar 2 (#[.iface 116 (.agg (brc vs (.slice a n c))), .int .i64 ((l : Nat) : Int), .bool cb]) 88 (fun _ => by kernel_rfl) (fun _ => by kernel_rfl) ?_
 intro w1 g2 hn3
 have hzg2 : w.heap.size ≤ g2 := by have := hB.size; have := hn3.hg; omega
 replace hB := hB.go hn3.below
 replace hk := hk.go hn3.below
 replace hx := hx.go hn3.below
 replace hq := hq.go hn3.below
 have hr4 : Rw g2 w1 (#[.iface 116 (.agg (brc vs (.slice a n c))), .int .i64 ((l : Nat) : Int), .bool cb]) 88 := hn3.row
 refine Zar 4 (#[.nilIface, .int .i64 0, .bool false]) 88 (fun _ => by kernel_rfl) (fun _ => by kernel_rfl) ?_
 intro w5 g6 hn7
 have hlg2g6 : g2 < g6 := by have := hr4.lt; have := hn7.hg; omega
 have hzg6 : w.heap.size ≤ g6 := by have := hB.size; have := hn7.hg; omega
 replace hB := hB.go hn7.below
 replace hk := hk.go hn7.below
 replace hx := hx.go hn7.below
 replace hq := hq.go hn7.below
 replace hr4 := hr4.go hn7.below
 have hr8 : Rw g6 w5 (#[.nilIface, .int .i64 0, .bool false]) 88 := hn7.row
 refine rp 5 (.bool false) ?_
 refine Zad ?_
 refine Zab ?_
 refine Zac ?_
 refine Zaa ?_
 refine rp 9 (.slice e m2 d2) ?_
 refine rp 10 (.pointer (some ⟨g2, 1, none⟩)) ?_
 refine rv 11 (.int .i64 ((l : Nat) : Int)) (fun _ => Zag 3 _ ⟨g2, 1, none⟩ _ _ rfl (by kernel_rfl) (by rw [cell_of_row _ _ _ _ _ _ hr4]; rfl) Tryz.underlying3 rfl) ?_
 obtain ⟨a9, n10, c11, hr12, hs13⟩ := hq.cutFrom l (by omega)
 refine rv 12 (.slice a9 n10 c11) (fun _ => hr12 _ _ _ _ _ _ rfl (by kernel_rfl) (by kernel_rfl) rfl) ?_
 refine rp 6 (.slice a9 n10 c11) ?_
 refine Zad ?_
 refine Zab ?_
 refine Zac ?_
 refine Zac ?_
 refine Zaa ?_
 refine rp 13 (.pointer (some ⟨g2, 0, none⟩)) ?_
 refine rv 14 (.iface 116 (.agg (brc vs (.slice a n c)))) (fun _ => Zag 47 _ ⟨g2, 0, none⟩ _ _ rfl (by kernel_rfl) (by rw [cell_of_row _ _ _ _ _ _ hr4]; rfl) Tryz.underlying47 rfl) ?_
 refine Zad ?_
 refine Zab ?_
 refine Zan ?_
 refine Zac ?_
 refine Zaa ?_
 refine rp 15 (.tuple #[.agg (#[.slice none 0 0, .nilIface]), .bool false]) ?_
 refine rp 16 (.bool false) ?_
 refine rp 17 (.agg (#[.slice none 0 0, .nilIface])) ?_
 refine Zad ?_
 refine Zab ?_
 refine Zaf (fun _ => by kernel_rfl) ?_
 refine Zac ?_
 refine Zaa ?_
 refine rp 31 (.tuple #[.agg (brc vs (.slice a n c)), .bool true]) ?_
 refine rp 32 (.bool true) ?_
 refine rp 33 (.agg (brc vs (.slice a n c))) ?_
 refine Zad ?_
 refine Zab ?_
 refine Zai (fun _ => by kernel_rfl) ?_
 refine Zac ?_
 refine Zaa ?_
 refine Zar 8 (brc (fun _ => .nilIface) (.slice none 0 0)) 116 (fun _ => by kernel_rfl) (fun _ => by kernel_rfl) ?_
 intro w14 g15 hn16
 have hr17 : Rw g15 w14 (brc (fun _ => .nilIface) (.slice none 0 0)) 116 := hn16.row
 refine Zav g15 (brc vs (.slice a n c)) (fun _ => by kernel_rfl) (fun _ => Zao 116 _ _ _ _ _ 116 rfl (by kernel_rfl) (by kernel_rfl) hr17 (by kernel_rfl) (by kernel_rfl) (Zbl hk)) ?_
 intro w18 hp19
 replace hn16 := hn16.put hp19
 clear hr17
 have hlg2g15 : g2 < g15 := by have := hr4.lt; have := hn16.hg; omega
 have hlg6g15 : g6 < g15 := by have := hr8.lt; have := hn16.hg; omega
 have hzg15 : w.heap.size ≤ g15 := by have := hB.size; have := hn16.hg; omega
 replace hB := hB.go hn16.below
 replace hk := hk.go hn16.below
 replace hx := hx.go hn16.below
 replace hq := hq.go hn16.below
 replace hr4 := hr4.go hn16.below
 replace hr8 := hr8.go hn16.below
 replace hs13 := hs13.go hn16.below
 have hr21 : Rw g15 w18 (brc vs (.slice a n c)) 116 := hn16.row
 refine Zad ?_
 refine Zab ?_
 refine Zac ?_
 rw [hd0] at hs13
 have hrl := hs13.len
 refine Zaa ?_
 refine rp 34 (.slice a9 n10 c11) ?_
 refine rp 35 (.int .i64 n10) ?_
 refine rv 36 (.bool false) (fun _ => Zal (v := .bool (decide ((n10 : Int) > (0 : Int)))) (by kernel_rfl) (congrArg Value.bool (decide_eq_false (by simp at hrl; omega)))) ?_
 refine Zad ?_
 refine Zab ?_
 refine Zaf (fun _ => by kernel_rfl) ?_
 refine Zam ?_
 refine Zau ?_
 refine Zab ?_
 refine Zac ?_
 refine Zaa ?_
 refine rp 47 (.agg #[.nilIface, .int .i64 0, .bool false]) ?_
 refine Zav g6 (#[.nilIface, .int .i64 0, .bool false]) (fun _ => by kernel_rfl) (fun _ => Zao 88 _ _ _ _ _ 88 rfl (by kernel_rfl) (by kernel_rfl) hr8 (by kernel_rfl) (by kernel_rfl) (by kernel_rfl)) ?_
 intro w22 hp23
 have hnt24 := Nt.rows hr8 (nob3 (show ThA w .no .nilIface from rfl) (fun _ e => by cases e) (fun _ e => by cases e)) hp23.touch
 replace hB := hB.tou hp23.touch hzg6
 replace hk := hk.nt hnt24
 replace hx := hx.nt hnt24
 replace hq := hq.nt hnt24
 replace hr4 := hr4.past hp23.touch (by omega)
 replace hs13 := hs13.nt hnt24
 replace hr21 := hr21.past hp23.touch (by omega)
 replace hr8 : Rw g6 w22 (#[.nilIface, .int .i64 0, .bool false]) 88 := hp23.row hr8
 refine rp 5 (.bool false) ?_
 refine Zad ?_
 refine Zab ?_
 refine Zap ?_
 refine Zae (.tuple #[.agg (#[.nilIface, .int .i64 0, .bool false]), .bool false]) (fun _ => Zgf rfl _ g6 _ _ (by kernel_rfl) (by kernel_rfl) hr8 Tryz.underlying88 rfl (by kernel_rfl)) ?_
 exact ⟨_, rfl, rfl, hB⟩
set_option maxHeartbeats 1000000 in
theorem Zsq {l : Nat} {e : Option Addr} (hk : KA w k vs) (hx : Sk An w a n c x) (hn : n ≤ 256) (hq : Sk An w e m2 d2 q) (hl : l ≤ m2) (hm2 : m2 ≤ 1000) (hd0 : q.drop l = i :: r) (hi : 0 ≤ i ∧ i < 16) : Calls Tryz.prog 61 #[.agg #[.iface 116 (.agg (brc vs (.slice a n c))), .int .i64 ((l : Nat) : Int), .bool cb], .slice e m2 d2] w fun e w' => ∃ v', e = .returned v' ∧ RNx w (some ⟨k i.toNat, l + 1, false⟩) v' w' := by
 have hql := hq.len
 have hqK : Sk (fun b => b < w.heap.size) w e m2 d2 q := ⟨hq.ag, fun x hx hn => hq.old hx hn⟩
 have hB : Bl w w := Bl.refl w
 refine Zaj Tryz.func61 rfl 48 rfl ?_
 show CW _ _ _ _ _ _ _ [(0, .agg #[.iface 116 (.agg (brc vs (.slice a n c))), .int .i64 ((l : Nat) : Int), .bool cb]), (1, .slice e m2 d2)] _
 refine Zac ?_
 refine Zaa ?_
 refine Zar 2 (#[.iface 116 (.agg (brc vs (.slice a n c))), .int .i64 ((l : Nat) : Int), .bool cb]) 88 (fun _ => by kernel_rfl) (fun _ => by kernel_rfl) ?_
 intro w1 g2 hn3
 have hzg2 : w.heap.size ≤ g2 := by have := hB.size; have := hn3.hg; omega
 replace hB := hB.go hn3.below
 replace hk := hk.go hn3.below
 replace hx := hx.go hn3.below
 replace hqK := hqK.go hn3.below
 have hr4 : Rw g2 w1 (#[.iface 116 (.agg (brc vs (.slice a n c))), .int .i64 ((l : Nat) : Int), .bool cb]) 88 := hn3.row
 refine Zar 4 (#[.nilIface, .int .i64 0, .bool false]) 88 (fun _ => by kernel_rfl) (fun _ => by kernel_rfl) ?_
 intro w5 g6 hn7
 have hlg2g6 : g2 < g6 := by have := hr4.lt; have := hn7.hg; omega
 have hzg6 : w.heap.size ≤ g6 := by have := hB.size; have := hn7.hg; omega
 replace hB := hB.go hn7.below
 replace hk := hk.go hn7.below
 replace hx := hx.go hn7.below
 replace hqK := hqK.go hn7.below
 replace hr4 := hr4.go hn7.below
 have hr8 : Rw g6 w5 (#[.nilIface, .int .i64 0, .bool false]) 88 := hn7.row
 refine rp 5 (.bool false) ?_
 refine Zad ?_
 refine Zab ?_
 refine Zac ?_
 refine Zaa ?_
 refine rp 9 (.slice e m2 d2) ?_
 refine rp 10 (.pointer (some ⟨g2, 1, none⟩)) ?_
 refine rv 11 (.int .i64 ((l : Nat) : Int)) (fun _ => Zag 3 _ ⟨g2, 1, none⟩ _ _ rfl (by kernel_rfl) (by rw [cell_of_row _ _ _ _ _ _ hr4]; rfl) Tryz.underlying3 rfl) ?_
 obtain ⟨a9, n10, c11, hr12, hs13⟩ := hqK.cutFrom l (by omega)
 refine rv 12 (.slice a9 n10 c11) (fun _ => hr12 _ _ _ _ _ _ rfl (by kernel_rfl) (by kernel_rfl) rfl) ?_
 refine rp 6 (.slice a9 n10 c11) ?_
 refine Zad ?_
 refine Zab ?_
 refine Zac ?_
 refine Zac ?_
 refine Zaa ?_
 refine rp 13 (.pointer (some ⟨g2, 0, none⟩)) ?_
 refine rv 14 (.iface 116 (.agg (brc vs (.slice a n c)))) (fun _ => Zag 47 _ ⟨g2, 0, none⟩ _ _ rfl (by kernel_rfl) (by rw [cell_of_row _ _ _ _ _ _ hr4]; rfl) Tryz.underlying47 rfl) ?_
 refine Zad ?_
 refine Zab ?_
 refine Zan ?_
 refine Zac ?_
 refine Zaa ?_
 refine rp 15 (.tuple #[.agg (#[.slice none 0 0, .nilIface]), .bool false]) ?_
 refine rp 16 (.bool false) ?_
 refine rp 17 (.agg (#[.slice none 0 0, .nilIface])) ?_
 refine Zad ?_
 refine Zab ?_
 refine Zaf (fun _ => by kernel_rfl) ?_
 refine Zac ?_
 refine Zaa ?_
 refine rp 31 (.tuple #[.agg (brc vs (.slice a n c)), .bool true]) ?_
 refine rp 32 (.bool true) ?_
 refine rp 33 (.agg (brc vs (.slice a n c))) ?_
 refine Zad ?_
 refine Zab ?_
 refine Zai (fun _ => by kernel_rfl) ?_
 refine Zac ?_
 refine Zaa ?_
 refine Zar 8 (brc (fun _ => .nilIface) (.slice none 0 0)) 116 (fun _ => by kernel_rfl) (fun _ => by kernel_rfl) ?_
 intro w14 g15 hn16
 have hr17 : Rw g15 w14 (brc (fun _ => .nilIface) (.slice none 0 0)) 116 := hn16.row
 refine Zav g15 (brc vs (.slice a n c)) (fun _ => by kernel_rfl) (fun _ => Zao 116 _ _ _ _ _ 116 rfl (by kernel_rfl) (by kernel_rfl) hr17 (by kernel_rfl) (by kernel_rfl) (Zbl hk)) ?_
 intro w18 hp19
 replace hn16 := hn16.put hp19
 clear hr17
 have hlg2g15 : g2 < g15 := by have := hr4.lt; have := hn16.hg; omega
 have hlg6g15 : g6 < g15 := by have := hr8.lt; have := hn16.hg; omega
 have hzg15 : w.heap.size ≤ g15 := by have := hB.size; have := hn16.hg; omega
 replace hB := hB.go hn16.below
 replace hk := hk.go hn16.below
 replace hx := hx.go hn16.below
 replace hqK := hqK.go hn16.below
 replace hr4 := hr4.go hn16.below
 replace hr8 := hr8.go hn16.below
 replace hs13 := hs13.go hn16.below
 have hr21 : Rw g15 w18 (brc vs (.slice a n c)) 116 := hn16.row
 refine Zad ?_
 refine Zab ?_
 refine Zac ?_
 rw [hd0] at hs13
 have hrl := hs13.len
 obtain ⟨gq, oq, rfl, hcq, hq0⟩ := hs13.head
 have hlow : gq < w.heap.size := hs13.k ⟨gq, oq, none⟩ rfl hq0
 refine Zaa ?_
 refine rp 34 (.slice (some ⟨gq, oq, none⟩) n10 c11) ?_
 refine rp 35 (.int .i64 n10) ?_
 refine rv 36 (.bool true) (fun _ => Zal (v := .bool (decide ((n10 : Int) > (0 : Int)))) (by kernel_rfl) (congrArg Value.bool (decide_eq_true (by simp at hrl; omega)))) ?_
 refine Zad ?_
 refine Zab ?_
 refine Zai (fun _ => by kernel_rfl) ?_
 refine Zac ?_
 have hit : i.toNat < 16 := by omega
 have hki := hk i.toNat hit
 have hgq : gq < g6 := by have := hlow; omega
 refine Zbd (fun v => Rw g2 v (#[.iface 116 (.agg (brc vs (.slice a n c))), .int .i64 ((l : Nat) : Int), .bool cb]) 88 ∧ Rw g15 v (brc vs (.slice a n c)) 116 ∧ v.cell? ⟨gq, oq + 0 * 1, none⟩ = some (.int .u8 i)) (by kernel_rfl) (⟨hr4, hr21, hcq⟩) ?_
 replace hB := hB.go (Below.refl _ _).drew
 replace hk := hk.go (Below.refl _ _).drew
 replace hx := hx.go (Below.refl _ _).drew
 replace hqK := hqK.go (Below.refl _ _).drew
 replace hr4 := hr4.go (Below.refl _ _).drew
 replace hr8 := hr8.go (Below.refl _ _).drew
 replace hs13 := hs13.go (Below.refl _ _).drew
 replace hr21 := hr21.go (Below.refl _ _).drew
 replace hcq := Zdh hcq (Below.refl _ _).drew
 replace hki := hki.go (Below.refl _ _).drew
 refine dt 0 37 (.slice (some ⟨gq, oq, none⟩) n10 c11) (fun v hv _ => by kernel_rfl) ⟨hr4, hr21, hcq⟩ ?_
 refine dt 1 38 (.pointer (some ⟨gq, oq + 0 * 1, none⟩)) (fun v hv _ => Za0 29 _ _ gq oq 0 n10 c11 1 5 rfl (by kernel_rfl) (by kernel_rfl) hq0 Tryz.underlying29 (by kernel_rfl)) ⟨hr4, hr21, hcq⟩ ?_
 refine dt 2 39 (.int .u8 i) (fun v hv _ => Zag 5 _ ⟨gq, oq + 0 * 1, none⟩ _ _ rfl (by kernel_rfl) hv.2.2 Tryz.underlying5 rfl) ⟨hr4, hr21, hcq⟩ ?_
 refine dt 3 40 (.pointer (some ⟨g15, 0, none⟩)) (fun v hv _ => by kernel_rfl) ⟨hr4, hr21, hcq⟩ ?_
 refine Zi2 4 41 (.pointer (some ⟨g15, 0 + i.toNat * 1, none⟩)) rfl (by kernel_rfl) (fun _ _ _ h => h) (fun _ => by kernel_rfl) (fun v hv => (fun _ => Zb5 (kd := .u8) 114 _ _ g15 0 i.toNat 16 1 47 rfl (by kernel_rfl) (by show Value.int .u8 i = _; rw [Int.toNat_of_nonneg hi.1]) hit (by omega) Tryz.underlying114 (by kernel_rfl))) ⟨hr4, hr21, hcq⟩ ?_
 refine dt 5 42 (vs i.toNat) (fun v hv _ => Zag 47 _ ⟨g15, 0 + i.toNat * 1, none⟩ _ _ rfl (by kernel_rfl) (by rw [Nat.zero_add, Nat.mul_one, cell_of_row _ _ _ _ _ _ hv.2.1]; exact Zg9 _ _ _ hit) Tryz.underlying47 rfl) ⟨hr4, hr21, hcq⟩ ?_
 refine dt 6 43 (.pointer (some ⟨g2, 1, none⟩)) (fun v hv _ => by kernel_rfl) ⟨hr4, hr21, hcq⟩ ?_
 refine dt 7 44 (.int .i64 ((l : Nat) : Int)) (fun v hv _ => Zag 3 _ ⟨g2, 1, none⟩ _ _ rfl (by kernel_rfl) (by rw [cell_of_row _ _ _ _ _ _ hv.1]; rfl) Tryz.underlying3 rfl) ⟨hr4, hr21, hcq⟩ ?_
 refine dt 8 45 (.int .i64 ((l + 1 : Nat) : Int)) (fun v hv => (fun _ => Zal (v := .int .i64 (IntKind.i64.wrap (((l : Nat) : Int) + (1 : Int)))) (by kernel_rfl) (congrArg (Value.int .i64) ((Zbc (by omega) (by omega)).trans (by omega))))) ⟨hr4, hr21, hcq⟩ ?_
 refine dt 9 46 (.agg #[vs i.toNat, .int .i64 ((l + 1 : Nat) : Int), .bool false]) (fun v hv => (fun _ => Zbz 88 _ rfl [(0, vs i.toNat), (1, .int .i64 ((l + 1 : Nat) : Int)), (2, .bool false)] (by kernel_rfl) _ (Zi5 hki _ _))) ⟨hr4, hr21, hcq⟩ ?_
 refine Zas [10] (by kernel_rfl) (by simp) ?_
 refine Zuh 10 g6 (#[vs i.toNat, .int .i64 ((l + 1 : Nat) : Int), .bool false]) rfl (fun _ => by kernel_rfl) (fun _ => Zao 88 _ _ _ _ _ 88 rfl (by kernel_rfl) (by kernel_rfl) hr8 (by kernel_rfl) (by kernel_rfl) (one3 hki.one rfl rfl)) (fun w' hp => ⟨hr4.past hp.touch (by omega), hr21.past hp.touch (by omega), (World.cell?_of_block (hp.other (k := gq) (by omega))).trans hcq⟩) ?_ Zaz
 intro w22 hp23
 have hcq9 := (World.cell?_of_block (hp23.other (k := gq) (by omega))).trans hcq
 clear hcq
 have hcq := hcq9
 clear hcq9
 have hnt24 := Nt.rows hr8 (nob3 (show ThA w .no .nilIface from rfl) (fun _ e => by cases e) (fun _ e => by cases e)) hp23.touch
 replace hB := hB.tou hp23.touch hzg6
 replace hk := hk.nt hnt24
 replace hx := hx.nt hnt24
 replace hqK := hqK.nt hnt24
 replace hr4 := hr4.past hp23.touch (by omega)
 replace hs13 := hs13.nt hnt24
 replace hr21 := hr21.past hp23.touch (by omega)
 replace hki := hki.nt hnt24
 replace hr8 := hp23.row hr8
 refine dt 11 5 (.bool true) (fun v hv _ => by kernel_rfl) ⟨hr4, hr21, hcq⟩ ?_
 refine Za6 (by kernel_rfl) ?_
 refine Zab ?_
 refine Zap ?_
 refine Zaq ?_
 refine Zah ?_
 refine Zae (.tuple #[.agg (#[vs i.toNat, .int .i64 ((l + 1 : Nat) : Int), .bool false]), .bool true]) (fun _ => Zgf rfl _ g6 _ _ (by kernel_rfl) (by kernel_rfl) hr8 Tryz.underlying88 rfl (by kernel_rfl)) ?_
 exact ⟨_, rfl, ⟨_, rfl, hki⟩, hB⟩
end Go.Proofs.YtchgejomcgoaeaaGreat
