/- What a way's end says, what is looked for; a branch in its normal form. -/
import Derived.Test.YtchgejomcgoaeaaGreatG24
import Derived.Test.YtchgejomcgoaeaaGreatG14
set_option linter.unusedVariables false
set_option maxRecDepth 100000
namespace Go.Proofs.YtchgejomcgoaeaaGreat
open Go.RowKit
open Pt
variable {w w' : World} {cb : Bool} {m2 d2 n c m g gK gU base : Nat} {q d p x : List Int} {a b : Option Addr} {u : Value} {vs : Nat → Value} {k : Nat → Pt} {kn : Kn} {us : List (List Int)} {s : Sp} {xs : List Value} {ws : List Sp}
theorem Zl9 {t : Pt} {v : Value} {l : Nat} {e : Option Addr} (h : ThA w t v) (hq : Sk An w e m2 d2 q) (hl : l ≤ m2) (hm2 : m2 ≤ 1000) (hqn : nibs q) : Calls Tryz.prog 61 #[.agg #[v, .int .i64 ((l : Nat) : Int), .bool cb], .slice e m2 d2] w fun e w' => ∃ v', e = .returned v' ∧ RNx w (nextP q ⟨t, l, cb⟩) v' w' := by
  cases t with
  | no => obtain rfl : v = .nilIface := h; exact Zvo hq hl hm2
  | st d => obtain ⟨rfl, hd, _⟩ := h; exact Zvn hd hq hl hm2
  | leaf p x => obtain ⟨a, n, c, b, m, d, rfl, hp, hx, hm, hn⟩ := h; exact Zpv hp hx hm hn hq hl hm2
  | ext p t => obtain ⟨a, n, c, u, rfl, hp, hn, ht⟩ := h; exact Zso hp hn ht hq hl hm2
  | br k x =>
    obtain ⟨vs, a, n, c, rfl, hk, hx, hn⟩ := h
    unfold nextP
    simp only
    cases hd : q.drop l with
    | nil => exact Zsp hk hx hn hq hl hm2 hd
    | cons i r => exact Zsq hk hx hn hq hl hm2 hd (hqn i (List.mem_of_mem_drop (by rw [hd]; simp : i ∈ q.drop l)))
set_option maxHeartbeats 1000000 in
theorem Zw0 {l : Nat} {e : Option Addr} (hq : Sk An w e m2 d2 q) (hl : l ≤ m2) : Calls Tryz.prog 42 #[.agg #[.nilIface, .int .i64 ((l : Nat) : Int), .bool cb], .slice e m2 d2] w fun e w' => ∃ v', e = .returned v' ∧ RSv w [] v' w' := by
  have hql := hq.len
  have hB : Bl w w := Bl.refl w
  refine Zaj Tryz.func42 rfl 26 rfl ?_
  show CW _ _ _ _ _ _ _ [(0, .agg #[.nilIface, .int .i64 ((l : Nat) : Int), .bool cb]), (1, .slice e m2 d2)] _
  refine Zac ?_
  refine Zaa ?_
  refine Zar 2 (#[.nilIface, .int .i64 ((l : Nat) : Int), .bool cb]) 88 (fun _ => by kernel_rfl) (fun _ => by kernel_rfl) ?_
  intro w1 g2 hn3
  have hzg2 : w.heap.size ≤ g2 := by have := hB.size; have := hn3.hg; omega
  replace hB := hB.go hn3.below
  replace hq := hq.go hn3.below
  have hr4 : Rw g2 w1 (#[.nilIface, .int .i64 ((l : Nat) : Int), .bool cb]) 88 := hn3.row
  refine rp 4 (.slice none 0 0) ?_
  refine Zad ?_
  refine Zab ?_
  refine Zac ?_
  refine Zac ?_
  refine Zaa ?_
  refine rp 7 (.pointer (some ⟨g2, 0, none⟩)) ?_
  refine rv 8 (.nilIface) (fun _ => Zag 47 _ ⟨g2, 0, none⟩ _ _ rfl (by kernel_rfl) (by rw [cell_of_row _ _ _ _ _ _ hr4]; rfl) Tryz.underlying47 rfl) ?_
  refine Zad ?_
  refine Zab ?_
  refine Zan ?_
  refine Zac ?_
  refine Zaa ?_
  refine rp 9 (.tuple #[.agg (#[.slice none 0 0, .slice none 0 0]), .bool false]) ?_
  refine rp 10 (.bool false) ?_
  refine rp 11 (.agg (#[.slice none 0 0, .slice none 0 0])) ?_
  refine Zad ?_
  refine Zab ?_
  refine Zaf (fun _ => by kernel_rfl) ?_
  refine Zac ?_
  refine Zaa ?_
  refine rp 21 (.tuple #[.agg (brc (fun _ => .nilIface) (.slice none 0 0)), .bool false]) ?_
  refine rp 22 (.bool false) ?_
  refine rp 23 (.agg (brc (fun _ => .nilIface) (.slice none 0 0))) ?_
  refine Zad ?_
  refine Zab ?_
  refine Zaf (fun _ => by kernel_rfl) ?_
  refine Zam ?_
  refine Zau ?_
  refine Zab ?_
  refine Zac ?_
  refine Zaa ?_
  refine rp 4 (.slice none 0 0) ?_
  refine Zad ?_
  refine Zab ?_
  refine Zap ?_
  refine Zae (.slice none 0 0) (fun _ => by kernel_rfl) ?_
  exact ⟨_, rfl, ⟨none, 0, 0, rfl, Sk.nil _ _, by omega⟩, hB⟩
set_option maxHeartbeats 1000000 in
theorem Zwz {l : Nat} {e : Option Addr} (hd : d.length = 32) (hq : Sk An w e m2 d2 q) (hl : l ≤ m2) : Calls Tryz.prog 42 #[.agg #[.iface 50 (.agg (B8 d)), .int .i64 ((l : Nat) : Int), .bool cb], .slice e m2 d2] w fun e w' => ∃ v', e = .returned v' ∧ RSv w [] v' w' := by
  have hql := hq.len
  have hB : Bl w w := Bl.refl w
  refine Zaj Tryz.func42 rfl 26 rfl ?_
  show CW _ _ _ _ _ _ _ [(0, .agg #[.iface 50 (.agg (B8 d)), .int .i64 ((l : Nat) : Int), .bool cb]), (1, .slice e m2 d2)] _
  refine Zac ?_
  refine Zaa ?_
  refine Zar 2 (#[.iface 50 (.agg (B8 d)), .int .i64 ((l : Nat) : Int), .bool cb]) 88 (fun _ => by kernel_rfl) (fun _ => by kernel_rfl) ?_
  intro w1 g2 hn3
  have hzg2 : w.heap.size ≤ g2 := by have := hB.size; have := hn3.hg; omega
  replace hB := hB.go hn3.below
  replace hq := hq.go hn3.below
  have hr4 : Rw g2 w1 (#[.iface 50 (.agg (B8 d)), .int .i64 ((l : Nat) : Int), .bool cb]) 88 := hn3.row
  refine rp 4 (.slice none 0 0) ?_
  refine Zad ?_
  refine Zab ?_
  refine Zac ?_
  refine Zac ?_
  refine Zaa ?_
  refine rp 7 (.pointer (some ⟨g2, 0, none⟩)) ?_
  refine rv 8 (.iface 50 (.agg (B8 d))) (fun _ => Zag 47 _ ⟨g2, 0, none⟩ _ _ rfl (by kernel_rfl) (by rw [cell_of_row _ _ _ _ _ _ hr4]; rfl) Tryz.underlying47 rfl) ?_
  refine Zad ?_
  refine Zab ?_
  refine Zan ?_
  refine Zac ?_
  refine Zaa ?_
  refine rp 9 (.tuple #[.agg (#[.slice none 0 0, .slice none 0 0]), .bool false]) ?_
  refine rp 10 (.bool false) ?_
  refine rp 11 (.agg (#[.slice none 0 0, .slice none 0 0])) ?_
  refine Zad ?_
  refine Zab ?_
  refine Zaf (fun _ => by kernel_rfl) ?_
  refine Zac ?_
  refine Zaa ?_
  refine rp 21 (.tuple #[.agg (brc (fun _ => .nilIface) (.slice none 0 0)), .bool false]) ?_
  refine rp 22 (.bool false) ?_
  refine rp 23 (.agg (brc (fun _ => .nilIface) (.slice none 0 0))) ?_
  refine Zad ?_
  refine Zab ?_
  refine Zaf (fun _ => by kernel_rfl) ?_
  refine Zam ?_
  refine Zau ?_
  refine Zab ?_
  refine Zac ?_
  refine Zaa ?_
  refine rp 4 (.slice none 0 0) ?_
  refine Zad ?_
  refine Zab ?_
  refine Zap ?_
  refine Zae (.slice none 0 0) (fun _ => by kernel_rfl) ?_
  exact ⟨_, rfl, ⟨none, 0, 0, rfl, Sk.nil _ _, by omega⟩, hB⟩
set_option maxHeartbeats 1000000 in
theorem Zro {d : Nat} {l : Nat} {e : Option Addr} (hp : Sk An w a n c p) (hx : Sk An w b m d x) (hm : m ≤ 256) (hn : n ≤ 140737488351232) (hq : Sk An w e m2 d2 q) (hl : l ≤ m2) : Calls Tryz.prog 42 #[.agg #[.iface 110 (.agg #[.slice a n c, .slice b m d]), .int .i64 ((l : Nat) : Int), .bool cb], .slice e m2 d2] w fun e w' => ∃ v', e = .returned v' ∧ RSv w (if p = q.drop l then x else []) v' w' := by
  have hql := hq.len
  have hB : Bl w w := Bl.refl w
  refine Zaj Tryz.func42 rfl 26 rfl ?_
  show CW _ _ _ _ _ _ _ [(0, .agg #[.iface 110 (.agg #[.slice a n c, .slice b m d]), .int .i64 ((l : Nat) : Int), .bool cb]), (1, .slice e m2 d2)] _
  refine Zac ?_
  refine Zaa ?_
  refine Zar 2 (#[.iface 110 (.agg #[.slice a n c, .slice b m d]), .int .i64 ((l : Nat) : Int), .bool cb]) 88 (fun _ => by kernel_rfl) (fun _ => by kernel_rfl) ?_
  intro w1 g2 hn3
  have hzg2 : w.heap.size ≤ g2 := by have := hB.size; have := hn3.hg; omega
  replace hB := hB.go hn3.below
  replace hp := hp.go hn3.below
  replace hx := hx.go hn3.below
  replace hq := hq.go hn3.below
  have hr4 : Rw g2 w1 (#[.iface 110 (.agg #[.slice a n c, .slice b m d]), .int .i64 ((l : Nat) : Int), .bool cb]) 88 := hn3.row
  refine rp 4 (.slice none 0 0) ?_
  refine Zad ?_
  refine Zab ?_
  refine Zac ?_
  refine Zac ?_
  refine Zaa ?_
  refine rp 7 (.pointer (some ⟨g2, 0, none⟩)) ?_
  refine rv 8 (.iface 110 (.agg #[.slice a n c, .slice b m d])) (fun _ => Zag 47 _ ⟨g2, 0, none⟩ _ _ rfl (by kernel_rfl) (by rw [cell_of_row _ _ _ _ _ _ hr4]; rfl) Tryz.underlying47 rfl) ?_
  refine Zad ?_
  refine Zab ?_
  refine Zan ?_
  refine Zac ?_
  refine Zaa ?_
  refine rp 9 (.tuple #[.agg #[.slice a n c, .slice b m d], .bool true]) ?_
  refine rp 10 (.bool true) ?_
  refine rp 11 (.agg #[.slice a n c, .slice b m d]) ?_
  refine Zad ?_
  refine Zab ?_
  refine Zai (fun _ => by kernel_rfl) ?_
  refine Zac ?_
  refine Zaa ?_
  refine Zar 5 (#[.slice none 0 0, .slice none 0 0]) 110 (fun _ => by kernel_rfl) (fun _ => by kernel_rfl) ?_
  intro w5 g6 hn7
  have hr8 : Rw g6 w5 (#[.slice none 0 0, .slice none 0 0]) 110 := hn7.row
  refine Zav g6 (#[.slice a n c, .slice b m d]) (fun _ => by kernel_rfl) (fun _ => Zao 110 _ _ _ _ _ 110 rfl (by kernel_rfl) (by kernel_rfl) hr8 (by kernel_rfl) (by kernel_rfl) (by kernel_rfl)) ?_
  intro w9 hp10
  replace hn7 := hn7.put hp10
  clear hr8
  have hlg2g6 : g2 < g6 := by have := hr4.lt; have := hn7.hg; omega
  have hzg6 : w.heap.size ≤ g6 := by have := hB.size; have := hn7.hg; omega
  replace hB := hB.go hn7.below
  replace hp := hp.go hn7.below
  replace hx := hx.go hn7.below
  replace hq := hq.go hn7.below
  replace hr4 := hr4.go hn7.below
  have hr12 : Rw g6 w9 (#[.slice a n c, .slice b m d]) 110 := hn7.row
  refine Zad ?_
  refine Zab ?_
  refine Zac ?_
  refine Zbd (fun v => Rw g2 v (#[.iface 110 (.agg #[.slice a n c, .slice b m d]), .int .i64 ((l : Nat) : Int), .bool cb]) 88 ∧ Rw g6 v (#[.slice a n c, .slice b m d]) 110) (by kernel_rfl) (⟨hr4, hr12⟩) ?_
  replace hB := hB.go (Below.refl _ _).drew
  replace hp := hp.go (Below.refl _ _).drew
  replace hx := hx.go (Below.refl _ _).drew
  replace hq := hq.go (Below.refl _ _).drew
  replace hr4 := hr4.go (Below.refl _ _).drew
  replace hr12 := hr12.go (Below.refl _ _).drew
  refine dt 0 12 (.pointer (some ⟨g6, 0, none⟩)) (fun v hv _ => by kernel_rfl) ⟨hr4, hr12⟩ ?_
  refine dt 1 13 (.slice a n c) (fun v hv _ => Zag 29 _ ⟨g6, 0, none⟩ _ _ rfl (by kernel_rfl) (by rw [cell_of_row _ _ _ _ _ _ hv.2]; rfl) Tryz.underlying29 rfl) ⟨hr4, hr12⟩ ?_
  refine dt 2 14 (.slice e m2 d2) (fun v hv _ => by kernel_rfl) ⟨hr4, hr12⟩ ?_
  refine dt 3 15 (.pointer (some ⟨g2, 1, none⟩)) (fun v hv _ => by kernel_rfl) ⟨hr4, hr12⟩ ?_
  refine dt 4 16 (.int .i64 ((l : Nat) : Int)) (fun v hv _ => Zag 3 _ ⟨g2, 1, none⟩ _ _ rfl (by kernel_rfl) (by rw [cell_of_row _ _ _ _ _ _ hv.1]; rfl) Tryz.underlying3 rfl) ⟨hr4, hr12⟩ ?_
  obtain ⟨a13, n14, c15, hr16, hs17⟩ := hq.cutFrom l (by omega)
  refine dt 5 17 (.slice a13 n14 c15) (fun v hv => (fun _ => hr16 _ _ _ _ _ _ rfl (by kernel_rfl) (by kernel_rfl) rfl)) ⟨hr4, hr12⟩ ?_
  refine Zas [6] (by kernel_rfl) (by simp) ?_
  refine Za5 6 18 64 #[.slice a n c, .slice a13 n14 c15] rfl (fun _ => by kernel_rfl) (fun _ => by kernel_rfl) (R := fun u w' => u = .bool (decide (p = q.drop l)) ∧ Bl (w9.drew) w') (Zg3 hp hs17) (fun u w' h9 => ⟨hr4.go h9.2, hr12.go h9.2⟩) ?_ Zaz
  rintro _ w18 ⟨rfl, hb19⟩
  replace hB := hB.go hb19
  replace hp := hp.go hb19
  replace hx := hx.go hb19
  replace hq := hq.go hb19
  replace hr4 := hr4.go hb19
  replace hr12 := hr12.go hb19
  replace hs17 := hs17.go hb19
  refine Za6 (by kernel_rfl) ?_
  refine Zab ?_
  cases hq20 : (decide (p = q.drop l)) with
  | true =>
    refine Zai (fun _ => by kernel_rfl) ?_
    refine Zac ?_
    refine Zaa ?_
    refine rp 19 (.pointer (some ⟨g6, 1, none⟩)) ?_
    refine rv 20 (.slice b m d) (fun _ => Zag 29 _ ⟨g6, 1, none⟩ _ _ rfl (by kernel_rfl) (by rw [cell_of_row _ _ _ _ _ _ hr12]; rfl) Tryz.underlying29 rfl) ?_
    refine rp 4 (.slice b m d) ?_
    refine Zad ?_
    refine Zab ?_
    refine Zap ?_
    refine Zaq ?_
    refine Zah ?_
    refine Zae (.slice b m d) (fun _ => by kernel_rfl) ?_
    rw [if_pos (of_decide_eq_true hq20)]
    exact ⟨_, rfl, ⟨_, _, _, rfl, hx, by omega⟩, hB⟩
  | false =>
    refine Zaf (fun _ => by kernel_rfl) ?_
    refine Zam ?_
    refine Zau ?_
    refine Zab ?_
    refine Zac ?_
    refine Zaa ?_
    refine rp 4 (.slice none 0 0) ?_
    refine Zad ?_
    refine Zab ?_
    refine Zap ?_
    refine Zae (.slice none 0 0) (fun _ => by kernel_rfl) ?_
    rw [if_neg (of_decide_eq_false hq20)]
    exact ⟨_, rfl, ⟨none, 0, 0, rfl, Sk.nil _ _, by omega⟩, hB⟩
set_option maxHeartbeats 1000000 in
theorem Zur {t : Pt} {l : Nat} {e : Option Addr} (hp : Sk An w a n c p) (hn : n ≤ 140737488351232) (ht : ThA w t u) (hq : Sk An w e m2 d2 q) (hl : l ≤ m2) : Calls Tryz.prog 42 #[.agg #[.iface 113 (.agg #[.slice a n c, u]), .int .i64 ((l : Nat) : Int), .bool cb], .slice e m2 d2] w fun e w' => ∃ v', e = .returned v' ∧ RSv w [] v' w' := by
  have hql := hq.len
  have hB : Bl w w := Bl.refl w
  refine Zaj Tryz.func42 rfl 26 rfl ?_
  show CW _ _ _ _ _ _ _ [(0, .agg #[.iface 113 (.agg #[.slice a n c, u]), .int .i64 ((l : Nat) : Int), .bool cb]), (1, .slice e m2 d2)] _
  refine Zac ?_
  refine Zaa ?_
  refine Zar 2 (#[.iface 113 (.agg #[.slice a n c, u]), .int .i64 ((l : Nat) : Int), .bool cb]) 88 (fun _ => by kernel_rfl) (fun _ => by kernel_rfl) ?_
  intro w1 g2 hn3
  have hzg2 : w.heap.size ≤ g2 := by have := hB.size; have := hn3.hg; omega
  replace hB := hB.go hn3.below
  replace hp := hp.go hn3.below
  replace ht := ht.go hn3.below
  replace hq := hq.go hn3.below
  have hr4 : Rw g2 w1 (#[.iface 113 (.agg #[.slice a n c, u]), .int .i64 ((l : Nat) : Int), .bool cb]) 88 := hn3.row
  refine rp 4 (.slice none 0 0) ?_
  refine Zad ?_
  refine Zab ?_
  refine Zac ?_
  refine Zac ?_
  refine Zaa ?_
  refine rp 7 (.pointer (some ⟨g2, 0, none⟩)) ?_
  refine rv 8 (.iface 113 (.agg #[.slice a n c, u])) (fun _ => Zag 47 _ ⟨g2, 0, none⟩ _ _ rfl (by kernel_rfl) (by rw [cell_of_row _ _ _ _ _ _ hr4]; rfl) Tryz.underlying47 rfl) ?_
  refine Zad ?_
  refine Zab ?_
  refine Zan ?_
  refine Zac ?_
  refine Zaa ?_
  refine rp 9 (.tuple #[.agg (#[.slice none 0 0, .slice none 0 0]), .bool false]) ?_
  refine rp 10 (.bool false) ?_
  refine rp 11 (.agg (#[.slice none 0 0, .slice none 0 0])) ?_
  refine Zad ?_
  refine Zab ?_
  refine Zaf (fun _ => by kernel_rfl) ?_
  refine Zac ?_
  refine Zaa ?_
  refine rp 21 (.tuple #[.agg (brc (fun _ => .nilIface) (.slice none 0 0)), .bool false]) ?_
  refine rp 22 (.bool false) ?_
  refine rp 23 (.agg (brc (fun _ => .nilIface) (.slice none 0 0))) ?_
  refine Zad ?_
  refine Zab ?_
  refine Zaf (fun _ => by kernel_rfl) ?_
  refine Zam ?_
  refine Zau ?_
  refine Zab ?_
  refine Zac ?_
  refine Zaa ?_
  refine rp 4 (.slice none 0 0) ?_
  refine Zad ?_
  refine Zab ?_
  refine Zap ?_
  refine Zae (.slice none 0 0) (fun _ => by kernel_rfl) ?_
  exact ⟨_, rfl, ⟨none, 0, 0, rfl, Sk.nil _ _, by omega⟩, hB⟩
set_option maxHeartbeats 1000000 in
theorem Zw1 {l : Nat} {e : Option Addr} (hk : KA w k vs) (hx : Sk An w a n c x) (hn : n ≤ 256) (hq : Sk An w e m2 d2 q) (hl : l ≤ m2) : Calls Tryz.prog 42 #[.agg #[.iface 116 (.agg (brc vs (.slice a n c))), .int .i64 ((l : Nat) : Int), .bool cb], .slice e m2 d2] w fun e w' => ∃ v', e = .returned v' ∧ RSv w x v' w' := by
  have hql := hq.len
  have hB : Bl w w := Bl.refl w
  refine Zaj Tryz.func42 rfl 26 rfl ?_
  show CW _ _ _ _ _ _ _ [(0, .agg #[.iface 116 (.agg (brc vs (.slice a n c))), .int .i64 ((l : Nat) : Int), .bool cb]), (1, .slice e m2 d2)] _
  refine Zac ?_
  refine Zaa ?_
  refine Zar 2 (#[.iface 116 (.agg (brc vs (.slice a n c))), .int .i64 ((l : Nat) : Int), .bool cb]) 88 (fun _ => by kernel_rfl) (fun _ => by kernel_rfl) ?_
  intro w1 g2 hn3
  have hzg2 : w.heap.size ≤ g2 := by have := hB.size; have := hn3.hg; omega
  replace hB := hB.go hn3.below
  replace hk := hk.go hn3.below
  replace hx := hx.go hn3.below
  replace hq := hq.go hn3.below
  have hr4 : Rw g2 w1 (#[.iface 116 (.agg (brc vs (.slice a n c))), .int .i64 ((l : Nat) : Int), .bool cb]) 88 := hn3.row
  refine rp 4 (.slice none 0 0) ?_
  refine Zad ?_
  refine Zab ?_
  refine Zac ?_
  refine Zac ?_
  refine Zaa ?_
  refine rp 7 (.pointer (some ⟨g2, 0, none⟩)) ?_
  refine rv 8 (.iface 116 (.agg (brc vs (.slice a n c)))) (fun _ => Zag 47 _ ⟨g2, 0, none⟩ _ _ rfl (by kernel_rfl) (by rw [cell_of_row _ _ _ _ _ _ hr4]; rfl) Tryz.underlying47 rfl) ?_
  refine Zad ?_
  refine Zab ?_
  refine Zan ?_
  refine Zac ?_
  refine Zaa ?_
  refine rp 9 (.tuple #[.agg (#[.slice none 0 0, .slice none 0 0]), .bool false]) ?_
  refine rp 10 (.bool false) ?_
  refine rp 11 (.agg (#[.slice none 0 0, .slice none 0 0])) ?_
  refine Zad ?_
  refine Zab ?_
  refine Zaf (fun _ => by kernel_rfl) ?_
  refine Zac ?_
  refine Zaa ?_
  refine rp 21 (.tuple #[.agg (brc vs (.slice a n c)), .bool true]) ?_
  refine rp 22 (.bool true) ?_
  refine rp 23 (.agg (brc vs (.slice a n c))) ?_
  refine Zad ?_
  refine Zab ?_
  refine Zai (fun _ => by kernel_rfl) ?_
  refine Zac ?_
  refine Zaa ?_
  refine Zar 6 (brc (fun _ => .nilIface) (.slice none 0 0)) 116 (fun _ => by kernel_rfl) (fun _ => by kernel_rfl) ?_
  intro w5 g6 hn7
  have hr8 : Rw g6 w5 (brc (fun _ => .nilIface) (.slice none 0 0)) 116 := hn7.row
  refine Zav g6 (brc vs (.slice a n c)) (fun _ => by kernel_rfl) (fun _ => Zao 116 _ _ _ _ _ 116 rfl (by kernel_rfl) (by kernel_rfl) hr8 (by kernel_rfl) (by kernel_rfl) (Zbl hk)) ?_
  intro w9 hp10
  replace hn7 := hn7.put hp10
  clear hr8
  have hlg2g6 : g2 < g6 := by have := hr4.lt; have := hn7.hg; omega
  have hzg6 : w.heap.size ≤ g6 := by have := hB.size; have := hn7.hg; omega
  replace hB := hB.go hn7.below
  replace hk := hk.go hn7.below
  replace hx := hx.go hn7.below
  replace hq := hq.go hn7.below
  replace hr4 := hr4.go hn7.below
  have hr12 : Rw g6 w9 (brc vs (.slice a n c)) 116 := hn7.row
  refine Zad ?_
  refine Zab ?_
  refine Zac ?_
  refine Zaa ?_
  refine rp 24 (.pointer (some ⟨g6, 16, none⟩)) ?_
  refine rv 25 (.slice a n c) (fun _ => Zag 29 _ ⟨g6, 16, none⟩ _ _ rfl (by kernel_rfl) (by rw [cell_of_row _ _ _ _ _ _ hr12]; rfl) Tryz.underlying29 rfl) ?_
  refine rp 4 (.slice a n c) ?_
  refine Zad ?_
  refine Zab ?_
  refine Zap ?_
  refine Zaq ?_
  refine Zah ?_
  refine Zae (.slice a n c) (fun _ => by kernel_rfl) ?_
  exact ⟨_, rfl, ⟨_, _, _, rfl, hx, by omega⟩, hB⟩
theorem Zgb {t : Pt} {v : Value} {l : Nat} {e : Option Addr} (h : ThA w t v) (hq : Sk An w e m2 d2 q) (hl : l ≤ m2) : Calls Tryz.prog 42 #[.agg #[v, .int .i64 ((l : Nat) : Int), .bool cb], .slice e m2 d2] w fun e w' => ∃ v', e = .returned v' ∧ RSv w (valS q ⟨t, l, cb⟩) v' w' := by
  cases t with
  | no => obtain rfl : v = .nilIface := h; exact Zw0 hq hl
  | st d => obtain ⟨rfl, hd, _⟩ := h; exact Zwz hd hq hl
  | leaf p x => obtain ⟨a, n, c, b, m, d, rfl, hp, hx, hm, hn⟩ := h; exact Zro hp hx hm hn hq hl
  | ext p t => obtain ⟨a, n, c, u, rfl, hp, hn, ht⟩ := h; exact Zur hp hn ht hq hl
  | br k x => obtain ⟨vs, a, n, c, rfl, hk, hx, hn⟩ := h; exact Zw1 hk hx hn hq hl
set_option maxHeartbeats 1000000 in
theorem Zvv {l : Nat} {t0 : Pt} (hP : PAt w g gK gU t0 kn us)  : Calls Tryz.prog 60 #[.pointer (some ⟨g, 0, none⟩), .agg #[.nilIface, .int .i64 ((l : Nat) : Int), .bool cb]] w fun e w' => ∃ v', e = .returned v' ∧ RLk w g gK gU t0 kn us (some no) v' w' := by
  have hB : Bl w w := Bl.refl w
  refine Zaj Tryz.func60 rfl 50 rfl ?_
  show CW _ _ _ _ _ _ _ [(0, .pointer (some ⟨g, 0, none⟩)), (1, .agg #[.nilIface, .int .i64 ((l : Nat) : Int), .bool cb])] _
  refine Zac ?_
  refine Zaa ?_
  refine Zar 3 (#[.nilIface, .int .i64 ((l : Nat) : Int), .bool cb]) 88 (fun _ => by kernel_rfl) (fun _ => by kernel_rfl) ?_
  intro w1 g2 hn3
  have hzg2 : w.heap.size ≤ g2 := by have := hB.size; have := hn3.hg; omega
  replace hB := hB.go hn3.below
  replace hP := hP.go hn3.below
  have hr4 : Rw g2 w1 (#[.nilIface, .int .i64 ((l : Nat) : Int), .bool cb]) 88 := hn3.row
  refine rp 4 (.nilIface) ?_
  refine rp 5 (.bool false) ?_
  refine Zad ?_
  refine Zab ?_
  refine Zac ?_
  refine Zaa ?_
  refine rp 10 (.pointer (some ⟨g2, 0, none⟩)) ?_
  refine rv 11 (.nilIface) (fun _ => Zag 47 _ ⟨g2, 0, none⟩ _ _ rfl (by kernel_rfl) (by rw [cell_of_row _ _ _ _ _ _ hr4]; rfl) Tryz.underlying47 rfl) ?_
  refine rp 12 (.tuple #[.agg (B8 z32), .bool false]) ?_
  refine rp 9 (.tuple #[.agg (B8 z32), .bool false]) ?_
  refine rp 13 (.agg (B8 z32)) ?_
  refine rp 14 (.bool false) ?_
  refine Zar 6 (B8 z32) 50 (fun _ => by kernel_rfl) (fun _ => by kernel_rfl) ?_
  intro w5 g6 hn7
  have hr8 : Rw g6 w5 (B8 z32) 50 := hn7.row
  refine Zav g6 (B8 z32) (fun _ => by kernel_rfl) (fun _ => Zao 50 _ _ _ _ _ 50 rfl (by kernel_rfl) (by kernel_rfl) hr8 (Zb7 (show z32.length = 32 from rfl)) ((B8_size _).trans ((show z32.length = 32 from rfl).trans ((show z32.length = 32 from rfl).symm.trans (B8_size _).symm))) (B8_one _)) ?_
  intro w9 hp10
  replace hn7 := hn7.put hp10
  clear hr8
  have hlg2g6 : g2 < g6 := by have := hr4.lt; have := hn7.hg; omega
  have hzg6 : w.heap.size ≤ g6 := by have := hB.size; have := hn7.hg; omega
  replace hB := hB.go hn7.below
  replace hP := hP.go hn7.below
  replace hr4 := hr4.go hn7.below
  have hr12 : Rw g6 w9 (B8 z32) 50 := hn7.row
  refine rp 7 (.bool false) ?_
  refine Zad ?_
  refine Zab ?_
  refine Zac ?_
  refine Zac ?_
  refine Zaa ?_
  refine rp 15 (.bool false) ?_
  refine rp 16 (.bool true) ?_
  refine Zad ?_
  refine Zab ?_
  refine Zai (fun _ => by kernel_rfl) ?_
  refine Zac ?_
  refine Zaa ?_
  refine rp 17 (.pointer (some ⟨g2, 0, none⟩)) ?_
  refine rv 18 (.nilIface) (fun _ => Zag 47 _ ⟨g2, 0, none⟩ _ _ rfl (by kernel_rfl) (by rw [cell_of_row _ _ _ _ _ _ hr4]; rfl) Tryz.underlying47 rfl) ?_
  refine rp 4 (.nilIface) ?_
  refine rp 5 (.bool true) ?_
  refine Zad ?_
  refine Zab ?_
  refine Zap ?_
  refine Zah ?_
  refine Zae (.tuple #[.nilIface, .bool true]) (fun _ => by kernel_rfl) ?_
  exact ⟨_, rfl, hP, ⟨_, rfl, rfl⟩, TU.of hB⟩
set_option maxHeartbeats 1000000 in
theorem Zp8 {d : Nat} {l : Nat} {t0 : Pt} (hP : PAt w g gK gU t0 kn us) (hp : Sk An w a n c p) (hx : Sk An w b m d x) (hm : m ≤ 256) (hn : n ≤ 140737488351232)  : Calls Tryz.prog 60 #[.pointer (some ⟨g, 0, none⟩), .agg #[.iface 110 (.agg #[.slice a n c, .slice b m d]), .int .i64 ((l : Nat) : Int), .bool cb]] w fun e w' => ∃ v', e = .returned v' ∧ RLk w g gK gU t0 kn us (some (leaf p x)) v' w' := by
  have hB : Bl w w := Bl.refl w
  refine Zaj Tryz.func60 rfl 50 rfl ?_
  show CW _ _ _ _ _ _ _ [(0, .pointer (some ⟨g, 0, none⟩)), (1, .agg #[.iface 110 (.agg #[.slice a n c, .slice b m d]), .int .i64 ((l : Nat) : Int), .bool cb])] _
  refine Zac ?_
  refine Zaa ?_
  refine Zar 3 (#[.iface 110 (.agg #[.slice a n c, .slice b m d]), .int .i64 ((l : Nat) : Int), .bool cb]) 88 (fun _ => by kernel_rfl) (fun _ => by kernel_rfl) ?_
  intro w1 g2 hn3
  have hzg2 : w.heap.size ≤ g2 := by have := hB.size; have := hn3.hg; omega
  replace hB := hB.go hn3.below
  replace hp := hp.go hn3.below
  replace hx := hx.go hn3.below
  replace hP := hP.go hn3.below
  have hr4 : Rw g2 w1 (#[.iface 110 (.agg #[.slice a n c, .slice b m d]), .int .i64 ((l : Nat) : Int), .bool cb]) 88 := hn3.row
  refine rp 4 (.nilIface) ?_
  refine rp 5 (.bool false) ?_
  refine Zad ?_
  refine Zab ?_
  refine Zac ?_
  refine Zaa ?_
  refine rp 10 (.pointer (some ⟨g2, 0, none⟩)) ?_
  refine rv 11 (.iface 110 (.agg #[.slice a n c, .slice b m d])) (fun _ => Zag 47 _ ⟨g2, 0, none⟩ _ _ rfl (by kernel_rfl) (by rw [cell_of_row _ _ _ _ _ _ hr4]; rfl) Tryz.underlying47 rfl) ?_
  refine rp 12 (.tuple #[.agg (B8 z32), .bool false]) ?_
  refine rp 9 (.tuple #[.agg (B8 z32), .bool false]) ?_
  refine rp 13 (.agg (B8 z32)) ?_
  refine rp 14 (.bool false) ?_
  refine Zar 6 (B8 z32) 50 (fun _ => by kernel_rfl) (fun _ => by kernel_rfl) ?_
  intro w5 g6 hn7
  have hr8 : Rw g6 w5 (B8 z32) 50 := hn7.row
  refine Zav g6 (B8 z32) (fun _ => by kernel_rfl) (fun _ => Zao 50 _ _ _ _ _ 50 rfl (by kernel_rfl) (by kernel_rfl) hr8 (Zb7 (show z32.length = 32 from rfl)) ((B8_size _).trans ((show z32.length = 32 from rfl).trans ((show z32.length = 32 from rfl).symm.trans (B8_size _).symm))) (B8_one _)) ?_
  intro w9 hp10
  replace hn7 := hn7.put hp10
  clear hr8
  have hlg2g6 : g2 < g6 := by have := hr4.lt; have := hn7.hg; omega
  have hzg6 : w.heap.size ≤ g6 := by have := hB.size; have := hn7.hg; omega
  replace hB := hB.go hn7.below
  replace hp := hp.go hn7.below
  replace hx := hx.go hn7.below
  replace hP := hP.go hn7.below
  replace hr4 := hr4.go hn7.below
  have hr12 : Rw g6 w9 (B8 z32) 50 := hn7.row
  refine rp 7 (.bool false) ?_
  refine Zad ?_
  refine Zab ?_
  refine Zac ?_
  refine Zac ?_
  refine Zaa ?_
  refine rp 15 (.bool false) ?_
  refine rp 16 (.bool true) ?_
  refine Zad ?_
  refine Zab ?_
  refine Zai (fun _ => by kernel_rfl) ?_
  refine Zac ?_
  refine Zaa ?_
  refine rp 17 (.pointer (some ⟨g2, 0, none⟩)) ?_
  refine rv 18 (.iface 110 (.agg #[.slice a n c, .slice b m d])) (fun _ => Zag 47 _ ⟨g2, 0, none⟩ _ _ rfl (by kernel_rfl) (by rw [cell_of_row _ _ _ _ _ _ hr4]; rfl) Tryz.underlying47 rfl) ?_
  refine rp 4 (.iface 110 (.agg #[.slice a n c, .slice b m d])) ?_
  refine rp 5 (.bool true) ?_
  refine Zad ?_
  refine Zab ?_
  refine Zap ?_
  refine Zah ?_
  refine Zae (.tuple #[.iface 110 (.agg #[.slice a n c, .slice b m d]), .bool true]) (fun _ => by kernel_rfl) ?_
  exact ⟨_, rfl, hP, ⟨_, rfl, ⟨_, _, _, _, _, _, rfl, hp, hx, hm, hn⟩⟩, TU.of hB⟩
set_option maxHeartbeats 1000000 in
theorem Zst {t : Pt} {l : Nat} {t0 : Pt} (hP : PAt w g gK gU t0 kn us) (hp : Sk An w a n c p) (hn : n ≤ 140737488351232) (ht : ThA w t u)  : Calls Tryz.prog 60 #[.pointer (some ⟨g, 0, none⟩), .agg #[.iface 113 (.agg #[.slice a n c, u]), .int .i64 ((l : Nat) : Int), .bool cb]] w fun e w' => ∃ v', e = .returned v' ∧ RLk w g gK gU t0 kn us (some (ext p t)) v' w' := by
  have hB : Bl w w := Bl.refl w
  refine Zaj Tryz.func60 rfl 50 rfl ?_
  show CW _ _ _ _ _ _ _ [(0, .pointer (some ⟨g, 0, none⟩)), (1, .agg #[.iface 113 (.agg #[.slice a n c, u]), .int .i64 ((l : Nat) : Int), .bool cb])] _
  refine Zac ?_
  refine Zaa ?_
  refine Zar 3 (#[.iface 113 (.agg #[.slice a n c, u]), .int .i64 ((l : Nat) : Int), .bool cb]) 88 (fun _ => by kernel_rfl) (fun _ => by kernel_rfl) ?_
  intro w1 g2 hn3
  have hzg2 : w.heap.size ≤ g2 := by have := hB.size; have := hn3.hg; omega
  replace hB := hB.go hn3.below
  replace hp := hp.go hn3.below
  replace ht := ht.go hn3.below
  replace hP := hP.go hn3.below
  have hr4 : Rw g2 w1 (#[.iface 113 (.agg #[.slice a n c, u]), .int .i64 ((l : Nat) : Int), .bool cb]) 88 := hn3.row
  refine rp 4 (.nilIface) ?_
  refine rp 5 (.bool false) ?_
  refine Zad ?_
  refine Zab ?_
  refine Zac ?_
  refine Zaa ?_
  refine rp 10 (.pointer (some ⟨g2, 0, none⟩)) ?_
  refine rv 11 (.iface 113 (.agg #[.slice a n c, u])) (fun _ => Zag 47 _ ⟨g2, 0, none⟩ _ _ rfl (by kernel_rfl) (by rw [cell_of_row _ _ _ _ _ _ hr4]; rfl) Tryz.underlying47 rfl) ?_
  refine rp 12 (.tuple #[.agg (B8 z32), .bool false]) ?_
  refine rp 9 (.tuple #[.agg (B8 z32), .bool false]) ?_
  refine rp 13 (.agg (B8 z32)) ?_
  refine rp 14 (.bool false) ?_
  refine Zar 6 (B8 z32) 50 (fun _ => by kernel_rfl) (fun _ => by kernel_rfl) ?_
  intro w5 g6 hn7
  have hr8 : Rw g6 w5 (B8 z32) 50 := hn7.row
  refine Zav g6 (B8 z32) (fun _ => by kernel_rfl) (fun _ => Zao 50 _ _ _ _ _ 50 rfl (by kernel_rfl) (by kernel_rfl) hr8 (Zb7 (show z32.length = 32 from rfl)) ((B8_size _).trans ((show z32.length = 32 from rfl).trans ((show z32.length = 32 from rfl).symm.trans (B8_size _).symm))) (B8_one _)) ?_
  intro w9 hp10
  replace hn7 := hn7.put hp10
  clear hr8
  have hlg2g6 : g2 < g6 := by have := hr4.lt; have := hn7.hg; omega
  have hzg6 : w.heap.size ≤ g6 := by have := hB.size; have := hn7.hg; omega
  replace hB := hB.go hn7.below
  replace hp := hp.go hn7.below
  replace ht := ht.go hn7.below
  replace hP := hP.go hn7.below
  replace hr4 := hr4.go hn7.below
  have hr12 : Rw g6 w9 (B8 z32) 50 := hn7.row
  refine rp 7 (.bool false) ?_
  refine Zad ?_
  refine Zab ?_
  refine Zac ?_
  refine Zac ?_
  refine Zaa ?_
  refine rp 15 (.bool false) ?_
  refine rp 16 (.bool true) ?_
  refine Zad ?_
  refine Zab ?_
  refine Zai (fun _ => by kernel_rfl) ?_
  refine Zac ?_
  refine Zaa ?_
  refine rp 17 (.pointer (some ⟨g2, 0, none⟩)) ?_
  refine rv 18 (.iface 113 (.agg #[.slice a n c, u])) (fun _ => Zag 47 _ ⟨g2, 0, none⟩ _ _ rfl (by kernel_rfl) (by rw [cell_of_row _ _ _ _ _ _ hr4]; rfl) Tryz.underlying47 rfl) ?_
  refine rp 4 (.iface 113 (.agg #[.slice a n c, u])) ?_
  refine rp 5 (.bool true) ?_
  refine Zad ?_
  refine Zab ?_
  refine Zap ?_
  refine Zah ?_
  refine Zae (.tuple #[.iface 113 (.agg #[.slice a n c, u]), .bool true]) (fun _ => by kernel_rfl) ?_
  exact ⟨_, rfl, hP, ⟨_, rfl, ⟨_, _, _, _, rfl, hp, hn, ht⟩⟩, TU.of hB⟩
set_option maxHeartbeats 1000000 in
theorem Zvw {l : Nat} {t0 : Pt} (hP : PAt w g gK gU t0 kn us) (hk : KA w k vs) (hx : Sk An w a n c x) (hn : n ≤ 256)  : Calls Tryz.prog 60 #[.pointer (some ⟨g, 0, none⟩), .agg #[.iface 116 (.agg (brc vs (.slice a n c))), .int .i64 ((l : Nat) : Int), .bool cb]] w fun e w' => ∃ v', e = .returned v' ∧ RLk w g gK gU t0 kn us (some (br k x)) v' w' := by
  have hB : Bl w w := Bl.refl w
  refine Zaj Tryz.func60 rfl 50 rfl ?_
  show CW _ _ _ _ _ _ _ [(0, .pointer (some ⟨g, 0, none⟩)), (1, .agg #[.iface 116 (.agg (brc vs (.slice a n c))), .int .i64 ((l : Nat) : Int), .bool cb])] _
  refine Zac ?_
  refine Zaa ?_
  refine Zar 3 (#[.iface 116 (.agg (brc vs (.slice a n c))), .int .i64 ((l : Nat) : Int), .bool cb]) 88 (fun _ => by kernel_rfl) (fun _ => by kernel_rfl) ?_
  intro w1 g2 hn3
  have hzg2 : w.heap.size ≤ g2 := by have := hB.size; have := hn3.hg; omega
  replace hB := hB.go hn3.below
  replace hk := hk.go hn3.below
  replace hx := hx.go hn3.below
  replace hP := hP.go hn3.below
  have hr4 : Rw g2 w1 (#[.iface 116 (.agg (brc vs (.slice a n c))), .int .i64 ((l : Nat) : Int), .bool cb]) 88 := hn3.row
  refine rp 4 (.nilIface) ?_
  refine rp 5 (.bool false) ?_
  refine Zad ?_
  refine Zab ?_
  refine Zac ?_
  refine Zaa ?_
  refine rp 10 (.pointer (some ⟨g2, 0, none⟩)) ?_
  refine rv 11 (.iface 116 (.agg (brc vs (.slice a n c)))) (fun _ => Zag 47 _ ⟨g2, 0, none⟩ _ _ rfl (by kernel_rfl) (by rw [cell_of_row _ _ _ _ _ _ hr4]; rfl) Tryz.underlying47 rfl) ?_
  refine rp 12 (.tuple #[.agg (B8 z32), .bool false]) ?_
  refine rp 9 (.tuple #[.agg (B8 z32), .bool false]) ?_
  refine rp 13 (.agg (B8 z32)) ?_
  refine rp 14 (.bool false) ?_
  refine Zar 6 (B8 z32) 50 (fun _ => by kernel_rfl) (fun _ => by kernel_rfl) ?_
  intro w5 g6 hn7
  have hr8 : Rw g6 w5 (B8 z32) 50 := hn7.row
  refine Zav g6 (B8 z32) (fun _ => by kernel_rfl) (fun _ => Zao 50 _ _ _ _ _ 50 rfl (by kernel_rfl) (by kernel_rfl) hr8 (Zb7 (show z32.length = 32 from rfl)) ((B8_size _).trans ((show z32.length = 32 from rfl).trans ((show z32.length = 32 from rfl).symm.trans (B8_size _).symm))) (B8_one _)) ?_
  intro w9 hp10
  replace hn7 := hn7.put hp10
  clear hr8
  have hlg2g6 : g2 < g6 := by have := hr4.lt; have := hn7.hg; omega
  have hzg6 : w.heap.size ≤ g6 := by have := hB.size; have := hn7.hg; omega
  replace hB := hB.go hn7.below
  replace hk := hk.go hn7.below
  replace hx := hx.go hn7.below
  replace hP := hP.go hn7.below
  replace hr4 := hr4.go hn7.below
  have hr12 : Rw g6 w9 (B8 z32) 50 := hn7.row
  refine rp 7 (.bool false) ?_
  refine Zad ?_
  refine Zab ?_
  refine Zac ?_
  refine Zac ?_
  refine Zaa ?_
  refine rp 15 (.bool false) ?_
  refine rp 16 (.bool true) ?_
  refine Zad ?_
  refine Zab ?_
  refine Zai (fun _ => by kernel_rfl) ?_
  refine Zac ?_
  refine Zaa ?_
  refine rp 17 (.pointer (some ⟨g2, 0, none⟩)) ?_
  refine rv 18 (.iface 116 (.agg (brc vs (.slice a n c)))) (fun _ => Zag 47 _ ⟨g2, 0, none⟩ _ _ rfl (by kernel_rfl) (by rw [cell_of_row _ _ _ _ _ _ hr4]; rfl) Tryz.underlying47 rfl) ?_
  refine rp 4 (.iface 116 (.agg (brc vs (.slice a n c)))) ?_
  refine rp 5 (.bool true) ?_
  refine Zad ?_
  refine Zab ?_
  refine Zap ?_
  refine Zah ?_
  refine Zae (.tuple #[.iface 116 (.agg (brc vs (.slice a n c))), .bool true]) (fun _ => by kernel_rfl) ?_
  exact ⟨_, rfl, hP, ⟨_, rfl, ⟨_, _, _, _, rfl, hk, hx, hn⟩⟩, TU.of hB⟩
set_option maxHeartbeats 1000000 in
theorem Zjt {l : Nat} {t0 : Pt} (hP : PAt w g gK gU t0 kn us) (hd : d.length = 32) (hf : findK d kn = none) : Calls Tryz.prog 60 #[.pointer (some ⟨g, 0, none⟩), .agg #[.iface 50 (.agg (B8 d)), .int .i64 ((l : Nat) : Int), .bool cb]] w fun e w' => ∃ v', e = .returned v' ∧ RLk w g gK gU t0 kn us none v' w' := by
  have hB : Bl w w := Bl.refl w
  refine Zaj Tryz.func60 rfl 50 rfl ?_
  show CW _ _ _ _ _ _ _ [(0, .pointer (some ⟨g, 0, none⟩)), (1, .agg #[.iface 50 (.agg (B8 d)), .int .i64 ((l : Nat) : Int), .bool cb])] _
  have hgP := hP.lt
  have hgK := hP.km.lt
  have hgU := hP.um.lt
  refine Zac ?_
  refine Zaa ?_
  refine Zar 3 (#[.iface 50 (.agg (B8 d)), .int .i64 ((l : Nat) : Int), .bool cb]) 88 (fun _ => by kernel_rfl) (fun _ => by kernel_rfl) ?_
  intro w1 g2 hn3
  have hzg2 : w.heap.size ≤ g2 := by have := hB.size; have := hn3.hg; omega
  replace hB := hB.go hn3.below
  replace hP := hP.go hn3.below
  have hr4 : Rw g2 w1 (#[.iface 50 (.agg (B8 d)), .int .i64 ((l : Nat) : Int), .bool cb]) 88 := hn3.row
  refine rp 4 (.nilIface) ?_
  refine rp 5 (.bool false) ?_
  refine Zad ?_
  refine Zab ?_
  refine Zac ?_
  refine Zaa ?_
  refine rp 10 (.pointer (some ⟨g2, 0, none⟩)) ?_
  refine rv 11 (.iface 50 (.agg (B8 d))) (fun _ => Zag 47 _ ⟨g2, 0, none⟩ _ _ rfl (by kernel_rfl) (by rw [cell_of_row _ _ _ _ _ _ hr4]; rfl) Tryz.underlying47 rfl) ?_
  refine rp 12 (.tuple #[.agg (B8 d), .bool true]) ?_
  refine rp 9 (.tuple #[.agg (B8 d), .bool true]) ?_
  refine rp 13 (.agg (B8 d)) ?_
  refine rp 14 (.bool true) ?_
  refine Zar 6 (B8 z32) 50 (fun _ => by kernel_rfl) (fun _ => by kernel_rfl) ?_
  intro w5 g6 hn7
  have hr8 : Rw g6 w5 (B8 z32) 50 := hn7.row
  refine Zav g6 (B8 d) (fun _ => by kernel_rfl) (fun _ => Zao 50 _ _ _ _ _ 50 rfl (by kernel_rfl) (by kernel_rfl) hr8 (Zb7 hd) ((B8_size _).trans ((show z32.length = 32 from rfl).trans (hd.symm.trans (B8_size _).symm))) (B8_one _)) ?_
  intro w9 hp10
  replace hn7 := hn7.put hp10
  clear hr8
  have hlg2g6 : g2 < g6 := by have := hr4.lt; have := hn7.hg; omega
  have hzg6 : w.heap.size ≤ g6 := by have := hB.size; have := hn7.hg; omega
  replace hB := hB.go hn7.below
  replace hP := hP.go hn7.below
  replace hr4 := hr4.go hn7.below
  have hr12 : Rw g6 w9 (B8 d) 50 := hn7.row
  refine rp 7 (.bool true) ?_
  refine Zad ?_
  refine Zab ?_
  refine Zac ?_
  refine Zac ?_
  refine Zaa ?_
  refine rp 15 (.bool true) ?_
  refine rp 16 (.bool false) ?_
  refine Zad ?_
  refine Zab ?_
  refine Zaf (fun _ => by kernel_rfl) ?_
  refine Zam ?_
  refine Zab ?_
  refine Zac ?_
  obtain ⟨vt, hrt, htt⟩ := hP.row
  obtain ⟨fv, hfv, hft⟩ := Zet (w := (w9).drew) (hP.go (Below.refl _ _).drew).km hd
  rw [hf] at hft
  obtain rfl : fv = .nilIface := hft
  refine Zbd (fun v => Rw g6 v (B8 d) 50 ∧ Rw g v #[vt, .map (some gK), .map (some gU)] 49) (by kernel_rfl) (⟨hr12, hrt⟩) ?_
  replace hB := hB.go (Below.refl _ _).drew
  replace hP := hP.go (Below.refl _ _).drew
  replace hr4 := hr4.go (Below.refl _ _).drew
  replace hr12 := hr12.go (Below.refl _ _).drew
  refine dt 0 19 (.pointer (some ⟨g, 0, none⟩)) (fun v hv _ => by kernel_rfl) ⟨hr12, hrt⟩ ?_
  refine dt 1 20 (.pointer (some ⟨g, 0, none⟩)) (fun v hv _ => by kernel_rfl) ⟨hr12, hrt⟩ ?_
  refine dt 2 21 (.pointer (some ⟨g, 1, none⟩)) (fun v hv _ => by kernel_rfl) ⟨hr12, hrt⟩ ?_
  refine dt 3 22 (.map (some gK)) (fun v hv _ => Zag 44 _ ⟨g, 1, none⟩ _ _ rfl (by kernel_rfl) (by rw [cell_of_row _ _ _ _ _ _ hv.2]; rfl) Tryz.underlying44 rfl) ⟨hr12, hrt⟩ ?_
  refine dt 4 23 (.agg (B8 d)) (fun v hv _ => Za2 50 _ _ _ _ _ _ rfl (by kernel_rfl) hv.1 Tryz.underlying50 rfl (Zb7 hd)) ⟨hr12, hrt⟩ ?_
  refine Zas [5] (by kernel_rfl) (by simp) ?_
  refine ar_v 5 24 .nilIface rfl (fun _ => by kernel_rfl) (fun _ => hfv _ _ _ _ rfl (by kernel_rfl) (by kernel_rfl)) ⟨hr12, hrt⟩ ?_ Zaz
  refine dt 6 8 (.nilIface) (fun v hv _ => by kernel_rfl) ⟨hr12, hrt⟩ ?_
  refine Za6 (by kernel_rfl) ?_
  refine Zab ?_
  refine Zac ?_
  refine Zac ?_
  refine Zaa ?_
  refine rp 25 (.nilIface) ?_
  refine rp 26 (.bool true) ?_
  refine rp 27 (.bool true) ?_
  refine Za8 28 (fun _ => by kernel_rfl) ?_
  refine Za8 29 (fun _ => by kernel_rfl) ?_
  refine Za8 30 (fun _ => by kernel_rfl) ?_
  refine Za8 31 (fun _ => by kernel_rfl) ?_
  refine Za8 32 (fun _ => by kernel_rfl) ?_
  refine Za8 33 (fun _ => by kernel_rfl) ?_
  refine Za8 34 (fun _ => by kernel_rfl) ?_
  refine rp 35 (.bool true) ?_
  refine rp 36 (.bool true) ?_
  refine Za8 37 (fun _ => by kernel_rfl) ?_
  refine Za8 38 (fun _ => by kernel_rfl) ?_
  refine Za8 39 (fun _ => by kernel_rfl) ?_
  refine Za8 40 (fun _ => by kernel_rfl) ?_
  refine Za8 41 (fun _ => by kernel_rfl) ?_
  refine rp 42 (.bool true) ?_
  refine Zad ?_
  refine Zab ?_
  refine Zai (fun _ => by kernel_rfl) ?_
  refine Zac ?_
  refine Zaa ?_
  refine rp 4 (.nilIface) ?_
  refine rp 5 (.bool false) ?_
  refine Zad ?_
  refine Zab ?_
  refine Zap ?_
  refine Zah ?_
  refine Zae (.tuple #[.nilIface, .bool false]) (fun _ => by kernel_rfl) ?_
  exact ⟨_, rfl, hP, rfl, TU.of hB⟩
set_option maxHeartbeats 1000000 in
theorem Zjs {l : Nat} {t0 : Pt} (hP : PAt w g gK gU t0 kn us) (hd : d.length = 32) {t : Pt} (hf : findK d kn = some t) (hw : Wn 34 t) (hnd : t.isNd = true) (hl : l ≤ 1000) : Calls Tryz.prog 60 #[.pointer (some ⟨g, 0, none⟩), .agg #[.iface 50 (.agg (B8 d)), .int .i64 ((l : Nat) : Int), .bool cb]] w fun e w' => ∃ v', e = .returned v' ∧ RLk w g gK gU t0 kn (if (cb && !isBr t) || !fitP t l then us else useP d us) (if (cb && !isBr t) || !fitP t l then none else some t) v' w' := by
  obtain ⟨cc, hcc⟩ : ∃ cc, ((cb && !isBr t) || !fitP t l) = cc := ⟨_, rfl⟩
  rw [hcc]
  have hB : Bl w w := Bl.refl w
  refine Zaj Tryz.func60 rfl 50 rfl ?_
  show CW _ _ _ _ _ _ _ [(0, .pointer (some ⟨g, 0, none⟩)), (1, .agg #[.iface 50 (.agg (B8 d)), .int .i64 ((l : Nat) : Int), .bool cb])] _
  have hgP := hP.lt
  have hgK := hP.km.lt
  have hgU := hP.um.lt
  have hnn : t.isNo = false := by cases t <;> first | rfl | cases hnd
  refine Zac ?_
  refine Zaa ?_
  refine Zar 3 (#[.iface 50 (.agg (B8 d)), .int .i64 ((l : Nat) : Int), .bool cb]) 88 (fun _ => by kernel_rfl) (fun _ => by kernel_rfl) ?_
  intro w1 g2 hn3
  have hzg2 : w.heap.size ≤ g2 := by have := hB.size; have := hn3.hg; omega
  replace hB := hB.go hn3.below
  replace hP := hP.go hn3.below
  have hr4 : Rw g2 w1 (#[.iface 50 (.agg (B8 d)), .int .i64 ((l : Nat) : Int), .bool cb]) 88 := hn3.row
  refine rp 4 (.nilIface) ?_
  refine rp 5 (.bool false) ?_
  refine Zad ?_
  refine Zab ?_
  refine Zac ?_
  refine Zaa ?_
  refine rp 10 (.pointer (some ⟨g2, 0, none⟩)) ?_
  refine rv 11 (.iface 50 (.agg (B8 d))) (fun _ => Zag 47 _ ⟨g2, 0, none⟩ _ _ rfl (by kernel_rfl) (by rw [cell_of_row _ _ _ _ _ _ hr4]; rfl) Tryz.underlying47 rfl) ?_
  refine rp 12 (.tuple #[.agg (B8 d), .bool true]) ?_
  refine rp 9 (.tuple #[.agg (B8 d), .bool true]) ?_
  refine rp 13 (.agg (B8 d)) ?_
  refine rp 14 (.bool true) ?_
  refine Zar 6 (B8 z32) 50 (fun _ => by kernel_rfl) (fun _ => by kernel_rfl) ?_
  intro w5 g6 hn7
  have hr8 : Rw g6 w5 (B8 z32) 50 := hn7.row
  refine Zav g6 (B8 d) (fun _ => by kernel_rfl) (fun _ => Zao 50 _ _ _ _ _ 50 rfl (by kernel_rfl) (by kernel_rfl) hr8 (Zb7 hd) ((B8_size _).trans ((show z32.length = 32 from rfl).trans (hd.symm.trans (B8_size _).symm))) (B8_one _)) ?_
  intro w9 hp10
  replace hn7 := hn7.put hp10
  clear hr8
  have hlg2g6 : g2 < g6 := by have := hr4.lt; have := hn7.hg; omega
  have hzg6 : w.heap.size ≤ g6 := by have := hB.size; have := hn7.hg; omega
  replace hB := hB.go hn7.below
  replace hP := hP.go hn7.below
  replace hr4 := hr4.go hn7.below
  have hr12 : Rw g6 w9 (B8 d) 50 := hn7.row
  refine rp 7 (.bool true) ?_
  refine Zad ?_
  refine Zab ?_
  refine Zac ?_
  refine Zac ?_
  refine Zaa ?_
  refine rp 15 (.bool true) ?_
  refine rp 16 (.bool false) ?_
  refine Zad ?_
  refine Zab ?_
  refine Zaf (fun _ => by kernel_rfl) ?_
  refine Zam ?_
  refine Zab ?_
  refine Zac ?_
  obtain ⟨vt, hrt, htt⟩ := hP.row
  obtain ⟨fv, hfv, hft⟩ := Zet (w := (w9).drew) (hP.go (Below.refl _ _).drew).km hd
  rw [hf] at hft
  refine Zbd (fun v => Rw g6 v (B8 d) 50 ∧ Rw g v #[vt, .map (some gK), .map (some gU)] 49) (by kernel_rfl) (⟨hr12, hrt⟩) ?_
  replace hB := hB.go (Below.refl _ _).drew
  replace hP := hP.go (Below.refl _ _).drew
  replace hr4 := hr4.go (Below.refl _ _).drew
  replace hr12 := hr12.go (Below.refl _ _).drew
  refine dt 0 19 (.pointer (some ⟨g, 0, none⟩)) (fun v hv _ => by kernel_rfl) ⟨hr12, hrt⟩ ?_
  refine dt 1 20 (.pointer (some ⟨g, 0, none⟩)) (fun v hv _ => by kernel_rfl) ⟨hr12, hrt⟩ ?_
  refine dt 2 21 (.pointer (some ⟨g, 1, none⟩)) (fun v hv _ => by kernel_rfl) ⟨hr12, hrt⟩ ?_
  refine dt 3 22 (.map (some gK)) (fun v hv _ => Zag 44 _ ⟨g, 1, none⟩ _ _ rfl (by kernel_rfl) (by rw [cell_of_row _ _ _ _ _ _ hv.2]; rfl) Tryz.underlying44 rfl) ⟨hr12, hrt⟩ ?_
  refine dt 4 23 (.agg (B8 d)) (fun v hv _ => Za2 50 _ _ _ _ _ _ rfl (by kernel_rfl) hv.1 Tryz.underlying50 rfl (Zb7 hd)) ⟨hr12, hrt⟩ ?_
  refine Zas [5] (by kernel_rfl) (by simp) ?_
  refine ar_v 5 24 fv rfl (fun _ => by kernel_rfl) (fun _ => hfv _ _ _ _ rfl (by kernel_rfl) (by kernel_rfl)) ⟨hr12, hrt⟩ ?_ Zaz
  refine dt 6 8 (fv) (fun v hv _ => by kernel_rfl) ⟨hr12, hrt⟩ ?_
  refine Za6 (by kernel_rfl) ?_
  refine Zab ?_
  refine Zac ?_
  refine Zac ?_
  refine Zaa ?_
  refine rp 25 (fv) ?_
  refine rv 26 (.bool false) (fun _ => Zal (Zpk hft 25 _ rfl (by kernel_rfl) rfl) (congrArg Value.bool hnn)) ?_
  refine rp 27 (.bool false) ?_
  refine rp 28 (.pointer (some ⟨g2, 2, none⟩)) ?_
  refine rv 29 (.bool cb) (fun _ => Zag 4 _ ⟨g2, 2, none⟩ _ _ rfl (by kernel_rfl) (by rw [cell_of_row _ _ _ _ _ _ hr4]; rfl) Tryz.underlying4 rfl) ?_
  refine rp 30 (.bool cb) ?_
  cases hq13 : (cb) with
  | true =>
    refine rp 31 (fv) ?_
    refine Zak 32 94 #[fv] (fun _ => by kernel_rfl) (fun _ => by kernel_rfl) (R := RVl w9.drew (.bool t.isBr)) (Zmf hft) ?_
    rintro _ w14 ⟨rfl, hb15⟩
    replace hB := hB.go hb15
    replace hP := hP.go hb15
    replace hr4 := hr4.go hb15
    replace hr12 := hr12.go hb15
    replace hft := hft.go hb15
    refine rp 33 (.bool (!t.isBr)) ?_
    refine rp 34 (.bool (!t.isBr)) ?_
    refine rp 35 (.bool (!t.isBr)) ?_
    refine rp 36 (.bool (!t.isBr)) ?_
    cases hq16 : (!t.isBr) with
    | true =>
      refine Za8 37 (fun _ => by kernel_rfl) ?_
      refine Za8 38 (fun _ => by kernel_rfl) ?_
      refine Za8 39 (fun _ => by kernel_rfl) ?_
      refine Za8 40 (fun _ => by kernel_rfl) ?_
      refine Za8 41 (fun _ => by kernel_rfl) ?_
      refine rp 42 (.bool true) ?_
      refine Zad ?_
      refine Zab ?_
      refine Zai (fun _ => by kernel_rfl) ?_
      refine Zac ?_
      refine Zaa ?_
      refine rp 4 (.nilIface) ?_
      refine rp 5 (.bool false) ?_
      refine Zad ?_
      refine Zab ?_
      refine Zap ?_
      refine Zah ?_
      refine Zae (.tuple #[.nilIface, .bool false]) (fun _ => by kernel_rfl) ?_
      rw [Bool.not_eq_true'] at hq16
      obtain rfl : true = cc := by rw [← hcc]; simp [hq13, hq16]
      exact ⟨_, rfl, hP, rfl, TU.of hB⟩
    | false =>
      refine rp 37 (fv) ?_
      refine rp 38 (.pointer (some ⟨g2, 1, none⟩)) ?_
      refine rv 39 (.int .i64 ((l : Nat) : Int)) (fun _ => Zag 3 _ ⟨g2, 1, none⟩ _ _ rfl (by kernel_rfl) (by rw [cell_of_row _ _ _ _ _ _ hr4]; rfl) Tryz.underlying3 rfl) ?_
      refine Zak 40 95 #[fv, .int .i64 ((l : Nat) : Int)] (fun _ => by kernel_rfl) (fun _ => by kernel_rfl) (R := RVl w14 (.bool (fitP t l))) (Zmm 34 t hw hft (by omega)) ?_
      rintro _ w17 ⟨rfl, hb18⟩
      replace hB := hB.go hb18
      replace hP := hP.go hb18
      replace hr4 := hr4.go hb18
      replace hr12 := hr12.go hb18
      replace hft := hft.go hb18
      refine rp 41 (.bool (!(fitP t l))) ?_
      refine rp 42 (.bool (!(fitP t l))) ?_
      refine Zad ?_
      refine Zab ?_
      cases hq19 : (!(fitP t l)) with
      | true =>
        refine Zai (fun _ => by kernel_rfl) ?_
        refine Zac ?_
        refine Zaa ?_
        refine rp 4 (.nilIface) ?_
        refine rp 5 (.bool false) ?_
        refine Zad ?_
        refine Zab ?_
        refine Zap ?_
        refine Zah ?_
        refine Zae (.tuple #[.nilIface, .bool false]) (fun _ => by kernel_rfl) ?_
        rw [Bool.not_eq_false'] at hq16
        rw [Bool.not_eq_true'] at hq19
        obtain rfl : true = cc := by rw [← hcc]; simp [hq13, hq16, hq19]
        exact ⟨_, rfl, hP, rfl, TU.of hB⟩
      | false =>
        refine Zaf (fun _ => by kernel_rfl) ?_
        refine Zam ?_
        refine Zab ?_
        refine Zac ?_
        obtain ⟨vt2, hrt2, htt2⟩ := hP.row
        obtain ⟨wu, hur, huu, hut, hun⟩ := Zlj (w := (w17).drew) (hP.go (Below.refl _ _).drew).um hd
        refine Zbd (fun v => Rw g6 v (B8 d) 50 ∧ Rw g v #[vt2, .map (some gK), .map (some gU)] 49) (by kernel_rfl) (⟨hr12, hrt2⟩) ?_
        replace hB := hB.go (Below.refl _ _).drew
        replace hP := hP.go (Below.refl _ _).drew
        replace hr4 := hr4.go (Below.refl _ _).drew
        replace hr12 := hr12.go (Below.refl _ _).drew
        replace hft := hft.go (Below.refl _ _).drew
        refine dt 0 43 (.pointer (some ⟨g, 0, none⟩)) (fun v hv _ => by kernel_rfl) ⟨hr12, hrt2⟩ ?_
        refine dt 1 44 (.pointer (some ⟨g, 0, none⟩)) (fun v hv _ => by kernel_rfl) ⟨hr12, hrt2⟩ ?_
        refine dt 2 45 (.pointer (some ⟨g, 2, none⟩)) (fun v hv _ => by kernel_rfl) ⟨hr12, hrt2⟩ ?_
        refine dt 3 46 (.map (some gU)) (fun v hv _ => Zag 46 _ ⟨g, 2, none⟩ _ _ rfl (by kernel_rfl) (by rw [cell_of_row _ _ _ _ _ _ hv.2]; rfl) Tryz.underlying46 rfl) ⟨hr12, hrt2⟩ ?_
        refine dt 4 47 (.agg (B8 d)) (fun v hv _ => Za2 50 _ _ _ _ _ _ rfl (by kernel_rfl) hv.1 Tryz.underlying50 rfl (Zb7 hd)) ⟨hr12, hrt2⟩ ?_
        refine dt 5 48 (.agg #[]) (fun v hv _ => by kernel_rfl) ⟨hr12, hrt2⟩ ?_
        refine Zas [6] (by kernel_rfl) (by simp) ?_
        refine ar_s 6 rfl (fun _ => by kernel_rfl) (fun _ => hur _ _ _ _ _ rfl (by kernel_rfl) (by kernel_rfl) (by kernel_rfl)) ⟨hr12.past hut (by omega), hrt2.drew.past hut (by have := hP.neU; omega)⟩ ?_ Zaz
        replace hft := hft.nt hun
        have hPu := hP.used hut hun huu
        have hTu : TU gU w wu := (TU.of hB).trans ⟨hut, hun⟩
        refine Za6 (by kernel_rfl) ?_
        refine Zab ?_
        refine Zac ?_
        refine Zaa ?_
        refine rp 49 (fv) ?_
        refine rp 4 (fv) ?_
        refine rp 5 (.bool true) ?_
        refine Zad ?_
        refine Zab ?_
        refine Zap ?_
        refine Zae (.tuple #[fv, .bool true]) (fun _ => by kernel_rfl) ?_
        rw [Bool.not_eq_false'] at hq16
        rw [Bool.not_eq_false'] at hq19
        obtain rfl : false = cc := by rw [← hcc]; simp [hq13, hq16, hq19]
        exact ⟨_, rfl, hPu, ⟨_, rfl, hft⟩, hTu⟩
  | false =>
    refine Za8 31 (fun _ => by kernel_rfl) ?_
    refine Za8 32 (fun _ => by kernel_rfl) ?_
    refine Za8 33 (fun _ => by kernel_rfl) ?_
    refine rp 34 (.bool false) ?_
    refine rp 35 (.bool false) ?_
    refine rp 36 (.bool false) ?_
    refine rp 37 (fv) ?_
    refine rp 38 (.pointer (some ⟨g2, 1, none⟩)) ?_
    refine rv 39 (.int .i64 ((l : Nat) : Int)) (fun _ => Zag 3 _ ⟨g2, 1, none⟩ _ _ rfl (by kernel_rfl) (by rw [cell_of_row _ _ _ _ _ _ hr4]; rfl) Tryz.underlying3 rfl) ?_
    refine Zak 40 95 #[fv, .int .i64 ((l : Nat) : Int)] (fun _ => by kernel_rfl) (fun _ => by kernel_rfl) (R := RVl w9.drew (.bool (fitP t l))) (Zmm 34 t hw hft (by omega)) ?_
    rintro _ w20 ⟨rfl, hb21⟩
    replace hB := hB.go hb21
    replace hP := hP.go hb21
    replace hr4 := hr4.go hb21
    replace hr12 := hr12.go hb21
    replace hft := hft.go hb21
    refine rp 41 (.bool (!(fitP t l))) ?_
    refine rp 42 (.bool (!(fitP t l))) ?_
    refine Zad ?_
    refine Zab ?_
    cases hq22 : (!(fitP t l)) with
    | true =>
      refine Zai (fun _ => by kernel_rfl) ?_
      refine Zac ?_
      refine Zaa ?_
      refine rp 4 (.nilIface) ?_
      refine rp 5 (.bool false) ?_
      refine Zad ?_
      refine Zab ?_
      refine Zap ?_
      refine Zah ?_
      refine Zae (.tuple #[.nilIface, .bool false]) (fun _ => by kernel_rfl) ?_
      rw [Bool.not_eq_true'] at hq22
      obtain rfl : true = cc := by rw [← hcc]; simp [hq13, hq22]
      exact ⟨_, rfl, hP, rfl, TU.of hB⟩
    | false =>
      refine Zaf (fun _ => by kernel_rfl) ?_
      refine Zam ?_
      refine Zab ?_
      refine Zac ?_
      obtain ⟨vt2, hrt2, htt2⟩ := hP.row
      obtain ⟨wu, hur, huu, hut, hun⟩ := Zlj (w := (w20).drew) (hP.go (Below.refl _ _).drew).um hd
      refine Zbd (fun v => Rw g6 v (B8 d) 50 ∧ Rw g v #[vt2, .map (some gK), .map (some gU)] 49) (by kernel_rfl) (⟨hr12, hrt2⟩) ?_
      replace hB := hB.go (Below.refl _ _).drew
      replace hP := hP.go (Below.refl _ _).drew
      replace hr4 := hr4.go (Below.refl _ _).drew
      replace hr12 := hr12.go (Below.refl _ _).drew
      replace hft := hft.go (Below.refl _ _).drew
      refine dt 0 43 (.pointer (some ⟨g, 0, none⟩)) (fun v hv _ => by kernel_rfl) ⟨hr12, hrt2⟩ ?_
      refine dt 1 44 (.pointer (some ⟨g, 0, none⟩)) (fun v hv _ => by kernel_rfl) ⟨hr12, hrt2⟩ ?_
      refine dt 2 45 (.pointer (some ⟨g, 2, none⟩)) (fun v hv _ => by kernel_rfl) ⟨hr12, hrt2⟩ ?_
      refine dt 3 46 (.map (some gU)) (fun v hv _ => Zag 46 _ ⟨g, 2, none⟩ _ _ rfl (by kernel_rfl) (by rw [cell_of_row _ _ _ _ _ _ hv.2]; rfl) Tryz.underlying46 rfl) ⟨hr12, hrt2⟩ ?_
      refine dt 4 47 (.agg (B8 d)) (fun v hv _ => Za2 50 _ _ _ _ _ _ rfl (by kernel_rfl) hv.1 Tryz.underlying50 rfl (Zb7 hd)) ⟨hr12, hrt2⟩ ?_
      refine dt 5 48 (.agg #[]) (fun v hv _ => by kernel_rfl) ⟨hr12, hrt2⟩ ?_
      refine Zas [6] (by kernel_rfl) (by simp) ?_
      refine ar_s 6 rfl (fun _ => by kernel_rfl) (fun _ => hur _ _ _ _ _ rfl (by kernel_rfl) (by kernel_rfl) (by kernel_rfl)) ⟨hr12.past hut (by omega), hrt2.drew.past hut (by have := hP.neU; omega)⟩ ?_ Zaz
      replace hft := hft.nt hun
      have hPu := hP.used hut hun huu
      have hTu : TU gU w wu := (TU.of hB).trans ⟨hut, hun⟩
      refine Za6 (by kernel_rfl) ?_
      refine Zab ?_
      refine Zac ?_
      refine Zaa ?_
      refine rp 49 (fv) ?_
      refine rp 4 (fv) ?_
      refine rp 5 (.bool true) ?_
      refine Zad ?_
      refine Zab ?_
      refine Zap ?_
      refine Zae (.tuple #[fv, .bool true]) (fun _ => by kernel_rfl) ?_
      rw [Bool.not_eq_false'] at hq22
      obtain rfl : false = cc := by rw [← hcc]; simp [hq13, hq22]
      exact ⟨_, rfl, hPu, ⟨_, rfl, hft⟩, hTu⟩
theorem Zeu {v : Value} {t0 : Pt} (hP : PAt w g gK gU t0 kn us) (h : ThA w s.t v) (hl : s.l ≤ 1000) : Calls Tryz.prog 60 #[.pointer (some ⟨g, 0, none⟩), .agg #[v, .int .i64 ((s.l : Nat) : Int), .bool s.c]] w fun e w' => ∃ v', e = .returned v' ∧ RLk w g gK gU t0 kn (lkU kn s us) (lookP kn s) v' w' := by
  obtain ⟨t, l, cb⟩ := s
  unfold lkU lookP
  cases t with
  | no => obtain rfl : v = .nilIface := h; exact Zvv hP
  | leaf p x => obtain ⟨a, n, c, b, m, d, rfl, hp, hx, hm, hn⟩ := h; exact Zp8 hP hp hx hm hn
  | ext p t => obtain ⟨a, n, c, u, rfl, hp, hn, ht⟩ := h; exact Zst hP hp hn ht
  | br k x => obtain ⟨vs, a, n, c, rfl, hk, hx, hn⟩ := h; exact Zvw hP hk hx hn
  | st d =>
    obtain ⟨rfl, hd, hdb⟩ := h
    simp only
    cases hf : findK d kn with
    | none => exact Zjt hP hd hf
    | some t =>
      obtain ⟨y, hy, rfl⟩ := Zdx hf
      have := Zjs (l := l) (cb := cb) hP hd hf (hP.ok y hy).1 (hP.ok y hy).2 hl
      simp only
      cases hc : ((cb && !isBr y.2) || !fitP y.2 l) with
      | true => simpa [hc] using this
      | false => simpa [hc] using this
def nU (u : Value) : Prop := ∀ x, u ≠ .int .u8 x
def NuB (w : World) (v : Value) : Prop := ∀ k cur T fr, v.ownBlock = some k → w.heap[k]? = some (.cells cur T fr) → ∀ u ∈ cur.toList, nU u
theorem Zuj (n : Nat) : ∀ u ∈ (Builtin.zeroCells #[.nilIface, .int .i64 0, .bool false] n).toList, nU u := by
  intro u hu
  unfold Builtin.zeroCells at hu
  simp only [Array.toList_map, List.mem_map] at hu
  obtain ⟨i, _, rfl⟩ := hu
  rcases (show i % 3 = 0 ∨ i % 3 = 1 ∨ i % 3 = 2 by omega) with e | e | e <;> (intro x; simp [e])
theorem NuB.nil (w : World) : NuB w (.slice none 0 0) := fun k cur T fr hk => by simp [Value.ownBlock] at hk
theorem Zys {P : Program} {t ty e : TypeId} {i : TypeInfo} (ht : P.underlying t = some (.slice e)) (hi : P.info? e = some i) (hz : i.zero = some (.agg #[.nilIface, .int .i64 0, .bool false])) (hsize : i.size = 3) (hby : i.bytes = 32)
    {v : Value} (hown : w.ownsRow base e 3 v n xs) (hs : NuB w v) {a : Addr} {news : List Value} (hl : news.length = m * 3) (hnews : ∀ j u, news[j]? = some u → w.cell? (a.add j) = some u) (h1 : ∀ u ∈ news, u.oneCell' = true) (hsn : ∀ u ∈ news, nU u) (hm : 0 < m)
    (h63 : n + m ≤ maxLen) (hbytes : (n + m) * 32 ≤ 140737488355328) {v' : Value} (hr : (Builtin.append_ #[t, t] ty #[v, .slice (some a) m c]).run P w = .ok v' w') : NuB w' v' := by
  have hsmall : n + m ≤ 9223372036854775807 := by simp only [maxLen] at h63; omega
  have hxs : ∀ {g cap : Nat}, v = .slice (some ⟨g, 0, none⟩) n cap → ∀ u ∈ xs, nU u := by
    intro g cap ev u hu
    rcases hown.2 with ⟨rfl, rfl⟩ | ⟨g', cap', cur, rfl, hbg, hg, hnc, hcm, hcs, htake⟩
    · cases ev
    · exact hs g' cur e (0, 0) rfl hg u (by rw [← htake] at hu; exact List.mem_of_mem_take hu)
  have hnew : ∀ {ys : List Value} {q : Nat}, (∀ u ∈ ys, nU u) → ∀ u ∈ (ys.toArray ++ news.toArray ++ Builtin.zeroCells #[.nilIface, .int .i64 0, .bool false] q).toList, nU u := by
    intro ys q hy u hu
    simp only [Array.toList_append, List.mem_append] at hu
    rcases hu with (hu | hu) | hu
    · exact hy u hu
    · exact hsn u hu
    · exact Zuj _ u hu
  have hal : ∀ {cs : Array Value} {q r : Nat}, (∀ u ∈ cs.toList, nU u) → NuB (w.drew.alloc (.cells cs e)) (.slice (some ⟨w.heap.size, 0, none⟩) q r) := by
    intro cs q r hcs k cur T fr hk hh
    simp only [Value.ownBlock, Option.some.injEq] at hk
    subst hk
    rw [show w.heap.size = w.drew.heap.size from rfl, heap_alloc_new w.drew] at hh
    cases hh
    exact hcs
  rcases id hown.2 with ⟨rfl, rfl⟩ | ⟨g, cap, cur, rfl, hbg, hg, hnc, hcm, hcs, htake⟩
  · have hq := run_append_nil (P := P) w t ty e i _ ht hi hz a m c news (by rw [hsize]; exact hl) hnews hm (by omega) (by rw [hby]; omega)
    rw [hq] at hr
    cases hr
    refine hal ?_
    have := hnew (ys := []) (q := grownCap w m 0 e - m) (fun u hu => by cases hu)
    rw [show ([] : List Value).toArray = #[] from rfl, Array.empty_append] at this
    exact this
  · by_cases hroom : n + m ≤ cap
    · have hfit : n * i.size + news.length ≤ cur.size := by rw [hl, hcs, hsize, ← Nat.add_mul]; exact Nat.mul_le_mul_right _ hroom
      have hq := run_append_room (P := P) w t ty e i ht hi g n cap cur hg a m c news (by rw [hsize]; exact hl) hnews h1 hroom hfit
      rw [hq] at hr
      cases hr
      intro k cur' T fr hk hh
      simp only [Value.ownBlock, Option.some.injEq] at hk
      subst hk
      rw [setRow_heap w g cur _ e _ hg] at hh
      cases hh
      intro u hu
      have hcu := hs g cur e (0, 0) rfl hg
      simp only [List.mem_append] at hu
      rcases hu with (hu | hu) | hu
      · exact hcu u (List.mem_of_mem_take hu)
      · exact hsn u hu
      · exact hcu u (List.mem_of_mem_drop hu)
    · have holds : ∀ j u, xs[j]? = some u → w.cell? ((⟨g, 0, none⟩ : Addr).add j) = some u := hown.cells (g := g) rfl
      have hq := run_append_grow (P := P) w t ty e i _ ht hi hz ⟨g, 0, none⟩ n cap xs (by rw [hsize]; exact hown.1) holds a m c news (by rw [hsize]; exact hl) hnews (by omega) (by omega) (by rw [hby]; exact growslice_fits (by omega) hbytes)
      rw [hq] at hr
      cases hr
      exact hal (hnew (hxs rfl))
def spc (p : Value × Sp) : List Value := [p.1, .int .i64 ((p.2.l : Nat) : Int), .bool p.2.c]
def WayA (w : World) (base : Nat) (v : Value) (ws : List Sp) : Prop := ∃ ps : List (Value × Sp), ps.map (·.2) = ws ∧ w.ownsRow base 88 3 v ps.length (ps.flatMap spc) ∧ NuB w v ∧ ∀ p ∈ ps, ThA w p.2.t p.1
theorem Zpd {e sz : Nat} {v : Value} (h : w.ownsRow base e sz v n xs) : ∀ k, v.ownBlock = some k → base ≤ k ∧ k < w.heap.size := by
  intro k hk
  rcases h.2 with ⟨rfl, _⟩ | ⟨g, cap, cur, rfl, hbg, hg, _⟩
  · simp [Value.ownBlock] at hk
  · simp only [Value.ownBlock, Option.some.injEq] at hk
    subst hk
    exact ⟨hbg, lt_of_get hg⟩
theorem Zpe {e sz : Nat} {v : Value} (h : w.ownsRow base e sz v n xs) (hk : ∀ k, v.ownBlock = some k → w'.heap[k]? = w.heap[k]?) : w'.ownsRow base e sz v n xs := by
  refine ⟨h.1, ?_⟩
  rcases h.2 with h1 | ⟨g, cap, cur, rfl, hbg, hg, r⟩
  · exact .inl h1
  · exact .inr ⟨g, cap, cur, rfl, hbg, (hk g rfl).trans hg, r⟩
theorem WayA.keep {v : Value} (h : WayA w base v ws) (hn : Nt w w') (hk : ∀ k, v.ownBlock = some k → w'.heap[k]? = w.heap[k]?) : WayA w' base v ws := by
  obtain ⟨ps, h1, h2, h3, h4⟩ := h
  exact ⟨ps, h1, Zpe h2 hk, fun k cur T fr hk' hh => h3 k cur T fr hk' (by rw [← hk k hk']; exact hh), fun p hp => (h4 p hp).nt hn⟩
theorem WayA.own {v : Value} (h : WayA w base v ws) : ∀ k, v.ownBlock = some k → base ≤ k ∧ k < w.heap.size := by
  obtain ⟨ps, h1, h2, h3, h4⟩ := h
  exact Zpd h2
theorem WayA.go {v : Value} (h : WayA w base v ws) (hb : Below w.heap.size w w') : WayA w' base v ws :=
  h.keep (Nt.below hb) fun k hk => hb.block k (h.own k hk).2
theorem WayA.nil (w : World) (base : Nat) : WayA w base (.slice none 0 0) [] := ⟨[], rfl, ⟨rfl, .inl ⟨rfl, rfl⟩⟩, NuB.nil w, fun p hp => by cases hp⟩
theorem Zua : ∃ i, Tryz.prog.info? 88 = some i ∧ i.zero = some (.agg #[.nilIface, .int .i64 0, .bool false]) ∧ i.size = 3 ∧ i.bytes = 32 := by
  have hs : (Tryz.prog.info? 88).map (fun i => (i.zero, i.size, i.bytes)) = some (some (.agg #[.nilIface, .int .i64 0, .bool false]), 3, 32) := by kernel_rfl
  cases hq : Tryz.prog.info? 88 with
  | none => simp [hq] at hs
  | some i =>
    rw [hq] at hs
    simp only [Option.map_some, Option.some.injEq, Prod.mk.injEq] at hs
    exact ⟨i, rfl, hs.1, hs.2.1, hs.2.2⟩
theorem WayA.app {v : Value} (h : WayA w base v ws) (hr : Rw g w #[u, .int .i64 ((s.l : Nat) : Int), .bool s.c] 88) (hu : ThA w s.t u) (hl : ws.length ≤ 1000) (hb : base ≤ w.heap.size) :
    ∃ v' w', (∀ ty, (Builtin.append_ #[84, 84] ty #[v, .slice (some ⟨g, 0, none⟩) 1 1]).run Tryz.prog w = .ok v' w') ∧ WayA w' base v' (ws ++ [s]) ∧ Below base w w' ∧ Nt w w' ∧ (∀ k, k < w.heap.size → v.ownBlock ≠ some k → w'.heap[k]? = w.heap[k]?) ∧ w.heap.size ≤ w'.heap.size := by
  obtain ⟨ps, h1, h2, h3, h4⟩ := h
  obtain ⟨i, hi, hz, hsz, hby⟩ := Zua
  have hpl : ps.length = ws.length := by rw [← h1, List.length_map]
  have hnews : ∀ j x, (spc (u, s))[j]? = some x → w.cell? ((⟨g, 0, none⟩ : Addr).add j) = some x := by
    intro j x hx
    rw [Zbb, Nat.zero_add, cell_of_row _ _ _ _ _ _ hr]
    match j with
    | 0 => exact hx
    | 1 => exact hx
    | 2 => exact hx
    | n + 3 => simp [spc] at hx
  have h1c : ∀ x ∈ spc (u, s), x.oneCell' = true := by
    intro x hx
    simp only [spc, List.mem_cons, List.not_mem_nil, or_false] at hx
    rcases hx with rfl | rfl | rfl
    · exact hu.one
    · rfl
    · rfl
  have hsn : ∀ x ∈ spc (u, s), nU x := by
    intro x hx
    simp only [spc, List.mem_cons, List.not_mem_nil, or_false] at hx
    rcases hx with rfl | rfl | rfl
    · exact hu.u8
    · exact fun _ e => by cases e
    · exact fun _ e => by cases e
  obtain ⟨v', w', hrun, hown', hgr, _⟩ := run_append_own (P := Tryz.prog) w base 84 0 88 i _ 3 32 Tryz.underlying84 hi hz hsz hby rfl (by decide) v ps.length (ps.flatMap spc) h2 ⟨g, 0, none⟩ 1 1 (spc (u, s)) rfl hnews h1c (by unfold maxLen; omega) (by omega) hb
  have hbel : Below base w w' := (Below.refl _ _).grown hgr hb (fun k hk => (Zpd h2 k hk).1)
  have hoth : ∀ k, k < w.heap.size → v.ownBlock ≠ some k → w'.heap[k]? = w.heap[k]? := fun k hk hne => hgr.block k hk (Ne.symm hne)
  have hnt : Nt w w' := Nt.of_obj fun k o ho hB => by
    by_cases e : v.ownBlock = some k
    · exfalso
      cases o with
      | cells cs T fr =>
        obtain ⟨j, x, hj⟩ := hB
        exact h3 k cs T fr e ho _ (by rw [← Array.getElem?_toList] at hj; exact List.mem_of_getElem? hj) x rfl
      | _ => exact hB
    · exact (hoth k (lt_of_get ho) e).trans ho
  refine ⟨v', w', fun ty => hrun, ⟨ps ++ [(u, s)], by rw [List.map_append, h1]; rfl, ?_, ?_, ?_⟩, hbel, hnt, hoth, hgr.size⟩
  · rw [List.length_append, List.flatMap_append]
    simpa using hown'
  · exact Zys (ty := 0) Tryz.underlying84 hi hz hsz hby h2 h3 rfl hnews h1c hsn (by omega) (by unfold maxLen; omega) (by omega) hrun
  · intro p hp
    rcases List.mem_append.1 hp with hp | hp
    · exact (h4 p hp).nt hnt
    · rw [List.mem_singleton.1 hp]; exact hu.nt hnt
theorem Zpo {w w' : World} {v u r : Value} {ρ : Operand → Value} {o : Oper} (hr : ∀ ty, (Builtin.append_ #[84, 84] ty #[v, u]).run Tryz.prog w = .ok r w') (x y : Operand) (ho : o.op = .call { callee := .builtin .append, args := #[x, y], argTypes := #[84, 84] }) (hx : ρ x = v) (hy : ρ y = u) : (execOp ρ o).run Tryz.prog w = .ok (.value r) w' := by
  unfold execOp
  simp only [ho, resolve, invoke, builtin, Sem.run_bind, Sem.run_pure, Result.andThen_ok, List.map_toArray, List.map_cons, List.map_nil, hx, hy, hr]
structure WayR (w : World) (a : Option Addr) (n c : Nat) (ws : List Sp) : Prop where
  len : n = ws.length
  le : n ≤ c ∧ c ≤ maxLen
  row : ∀ j s, ws[j]? = some s → ∃ g off u, a = some ⟨g, off, none⟩ ∧ w.rangeAt g (off + j * 3) [u, .int .i64 ((s.l : Nat) : Int), .bool s.c] ∧ ThA w s.t u
theorem Zyc : ∀ (ps : List (Value × Sp)) (j : Nat) (p : Value × Sp), ps[j]? = some p → ∀ i x, (spc p)[i]? = some x → (ps.flatMap spc)[j * 3 + i]? = some x
  | [], j, p, h => by simp at h
  | y :: r, 0, p, h => by
    intro i x hx
    have : y = p := by simpa using h
    subst this
    rw [List.flatMap_cons, Nat.zero_mul, Nat.zero_add, List.getElem?_append_left (by have := (List.getElem?_eq_some_iff.1 hx).1; exact this)]
    exact hx
  | y :: r, j + 1, p, h => by
    intro i x hx
    rw [List.flatMap_cons, List.getElem?_append_right (by simp [spc]; omega)]
    have := Zyc r j p (by simpa using h) i x hx
    rw [show (j + 1) * 3 + i - (spc y).length = j * 3 + i by simp [spc]; omega]
    exact this
theorem WayA.read {v : Value} (h : WayA w base v ws) (hl : ws.length ≤ 1000) : ∃ a c, v = .slice a ws.length c ∧ WayR w a ws.length c ws := by
  obtain ⟨ps, h1, h2, h3, h4⟩ := h
  have hpl : ps.length = ws.length := by rw [← h1, List.length_map]
  rcases id h2.2 with ⟨e1, e2⟩ | ⟨g, cap, cur, rfl, hbg, hg, hnc, hcm, hcs, htake⟩
  · have hw : ws = [] := List.eq_nil_of_length_eq_zero (by omega)
    subst hw
    exact ⟨none, 0, by rw [e1]; rfl, rfl, ⟨Nat.le_refl _, Nat.zero_le _⟩, fun j s hj => by simp at hj⟩
  · refine ⟨some ⟨g, 0, none⟩, cap, by rw [hpl], rfl, ⟨by omega, hcm⟩, fun j s hj => ?_⟩
    rw [← h1, List.getElem?_map] at hj
    cases hq : ps[j]? with
    | none => rw [hq] at hj; cases hj
    | some p =>
      rw [hq] at hj
      obtain rfl : p.2 = s := by simpa using hj
      refine ⟨g, 0, p.1, rfl, fun i x hx => ?_, h4 p (List.mem_of_getElem? hq)⟩
      have hh := h2.cells (g := g) rfl (j * 3 + i) x (Zyc ps j p hq i x hx)
      rw [Zbb, Nat.zero_add] at hh
      rw [Nat.zero_add]
      exact hh
def wkU (kn : Kn) (q : List Int) : Nat → Sp → List (List Int) → List (List Int)
  | 0, _, us => us
  | f + 1, s, us => match lookP kn s with
    | none => us
    | some u => match nextP q ⟨u, s.l, s.c⟩ with
      | none => lkU kn s us
      | some s2 => wkU kn q f s2 (lkU kn s us)
theorem Zsv (h : lookP kn s = none) : lkU kn s us = us := by
  unfold lkU
  cases hs : s.t with
  | st d => simp only; rw [h]
  | _ => rfl
structure WX where
  done : List Sp
  o : Option Sp
  vw : Value
  us : List (List Int)
def RWk (w : World) (g gK gU : Nat) (t0 : Pt) (kn : Kn) (us : List (List Int)) (r : Option (List Sp)) : Value → World → Prop := fun u w' => PAt w' g gK gU t0 kn us ∧ (match r with
  | none => u = .tuple #[.slice none 0 0, .bool false]
  | some ws => ∃ a c, u = .tuple #[.slice a ws.length c, .bool true] ∧ WayR w' a ws.length c ws) ∧ TU gU w w'
theorem TU.app {B : Nat} {v v' : World} (h : TU gU w v) (hb : Below B v v') (hB : w.heap.size ≤ B) (hn : Nt v v') (hs : v.heap.size ≤ v'.heap.size) : TU gU w v' :=
  ⟨⟨hb.os.trans h.t.os, hb.tape.trans h.t.tape, hb.output.trans h.t.output, Nat.le_trans h.t.size hs, fun i hi hne => (hb.block i (by omega)).trans (h.t.block i hi hne)⟩, h.n.trans hn⟩
def WkI (w : World) (g gK gU g7 : Nat) (t0 : Pt) (kn : Kn) (UW : List (List Int)) (e : Option Addr) (m2 d2 : Nat) (q : List Int) (x : WX) (v : World) : Prop :=
  TU gU w v ∧ PAt v g gK gU t0 kn x.us ∧ Sk An v e m2 d2 q ∧ WayA v (g7 + 1) x.vw x.done ∧ x.done.length ≤ q.length + 1 ∧ g7 < v.heap.size ∧ (match x.o with
    | some s => (∃ u, Rw g7 v #[u, .int .i64 ((s.l : Nat) : Int), .bool s.c] 88 ∧ ThA v s.t u) ∧ Wg s.t s.l ∧ s.l ≤ q.length ∧ x.done.length ≤ s.l ∧ ∃ f, q.length + 1 ≤ s.l + f ∧ wayP kn t0 q = (walkP kn q f s).map (x.done ++ ·) ∧ UW = wkU kn q f s x.us
    | none => wayP kn t0 q = some x.done ∧ UW = x.us)
theorem Zor {w0 w : World} {t : Pt} {u : Value} (h : ThA w0 t u) {ρ : Operand → Value} {o : Oper} (x : Operand) {l : Int} {b : Bool} (ho : o.op = .buildSlice 84 1 #[(0, x)]) (hx : ρ x = .agg #[u, .int .i64 l, .bool b]) : (execOp ρ o).run Tryz.prog w = .ok (.value (.slice (some ⟨w.heap.size, 0, none⟩) 1 1)) (w.alloc (.cells #[u, .int .i64 l, .bool b] 88)) := by
  unfold execOp
  rw [ho]
  simp only [List.map_toArray, List.map_cons, List.map_nil, hx]
  cases t with
  | no => rw [show u = .nilIface from h]; kernel_rfl
  | st d => rw [h.1]; kernel_rfl
  | leaf p x => obtain ⟨_, _, _, _, _, _, rfl, _⟩ := h; kernel_rfl
  | ext p t => obtain ⟨_, _, _, _, rfl, _⟩ := h; kernel_rfl
  | br k x => obtain ⟨_, _, _, _, rfl, _⟩ := h; kernel_rfl
set_option maxHeartbeats 1000000 in
theorem Zca {t0 : Pt} (hP : PAt w g gK gU t0 kn us) {e : Option Addr} (hq : Sk An w e m2 d2 q) (hm2 : m2 ≤ 64) (hqn : nibs q) : Calls Tryz.prog 38 #[.pointer (some ⟨g, 0, none⟩), .slice e m2 d2] w fun e w' => ∃ v', e = .returned v' ∧ RWk w g gK gU t0 kn (wkU kn q (q.length + 1) ⟨t0, 0, false⟩ us) (wayP kn t0 q) v' w' := by
  have hql := hq.len
  have hgP := hP.lt
  have hgK := hP.km.lt
  have hgU := hP.um.lt
  have hwg := hP.wg
  obtain ⟨UW, hUW⟩ : ∃ UW, wkU kn q (q.length + 1) ⟨t0, 0, false⟩ us = UW := ⟨_, rfl⟩
  rw [hUW]
  have hB : Bl w w := Bl.refl w
  refine Zaj Tryz.func38 rfl 38 rfl ?_
  show CW _ _ _ _ _ _ _ [(0, .pointer (some ⟨g, 0, none⟩)), (1, .slice e m2 d2)] _
  refine Zac ?_
  refine Zaa ?_
  refine rp 4 (.slice none 0 0) ?_
  refine rp 5 (.bool false) ?_
  refine Zad ?_
  refine Zab ?_
  refine Zac ?_
  refine Zaa ?_
  refine rp 6 (.slice none 0 0) ?_
  refine Zad ?_
  refine Zab ?_
  refine Zac ?_
  obtain ⟨vt, hrt, htt⟩ := hP.row
  refine Zaa ?_
  refine rp 11 (.pointer (some ⟨g, 0, none⟩)) ?_
  refine rp 12 (.pointer (some ⟨g, 0, none⟩)) ?_
  refine rp 13 (.pointer (some ⟨g, 0, none⟩)) ?_
  refine rv 14 (vt) (fun _ => Zag 47 _ ⟨g, 0, none⟩ _ _ rfl (by kernel_rfl) (by rw [cell_of_row _ _ _ _ _ _ hrt]; rfl) Tryz.underlying47 rfl) ?_
  refine rv 15 (.agg #[vt, .int .i64 0, .bool false]) (fun _ => Zbz 88 _ rfl [(0, vt)] (by kernel_rfl) _ (Zth htt)) ?_
  refine Zar 7 (#[.nilIface, .int .i64 0, .bool false]) 88 (fun _ => by kernel_rfl) (fun _ => by kernel_rfl) ?_
  intro w1 g2 hn3
  have hr4 : Rw g2 w1 (#[.nilIface, .int .i64 0, .bool false]) 88 := hn3.row
  refine Zav g2 (#[vt, .int .i64 0, .bool false]) (fun _ => by kernel_rfl) (fun _ => Zao 88 _ _ _ _ _ 88 rfl (by kernel_rfl) (by kernel_rfl) hr4 (by kernel_rfl) (by kernel_rfl) (one3 htt.one rfl rfl)) ?_
  intro w5 hp6
  replace hn3 := hn3.put hp6
  clear hr4
  have hzg2 : w.heap.size ≤ g2 := by have := hB.size; have := hn3.hg; omega
  replace hB := hB.go hn3.below
  replace hq := hq.go hn3.below
  replace hP := hP.go hn3.below
  replace htt := htt.go hn3.below
  have hr8 : Rw g2 w5 (#[vt, .int .i64 0, .bool false]) 88 := hn3.row
  refine rp 8 (.bool true) ?_
  refine Zad ?_
  refine Zab ?_
  refine Zac ?_
  refine Zan ?_
  refine Zb8 (X := WX) (fun x => [(7, .pointer (some ⟨g2, 0, none⟩)), (8, .bool x.o.isSome), (6, x.vw), (0, .pointer (some ⟨g, 0, none⟩)), (1, .slice e m2 d2)]) (WkI w g gK gU g2 t0 kn UW e m2 d2 q) (fun x => match x.o with | some s => q.length + 1 - s.l | none => 0) ⟨[], some ⟨t0, 0, false⟩, .slice none 0 0, us⟩ (by exact ⟨fun _ => by kernel_rfl, ⟨fun _ => by kernel_rfl, ⟨fun _ => by kernel_rfl, ⟨fun _ => by kernel_rfl, ⟨fun _ => by kernel_rfl, trivial⟩⟩⟩⟩⟩) ⟨TU.of hB, hP, hq, WayA.nil _ _, by simp, hr8.lt, ⟨_, hr8, htt⟩, hwg, by simp, by simp, q.length + 1, by simp, by show _ = Option.map _ _; rw [show (fun x => [] ++ x : List Sp → List Sp) = id from rfl, Option.map_id]; rfl, hUW.symm⟩ ?_
  clear hB hP hq htt hr8
  rintro ⟨done, o, vw, us1⟩ v ⟨hB, hP, hq, hW, hdl, hg7, hx⟩
  simp only at *
  cases o with
  | none =>
    show CW _ _ _ _ _ _ _ [(7, .pointer (some ⟨g2, 0, none⟩)), (8, .bool false), (6, vw), (0, .pointer (some ⟨g, 0, none⟩)), (1, .slice e m2 d2)] _
    obtain ⟨hx1, hx2⟩ := hx
    refine Zac ?_
    refine Zac ?_
    refine Zaa ?_
    refine rp 16 (.bool false) ?_
    refine Zad ?_
    refine Zab ?_
    refine Zaf (fun _ => by kernel_rfl) ?_
    refine Zb1 ?_
    refine Zat ?_
    refine Zat ?_
    refine Za1 ?_
    refine Zab ?_
    refine Zac ?_
    refine Zaa ?_
    refine rp 37 (vw) ?_
    refine rp 4 (vw) ?_
    refine rp 5 (.bool true) ?_
    refine Zad ?_
    refine Zab ?_
    refine Zap ?_
    obtain ⟨a9, c9, rfl, hr9⟩ := hW.read (by omega)
    refine Zae (.tuple #[.slice a9 done.length c9, .bool true]) (fun _ => by kernel_rfl) ?_
    rw [hx1, hx2]
    exact ⟨_, rfl, hP, ⟨_, _, rfl, hr9⟩, hB⟩
  | some s1 =>
    show CW _ _ _ _ _ _ _ [(7, .pointer (some ⟨g2, 0, none⟩)), (8, .bool true), (6, vw), (0, .pointer (some ⟨g, 0, none⟩)), (1, .slice e m2 d2)] _
    obtain ⟨⟨u1, hr7, hu1⟩, hws, hsl, hds, f, hf, hx1, hx2⟩ := hx
    obtain ⟨f, rfl⟩ : ∃ f2, f = f2 + 1 := ⟨f - 1, by omega⟩
    rw [walkP] at hx1
    rw [wkU] at hx2
    cases hlk : lookP kn s1 with
    | none =>
      simp only [hlk] at hx1 hx2
      rw [Option.map_none] at hx1
      refine Zac ?_
      refine Zac ?_
      refine Zaa ?_
      refine rp 16 (.bool true) ?_
      refine Zad ?_
      refine Zab ?_
      refine Zai (fun _ => by kernel_rfl) ?_
      refine Zam ?_
      refine Zab ?_
      refine Zan ?_
      refine Zac ?_
      refine Zaa ?_
      refine rp 18 (.pointer (some ⟨g, 0, none⟩)) ?_
      refine rv 19 (.agg (#[u1, .int .i64 ((s1.l : Nat) : Int), .bool s1.c])) (fun _ => Za2 88 _ _ _ _ _ _ rfl (by kernel_rfl) hr7 Tryz.underlying88 rfl (by kernel_rfl)) ?_
      refine Zak 20 60 #[.pointer (some ⟨g, 0, none⟩), .agg (#[u1, .int .i64 ((s1.l : Nat) : Int), .bool s1.c])] (fun _ => by kernel_rfl) (fun _ => by kernel_rfl) (R := RLk v g gK gU t0 kn us1 none) (by have := Zeu (s := s1) hP hu1 (by omega); rw [hlk, Zsv hlk] at this; exact this) ?_
      rintro _ w9 ⟨hP10, rfl, hT11⟩
      replace hB := hB.trans hT11
      replace hP := hP10
      replace hq := hq.nt hT11.n
      replace hW := hW.keep hT11.n (fun k9 hk9 => hT11.t.block k9 (hW.own k9 hk9).2 (by have := (hW.own k9 hk9).1; omega))
      replace hr7 := hr7.past hT11.t (by omega)
      replace hu1 := hu1.nt hT11.n
      refine rp 17 (.tuple #[.nilIface, .bool false]) ?_
      refine rp 21 (.nilIface) ?_
      refine rp 22 (.bool false) ?_
      refine rp 9 (.nilIface) ?_
      refine rp 10 (.bool false) ?_
      refine Zad ?_
      refine Zab ?_
      refine Zac ?_
      refine Zac ?_
      refine Zaa ?_
      refine rp 23 (.bool false) ?_
      refine rp 24 (.bool true) ?_
      refine Zad ?_
      refine Zab ?_
      refine Zai (fun _ => by kernel_rfl) ?_
      refine Zac ?_
      refine Zaa ?_
      refine rp 4 (.slice none 0 0) ?_
      refine rp 5 (.bool false) ?_
      refine Zad ?_
      refine Zab ?_
      refine Zap ?_
      refine Zah ?_
      refine Zaq ?_
      refine Zah ?_
      refine Zaq ?_
      refine Zah ?_
      refine Zae (.tuple #[.slice none 0 0, .bool false]) (fun _ => by kernel_rfl) ?_
      rw [hx1, hx2]
      exact ⟨_, rfl, hP, rfl, hB⟩
    | some u2 =>
      simp only [hlk] at hx1 hx2
      have hwu := Zgu hP.ok hws hlk
      cases hnx : nextP q ⟨u2, s1.l, s1.c⟩ with
      | none =>
        simp only [hnx] at hx1 hx2
        rw [Option.map_some] at hx1
        refine Zac ?_
        refine Zac ?_
        refine Zaa ?_
        refine rp 16 (.bool true) ?_
        refine Zad ?_
        refine Zab ?_
        refine Zai (fun _ => by kernel_rfl) ?_
        refine Zam ?_
        refine Zab ?_
        refine Zan ?_
        refine Zac ?_
        refine Zaa ?_
        refine rp 18 (.pointer (some ⟨g, 0, none⟩)) ?_
        refine rv 19 (.agg (#[u1, .int .i64 ((s1.l : Nat) : Int), .bool s1.c])) (fun _ => Za2 88 _ _ _ _ _ _ rfl (by kernel_rfl) hr7 Tryz.underlying88 rfl (by kernel_rfl)) ?_
        refine Zak 20 60 #[.pointer (some ⟨g, 0, none⟩), .agg (#[u1, .int .i64 ((s1.l : Nat) : Int), .bool s1.c])] (fun _ => by kernel_rfl) (fun _ => by kernel_rfl) (R := RLk v g gK gU t0 kn (lkU kn s1 us1) (some u2)) (by have := Zeu (s := s1) hP hu1 (by omega); rw [hlk] at this; exact this) ?_
        rintro _ w12 ⟨hP13, ⟨v15, rfl, ht16⟩, hT14⟩
        replace hB := hB.trans hT14
        replace hP := hP13
        replace hq := hq.nt hT14.n
        replace hW := hW.keep hT14.n (fun k9 hk9 => hT14.t.block k9 (hW.own k9 hk9).2 (by have := (hW.own k9 hk9).1; omega))
        replace hr7 := hr7.past hT14.t (by omega)
        replace hu1 := hu1.nt hT14.n
        refine rp 17 (.tuple #[v15, .bool true]) ?_
        refine rp 21 (v15) ?_
        refine rp 22 (.bool true) ?_
        refine rp 9 (v15) ?_
        refine rp 10 (.bool true) ?_
        refine Zad ?_
        refine Zab ?_
        refine Zac ?_
        refine Zac ?_
        refine Zaa ?_
        refine rp 23 (.bool true) ?_
        refine rp 24 (.bool false) ?_
        refine Zad ?_
        refine Zab ?_
        refine Zaf (fun _ => by kernel_rfl) ?_
        refine Zam ?_
        refine Zab ?_
        refine Zac ?_
        refine Zaa ?_
        refine rp 25 (v15) ?_
        refine rp 26 (.pointer (some ⟨g2, 0, none⟩)) ?_
        refine Zb0 g2 (0) (v15) (fun _ => by kernel_rfl) (fun _ => Zbr 47 _ _ g2 _ _ 88 _ hr7 rfl (by kernel_rfl) (by kernel_rfl) (by show 0 < 3; omega) ht16.cells ht16.one (by kernel_rfl)) ?_
        intro w17 hs18
        have hnt19 := Nt.rows hr7 (nob3 hu1 (fun _ e => by cases e) (fun _ e => by cases e)) hs18.touch
        replace hB := hB.tou hs18.touch hzg2 hnt19
        replace hP := hP.keep hnt19 (hs18.touch.block _ hP.lt (by omega)) (hs18.touch.block _ hP.km.lt (by omega)) (hP.um.keep (hs18.touch.block _ hP.um.lt (by omega)))
        replace hq := hq.nt hnt19
        replace hW := hW.keep hnt19 (fun k9 hk9 => hs18.touch.block k9 (hW.own k9 hk9).2 (by have := (hW.own k9 hk9).1; omega))
        replace hu1 := hu1.nt hnt19
        replace ht16 := ht16.nt hnt19
        replace hr7 := hr7.set (cells' := (#[v15, .int .i64 ((s1.l : Nat) : Int), .bool s1.c])) hs18 (by kernel_rfl)
        refine Zad ?_
        refine Zab ?_
        refine Zac ?_
        refine Zaa ?_
        refine rp 27 (vw) ?_
        refine rv 28 (.agg (#[v15, .int .i64 ((s1.l : Nat) : Int), .bool s1.c])) (fun _ => Za2 88 _ _ _ _ _ _ rfl (by kernel_rfl) hr7 Tryz.underlying88 rfl (by kernel_rfl)) ?_
        refine Zcg 29 (#[v15, .int .i64 ((s1.l : Nat) : Int), .bool s1.c]) 88 1 (fun _ => by kernel_rfl) (fun _ => Zor ht16 (l := ((s1.l : Nat) : Int)) (b := s1.c) _ rfl (by kernel_rfl)) ?_
        intro w20 g21 hn22
        have hsz8 : g2 + 1 ≤ w20.heap.size := by have := hr7.lt; have := hn22.below.size; omega
        replace hB := hB.go hn22.below
        replace hP := hP.go hn22.below
        replace hq := hq.go hn22.below
        replace hW := hW.go hn22.below
        replace hr7 := hr7.go hn22.below
        replace hu1 := hu1.go hn22.below
        replace ht16 := ht16.go hn22.below
        have hr23 : Rw g21 w20 (#[v15, .int .i64 ((s1.l : Nat) : Int), .bool s1.c]) 88 := hn22.row
        obtain ⟨vw24, w25, hr26, hW27, hb28, hnt29, ho30, hsz31⟩ := hW.app (s := ⟨u2, s1.l, s1.c⟩) hr23 ht16 (by omega) hsz8
        refine rw_v 30 vw24 (fun _ => by kernel_rfl) (fun _ => Zpo hr26 _ _ rfl (by kernel_rfl) (by kernel_rfl)) ?_
        replace hB := hB.app hb28 (by omega) hnt29 hsz31
        replace hP := hP.keep hnt29 (hb28.block _ (by omega)) (hb28.block _ (by omega)) (hP.um.keep (hb28.block _ (by omega)))
        replace hq := hq.nt hnt29
        replace hW := hW27
        replace hr7 : Rw g2 w25 (#[v15, .int .i64 ((s1.l : Nat) : Int), .bool s1.c]) 88 := (hb28.block g2 (by omega)).trans hr7
        replace hu1 := hu1.nt hnt29
        replace ht16 := ht16.nt hnt29
        refine rp 6 (vw24) ?_
        refine Zad ?_
        refine Zab ?_
        refine Zaa ?_
        refine rv 32 (.agg (#[v15, .int .i64 ((s1.l : Nat) : Int), .bool s1.c])) (fun _ => Za2 88 _ _ _ _ _ _ rfl (by kernel_rfl) hr7 Tryz.underlying88 rfl (by kernel_rfl)) ?_
        refine rp 33 (.slice e m2 d2) ?_
        refine Zak 34 61 #[.agg (#[v15, .int .i64 ((s1.l : Nat) : Int), .bool s1.c]), .slice e m2 d2] (fun _ => by kernel_rfl) (fun _ => by kernel_rfl) (R := RNx w25 none) (by have := Zl9 (t := u2) (l := s1.l) (cb := s1.c) ht16 hq (by omega) (by omega) hqn; rw [hnx] at this; exact this) ?_
        rintro _ w32 ⟨rfl, hb33⟩
        replace hB := hB.go hb33
        replace hP := hP.go hb33
        replace hq := hq.go hb33
        replace hW := hW.go hb33
        replace hr7 := hr7.go hb33
        replace hu1 := hu1.go hb33
        replace ht16 := ht16.go hb33
        refine rp 31 (.tuple #[.agg #[.nilIface, .int .i64 0, .bool false], .bool false]) ?_
        refine rp 35 (.agg #[.nilIface, .int .i64 0, .bool false]) ?_
        refine rp 36 (.bool false) ?_
        refine Zav g2 (#[.nilIface, .int .i64 0, .bool false]) (fun _ => by kernel_rfl) (fun _ => Zao 88 _ _ _ _ _ 88 rfl (by kernel_rfl) (by kernel_rfl) hr7 (by kernel_rfl) (by kernel_rfl) (by kernel_rfl)) ?_
        intro w34 hp35
        have hnt36 := Nt.rows hr7 (nob3 ht16 (fun _ e => by cases e) (fun _ e => by cases e)) hp35.touch
        replace hB := hB.tou hp35.touch hzg2 hnt36
        replace hP := hP.keep hnt36 (hp35.touch.block _ hP.lt (by omega)) (hp35.touch.block _ hP.km.lt (by omega)) (hP.um.keep (hp35.touch.block _ hP.um.lt (by omega)))
        replace hq := hq.nt hnt36
        replace hW := hW.keep hnt36 (fun k9 hk9 => hp35.touch.block k9 (hW.own k9 hk9).2 (by have := (hW.own k9 hk9).1; omega))
        replace hu1 := hu1.nt hnt36
        replace ht16 := ht16.nt hnt36
        replace hr7 : Rw g2 w34 (#[.nilIface, .int .i64 0, .bool false]) 88 := hp35.row hr7
        refine rp 8 (.bool false) ?_
        refine Zad ?_
        refine Zau ?_
        exact Za7 (E := fun x => [(7, .pointer (some ⟨g2, 0, none⟩)), (8, .bool x.o.isSome), (6, x.vw), (0, .pointer (some ⟨g, 0, none⟩)), (1, .slice e m2 d2)]) (R := WkI w g gK gU g2 t0 kn UW e m2 d2 q) (μ := fun x => match x.o with | some s => q.length + 1 - s.l | none => 0) (x := ⟨done, some s1, vw, us1⟩) ⟨(done ++ [⟨u2, s1.l, s1.c⟩]), none, vw24, lkU kn s1 us1⟩ (by exact ⟨fun _ => by kernel_rfl, ⟨fun _ => by kernel_rfl, ⟨fun _ => by kernel_rfl, ⟨fun _ => by kernel_rfl, ⟨fun _ => by kernel_rfl, trivial⟩⟩⟩⟩⟩) ⟨hB, hP, hq, hW, by simp only [List.length_append, List.length_singleton]; omega, hr7.lt, hx1, hx2⟩ (by show 0 < q.length + 1 - s1.l; omega)
      | some s2 =>
        simp only [hnx] at hx1 hx2
        obtain ⟨hw2, hl2, hlt2⟩ := Zkv (s := ⟨u2, s1.l, s1.c⟩) hwu hsl hnx hqn
        refine Zac ?_
        refine Zac ?_
        refine Zaa ?_
        refine rp 16 (.bool true) ?_
        refine Zad ?_
        refine Zab ?_
        refine Zai (fun _ => by kernel_rfl) ?_
        refine Zam ?_
        refine Zab ?_
        refine Zan ?_
        refine Zac ?_
        refine Zaa ?_
        refine rp 18 (.pointer (some ⟨g, 0, none⟩)) ?_
        refine rv 19 (.agg (#[u1, .int .i64 ((s1.l : Nat) : Int), .bool s1.c])) (fun _ => Za2 88 _ _ _ _ _ _ rfl (by kernel_rfl) hr7 Tryz.underlying88 rfl (by kernel_rfl)) ?_
        refine Zak 20 60 #[.pointer (some ⟨g, 0, none⟩), .agg (#[u1, .int .i64 ((s1.l : Nat) : Int), .bool s1.c])] (fun _ => by kernel_rfl) (fun _ => by kernel_rfl) (R := RLk v g gK gU t0 kn (lkU kn s1 us1) (some u2)) (by have := Zeu (s := s1) hP hu1 (by omega); rw [hlk] at this; exact this) ?_
        rintro _ w37 ⟨hP38, ⟨v40, rfl, ht41⟩, hT39⟩
        replace hB := hB.trans hT39
        replace hP := hP38
        replace hq := hq.nt hT39.n
        replace hW := hW.keep hT39.n (fun k9 hk9 => hT39.t.block k9 (hW.own k9 hk9).2 (by have := (hW.own k9 hk9).1; omega))
        replace hr7 := hr7.past hT39.t (by omega)
        replace hu1 := hu1.nt hT39.n
        refine rp 17 (.tuple #[v40, .bool true]) ?_
        refine rp 21 (v40) ?_
        refine rp 22 (.bool true) ?_
        refine rp 9 (v40) ?_
        refine rp 10 (.bool true) ?_
        refine Zad ?_
        refine Zab ?_
        refine Zac ?_
        refine Zac ?_
        refine Zaa ?_
        refine rp 23 (.bool true) ?_
        refine rp 24 (.bool false) ?_
        refine Zad ?_
        refine Zab ?_
        refine Zaf (fun _ => by kernel_rfl) ?_
        refine Zam ?_
        refine Zab ?_
        refine Zac ?_
        refine Zaa ?_
        refine rp 25 (v40) ?_
        refine rp 26 (.pointer (some ⟨g2, 0, none⟩)) ?_
        refine Zb0 g2 (0) (v40) (fun _ => by kernel_rfl) (fun _ => Zbr 47 _ _ g2 _ _ 88 _ hr7 rfl (by kernel_rfl) (by kernel_rfl) (by show 0 < 3; omega) ht41.cells ht41.one (by kernel_rfl)) ?_
        intro w42 hs43
        have hnt44 := Nt.rows hr7 (nob3 hu1 (fun _ e => by cases e) (fun _ e => by cases e)) hs43.touch
        replace hB := hB.tou hs43.touch hzg2 hnt44
        replace hP := hP.keep hnt44 (hs43.touch.block _ hP.lt (by omega)) (hs43.touch.block _ hP.km.lt (by omega)) (hP.um.keep (hs43.touch.block _ hP.um.lt (by omega)))
        replace hq := hq.nt hnt44
        replace hW := hW.keep hnt44 (fun k9 hk9 => hs43.touch.block k9 (hW.own k9 hk9).2 (by have := (hW.own k9 hk9).1; omega))
        replace hu1 := hu1.nt hnt44
        replace ht41 := ht41.nt hnt44
        replace hr7 := hr7.set (cells' := (#[v40, .int .i64 ((s1.l : Nat) : Int), .bool s1.c])) hs43 (by kernel_rfl)
        refine Zad ?_
        refine Zab ?_
        refine Zac ?_
        refine Zaa ?_
        refine rp 27 (vw) ?_
        refine rv 28 (.agg (#[v40, .int .i64 ((s1.l : Nat) : Int), .bool s1.c])) (fun _ => Za2 88 _ _ _ _ _ _ rfl (by kernel_rfl) hr7 Tryz.underlying88 rfl (by kernel_rfl)) ?_
        refine Zcg 29 (#[v40, .int .i64 ((s1.l : Nat) : Int), .bool s1.c]) 88 1 (fun _ => by kernel_rfl) (fun _ => Zor ht41 (l := ((s1.l : Nat) : Int)) (b := s1.c) _ rfl (by kernel_rfl)) ?_
        intro w45 g46 hn47
        have hsz8 : g2 + 1 ≤ w45.heap.size := by have := hr7.lt; have := hn47.below.size; omega
        replace hB := hB.go hn47.below
        replace hP := hP.go hn47.below
        replace hq := hq.go hn47.below
        replace hW := hW.go hn47.below
        replace hr7 := hr7.go hn47.below
        replace hu1 := hu1.go hn47.below
        replace ht41 := ht41.go hn47.below
        have hr48 : Rw g46 w45 (#[v40, .int .i64 ((s1.l : Nat) : Int), .bool s1.c]) 88 := hn47.row
        obtain ⟨vw49, w50, hr51, hW52, hb53, hnt54, ho55, hsz56⟩ := hW.app (s := ⟨u2, s1.l, s1.c⟩) hr48 ht41 (by omega) hsz8
        refine rw_v 30 vw49 (fun _ => by kernel_rfl) (fun _ => Zpo hr51 _ _ rfl (by kernel_rfl) (by kernel_rfl)) ?_
        replace hB := hB.app hb53 (by omega) hnt54 hsz56
        replace hP := hP.keep hnt54 (hb53.block _ (by omega)) (hb53.block _ (by omega)) (hP.um.keep (hb53.block _ (by omega)))
        replace hq := hq.nt hnt54
        replace hW := hW52
        replace hr7 : Rw g2 w50 (#[v40, .int .i64 ((s1.l : Nat) : Int), .bool s1.c]) 88 := (hb53.block g2 (by omega)).trans hr7
        replace hu1 := hu1.nt hnt54
        replace ht41 := ht41.nt hnt54
        refine rp 6 (vw49) ?_
        refine Zad ?_
        refine Zab ?_
        refine Zaa ?_
        refine rv 32 (.agg (#[v40, .int .i64 ((s1.l : Nat) : Int), .bool s1.c])) (fun _ => Za2 88 _ _ _ _ _ _ rfl (by kernel_rfl) hr7 Tryz.underlying88 rfl (by kernel_rfl)) ?_
        refine rp 33 (.slice e m2 d2) ?_
        refine Zak 34 61 #[.agg (#[v40, .int .i64 ((s1.l : Nat) : Int), .bool s1.c]), .slice e m2 d2] (fun _ => by kernel_rfl) (fun _ => by kernel_rfl) (R := RNx w50 (some s2)) (by have := Zl9 (t := u2) (l := s1.l) (cb := s1.c) ht41 hq (by omega) (by omega) hqn; rw [hnx] at this; exact this) ?_
        rintro _ w57 ⟨⟨v59, rfl, ht60⟩, hb58⟩
        replace hB := hB.go hb58
        replace hP := hP.go hb58
        replace hq := hq.go hb58
        replace hW := hW.go hb58
        replace hr7 := hr7.go hb58
        replace hu1 := hu1.go hb58
        replace ht41 := ht41.go hb58
        refine rp 31 (.tuple #[.agg #[v59, .int .i64 ((s2.l : Nat) : Int), .bool s2.c], .bool true]) ?_
        refine rp 35 (.agg #[v59, .int .i64 ((s2.l : Nat) : Int), .bool s2.c]) ?_
        refine rp 36 (.bool true) ?_
        refine Zav g2 (#[v59, .int .i64 ((s2.l : Nat) : Int), .bool s2.c]) (fun _ => by kernel_rfl) (fun _ => Zao 88 _ _ _ _ _ 88 rfl (by kernel_rfl) (by kernel_rfl) hr7 (by kernel_rfl) (by kernel_rfl) (one3 ht60.one rfl rfl)) ?_
        intro w61 hp62
        have hnt63 := Nt.rows hr7 (nob3 ht41 (fun _ e => by cases e) (fun _ e => by cases e)) hp62.touch
        replace hB := hB.tou hp62.touch hzg2 hnt63
        replace hP := hP.keep hnt63 (hp62.touch.block _ hP.lt (by omega)) (hp62.touch.block _ hP.km.lt (by omega)) (hP.um.keep (hp62.touch.block _ hP.um.lt (by omega)))
        replace hq := hq.nt hnt63
        replace hW := hW.keep hnt63 (fun k9 hk9 => hp62.touch.block k9 (hW.own k9 hk9).2 (by have := (hW.own k9 hk9).1; omega))
        replace hu1 := hu1.nt hnt63
        replace ht41 := ht41.nt hnt63
        replace ht60 := ht60.nt hnt63
        replace hr7 : Rw g2 w61 (#[v59, .int .i64 ((s2.l : Nat) : Int), .bool s2.c]) 88 := hp62.row hr7
        refine rp 8 (.bool true) ?_
        refine Zad ?_
        refine Zau ?_
        have hx3 : wayP kn t0 q = (walkP kn q f s2).map ((done ++ [⟨u2, s1.l, s1.c⟩]) ++ ·) := by
          rw [hx1]
          cases walkP kn q f s2 with
          | none => rfl
          | some r => simp
        exact Za7 (E := fun x => [(7, .pointer (some ⟨g2, 0, none⟩)), (8, .bool x.o.isSome), (6, x.vw), (0, .pointer (some ⟨g, 0, none⟩)), (1, .slice e m2 d2)]) (R := WkI w g gK gU g2 t0 kn UW e m2 d2 q) (μ := fun x => match x.o with | some s => q.length + 1 - s.l | none => 0) (x := ⟨done, some s1, vw, us1⟩) ⟨(done ++ [⟨u2, s1.l, s1.c⟩]), some s2, vw49, lkU kn s1 us1⟩ (by exact ⟨fun _ => by kernel_rfl, ⟨fun _ => by kernel_rfl, ⟨fun _ => by kernel_rfl, ⟨fun _ => by kernel_rfl, ⟨fun _ => by kernel_rfl, trivial⟩⟩⟩⟩⟩) ⟨hB, hP, hq, hW, by simp only [List.length_append, List.length_singleton]; omega, hr7.lt, ⟨_, hr7, ht60⟩, hw2, hl2, by simp only [List.length_append, List.length_singleton] at *; omega, f, by simp only at *; omega, hx3, hx2⟩ (by show q.length + 1 - s2.l < q.length + 1 - s1.l; simp only at *; omega)
end Go.Proofs.YtchgejomcgoaeaaGreat
