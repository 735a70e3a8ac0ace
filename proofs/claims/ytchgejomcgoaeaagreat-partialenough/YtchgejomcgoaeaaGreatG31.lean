/- A node as a thing. -/
import Derived.Test.YtchgejomcgoaeaaGreatG27
import Derived.Test.YtchgejomcgoaeaaGreatG30
import Derived.Test.YtchgejomcgoaeaaGreatG14
set_option linter.unusedVariables false
set_option maxRecDepth 100000
namespace Go.Proofs.YtchgejomcgoaeaaGreat
open Go.RowKit
open Pt
variable {K : Nat → Prop} {w : World} {x y : NV} {n : PN} {a : Option Addr} {c : Nat} {b : List Int} {r : PR}
abbrev Old (w : World) : Nat → Prop := fun b => b < w.heap.size
theorem NodeAt.old (h : NodeAt K w x n) : NodeAt (Old w) w x n := h.go (fun g _ hg => ⟨rfl, hg⟩)
theorem RefAt.old {x : RV} {n : PR} (h : RefAt K w x n) : RefAt (Old w) w x n := h.go (fun g _ hg => ⟨rfl, hg⟩)
theorem NodeAt.at {v : World} (h : NodeAt (Old w) w x n) (hb : Bl w v) : NodeAt (Old w) v x n := h.go (fun g hK hg => ⟨Below.block hb g hg, hK⟩)
theorem RefAt.at {v : World} {x : RV} {n : PR} (h : RefAt (Old w) w x n) (hb : Bl w v) : RefAt (Old w) v x n := h.go (fun g hK hg => ⟨Below.block hb g hg, hK⟩)
theorem AgK.sk {n : Nat} {bs : List Int} (h : AgK K w a n c bs) : Sk An w a n c bs := Ag.sk h.1
def NmS (f : Nat) : Prop := ∀ {K : Nat → Prop} {w : World} {y : RV} {r : PR}, RefAt K w y r → (r.k = 1 → r.i.length < f) → Calls Tryz.prog 56 #[.agg y.cells.toArray] w fun e w' => ∃ v, e = .returned v ∧ RTh w (nmN (f + 1) r) v w'
def ThS (f : Nat) : Prop := ∀ {K : Nat → Prop} {w : World} {y : NV} {n : PN}, NodeAt K w y n → n.ks.length ≤ 16 → n.v.length ≤ 256 → (∀ r, (r = n.c ∨ r ∈ n.ks) → r.k = 1 → r.i.length < f) → Calls Tryz.prog 29 #[.agg y.cells.toArray] w fun e w' => ∃ v, e = .returned v ∧ RTh w (thG (nmN (f + 1)) n) v w'
theorem nz_at (w : World) : NodeAt An w nz n0 := by
 have hz : AgK An w none 0 0 [] := ⟨⟨.inl ⟨rfl, rfl⟩, fun _ => ⟨rfl, rfl⟩, rfl, fun x hx => by cases hx⟩, by omega, fun g off e => by cases e⟩
 have hb : isB z32 := fun x hx => by rw [(List.mem_replicate.1 hx).2]; omega
 exact ⟨rfl, hz, hz, ⟨rfl, rfl, hb, rfl, hz⟩, ⟨rfl, Nat.le_refl _, Nat.zero_le _, by show 0 ≤ _; omega, fun _ => ⟨rfl, rfl⟩⟩, fun j r h => by simp [n0] at h⟩
theorem Zvs {n : Nat} (h : Ag w a n c b) (hn : n ≤ 140737488351232) : Calls Tryz.prog 28 #[.slice a n c] w fun e w' => ∃ v, e = .returned v ∧ (∃ (x : NV) (er : Int), v = .tuple #[.agg x.cells.toArray, .int .i64 er] ∧ NodeAt An w' x ((ND b).getD n0)) ∧ Bl w w' := by
 refine (Zdd b a n c w h hn).mono ?_
 rintro e w' ⟨hb, hm⟩
 cases hq : ND b with
 | none => rw [hq] at hm; exact ⟨_, hm, ⟨nz, 50, rfl, nz_at w'⟩, hb⟩
 | some m =>
  rw [hq] at hm
  obtain ⟨y, he, hy⟩ := hm
  exact ⟨_, he, ⟨y, 0, rfl, hy.go (fun g _ hg => ⟨rfl, trivial⟩)⟩, hb⟩
theorem Zyy (hb : isB b) : ((ND b).getD n0).ks.length ≤ 16 ∧ ((ND b).getD n0).v.length ≤ 256 ∧ ∀ r, (r = ((ND b).getD n0).c ∨ r ∈ ((ND b).getD n0).ks) → r.k = 1 → r.i.length < b.length := by
  cases hq : ND b with
  | none => exact ⟨by decide, by decide, fun r hr h1 => by
      rcases hr with rfl | hr
      · exact absurd h1 (by decide)
      · cases hr⟩
  | some n =>
    obtain ⟨t, hd, hn, hr⟩ := Zel hb hq
    refine ⟨?_, ?_, fun r hrr _ => ?_⟩
    · rcases Zcb hr with h | h | h
      · show n.ks.length ≤ 16; rw [h.2.2.2.2.2.2.2]; decide
      · show n.ks.length ≤ 16; rw [h.2.2.2.2.2.2.2]; decide
      · show n.ks.length ≤ 16; omega
    · rcases Zcb hr with h | h | h
      · exact h.2.2.2.2.1
      · show n.v.length ≤ 256; rw [h.2.2.2.2.1]; decide
      · exact h.2.2.1
    · exact (Zes hb hd hn r hrr).1
set_option maxHeartbeats 1000000 in
theorem Zvu {y : RV} {f : Nat} (h : RefAt K w y r) (hk : r.k = 1) (hf : r.i.length < f + 1) (ih : ThS f) : Calls Tryz.prog 56 #[.agg (RV.cells y).toArray] w fun e w' => ∃ v', e = .returned v' ∧ RTh w (nmN (f + 2) r) v' w' := by
 have h0 := h.old
 have hlen := h.len
 have hyk := h.1
 have hyd := h.2.1
 have hdb := h.2.2.1
 have hib := h.2.2.2.2.1.b
 have hin := h.2.2.2.2.2.1
 have hB : Bl w w := Bl.refl w
 refine Zaj Tryz.func56 rfl 22 rfl ?_
 show CW _ _ _ _ _ _ _ [(0, .agg (RV.cells y).toArray)] _
 have hND := Zyy hib
 refine Zac ?_
 refine Zaa ?_
 refine Zar 1 ((RV.cells y).toArray) 65 (fun _ => by kernel_rfl) (fun _ => by kernel_rfl) ?_
 intro w1 g2 hn3
 have hzg2 : w.heap.size ≤ g2 := by have := hB.size; have := hn3.hg; omega
 replace hB := hB.go hn3.below
 have hr4 : Rw g2 w1 ((RV.cells y).toArray) 65 := hn3.row
 refine rp 2 (.nilIface) ?_
 refine Zad ?_
 refine Zab ?_
 refine Zac ?_
 refine Zac ?_
 refine Zaa ?_
 refine rp 5 (.pointer (some ⟨g2, 0, none⟩)) ?_
 refine rv 6 (.int .i64 y.k) (fun _ => Zag 3 _ ⟨g2, 0, none⟩ _ _ rfl (by kernel_rfl) (RBx.mk hr4 hlen).c0 Tryz.underlying3 rfl) ?_
 refine Zad ?_
 refine Zab ?_
 refine Zan ?_
 refine Zac ?_
 refine Zaa ?_
 refine rv 8 (.bool true) (fun _ => Zal (v := .bool ((y.k : Int) == (1 : Int))) (by kernel_rfl) (congrArg Value.bool (beq_iff_eq.2 (by omega)))) ?_
 refine rp 7 (.bool true) ?_
 refine Zad ?_
 refine Zab ?_
 refine Zai (fun _ => by kernel_rfl) ?_
 refine Zac ?_
 refine Zaa ?_
 refine rp 10 (.pointer (some ⟨g2, 33, none⟩)) ?_
 refine rv 11 (.slice y.a y.n y.c) (fun _ => Zag 29 _ ⟨g2, 33, none⟩ _ _ rfl (by kernel_rfl) (RBx.mk hr4 hlen).c33 Tryz.underlying29 rfl) ?_
 refine Zak 12 28 #[.slice y.a y.n y.c] (fun _ => by kernel_rfl) (fun _ => by kernel_rfl) (R := fun u w' => (∃ (x : NV) (er : Int), u = .tuple #[.agg x.cells.toArray, .int .i64 er] ∧ NodeAt An w' x ((ND r.i).getD n0)) ∧ Bl w1 w') (Zvs ((h0.at hB).2.2.2.2.1) (by omega)) ?_
 rintro _ w5 ⟨⟨x7, er9, rfl, hx8⟩, hb6⟩
 replace hB := hB.go hb6
 replace hr4 := hr4.go hb6
 refine rp 9 (.tuple #[.agg (NV.cells x7).toArray, .int .i64 er9]) ?_
 refine rp 13 (.agg (NV.cells x7).toArray) ?_
 refine rp 14 (.int .i64 er9) ?_
 refine Zar 3 ((NV.cells nz).toArray) 68 (fun _ => by kernel_rfl) (fun _ => by kernel_rfl) ?_
 intro w10 g11 hn12
 have hr13 : Rw g11 w10 ((NV.cells nz).toArray) 68 := hn12.row
 refine Zav g11 ((NV.cells x7).toArray) (fun _ => by kernel_rfl) (fun _ => Zao 68 _ _ _ _ _ 68 rfl (by kernel_rfl) (by kernel_rfl) hr13 (Zbj hx8.c.len) (Zbe hx8.c.len) (all_oneCell_toArray (NV.one _))) ?_
 intro w14 hp15
 replace hn12 := hn12.put hp15
 clear hr13
 have hlg2g11 : g2 < g11 := by have := hr4.lt; have := hn12.hg; omega
 have hzg11 : w.heap.size ≤ g11 := by have := hB.size; have := hn12.hg; omega
 replace hB := hB.go hn12.below
 replace hr4 := hr4.go hn12.below
 replace hx8 := hx8.go (Keep.below hn12.below)
 have hr17 : Rw g11 w14 ((NV.cells x7).toArray) 68 := hn12.row
 refine rp 4 (.int .i64 er9) ?_
 refine Zad ?_
 refine Zab ?_
 refine Zac ?_
 refine Zaa ?_
 refine rv 15 (.agg ((NV.cells x7).toArray)) (fun _ => Za2 68 _ _ _ _ _ _ rfl (by kernel_rfl) hr17 Tryz.underlying68 rfl (Zbj hx8.c.len)) ?_
 refine Zak 16 29 #[.agg ((NV.cells x7).toArray)] (fun _ => by kernel_rfl) (fun _ => by kernel_rfl) (R := RTh w14 (thG (nmN (f + 1)) ((ND r.i).getD n0))) (ih hx8 (hND.1) (hND.2.1) (fun r2 hr2 hk2 => by have := hND.2.2 r2 hr2 hk2; omega)) ?_
 rintro u18 w19 ⟨ht20, hb21⟩
 replace hB := hB.go hb21
 replace hr4 := hr4.go hb21
 replace hx8 := hx8.go (Keep.below hb21)
 replace hr17 := hr17.go hb21
 refine rp 2 (u18) ?_
 refine Zad ?_
 refine Zab ?_
 refine Zap ?_
 refine Zaq ?_
 refine Zah ?_
 refine Zae (u18) (fun _ => by kernel_rfl) ?_
 refine ⟨_, rfl, ?_, hB⟩
 unfold nmN
 rw [if_pos hk]
 exact ht20
set_option maxHeartbeats 1000000 in
theorem Zp0 {y : RV} (h : RefAt K w y r) (hk : r.k = 2) : Calls Tryz.prog 56 #[.agg (RV.cells y).toArray] w fun e w' => ∃ v', e = .returned v' ∧ RTh w (st r.d) v' w' := by
 have h0 := h.old
 have hlen := h.len
 have hyk := h.1
 have hyd := h.2.1
 have hdb := h.2.2.1
 have hib := h.2.2.2.2.1.b
 have hin := h.2.2.2.2.2.1
 have hB : Bl w w := Bl.refl w
 refine Zaj Tryz.func56 rfl 22 rfl ?_
 show CW _ _ _ _ _ _ _ [(0, .agg (RV.cells y).toArray)] _
 refine Zac ?_
 refine Zaa ?_
 refine Zar 1 ((RV.cells y).toArray) 65 (fun _ => by kernel_rfl) (fun _ => by kernel_rfl) ?_
 intro w1 g2 hn3
 have hzg2 : w.heap.size ≤ g2 := by have := hB.size; have := hn3.hg; omega
 replace hB := hB.go hn3.below
 have hr4 : Rw g2 w1 ((RV.cells y).toArray) 65 := hn3.row
 refine rp 2 (.nilIface) ?_
 refine Zad ?_
 refine Zab ?_
 refine Zac ?_
 refine Zac ?_
 refine Zaa ?_
 refine rp 5 (.pointer (some ⟨g2, 0, none⟩)) ?_
 refine rv 6 (.int .i64 y.k) (fun _ => Zag 3 _ ⟨g2, 0, none⟩ _ _ rfl (by kernel_rfl) (RBx.mk hr4 hlen).c0 Tryz.underlying3 rfl) ?_
 refine Zad ?_
 refine Zab ?_
 refine Zan ?_
 refine Zac ?_
 refine Zaa ?_
 refine rv 8 (.bool false) (fun _ => Zal (v := .bool ((y.k : Int) == (1 : Int))) (by kernel_rfl) (congrArg Value.bool (beq_eq_false_iff_ne.2 (by omega)))) ?_
 refine rp 7 (.bool false) ?_
 refine Zad ?_
 refine Zab ?_
 refine Zaf (fun _ => by kernel_rfl) ?_
 refine Zac ?_
 refine Zaa ?_
 refine rv 18 (.bool true) (fun _ => Zal (v := .bool ((y.k : Int) == (2 : Int))) (by kernel_rfl) (congrArg Value.bool (beq_iff_eq.2 (by omega)))) ?_
 refine rp 17 (.bool true) ?_
 refine Zad ?_
 refine Zab ?_
 refine Zai (fun _ => by kernel_rfl) ?_
 refine Zac ?_
 refine Zaa ?_
 refine rp 19 (.pointer (some ⟨g2, 1, none⟩)) ?_
 refine rv 20 (.agg (B8 y.d)) (fun _ => Zb2 23 _ g2 1 (y.d.map (Value.int .u8)) _ rfl (by kernel_rfl) (RBx.mk hr4 hlen).digest Tryz.underlying23 rfl (by rw [Zv7, List.length_map, hlen])) ?_
 refine rp 21 (.iface 50 (.agg (B8 y.d))) ?_
 refine rp 2 (.iface 50 (.agg (B8 y.d))) ?_
 refine Zad ?_
 refine Zab ?_
 refine Zap ?_
 refine Zaq ?_
 refine Zah ?_
 refine Zae (.iface 50 (.agg (B8 y.d))) (fun _ => by kernel_rfl) ?_
 rw [hyd]
 exact ⟨_, rfl, ⟨rfl, by rw [← hyd]; exact hlen, hdb⟩, hB⟩
set_option maxHeartbeats 1000000 in
theorem Zp1 {y : RV} (h : RefAt K w y r) (hk1 : r.k ≠ 1) (hk2 : r.k ≠ 2) : Calls Tryz.prog 56 #[.agg (RV.cells y).toArray] w fun e w' => ∃ v', e = .returned v' ∧ RTh w (no) v' w' := by
 have h0 := h.old
 have hlen := h.len
 have hyk := h.1
 have hyd := h.2.1
 have hdb := h.2.2.1
 have hib := h.2.2.2.2.1.b
 have hin := h.2.2.2.2.2.1
 have hB : Bl w w := Bl.refl w
 refine Zaj Tryz.func56 rfl 22 rfl ?_
 show CW _ _ _ _ _ _ _ [(0, .agg (RV.cells y).toArray)] _
 refine Zac ?_
 refine Zaa ?_
 refine Zar 1 ((RV.cells y).toArray) 65 (fun _ => by kernel_rfl) (fun _ => by kernel_rfl) ?_
 intro w1 g2 hn3
 have hzg2 : w.heap.size ≤ g2 := by have := hB.size; have := hn3.hg; omega
 replace hB := hB.go hn3.below
 have hr4 : Rw g2 w1 ((RV.cells y).toArray) 65 := hn3.row
 refine rp 2 (.nilIface) ?_
 refine Zad ?_
 refine Zab ?_
 refine Zac ?_
 refine Zac ?_
 refine Zaa ?_
 refine rp 5 (.pointer (some ⟨g2, 0, none⟩)) ?_
 refine rv 6 (.int .i64 y.k) (fun _ => Zag 3 _ ⟨g2, 0, none⟩ _ _ rfl (by kernel_rfl) (RBx.mk hr4 hlen).c0 Tryz.underlying3 rfl) ?_
 refine Zad ?_
 refine Zab ?_
 refine Zan ?_
 refine Zac ?_
 refine Zaa ?_
 refine rv 8 (.bool false) (fun _ => Zal (v := .bool ((y.k : Int) == (1 : Int))) (by kernel_rfl) (congrArg Value.bool (beq_eq_false_iff_ne.2 (by omega)))) ?_
 refine rp 7 (.bool false) ?_
 refine Zad ?_
 refine Zab ?_
 refine Zaf (fun _ => by kernel_rfl) ?_
 refine Zac ?_
 refine Zaa ?_
 refine rv 18 (.bool false) (fun _ => Zal (v := .bool ((y.k : Int) == (2 : Int))) (by kernel_rfl) (congrArg Value.bool (beq_eq_false_iff_ne.2 (by omega)))) ?_
 refine rp 17 (.bool false) ?_
 refine Zad ?_
 refine Zab ?_
 refine Zaf (fun _ => by kernel_rfl) ?_
 refine Zam ?_
 refine Zau ?_
 refine Zab ?_
 refine Zac ?_
 refine Zaa ?_
 refine rp 2 (.nilIface) ?_
 refine Zad ?_
 refine Zab ?_
 refine Zap ?_
 refine Zae (.nilIface) (fun _ => by kernel_rfl) ?_
 exact ⟨_, rfl, rfl, hB⟩
set_option maxHeartbeats 1000000 in
theorem Zuz (h : NodeAt K w y n) (hk : n.k = 1) (hv : n.v.length ≤ 256) : Calls Tryz.prog 29 #[.agg (NV.cells y).toArray] w fun e w' => ∃ v', e = .returned v' ∧ RTh w (leaf n.p n.v) v' w' := by
 have h0 := h.old
 have hlen := h.c.len
 have hyk := h.k
 have hB : Bl w w := Bl.refl w
 refine Zaj Tryz.func29 rfl 44 rfl ?_
 show CW _ _ _ _ _ _ _ [(0, .agg (NV.cells y).toArray)] _
 refine Zac ?_
 refine Zaa ?_
 refine Zar 1 ((NV.cells y).toArray) 68 (fun _ => by kernel_rfl) (fun _ => by kernel_rfl) ?_
 intro w1 g2 hn3
 have hzg2 : w.heap.size ≤ g2 := by have := hB.size; have := hn3.hg; omega
 replace hB := hB.go hn3.below
 have hr4 : Rw g2 w1 ((NV.cells y).toArray) 68 := hn3.row
 refine rp 2 (.nilIface) ?_
 refine Zad ?_
 refine Zab ?_
 refine Zac ?_
 refine Zac ?_
 refine Zaa ?_
 refine rp 6 (.pointer (some ⟨g2, 0, none⟩)) ?_
 refine rv 7 (.int .i64 y.k) (fun _ => Zag 3 _ ⟨g2, 0, none⟩ _ _ rfl (by kernel_rfl) (NBx.mk hr4 hlen).c0 Tryz.underlying3 rfl) ?_
 refine Zad ?_
 refine Zab ?_
 refine Zan ?_
 refine Zac ?_
 refine Zaa ?_
 refine rv 9 (.bool true) (fun _ => Zal (v := .bool ((y.k : Int) == (1 : Int))) (by kernel_rfl) (congrArg Value.bool (beq_iff_eq.2 (by omega)))) ?_
 refine rp 8 (.bool true) ?_
 refine Zad ?_
 refine Zab ?_
 refine Zai (fun _ => by kernel_rfl) ?_
 refine Zac ?_
 refine Zaa ?_
 refine rp 10 (.pointer (some ⟨g2, 1, none⟩)) ?_
 refine rv 11 (.slice y.pa y.pn y.pc) (fun _ => Zag 29 _ ⟨g2, 1, none⟩ _ _ rfl (by kernel_rfl) (NBx.mk hr4 hlen).c1 Tryz.underlying29 rfl) ?_
 refine rp 12 (.pointer (some ⟨g2, 2, none⟩)) ?_
 refine rv 13 (.slice y.va y.vn y.vc) (fun _ => Zag 29 _ ⟨g2, 2, none⟩ _ _ rfl (by kernel_rfl) (NBx.mk hr4 hlen).c2 Tryz.underlying29 rfl) ?_
 refine rp 14 (.agg #[.slice y.pa y.pn y.pc, .slice y.va y.vn y.vc]) ?_
 refine rp 15 (.iface 110 (.agg #[.slice y.pa y.pn y.pc, .slice y.va y.vn y.vc])) ?_
 refine rp 2 (.iface 110 (.agg #[.slice y.pa y.pn y.pc, .slice y.va y.vn y.vc])) ?_
 refine Zad ?_
 refine Zab ?_
 refine Zap ?_
 refine Zaq ?_
 refine Zah ?_
 refine Zae (.iface 110 (.agg #[.slice y.pa y.pn y.pc, .slice y.va y.vn y.vc])) (fun _ => by kernel_rfl) ?_
 have hN := h0.at hB
 exact ⟨_, rfl, ⟨_, _, _, _, _, _, rfl, hN.p.sk, hN.v.sk, by have := hN.v.1.l; omega, hN.p.2.1⟩, hB⟩
set_option maxHeartbeats 1000000 in
theorem Zuy {f : Nat} (h : NodeAt K w y n) (hk : n.k = 2) (hf : n.c.k = 1 → n.c.i.length < f) (ih : NmS f) : Calls Tryz.prog 29 #[.agg (NV.cells y).toArray] w fun e w' => ∃ v', e = .returned v' ∧ RTh w (ext n.p (nmN (f + 1) n.c)) v' w' := by
 have h0 := h.old
 have hlen := h.c.len
 have hyk := h.k
 have hB : Bl w w := Bl.refl w
 refine Zaj Tryz.func29 rfl 44 rfl ?_
 show CW _ _ _ _ _ _ _ [(0, .agg (NV.cells y).toArray)] _
 refine Zac ?_
 refine Zaa ?_
 refine Zar 1 ((NV.cells y).toArray) 68 (fun _ => by kernel_rfl) (fun _ => by kernel_rfl) ?_
 intro w1 g2 hn3
 have hzg2 : w.heap.size ≤ g2 := by have := hB.size; have := hn3.hg; omega
 replace hB := hB.go hn3.below
 have hr4 : Rw g2 w1 ((NV.cells y).toArray) 68 := hn3.row
 refine rp 2 (.nilIface) ?_
 refine Zad ?_
 refine Zab ?_
 refine Zac ?_
 refine Zac ?_
 refine Zaa ?_
 refine rp 6 (.pointer (some ⟨g2, 0, none⟩)) ?_
 refine rv 7 (.int .i64 y.k) (fun _ => Zag 3 _ ⟨g2, 0, none⟩ _ _ rfl (by kernel_rfl) (NBx.mk hr4 hlen).c0 Tryz.underlying3 rfl) ?_
 refine Zad ?_
 refine Zab ?_
 refine Zan ?_
 refine Zac ?_
 refine Zaa ?_
 refine rv 9 (.bool false) (fun _ => Zal (v := .bool ((y.k : Int) == (1 : Int))) (by kernel_rfl) (congrArg Value.bool (beq_eq_false_iff_ne.2 (by omega)))) ?_
 refine rp 8 (.bool false) ?_
 refine Zad ?_
 refine Zab ?_
 refine Zaf (fun _ => by kernel_rfl) ?_
 refine Zac ?_
 refine Zaa ?_
 refine rv 17 (.bool true) (fun _ => Zal (v := .bool ((y.k : Int) == (2 : Int))) (by kernel_rfl) (congrArg Value.bool (beq_iff_eq.2 (by omega)))) ?_
 refine rp 16 (.bool true) ?_
 refine Zad ?_
 refine Zab ?_
 refine Zai (fun _ => by kernel_rfl) ?_
 refine Zac ?_
 refine Zbd (fun v => Rw g2 v ((NV.cells y).toArray) 68) (by kernel_rfl) (hr4) ?_
 replace hB := hB.go (Below.refl _ _).drew
 replace hr4 := hr4.go (Below.refl _ _).drew
 refine dt 0 18 (.pointer (some ⟨g2, 1, none⟩)) (fun v hv _ => by kernel_rfl) hr4 ?_
 refine dt 1 19 (.slice y.pa y.pn y.pc) (fun v hv _ => Zag 29 _ ⟨g2, 1, none⟩ _ _ rfl (by kernel_rfl) (NBx.mk hv hlen).c1 Tryz.underlying29 rfl) hr4 ?_
 refine dt 2 20 (.pointer (some ⟨g2, 3, none⟩)) (fun v hv _ => by kernel_rfl) hr4 ?_
 refine dt 3 21 (.agg (RV.cells y.c).toArray) (fun v hv _ => Zb2 65 _ g2 3 (RV.cells y.c) _ rfl (by kernel_rfl) (NBx.mk hv hlen).child Tryz.underlying65 rfl (by rw [Zhi, RV.len hlen])) hr4 ?_
 refine Zas [4] (by kernel_rfl) (by simp) ?_
 refine Za5 4 22 56 #[.agg (RV.cells y.c).toArray] rfl (fun _ => by kernel_rfl) (fun _ => by kernel_rfl) (R := RTh w1.drew (nmN (f + 1) n.c)) (ih (h0.at hB).c hf) (fun u w' h9 => hr4.go h9.2) ?_ Zaz
 rintro u5 w6 ⟨ht7, hb8⟩
 replace hB := hB.go hb8
 replace hr4 := hr4.go hb8
 refine dt 5 23 (.agg #[.slice y.pa y.pn y.pc, u5]) (fun v hv => (fun _ => Zbz 113 _ rfl [(0, .slice y.pa y.pn y.pc), (1, u5)] (by kernel_rfl) _ (Zlb ht7 _ _ _))) hr4 ?_
 refine dt 6 24 (.iface 113 (.agg #[.slice y.pa y.pn y.pc, u5])) (fun v hv _ => by kernel_rfl) hr4 ?_
 refine dt 7 2 (.iface 113 (.agg #[.slice y.pa y.pn y.pc, u5])) (fun v hv _ => by kernel_rfl) hr4 ?_
 refine Za6 (by kernel_rfl) ?_
 refine Zab ?_
 refine Zap ?_
 refine Zaq ?_
 refine Zah ?_
 refine Zae (.iface 113 (.agg #[.slice y.pa y.pn y.pc, u5])) (fun _ => by kernel_rfl) ?_
 have hN := h0.at hB
 exact ⟨_, rfl, ⟨_, _, _, _, rfl, hN.p.sk, hN.p.2.1, ht7⟩, hB⟩
set_option maxHeartbeats 1000000 in
theorem Zux {f : Nat} (h : NodeAt K w y n) (hk1 : n.k ≠ 1) (hk2 : n.k ≠ 2) (hks : n.ks.length ≤ 16) (hv : n.v.length ≤ 256) (hf : ∀ r, r ∈ n.ks → r.k = 1 → r.i.length < f) (ih : NmS f) : Calls Tryz.prog 29 #[.agg (NV.cells y).toArray] w fun e w' => ∃ v', e = .returned v' ∧ RTh w (br (fun i => nmN (f + 1) (n.ks.getD i r0)) n.v) v' w' := by
  have h0 := h.old
  have hlen := h.c.len
  have hyk := h.k
  have hyn := h.m.1
  have hB : Bl w w := Bl.refl w
  refine Zaj Tryz.func29 rfl 44 rfl ?_
  show CW _ _ _ _ _ _ _ [(0, .agg (NV.cells y).toArray)] _
  refine Zac ?_
  refine Zaa ?_
  refine Zar 1 ((NV.cells y).toArray) 68 (fun _ => by kernel_rfl) (fun _ => by kernel_rfl) ?_
  intro w1 g2 hn3
  have hzg2 : w.heap.size ≤ g2 := by have := hB.size; have := hn3.hg; omega
  replace hB := hB.go hn3.below
  have hr4 : Rw g2 w1 ((NV.cells y).toArray) 68 := hn3.row
  refine rp 2 (.nilIface) ?_
  refine Zad ?_
  refine Zab ?_
  refine Zac ?_
  refine Zac ?_
  refine Zaa ?_
  refine rp 6 (.pointer (some ⟨g2, 0, none⟩)) ?_
  refine rv 7 (.int .i64 y.k) (fun _ => Zag 3 _ ⟨g2, 0, none⟩ _ _ rfl (by kernel_rfl) (NBx.mk hr4 hlen).c0 Tryz.underlying3 rfl) ?_
  refine Zad ?_
  refine Zab ?_
  refine Zan ?_
  refine Zac ?_
  refine Zaa ?_
  refine rv 9 (.bool false) (fun _ => Zal (v := .bool ((y.k : Int) == (1 : Int))) (by kernel_rfl) (congrArg Value.bool (beq_eq_false_iff_ne.2 (by omega)))) ?_
  refine rp 8 (.bool false) ?_
  refine Zad ?_
  refine Zab ?_
  refine Zaf (fun _ => by kernel_rfl) ?_
  refine Zac ?_
  refine Zaa ?_
  refine rv 17 (.bool false) (fun _ => Zal (v := .bool ((y.k : Int) == (2 : Int))) (by kernel_rfl) (congrArg Value.bool (beq_eq_false_iff_ne.2 (by omega)))) ?_
  refine rp 16 (.bool false) ?_
  refine Zad ?_
  refine Zab ?_
  refine Zaf (fun _ => by kernel_rfl) ?_
  refine Zam ?_
  refine Zau ?_
  refine Zab ?_
  refine Zac ?_
  refine Zaa ?_
  refine rp 25 (.pointer (some ⟨g2, 2, none⟩)) ?_
  refine rv 26 (.slice y.va y.vn y.vc) (fun _ => Zag 29 _ ⟨g2, 2, none⟩ _ _ rfl (by kernel_rfl) (NBx.mk hr4 hlen).c2 Tryz.underlying29 rfl) ?_
  refine rp 27 (.agg (brc (fun _ => .nilIface) (.slice y.va y.vn y.vc))) ?_
  refine Zar 3 (brc (fun _ => .nilIface) (.slice none 0 0)) 116 (fun _ => by kernel_rfl) (fun _ => by kernel_rfl) ?_
  intro w5 g6 hn7
  have hr8 : Rw g6 w5 (brc (fun _ => .nilIface) (.slice none 0 0)) 116 := hn7.row
  refine Zav g6 (brc (fun _ => .nilIface) (.slice y.va y.vn y.vc)) (fun _ => by kernel_rfl) (fun _ => Zao 116 _ _ _ _ _ 116 rfl (by kernel_rfl) (by kernel_rfl) hr8 (by kernel_rfl) (by kernel_rfl) (Zbl (KA.none w))) ?_
  intro w9 hp10
  replace hn7 := hn7.put hp10
  clear hr8
  have hlg2g6 : g2 < g6 := by have := hr4.lt; have := hn7.hg; omega
  have hzg6 : w.heap.size ≤ g6 := by have := hB.size; have := hn7.hg; omega
  replace hB := hB.go hn7.below
  replace hr4 := hr4.go hn7.below
  have hr12 : Rw g6 w9 (brc (fun _ => .nilIface) (.slice y.va y.vn y.vc)) 116 := hn7.row
  refine Zad ?_
  refine Zab ?_
  refine Zac ?_
  refine Zac ?_
  refine Zaa ?_
  refine rp 28 (.pointer (some ⟨g2, 37, none⟩)) ?_
  refine rv 29 (.slice y.ka y.kn y.kc) (fun _ => Zag 66 _ ⟨g2, 37, none⟩ _ _ rfl (by kernel_rfl) (NBx.mk hr4 hlen).c37 Tryz.underlying66 rfl) ?_
  refine rp 30 (.int .i64 y.kn) ?_
  refine rp 31 (.int .i64 0) ?_
  refine Zad ?_
  refine Zab ?_
  refine Zan ?_
  refine Zb8 (X := Nat × (Nat → Value)) (fun x => [(31, .int .i64 ((x.1 : Nat) : Int)), (30, .int .i64 y.kn), (29, .slice y.ka y.kn y.kc), (3, .pointer (some ⟨g6, 0, none⟩)), (2, .nilIface)]) (fun x v => Bl w v ∧ Rw g6 v (brc x.2 (.slice y.va y.vn y.vc)) 116 ∧ KA v (fun i => if i < x.1 then nmN (f + 1) (n.ks.getD i r0) else no) x.2 ∧ x.1 ≤ n.ks.length) (fun x => n.ks.length - x.1) (0, fun _ => .nilIface) (by exact ⟨fun _ => by kernel_rfl, ⟨fun _ => by kernel_rfl, ⟨fun _ => by kernel_rfl, ⟨fun _ => by kernel_rfl, ⟨fun _ => by kernel_rfl, trivial⟩⟩⟩⟩⟩) ⟨hB, hr12, fun i hi => rfl, Nat.zero_le _⟩ ?_
  clear hB hr12
  rintro ⟨j, vs⟩ v ⟨hB, hr3, hk, hj⟩
  simp only at *
  show CW _ _ _ _ _ _ _ [(31, .int .i64 ((j : Nat) : Int)), (30, .int .i64 y.kn), (29, .slice y.ka y.kn y.kc), (3, .pointer (some ⟨g6, 0, none⟩)), (2, .nilIface)] _
  by_cases hlt : j < n.ks.length
  · skip
    have hN := h0.at hB
    obtain ⟨r, hr⟩ : ∃ r, n.ks[j]? = some r := ⟨n.ks[j], List.getElem?_eq_getElem hlt⟩
    obtain ⟨gk, ok, z, hka, _, hrz, hz⟩ := hN.ks j r hr
    have hzl := hz.len
    have hzo := hz.go (L := Old v) (fun g _ hg => ⟨rfl, hg⟩)
    rw [hka]
    show CW _ _ _ _ _ _ _ [(31, .int .i64 ((j : Nat) : Int)), (30, .int .i64 y.kn), (29, .slice (some ⟨gk, ok, none⟩) y.kn y.kc), (3, .pointer (some ⟨g6, 0, none⟩)), (2, .nilIface)] _
    refine Zac ?_
    refine Zaa ?_
    refine rv 32 (.bool true) (fun _ => Zal (v := .bool (decide (((j : Nat) : Int) < (y.kn : Int)))) (by kernel_rfl) (congrArg Value.bool (decide_eq_true (by omega)))) ?_
    refine Zad ?_
    refine Zab ?_
    refine Zac ?_
    refine Zai (fun _ => by kernel_rfl) ?_
    refine Zam ?_
    refine Zab ?_
    refine Zac ?_
    refine Zan ?_
    refine Zac ?_
    refine Zaa ?_
    refine rp 33 (.int .i64 ((j : Nat) : Int)) ?_
    refine rv 34 (.pointer (some ⟨gk, ok + j * 34, none⟩)) (fun _ => Za0 66 _ _ gk ok j y.kn y.kc 34 65 rfl (by kernel_rfl) (by kernel_rfl) (by omega) Tryz.underlying66 (by kernel_rfl)) ?_
    refine rv 35 (.agg (RV.cells z).toArray) (fun _ => Zb2 65 _ gk (ok + j * 34) (RV.cells z) _ rfl (by kernel_rfl) hrz Tryz.underlying65 rfl (by rw [Zhi, RV.len hzl])) ?_
    refine Zar 5 ((RV.cells rz).toArray) 65 (fun _ => by kernel_rfl) (fun _ => by kernel_rfl) ?_
    intro w13 g14 hn15
    have hr16 : Rw g14 w13 ((RV.cells rz).toArray) 65 := hn15.row
    refine rp 4 (.int .i64 ((j : Nat) : Int)) ?_
    refine Zav g14 ((RV.cells z).toArray) (fun _ => by kernel_rfl) (fun _ => Zao 65 _ _ _ _ _ 65 rfl (by kernel_rfl) (by kernel_rfl) hr16 (Zbw hzl) (Zbq hzl) (all_oneCell_toArray (RV.one _))) ?_
    intro w17 hp18
    replace hn15 := hn15.put hp18
    clear hr16
    have hlg6g14 : g6 < g14 := by have := hr3.lt; have := hn15.hg; omega
    have hzg14 : w.heap.size ≤ g14 := by have := hB.size; have := hn15.hg; omega
    replace hB := hB.go hn15.below
    replace hr3 := hr3.go hn15.below
    replace hk := hk.go hn15.below
    replace hzo := hzo.go (Keep.below hn15.below)
    have hr20 : Rw g14 w17 ((RV.cells z).toArray) 65 := hn15.row
    refine Zad ?_
    refine Zab ?_
    refine Zaa ?_
    refine rp 36 (.int .i64 ((j : Nat) : Int)) ?_
    refine rv 37 (.agg ((RV.cells z).toArray)) (fun _ => Za2 65 _ _ _ _ _ _ rfl (by kernel_rfl) hr20 Tryz.underlying65 rfl (Zbw hzl)) ?_
    refine Zak 38 56 #[.agg ((RV.cells z).toArray)] (fun _ => by kernel_rfl) (fun _ => by kernel_rfl) (R := RTh w17 (nmN (f + 1) r)) (ih hzo (hf r (List.mem_of_getElem? hr))) ?_
    rintro u21 w22 ⟨ht23, hb24⟩
    replace hB := hB.go hb24
    replace hr3 := hr3.go hb24
    replace hk := hk.go hb24
    replace hzo := hzo.go (Keep.below hb24)
    replace hr20 := hr20.go hb24
    refine rp 39 (.pointer (some ⟨g6, 0, none⟩)) ?_
    refine rv 40 (.pointer (some ⟨g6, 0 + j * 1, none⟩)) (fun _ => Zb5 (kd := .i64) 114 _ _ g6 0 j 16 1 47 rfl (by kernel_rfl) (by kernel_rfl) (by omega) (by omega) Tryz.underlying114 (by kernel_rfl)) ?_
    refine Zb0 g6 (0 + j * 1) (u21) (fun _ => by kernel_rfl) (fun _ => Zbr 47 _ _ g6 _ _ 116 _ hr3 rfl (by kernel_rfl) (by kernel_rfl) (by show 0 + j * 1 < 17; omega) ht23.cells ht23.one (by kernel_rfl)) ?_
    intro w25 hs26
    have hnt27 := Nt.rows hr3 (Zdi hk) hs26.touch
    replace hB := hB.tou hs26.touch hzg6
    replace hk := hk.nt hnt27
    replace hr20 := hr20.past hs26.touch (by omega)
    replace ht23 := ht23.nt hnt27
    replace hr3 := hr3.set (cells' := (brc (updv vs j u21) (.slice y.va y.vn y.vc))) hs26 (by rw [Nat.zero_add, Nat.mul_one]; exact Zg8 _ _ _ _ (by omega))
    refine Zad ?_
    refine Zau ?_
    refine Zab ?_
    refine Zaa ?_
    refine rv 41 (.int .i64 ((j + 1 : Nat) : Int)) (fun _ => Zal (v := .int .i64 (IntKind.i64.wrap (((j : Nat) : Int) + (1 : Int)))) (by kernel_rfl) (congrArg (Value.int .i64) ((Zbc (by omega) (by omega)).trans (by omega)))) ?_
    refine rp 31 (.int .i64 ((j + 1 : Nat) : Int)) ?_
    refine Zad ?_
    have hk9 : KA w25 (fun i => if i < (j + 1) then nmN (f + 1) (n.ks.getD i r0) else no) (updv vs j u21) := fun i hi => by
      have := (hk.put (i := j) ht23) i hi
      unfold Pt.upd at this
      dsimp only at this ⊢
      by_cases e : i = j
      · rw [if_pos e] at this; rw [if_pos (by omega), e, show n.ks.getD j r0 = r from by rw [List.getD, hr]; rfl]; rw [e] at this; exact this
      · rw [if_neg e] at this
        by_cases h2 : i < j
        · rw [if_pos h2] at this; rw [if_pos (by omega)]; exact this
        · rw [if_neg h2] at this; rw [if_neg (by omega)]; exact this
    exact Za7 (E := fun x => [(31, .int .i64 ((x.1 : Nat) : Int)), (30, .int .i64 y.kn), (29, .slice (some ⟨gk, ok, none⟩) y.kn y.kc), (3, .pointer (some ⟨g6, 0, none⟩)), (2, .nilIface)]) (R := fun x v => Bl w v ∧ Rw g6 v (brc x.2 (.slice y.va y.vn y.vc)) 116 ∧ KA v (fun i => if i < x.1 then nmN (f + 1) (n.ks.getD i r0) else no) x.2 ∧ x.1 ≤ n.ks.length) (μ := fun x => n.ks.length - x.1) (x := (j, vs)) (j + 1, (updv vs j u21)) (by exact ⟨fun _ => by kernel_rfl, ⟨fun _ => by kernel_rfl, ⟨fun _ => by kernel_rfl, ⟨fun _ => by kernel_rfl, ⟨fun _ => by kernel_rfl, trivial⟩⟩⟩⟩⟩) ⟨hB, hr3, hk9, by simp only; omega⟩ (by simp only; omega)
  obtain rfl : j = n.ks.length := by omega
  refine Zac ?_
  refine Zaa ?_
  refine rv 32 (.bool false) (fun _ => Zal (v := .bool (decide (((n.ks.length : Nat) : Int) < (y.kn : Int)))) (by kernel_rfl) (congrArg Value.bool (decide_eq_false (by omega)))) ?_
  refine Zad ?_
  refine Zab ?_
  refine Zac ?_
  refine Zaf (fun _ => by kernel_rfl) ?_
  refine Zb1 ?_
  refine Zat ?_
  refine Zat ?_
  refine Za1 ?_
  refine Zab ?_
  refine Zac ?_
  refine Zaa ?_
  refine rv 42 (.agg (brc vs (.slice y.va y.vn y.vc))) (fun _ => Za2 116 _ _ _ _ _ _ rfl (by kernel_rfl) hr3 Tryz.underlying116 rfl (by kernel_rfl)) ?_
  refine rp 43 (.iface 116 (.agg (brc vs (.slice y.va y.vn y.vc)))) ?_
  refine rp 2 (.iface 116 (.agg (brc vs (.slice y.va y.vn y.vc)))) ?_
  refine Zad ?_
  refine Zab ?_
  refine Zap ?_
  refine Zae (.iface 116 (.agg (brc vs (.slice y.va y.vn y.vc)))) (fun _ => by kernel_rfl) ?_
  have hN := h0.at hB
  refine ⟨_, rfl, ⟨vs, _, _, _, rfl, fun i hi => ?_, hN.v.sk, by have := hN.v.1.l; omega⟩, hB⟩
  have := hk i hi
  dsimp only at this ⊢
  by_cases h2 : i < n.ks.length
  · rw [if_pos h2] at this; exact this
  · rw [if_neg h2] at this; rw [show n.ks.getD i r0 = r0 from by rw [List.getD, List.getElem?_eq_none (by omega)]; rfl]; exact this
theorem Ztu {f : Nat} (ih : NmS f) : ThS f := fun {K w y n} h hks hv hf => by
  by_cases hk1 : n.k = 1
  · rw [show thG (nmN (f + 1)) n = leaf n.p n.v from by unfold thG; rw [if_pos hk1]]
    exact Zuz h hk1 hv
  by_cases hk2 : n.k = 2
  · rw [show thG (nmN (f + 1)) n = ext n.p (nmN (f + 1) n.c) from by unfold thG; rw [if_neg hk1, if_pos hk2]]
    exact Zuy h hk2 (hf n.c (.inl rfl)) ih
  · rw [show thG (nmN (f + 1)) n = br (fun i => nmN (f + 1) (n.ks.getD i r0)) n.v from by unfold thG; rw [if_neg hk1, if_neg hk2]]
    exact Zux h hk1 hk2 hks hv (fun r hr => hf r (.inr hr)) ih
theorem Zps : ∀ f, NmS f ∧ ThS f
  | 0 => by
    have h0 : NmS 0 := fun {K w y r} h hf => by
      have hk1 : r.k ≠ 1 := fun e => by have := hf e; omega
      by_cases hk : r.k = 2
      · have := Zp0 h hk
        rw [show nmN (0 + 1) r = st r.d from by unfold nmN; rw [if_neg hk1, if_pos hk]]
        exact this
      · have := Zp1 h hk1 hk
        rw [show nmN (0 + 1) r = no from by unfold nmN; rw [if_neg hk1, if_neg hk]]
        exact this
    exact ⟨h0, Ztu h0⟩
  | f + 1 => by
    obtain ⟨_, ih⟩ := Zps f
    have h0 : NmS (f + 1) := fun {K w y r} h hf => by
      by_cases hk1 : r.k = 1
      · exact Zvu h hk1 (hf hk1) ih
      by_cases hk : r.k = 2
      · have := Zp0 h hk
        rw [show nmN (f + 1 + 1) r = st r.d from by unfold nmN; rw [if_neg hk1, if_pos hk]]
        exact this
      · have := Zp1 h hk1 hk
        rw [show nmN (f + 1 + 1) r = no from by unfold nmN; rw [if_neg hk1, if_neg hk]]
        exact this
    exact ⟨h0, Ztu h0⟩
theorem Zod (h : NodeAt K w y n) (hr : NR n = true) : Calls Tryz.prog 29 #[.agg y.cells.toArray] w fun e w' => ∃ v, e = .returned v ∧ RTh w (TH n) v w' := by
 refine (Zps 32).2 h ?_ ?_ (fun r hrr _ => Ze7 (Zle hr r hrr))
 ·rcases Zcb hr with h | h | h
  ·rw [h.2.2.2.2.2.2.2]; decide
  ·rw [h.2.2.2.2.2.2.2]; decide
  ·omega
 ·rcases Zcb hr with h | h | h
  ·exact h.2.2.2.2.1
  ·rw [h.2.2.2.2.1]; decide
  ·exact h.2.2.1
end Go.Proofs.YtchgejomcgoaeaaGreat
namespace Go.Proofs.YtchgejomcgoaeaaGreat
open Go.RowKit
open Di (dref)
open Pt
variable {w w' : World} {a : Option Addr} {n c g : Nat} {ns : List (List Int)} {b d : List Int}
structure NsA (w : World) (a : Option Addr) (n c : Nat) (ns : List (List Int)) : Prop where
  len : n = ns.length
  row : ∀ j b, ns[j]? = some b → ∃ g off a' n' c', a = some ⟨g, off, none⟩ ∧ w.cell? ⟨g, off + j * 1, none⟩ = some (.slice a' n' c') ∧ Sk An w a' n' c' b ∧ n' ≤ 140737488351232
theorem NsA.go {v : World} (h : NsA w a n c ns) (hb : Below w.heap.size w v) : NsA v a n c ns := ⟨h.len, fun j b hj => by
  obtain ⟨g, off, a', n', c', h1, h2, h3, h4⟩ := h.row j b hj
  exact ⟨g, off, a', n', c', h1, Zaw hb h2, h3.go hb, h4⟩⟩
theorem NsA.isB (h : NsA w a n c ns) : ∀ b ∈ ns, isB b := fun b hb => by
  obtain ⟨j, hj⟩ := List.getElem?_of_mem hb
  obtain ⟨g, off, a', n', c', h1, h2, h3, h4⟩ := h.row j b hj
  exact h3.ag.b
structure NewM (w w' : World) (g : Nat) : Prop where
  hg : g = w.heap.size
  hw : w' = w.alloc (.map #[] 0)
theorem NewM.below (h : NewM w w' g) : Below w.heap.size w w' := by rw [h.hw]; exact (Below.refl _ _).alloc (Nat.le_refl _) _
theorem NewM.row (h : NewM w w' g) : w'.heap[g]? = some (.map #[] 0) := by rw [h.hw, h.hg]; exact heap_alloc_new _ _
theorem Zop {r : Option Nat} {m : Nat} {P : Program} {ds : List Deferred} {n : Nat} {Q : Exit → Act → World → Prop} {env : Env} {w : World} {ops : Array Oper} {l : List Oper} {o : Oper} (d : Nat) (hc : ∀ fb, chk n ops env fb o d = true) (hr : ∀ fb, (execOp (ev env fb) o).run P w = .ok (.value (.map (some w.heap.size))) (w.alloc (.map #[] 0)))
    (h : ∀ w' g, NewM w w' g → RW r m P ds n Q ops l ((d, .map (some g)) :: env) w') : RW r m P ds n Q ops (o :: l) env w := rw_v d _ hc hr (h _ _ ⟨rfl, rfl⟩)
def topP (d : List Int) : Pt := if d = dref [128] then no else st d
theorem Zmr (h : Sk An w a n c b) (hn : n ≤ 140737488351232) : Calls Tryz.prog 27 #[.slice a n c] w fun e w' => ∃ v, e = .returned v ∧ RVl w (.agg (B8 (dref b))) v w' := (Zk9 a n c b w h.ag hn).mono fun e w' h => ⟨_, h.1, rfl, h.2⟩
theorem Zmc (b : List Int) (r : List (List Int)) (kn : Kn) : knP (b :: r) kn = knP r (match findK (dref b) kn with
    | some _ => kn
    | none => match ND b with
      | none => kn
      | some n => kn ++ [(dref b, TH n)]) := rfl
structure KX where
  j : Nat
  kn : Kn
theorem Zvt (h : Sk An w a n c b) (hn : n ≤ 140737488351232) (hd : ND b = none) : Calls Tryz.prog 28 #[.slice a n c] w fun e w' => ∃ v, e = .returned v ∧ RVl w (.tuple #[.agg nz.cells.toArray, .int .i64 50]) v w' := by
 refine (Zdd b a n c w h.ag hn).mono ?_
 rintro e w' ⟨hb, hm⟩
 rw [hd] at hm
 exact ⟨_, hm, rfl, hb⟩
theorem Zss (h : Sk An w a n c b) (hn : n ≤ 140737488351232) {m : PN} (hd : ND b = some m) : Calls Tryz.prog 28 #[.slice a n c] w fun e w' => ∃ v, e = .returned v ∧ (∃ x : NV, v = .tuple #[.agg x.cells.toArray, .int .i64 0] ∧ NodeAt An w' x m) ∧ Bl w w' := by
 refine (Zdd b a n c w h.ag hn).mono ?_
 rintro e w' ⟨hb, hm⟩
 rw [hd] at hm
 obtain ⟨y, he, hy⟩ := hm
 exact ⟨_, he, ⟨y, rfl, hy.go (fun g _ hg => ⟨rfl, trivial⟩)⟩, hb⟩
set_option maxHeartbeats 1000000 in
theorem Zjy (hN : NsA w a n c ns) (hn : n ≤ 9223372036854775807) : Calls Tryz.prog 14 #[.slice a n c] w fun e w' => ∃ v', e = .returned v' ∧ (∃ gK, v' = .map (some gK) ∧ MKn w' gK (knP ns []) ∧ w.heap.size ≤ gK) ∧ Bl w w' := by
 obtain rfl : n = ns.length := hN.len
 have hB : Bl w w := Bl.refl w
 refine Zaj Tryz.func14 rfl 35 rfl ?_
 show CW _ _ _ _ _ _ _ [(0, .slice a ns.length c)] _
 refine Zac ?_
 refine Zaa ?_
 refine rp 2 (.map none) ?_
 refine Zad ?_
 refine Zab ?_
 refine Zac ?_
 refine Zaa ?_
 refine Zop 9 (fun _ => by kernel_rfl) (fun _ => by kernel_rfl) ?_
 intro w1 gM hn2
 have hzM : w.heap.size ≤ gM := by have := hB.size; have := hn2.hg; omega
 replace hB := hB.go hn2.below
 have hK : MKn w1 gM [] := ⟨_, _, hn2.row, trivial⟩
 refine rp 3 (.map (some gM)) ?_
 refine Zad ?_
 refine Zab ?_
 refine Zac ?_
 refine Zac ?_
 refine Zaa ?_
 refine rp 10 (.slice a ns.length c) ?_
 refine rp 11 (.int .i64 ((ns.length : Nat) : Int)) ?_
 refine rp 12 (.int .i64 0) ?_
 refine Zad ?_
 refine Zab ?_
 refine Zan ?_
 refine Zb8 (X := KX) (fun (x : KX) => [(12, .int .i64 ((x.j : Nat) : Int)), (11, .int .i64 ((ns.length : Nat) : Int)), (10, .slice a ns.length c), (3, .map (some gM)), (2, .map none)]) (fun (x : KX) v => Bl w v ∧ MKn v gM x.kn ∧ x.j ≤ ns.length ∧ knP (ns.drop x.j) x.kn = knP ns [] ∧ KnOk x.kn) (fun (x : KX) => ns.length - x.j) ⟨0, []⟩ (by exact ⟨fun _ => by kernel_rfl, ⟨fun _ => by kernel_rfl, ⟨fun _ => by kernel_rfl, ⟨fun _ => by kernel_rfl, ⟨fun _ => by kernel_rfl, trivial⟩⟩⟩⟩⟩) ⟨hB, hK, Nat.zero_le _, rfl, fun x hx => by cases hx⟩ ?_
 clear hB hK
 rintro ⟨j, kn⟩ v ⟨hB, hK, hj, hkn, hok⟩
 simp only at *
 show CW _ _ _ _ _ _ _ [(12, .int .i64 ((j : Nat) : Int)), (11, .int .i64 ((ns.length : Nat) : Int)), (10, .slice a ns.length c), (3, .map (some gM)), (2, .map none)] _
 by_cases hlt : j < ns.length
 ·skip
  have hNv := hN.go hB
  obtain ⟨b, hb⟩ : ∃ b, ns[j]? = some b := ⟨ns[j], List.getElem?_eq_getElem hlt⟩
  obtain ⟨gn, on, a2, n2, c2, rfl, hcn, hsb, hn2⟩ := hNv.row j b hb
  have hbb := hsb.ag.b
  rw [List.drop_eq_getElem_cons hlt, show ns[j] = b from Option.some.inj ((List.getElem?_eq_getElem hlt).symm.trans hb), Zmc] at hkn
  cases hf : findK (dref b) kn with
  | some t1 =>
   simp only [hf] at hkn
   refine Zac ?_
   refine Zaa ?_
   refine rv 13 (.bool true) (fun _ => Zal (v := .bool (decide (((j : Nat) : Int) < ((ns.length : Nat) : Int)))) (by kernel_rfl) (congrArg Value.bool (decide_eq_true (by omega)))) ?_
   refine Zad ?_
   refine Zab ?_
   refine Zac ?_
   refine Zai (fun _ => by kernel_rfl) ?_
   refine Zam ?_
   refine Zab ?_
   refine Zac ?_
   refine Zan ?_
   refine Zac ?_
   refine Zaa ?_
   refine rv 14 (.pointer (some ⟨gn, on + j * 1, none⟩)) (fun _ => Za0 24 _ _ gn on j ns.length c 1 29 rfl (by kernel_rfl) (by kernel_rfl) hlt Tryz.underlying24 (by kernel_rfl)) ?_
   refine rv 15 (.slice a2 n2 c2) (fun _ => Zag 29 _ ⟨gn, on + j * 1, none⟩ _ _ rfl (by kernel_rfl) hcn Tryz.underlying29 rfl) ?_
   refine rp 5 (.slice a2 n2 c2) ?_
   refine Zad ?_
   refine Zab ?_
   refine Zac ?_
   refine Zaa ?_
   refine rp 16 (.slice a2 n2 c2) ?_
   refine Zak 17 27 #[.slice a2 n2 c2] (fun _ => by kernel_rfl) (fun _ => by kernel_rfl) (R := RVl v (.agg (B8 (dref b)))) (Zmr hsb hn2) ?_
   rintro _ w3 ⟨rfl, hb4⟩
   replace hB := hB.go hb4
   replace hK := hK.keep (Nt.below hb4) (Below.block hb4 _ hK.lt)
   replace hsb := hsb.go hb4
   refine Zar 6 (B8 z32) 23 (fun _ => by kernel_rfl) (fun _ => by kernel_rfl) ?_
   intro w5 g6 hn7
   have hr8 : Rw g6 w5 (B8 z32) 23 := hn7.row
   refine Zav g6 (B8 (dref b)) (fun _ => by kernel_rfl) (fun _ => Zao 23 _ _ _ _ _ 23 rfl (by kernel_rfl) (by kernel_rfl) hr8 (Zbm (dref_len _)) ((B8_size _).trans ((show z32.length = 32 from rfl).trans ((dref_len _).symm.trans (B8_size _).symm))) (B8_one _)) ?_
   intro w9 hp10
   replace hn7 := hn7.put hp10
   clear hr8
   have hzg6 : w.heap.size ≤ g6 := by have := hB.size; have := hn7.hg; omega
   replace hB := hB.go hn7.below
   replace hK := hK.keep (Nt.below hn7.below) (Below.block hn7.below _ hK.lt)
   replace hsb := hsb.go hn7.below
   have hr12 : Rw g6 w9 (B8 (dref b)) 23 := hn7.row
   refine Zad ?_
   refine Zab ?_
   refine Zac ?_
   refine Zac ?_
   refine Zaa ?_
   refine rp 18 (.map (some gM)) ?_
   refine rv 19 (.agg (B8 (dref b))) (fun _ => Za2 23 _ _ _ _ _ _ rfl (by kernel_rfl) hr12 Tryz.underlying23 rfl (Zbm (dref_len _))) ?_
   obtain ⟨fv, hfv, hft⟩ := Zet hK (d := dref b) (dref_len _)
   rw [hf] at hft
   simp only at hft
   have hnn : t1.isNo = false := by obtain ⟨y1, hy1, e1⟩ := Zdx hf; have := (hok y1 hy1).2; rw [e1] at this; cases t1 <;> first | rfl | cases this
   refine rv 20 (fv) (fun _ => hfv _ _ _ _ rfl (by kernel_rfl) (by kernel_rfl)) ?_
   refine rv 21 (.bool true) (fun _ => Zal (Zt4 hft 20 _ rfl (by kernel_rfl) rfl) (congrArg (fun q => Value.bool (!q)) hnn)) ?_
   refine Zad ?_
   refine Zab ?_
   refine Zai (fun _ => by kernel_rfl) ?_
   refine Zb1 ?_
   refine Zat ?_
   refine Za1 ?_
   refine Zab ?_
   refine Zaa ?_
   refine rv 33 (.int .i64 ((j + 1 : Nat) : Int)) (fun _ => Zal (v := .int .i64 (IntKind.i64.wrap (((j : Nat) : Int) + (1 : Int)))) (by kernel_rfl) (congrArg (Value.int .i64) ((Zbc (by omega) (by omega)).trans (by omega)))) ?_
   refine rp 12 (.int .i64 ((j + 1 : Nat) : Int)) ?_
   refine Zad ?_
   exact Za7 (E := fun (x : KX) => [(12, .int .i64 ((x.j : Nat) : Int)), (11, .int .i64 ((ns.length : Nat) : Int)), (10, .slice (some ⟨gn, on, none⟩) ns.length c), (3, .map (some gM)), (2, .map none)]) (R := fun (x : KX) v => Bl w v ∧ MKn v gM x.kn ∧ x.j ≤ ns.length ∧ knP (ns.drop x.j) x.kn = knP ns [] ∧ KnOk x.kn) (μ := fun (x : KX) => ns.length - x.j) (x := ⟨j, kn⟩) ⟨j + 1, kn⟩ (by exact ⟨fun _ => by kernel_rfl, ⟨fun _ => by kernel_rfl, ⟨fun _ => by kernel_rfl, ⟨fun _ => by kernel_rfl, ⟨fun _ => by kernel_rfl, trivial⟩⟩⟩⟩⟩) ⟨hB, hK, by simp only; omega, hkn, hok⟩ (by simp only; omega)
  | none =>
   simp only [hf] at hkn
   cases hnd : ND b with
   | none =>
    simp only [hnd] at hkn
    refine Zac ?_
    refine Zaa ?_
    refine rv 13 (.bool true) (fun _ => Zal (v := .bool (decide (((j : Nat) : Int) < ((ns.length : Nat) : Int)))) (by kernel_rfl) (congrArg Value.bool (decide_eq_true (by omega)))) ?_
    refine Zad ?_
    refine Zab ?_
    refine Zac ?_
    refine Zai (fun _ => by kernel_rfl) ?_
    refine Zam ?_
    refine Zab ?_
    refine Zac ?_
    refine Zan ?_
    refine Zac ?_
    refine Zaa ?_
    refine rv 14 (.pointer (some ⟨gn, on + j * 1, none⟩)) (fun _ => Za0 24 _ _ gn on j ns.length c 1 29 rfl (by kernel_rfl) (by kernel_rfl) hlt Tryz.underlying24 (by kernel_rfl)) ?_
    refine rv 15 (.slice a2 n2 c2) (fun _ => Zag 29 _ ⟨gn, on + j * 1, none⟩ _ _ rfl (by kernel_rfl) hcn Tryz.underlying29 rfl) ?_
    refine rp 5 (.slice a2 n2 c2) ?_
    refine Zad ?_
    refine Zab ?_
    refine Zac ?_
    refine Zaa ?_
    refine rp 16 (.slice a2 n2 c2) ?_
    refine Zak 17 27 #[.slice a2 n2 c2] (fun _ => by kernel_rfl) (fun _ => by kernel_rfl) (R := RVl v (.agg (B8 (dref b)))) (Zmr hsb hn2) ?_
    rintro _ w13 ⟨rfl, hb14⟩
    replace hB := hB.go hb14
    replace hK := hK.keep (Nt.below hb14) (Below.block hb14 _ hK.lt)
    replace hsb := hsb.go hb14
    refine Zar 6 (B8 z32) 23 (fun _ => by kernel_rfl) (fun _ => by kernel_rfl) ?_
    intro w15 g16 hn17
    have hr18 : Rw g16 w15 (B8 z32) 23 := hn17.row
    refine Zav g16 (B8 (dref b)) (fun _ => by kernel_rfl) (fun _ => Zao 23 _ _ _ _ _ 23 rfl (by kernel_rfl) (by kernel_rfl) hr18 (Zbm (dref_len _)) ((B8_size _).trans ((show z32.length = 32 from rfl).trans ((dref_len _).symm.trans (B8_size _).symm))) (B8_one _)) ?_
    intro w19 hp20
    replace hn17 := hn17.put hp20
    clear hr18
    have hzg16 : w.heap.size ≤ g16 := by have := hB.size; have := hn17.hg; omega
    replace hB := hB.go hn17.below
    replace hK := hK.keep (Nt.below hn17.below) (Below.block hn17.below _ hK.lt)
    replace hsb := hsb.go hn17.below
    have hr22 : Rw g16 w19 (B8 (dref b)) 23 := hn17.row
    refine Zad ?_
    refine Zab ?_
    refine Zac ?_
    refine Zac ?_
    refine Zaa ?_
    refine rp 18 (.map (some gM)) ?_
    refine rv 19 (.agg (B8 (dref b))) (fun _ => Za2 23 _ _ _ _ _ _ rfl (by kernel_rfl) hr22 Tryz.underlying23 rfl (Zbm (dref_len _))) ?_
    obtain ⟨fv, hfv, hft⟩ := Zet hK (d := dref b) (dref_len _)
    rw [hf] at hft
    simp only at hft
    obtain rfl : fv = .nilIface := hft
    refine rv 20 (.nilIface) (fun _ => hfv _ _ _ _ rfl (by kernel_rfl) (by kernel_rfl)) ?_
    refine rp 21 (.bool false) ?_
    refine Zad ?_
    refine Zab ?_
    refine Zaf (fun _ => by kernel_rfl) ?_
    refine Zam ?_
    refine Zab ?_
    refine Zac ?_
    refine Zaa ?_
    refine rp 23 (.slice a2 n2 c2) ?_
    refine Zak 24 28 #[.slice a2 n2 c2] (fun _ => by kernel_rfl) (fun _ => by kernel_rfl) (R := RVl w19 (.tuple #[.agg (NV.cells nz).toArray, .int .i64 50])) (Zvt hsb hn2 hnd) ?_
    rintro _ w23 ⟨rfl, hb24⟩
    replace hB := hB.go hb24
    replace hK := hK.keep (Nt.below hb24) (Below.block hb24 _ hK.lt)
    replace hsb := hsb.go hb24
    replace hr22 := hr22.go hb24
    refine rp 22 (.tuple #[.agg (NV.cells nz).toArray, .int .i64 50]) ?_
    refine rp 25 (.agg (NV.cells nz).toArray) ?_
    refine rp 26 (.int .i64 50) ?_
    refine Zar 7 ((NV.cells nz).toArray) 68 (fun _ => by kernel_rfl) (fun _ => by kernel_rfl) ?_
    intro w25 g26 hn27
    have hr28 : Rw g26 w25 ((NV.cells nz).toArray) 68 := hn27.row
    refine Zav g26 ((NV.cells nz).toArray) (fun _ => by kernel_rfl) (fun _ => Zao 68 _ _ _ _ _ 68 rfl (by kernel_rfl) (by kernel_rfl) hr28 (Zbj (show nz.c.d.length = 32 from rfl)) (Zbe (show nz.c.d.length = 32 from rfl)) (all_oneCell_toArray (NV.one _))) ?_
    intro w29 hp30
    replace hn27 := hn27.put hp30
    clear hr28
    have hlg16g26 : g16 < g26 := by have := hr22.lt; have := hn27.hg; omega
    have hzg26 : w.heap.size ≤ g26 := by have := hB.size; have := hn27.hg; omega
    replace hB := hB.go hn27.below
    replace hK := hK.keep (Nt.below hn27.below) (Below.block hn27.below _ hK.lt)
    replace hsb := hsb.go hn27.below
    replace hr22 := hr22.go hn27.below
    have hr32 : Rw g26 w29 ((NV.cells nz).toArray) 68 := hn27.row
    refine rp 8 (.int .i64 50) ?_
    refine Zad ?_
    refine Zab ?_
    refine Zac ?_
    refine Zaa ?_
    refine rp 27 (.int .i64 50) ?_
    refine rp 28 (.bool false) ?_
    refine Zad ?_
    refine Zab ?_
    refine Zaf (fun _ => by kernel_rfl) ?_
    refine Zam ?_
    refine Zau ?_
    refine Zab ?_
    refine Zaa ?_
    refine rv 33 (.int .i64 ((j + 1 : Nat) : Int)) (fun _ => Zal (v := .int .i64 (IntKind.i64.wrap (((j : Nat) : Int) + (1 : Int)))) (by kernel_rfl) (congrArg (Value.int .i64) ((Zbc (by omega) (by omega)).trans (by omega)))) ?_
    refine rp 12 (.int .i64 ((j + 1 : Nat) : Int)) ?_
    refine Zad ?_
    exact Za7 (E := fun (x : KX) => [(12, .int .i64 ((x.j : Nat) : Int)), (11, .int .i64 ((ns.length : Nat) : Int)), (10, .slice (some ⟨gn, on, none⟩) ns.length c), (3, .map (some gM)), (2, .map none)]) (R := fun (x : KX) v => Bl w v ∧ MKn v gM x.kn ∧ x.j ≤ ns.length ∧ knP (ns.drop x.j) x.kn = knP ns [] ∧ KnOk x.kn) (μ := fun (x : KX) => ns.length - x.j) (x := ⟨j, kn⟩) ⟨j + 1, kn⟩ (by exact ⟨fun _ => by kernel_rfl, ⟨fun _ => by kernel_rfl, ⟨fun _ => by kernel_rfl, ⟨fun _ => by kernel_rfl, ⟨fun _ => by kernel_rfl, trivial⟩⟩⟩⟩⟩) ⟨hB, hK, by simp only; omega, hkn, hok⟩ (by simp only; omega)
   | some m =>
    simp only [hnd] at hkn
    have hmr := (Zgo hbb hnd).1
    have hmo := Zir hbb hnd
    have hok2 : KnOk (kn ++ [(dref b, TH m)]) := fun x hx => (List.mem_append.1 hx).elim (hok x) (fun hx => by rw [List.mem_singleton.1 hx]; exact ⟨Zw9 hmo hmr, Zxa m⟩)
    refine Zac ?_
    refine Zaa ?_
    refine rv 13 (.bool true) (fun _ => Zal (v := .bool (decide (((j : Nat) : Int) < ((ns.length : Nat) : Int)))) (by kernel_rfl) (congrArg Value.bool (decide_eq_true (by omega)))) ?_
    refine Zad ?_
    refine Zab ?_
    refine Zac ?_
    refine Zai (fun _ => by kernel_rfl) ?_
    refine Zam ?_
    refine Zab ?_
    refine Zac ?_
    refine Zan ?_
    refine Zac ?_
    refine Zaa ?_
    refine rv 14 (.pointer (some ⟨gn, on + j * 1, none⟩)) (fun _ => Za0 24 _ _ gn on j ns.length c 1 29 rfl (by kernel_rfl) (by kernel_rfl) hlt Tryz.underlying24 (by kernel_rfl)) ?_
    refine rv 15 (.slice a2 n2 c2) (fun _ => Zag 29 _ ⟨gn, on + j * 1, none⟩ _ _ rfl (by kernel_rfl) hcn Tryz.underlying29 rfl) ?_
    refine rp 5 (.slice a2 n2 c2) ?_
    refine Zad ?_
    refine Zab ?_
    refine Zac ?_
    refine Zaa ?_
    refine rp 16 (.slice a2 n2 c2) ?_
    refine Zak 17 27 #[.slice a2 n2 c2] (fun _ => by kernel_rfl) (fun _ => by kernel_rfl) (R := RVl v (.agg (B8 (dref b)))) (Zmr hsb hn2) ?_
    rintro _ w33 ⟨rfl, hb34⟩
    replace hB := hB.go hb34
    replace hK := hK.keep (Nt.below hb34) (Below.block hb34 _ hK.lt)
    replace hsb := hsb.go hb34
    have hK0lt := hK.lt
    refine Zar 6 (B8 z32) 23 (fun _ => by kernel_rfl) (fun _ => by kernel_rfl) ?_
    intro w35 g36 hn37
    have hr38 : Rw g36 w35 (B8 z32) 23 := hn37.row
    refine Zav g36 (B8 (dref b)) (fun _ => by kernel_rfl) (fun _ => Zao 23 _ _ _ _ _ 23 rfl (by kernel_rfl) (by kernel_rfl) hr38 (Zbm (dref_len _)) ((B8_size _).trans ((show z32.length = 32 from rfl).trans ((dref_len _).symm.trans (B8_size _).symm))) (B8_one _)) ?_
    intro w39 hp40
    replace hn37 := hn37.put hp40
    clear hr38
    have hzg36 : w.heap.size ≤ g36 := by have := hB.size; have := hn37.hg; omega
    replace hB := hB.go hn37.below
    replace hK := hK.keep (Nt.below hn37.below) (Below.block hn37.below _ hK.lt)
    replace hsb := hsb.go hn37.below
    have hr42 : Rw g36 w39 (B8 (dref b)) 23 := hn37.row
    refine Zad ?_
    have hM6a : gM < g36 := by have := hK0lt; have := hn37.hg; omega
    refine Zab ?_
    refine Zac ?_
    refine Zac ?_
    refine Zaa ?_
    refine rp 18 (.map (some gM)) ?_
    refine rv 19 (.agg (B8 (dref b))) (fun _ => Za2 23 _ _ _ _ _ _ rfl (by kernel_rfl) hr42 Tryz.underlying23 rfl (Zbm (dref_len _))) ?_
    obtain ⟨fv, hfv, hft⟩ := Zet hK (d := dref b) (dref_len _)
    rw [hf] at hft
    simp only at hft
    obtain rfl : fv = .nilIface := hft
    refine rv 20 (.nilIface) (fun _ => hfv _ _ _ _ rfl (by kernel_rfl) (by kernel_rfl)) ?_
    refine rp 21 (.bool false) ?_
    refine Zad ?_
    refine Zab ?_
    refine Zaf (fun _ => by kernel_rfl) ?_
    refine Zam ?_
    refine Zab ?_
    refine Zac ?_
    refine Zaa ?_
    refine rp 23 (.slice a2 n2 c2) ?_
    refine Zak 24 28 #[.slice a2 n2 c2] (fun _ => by kernel_rfl) (fun _ => by kernel_rfl) (R := fun u w' => (∃ x : NV, u = .tuple #[.agg x.cells.toArray, .int .i64 0] ∧ NodeAt An w' x m) ∧ Bl w39 w') (Zss hsb hn2 hnd) ?_
    rintro _ w43 ⟨⟨x45, rfl, hx46⟩, hb44⟩
    replace hB := hB.go hb44
    replace hK := hK.keep (Nt.below hb44) (Below.block hb44 _ hK.lt)
    replace hsb := hsb.go hb44
    replace hr42 := hr42.go hb44
    refine rp 22 (.tuple #[.agg (NV.cells x45).toArray, .int .i64 0]) ?_
    refine rp 25 (.agg (NV.cells x45).toArray) ?_
    refine rp 26 (.int .i64 0) ?_
    refine Zar 7 ((NV.cells nz).toArray) 68 (fun _ => by kernel_rfl) (fun _ => by kernel_rfl) ?_
    intro w47 g48 hn49
    have hr50 : Rw g48 w47 ((NV.cells nz).toArray) 68 := hn49.row
    refine Zav g48 ((NV.cells x45).toArray) (fun _ => by kernel_rfl) (fun _ => Zao 68 _ _ _ _ _ 68 rfl (by kernel_rfl) (by kernel_rfl) hr50 (Zbj hx46.c.len) (Zbe hx46.c.len) (all_oneCell_toArray (NV.one _))) ?_
    intro w51 hp52
    replace hn49 := hn49.put hp52
    clear hr50
    have hlg36g48 : g36 < g48 := by have := hr42.lt; have := hn49.hg; omega
    have hzg48 : w.heap.size ≤ g48 := by have := hB.size; have := hn49.hg; omega
    replace hB := hB.go hn49.below
    replace hK := hK.keep (Nt.below hn49.below) (Below.block hn49.below _ hK.lt)
    replace hsb := hsb.go hn49.below
    replace hr42 := hr42.go hn49.below
    replace hx46 := hx46.go (Keep.below hn49.below)
    have hr54 : Rw g48 w51 ((NV.cells x45).toArray) 68 := hn49.row
    refine rp 8 (.int .i64 0) ?_
    refine Zad ?_
    refine Zab ?_
    refine Zac ?_
    refine Zaa ?_
    refine rp 27 (.int .i64 0) ?_
    refine rp 28 (.bool true) ?_
    refine Zad ?_
    refine Zab ?_
    refine Zai (fun _ => by kernel_rfl) ?_
    have hM6 : gM < g36 ∧ g36 < g48 := ⟨hM6a, by omega⟩
    refine Zbd (fun v => Rw g36 v (B8 (dref b)) 23 ∧ Rw g48 v ((NV.cells x45).toArray) 68) (by kernel_rfl) (⟨hr42, hr54⟩) ?_
    replace hB := hB.go (Below.refl _ _).drew
    replace hK := hK.keep (Nt.below (Below.refl _ _).drew) (Below.block (Below.refl _ _).drew _ hK.lt)
    replace hsb := hsb.go (Below.refl _ _).drew
    replace hr42 := hr42.go (Below.refl _ _).drew
    replace hx46 := hx46.go (Keep.below (Below.refl _ _).drew)
    replace hr54 := hr54.go (Below.refl _ _).drew
    refine dt 0 29 (.map (some gM)) (fun v hv _ => by kernel_rfl) ⟨hr42, hr54⟩ ?_
    refine dt 1 30 (.agg (B8 (dref b))) (fun v hv _ => Za2 23 _ _ _ _ _ _ rfl (by kernel_rfl) hv.1 Tryz.underlying23 rfl (Zbm (dref_len _))) ⟨hr42, hr54⟩ ?_
    refine dt 2 31 (.agg ((NV.cells x45).toArray)) (fun v hv _ => Za2 68 _ _ _ _ _ _ rfl (by kernel_rfl) hv.2 Tryz.underlying68 rfl (Zbj hx46.c.len)) ⟨hr42, hr54⟩ ?_
    refine Zas [3] (by kernel_rfl) (by simp) ?_
    refine Za5 3 32 29 #[.agg ((NV.cells x45).toArray)] rfl (fun _ => by kernel_rfl) (fun _ => by kernel_rfl) (R := RTh w51.drew (TH m)) (Zod hx46 hmr) (fun u w' h9 => ⟨hr42.go h9.2, hr54.go h9.2⟩) ?_ Zaz
    rintro u55 w56 ⟨ht57, hb58⟩
    replace hB := hB.go hb58
    replace hK := hK.keep (Nt.below hb58) (Below.block hb58 _ hK.lt)
    replace hsb := hsb.go hb58
    replace hr42 := hr42.go hb58
    replace hx46 := hx46.go (Keep.below hb58)
    replace hr54 := hr54.go hb58
    refine Zas [4] (by kernel_rfl) (by simp) ?_
    obtain ⟨wu, hur, hK2, hut, hun⟩ := Zoa hK (dref_len b) hf ht57
    refine ar_s 4 rfl (fun _ => by kernel_rfl) (fun _ => hur _ _ _ _ _ rfl (by kernel_rfl) (by kernel_rfl) (by kernel_rfl)) ⟨hr42.past hut (by have := hM6; omega), hr54.past hut (by have := hM6; omega)⟩ ?_ Zaz
    replace hB := hB.tou hut hzM
    replace hK := hK2
    refine Za6 (by kernel_rfl) ?_
    refine Zau ?_
    refine Zab ?_
    refine Zaa ?_
    refine rv 33 (.int .i64 ((j + 1 : Nat) : Int)) (fun _ => Zal (v := .int .i64 (IntKind.i64.wrap (((j : Nat) : Int) + (1 : Int)))) (by kernel_rfl) (congrArg (Value.int .i64) ((Zbc (by omega) (by omega)).trans (by omega)))) ?_
    refine rp 12 (.int .i64 ((j + 1 : Nat) : Int)) ?_
    refine Zad ?_
    exact Za7 (E := fun (x : KX) => [(12, .int .i64 ((x.j : Nat) : Int)), (11, .int .i64 ((ns.length : Nat) : Int)), (10, .slice (some ⟨gn, on, none⟩) ns.length c), (3, .map (some gM)), (2, .map none)]) (R := fun (x : KX) v => Bl w v ∧ MKn v gM x.kn ∧ x.j ≤ ns.length ∧ knP (ns.drop x.j) x.kn = knP ns [] ∧ KnOk x.kn) (μ := fun (x : KX) => ns.length - x.j) (x := ⟨j, kn⟩) ⟨j + 1, kn ++ [(dref b, TH m)]⟩ (by exact ⟨fun _ => by kernel_rfl, ⟨fun _ => by kernel_rfl, ⟨fun _ => by kernel_rfl, ⟨fun _ => by kernel_rfl, ⟨fun _ => by kernel_rfl, trivial⟩⟩⟩⟩⟩) ⟨hB, hK, by simp only; omega, hkn, hok2⟩ (by simp only; omega)
 obtain rfl : j = ns.length := by omega
 refine Zac ?_
 refine Zaa ?_
 refine rv 13 (.bool false) (fun _ => Zal (v := .bool (decide (((ns.length : Nat) : Int) < ((ns.length : Nat) : Int)))) (by kernel_rfl) (congrArg Value.bool (decide_eq_false (by omega)))) ?_
 refine Zad ?_
 refine Zab ?_
 refine Zac ?_
 refine Zaf (fun _ => by kernel_rfl) ?_
 refine Zb1 ?_
 refine Zat ?_
 refine Zat ?_
 refine Za1 ?_
 refine Zab ?_
 refine Zac ?_
 refine Zaa ?_
 refine rp 34 (.map (some gM)) ?_
 refine rp 2 (.map (some gM)) ?_
 refine Zad ?_
 refine Zab ?_
 refine Zap ?_
 refine Zae (.map (some gM)) (fun _ => by kernel_rfl) ?_
 rw [List.drop_length] at hkn
 rw [← hkn]
 exact ⟨_, rfl, ⟨gM, rfl, hK, hzM⟩, hB⟩
theorem Zpi {ρ : Operand → Value} {w : World} {x y : Operand} {o : Oper} {xs ys : List Int} (ho : o.op = .binOp .neq 23 x y 23) (hx : ρ x = .agg (B8 xs)) (hy : ρ y = .agg (B8 ys)) (lx : xs.length = 32) (ly : ys.length = 32) : (execOp ρ o).run Tryz.prog w = .ok (.value (.bool (!(xs == ys)))) w := by
  have e := eqD xs ys lx ly w
  unfold execOp
  rw [ho]
  simp only [hx, hy]
  go_simp
theorem Zpl {ρ : Operand → Value} {w : World} {x y : Operand} {o : Oper} {xs ys : List Int} (ho : o.op = .binOp .eql 23 x y 23) (hx : ρ x = .agg (B8 xs)) (hy : ρ y = .agg (B8 ys)) (lx : xs.length = 32) (ly : ys.length = 32) : (execOp ρ o).run Tryz.prog w = .ok (.value (.bool (xs == ys))) w := by
  have e := eqD xs ys lx ly w
  unfold execOp
  rw [ho]
  simp only [hx, hy]
  go_simp
theorem Ziz (w : World) : Calls Tryz.prog 15 #[] w fun e w' => ∃ v, e = .returned v ∧ RVl w (.agg (B8 (dref [128]))) v w' := (Zi1 w).mono fun e w' h => ⟨_, h.1, rfl, h.2⟩
def RNw (w : World) (t : Pt) (kn : Kn) (us : List (List Int)) : Value → World → Prop := fun u w' => (∃ g gK gU, u = .pointer (some ⟨g, 0, none⟩) ∧ PAt w' g gK gU t kn us ∧ w.heap.size ≤ g ∧ w.heap.size ≤ gK ∧ w.heap.size ≤ gU) ∧ Bl w w'
def RCl (w : World) (gK : Nat) (t : Pt) (kn : Kn) (us : List (List Int)) : Value → World → Prop := fun u w' => (∃ g gU, u = .pointer (some ⟨g, 0, none⟩) ∧ PAt w' g gK gU t kn us ∧ w.heap.size ≤ g ∧ w.heap.size ≤ gU) ∧ Bl w w'
set_option maxHeartbeats 1000000 in
theorem Zvp (hd : d.length = 32) (hdb : isB d) (hN : NsA w a n c ns) (hn : n ≤ 9223372036854775807) (he : d ≠ dref [128]) : Calls Tryz.prog 6 #[.agg (B8 d), .slice a n c] w fun e w' => ∃ v', e = .returned v' ∧ RNw w (st d) (knP ns []) [] v' w' := by
 have hok := Zp9 ns hN.isB (kn := []) (fun x hx => by cases hx)
 have hB : Bl w w := Bl.refl w
 refine Zaj Tryz.func6 rfl 20 rfl ?_
 show CW _ _ _ _ _ _ _ [(0, .agg (B8 d)), (1, .slice a n c)] _
 refine Zac ?_
 refine Zaa ?_
 refine Zar 2 (B8 d) 23 (fun _ => by kernel_rfl) (fun _ => by kernel_rfl) ?_
 intro w1 g2 hn3
 have hzg2 : w.heap.size ≤ g2 := by have := hB.size; have := hn3.hg; omega
 replace hB := hB.go hn3.below
 replace hN := hN.go hn3.below
 have hr4 : Rw g2 w1 (B8 d) 23 := hn3.row
 refine rp 4 (.pointer none) ?_
 refine Zad ?_
 refine Zab ?_
 refine Zac ?_
 refine Zaa ?_
 refine rp 6 (.slice a n c) ?_
 refine Zak 7 14 #[.slice a n c] (fun _ => by kernel_rfl) (fun _ => by kernel_rfl) (R := fun u w' => (∃ gK, u = .map (some gK) ∧ MKn w' gK (knP ns []) ∧ w1.heap.size ≤ gK) ∧ Bl w1 w') (Zjy hN hn) ?_
 rintro _ w5 ⟨⟨gK, rfl, hK6, hz7⟩, hb8⟩
 have hzK : w.heap.size ≤ gK := by have := hB.size; omega
 replace hB := hB.go hb8
 replace hN := hN.go hb8
 replace hr4 := hr4.go hb8
 have hK := hK6
 have hKlt := hK.lt
 refine Zop 8 (fun _ => by kernel_rfl) (fun _ => by kernel_rfl) ?_
 intro w9 gU hn10
 have hzU : w.heap.size ≤ gU := by have := hB.size; have := hn10.hg; omega
 have hKU : gK ≠ gU := by have := hn10.hg; omega
 replace hB := hB.go hn10.below
 replace hN := hN.go hn10.below
 replace hr4 := hr4.go hn10.below
 replace hK := hK.keep (Nt.below hn10.below) (Below.block hn10.below _ hK.lt)
 have hU : MUs w9 gU [] := ⟨_, _, hn10.row, ⟨rfl, fun x hx => by cases hx⟩, ⟨fun x hx => (by cases hx), List.nodup_nil⟩⟩
 have hUlt := hU.lt
 refine rp 9 (.agg #[.nilIface, .map (some gK), .map (some gU)]) ?_
 refine Zar 10 (#[.nilIface, .map (some gK), .map (some gU)]) 49 (fun _ => by kernel_rfl) (fun _ => by kernel_rfl) ?_
 intro w11 g12 hn13
 have hlg2g12 : g2 < g12 := by have := hr4.lt; have := hn13.hg; omega
 have hlgKg12 : gK < g12 := by have := hK.lt; have := hn13.hg; omega
 have hlgUg12 : gU < g12 := by have := hU.lt; have := hn13.hg; omega
 have hzg12 : w.heap.size ≤ g12 := by have := hB.size; have := hn13.hg; omega
 replace hB := hB.go hn13.below
 replace hN := hN.go hn13.below
 replace hr4 := hr4.go hn13.below
 replace hK := hK.keep (Nt.below hn13.below) (Below.block hn13.below _ hK.lt)
 replace hU := hU.keep (Below.block hn13.below _ hU.lt)
 have hr14 : Rw g12 w11 (#[.nilIface, .map (some gK), .map (some gU)]) 49 := hn13.row
 refine rp 5 (.pointer (some ⟨g12, 0, none⟩)) ?_
 refine Zad ?_
 refine Zab ?_
 refine Zac ?_
 refine Zac ?_
 refine Zbd (fun v => Rw g2 v (B8 d) 23) (by kernel_rfl) (hr4) ?_
 replace hB := hB.go (Below.refl _ _).drew
 replace hN := hN.go (Below.refl _ _).drew
 replace hr4 := hr4.go (Below.refl _ _).drew
 replace hK := hK.keep (Nt.below (Below.refl _ _).drew) (Below.block (Below.refl _ _).drew _ hK.lt)
 replace hU := hU.keep (Below.block (Below.refl _ _).drew _ hU.lt)
 replace hr14 := hr14.go (Below.refl _ _).drew
 refine dt 0 11 (.agg (B8 d)) (fun v hv _ => Za2 23 _ _ _ _ _ _ rfl (by kernel_rfl) hv Tryz.underlying23 rfl (Zbm hd)) hr4 ?_
 refine Zas [1] (by kernel_rfl) (by simp) ?_
 refine Za5 1 12 15 #[] rfl (fun _ => by kernel_rfl) (fun _ => by kernel_rfl) (R := RVl w11.drew (.agg (B8 (dref [128])))) (Ziz w11.drew) (fun u w' h9 => hr4.go h9.2) ?_ Zaz
 rintro _ w15 ⟨rfl, hb16⟩
 replace hB := hB.go hb16
 replace hN := hN.go hb16
 replace hr4 := hr4.go hb16
 replace hK := hK.keep (Nt.below hb16) (Below.block hb16 _ hK.lt)
 replace hU := hU.keep (Below.block hb16 _ hU.lt)
 replace hr14 := hr14.go hb16
 refine dt 2 13 (.bool true) (fun v hv _ => Zal (Zpi (xs := d) (ys := dref [128]) rfl (by kernel_rfl) (by kernel_rfl) hd (dref_len _)) (congrArg Value.bool (show (!(d == dref [128])) = true from by simp [he]))) hr4 ?_
 refine Za6 (by kernel_rfl) ?_
 refine Zab ?_
 refine Zai (fun _ => by kernel_rfl) ?_
 refine Zaa ?_
 refine rp 14 (.pointer (some ⟨g12, 0, none⟩)) ?_
 refine rv 15 (.agg (B8 d)) (fun _ => Za2 23 _ _ _ _ _ _ rfl (by kernel_rfl) hr4 Tryz.underlying23 rfl (Zbm hd)) ?_
 refine rp 16 (.iface 50 (.agg (B8 d))) ?_
 refine rp 17 (.pointer (some ⟨g12, 0, none⟩)) ?_
 refine rp 18 (.pointer (some ⟨g12, 0, none⟩)) ?_
 have hst : ThA w15 (st d) (.iface 50 (.agg (B8 d))) := ⟨rfl, hd, hdb⟩
 refine Zb0 g12 (0) (.iface 50 (.agg (B8 d))) (fun _ => by kernel_rfl) (fun _ => Zbr 47 _ _ g12 _ _ 49 _ hr14 rfl (by kernel_rfl) (by kernel_rfl) (by show 0 < 3; omega) rfl rfl (by kernel_rfl)) ?_
 intro w9 hs9
 have hnt9 := Nt.rows hr14 (nob3 (show ThA w no .nilIface from rfl) (fun _ e => by cases e) (fun _ e => by cases e)) hs9.touch
 have hlt9 := hr14.lt
 replace hr14 := hr14.set (cells' := #[.iface 50 (.agg (B8 d)), .map (some gK), .map (some gU)]) hs9 (by kernel_rfl)
 replace hK := hK.keep hnt9 (hs9.touch.block _ hK.lt (by omega))
 replace hU := hU.keep (hs9.touch.block _ hU.lt (by omega))
 replace hB := hB.tou hs9.touch hzg12
 refine Zad ?_
 refine Zab ?_
 refine Zac ?_
 refine Zaa ?_
 refine rp 19 (.pointer (some ⟨g12, 0, none⟩)) ?_
 refine rp 4 (.pointer (some ⟨g12, 0, none⟩)) ?_
 refine Zad ?_
 refine Zab ?_
 refine Zap ?_
 refine Zae (.pointer (some ⟨g12, 0, none⟩)) (fun _ => by kernel_rfl) ?_
 exact ⟨_, rfl, ⟨g12, gK, gU, rfl, ⟨⟨_, hr14, ⟨rfl, hd, hdb⟩⟩, hK, hU, hKU, trivial, hok⟩, hzg12, hzK, hzU⟩, hB⟩
set_option maxHeartbeats 1000000 in
theorem Zxy (hd : d.length = 32) (hdb : isB d) (hN : NsA w a n c ns) (hn : n ≤ 9223372036854775807) (he : d = dref [128]) : Calls Tryz.prog 6 #[.agg (B8 d), .slice a n c] w fun e w' => ∃ v', e = .returned v' ∧ RNw w no (knP ns []) [] v' w' := by
 have hok := Zp9 ns hN.isB (kn := []) (fun x hx => by cases hx)
 have hB : Bl w w := Bl.refl w
 refine Zaj Tryz.func6 rfl 20 rfl ?_
 show CW _ _ _ _ _ _ _ [(0, .agg (B8 d)), (1, .slice a n c)] _
 refine Zac ?_
 refine Zaa ?_
 refine Zar 2 (B8 d) 23 (fun _ => by kernel_rfl) (fun _ => by kernel_rfl) ?_
 intro w1 g2 hn3
 have hzg2 : w.heap.size ≤ g2 := by have := hB.size; have := hn3.hg; omega
 replace hB := hB.go hn3.below
 replace hN := hN.go hn3.below
 have hr4 : Rw g2 w1 (B8 d) 23 := hn3.row
 refine rp 4 (.pointer none) ?_
 refine Zad ?_
 refine Zab ?_
 refine Zac ?_
 refine Zaa ?_
 refine rp 6 (.slice a n c) ?_
 refine Zak 7 14 #[.slice a n c] (fun _ => by kernel_rfl) (fun _ => by kernel_rfl) (R := fun u w' => (∃ gK, u = .map (some gK) ∧ MKn w' gK (knP ns []) ∧ w1.heap.size ≤ gK) ∧ Bl w1 w') (Zjy hN hn) ?_
 rintro _ w5 ⟨⟨gK, rfl, hK6, hz7⟩, hb8⟩
 have hzK : w.heap.size ≤ gK := by have := hB.size; omega
 replace hB := hB.go hb8
 replace hN := hN.go hb8
 replace hr4 := hr4.go hb8
 have hK := hK6
 have hKlt := hK.lt
 refine Zop 8 (fun _ => by kernel_rfl) (fun _ => by kernel_rfl) ?_
 intro w9 gU hn10
 have hzU : w.heap.size ≤ gU := by have := hB.size; have := hn10.hg; omega
 have hKU : gK ≠ gU := by have := hn10.hg; omega
 replace hB := hB.go hn10.below
 replace hN := hN.go hn10.below
 replace hr4 := hr4.go hn10.below
 replace hK := hK.keep (Nt.below hn10.below) (Below.block hn10.below _ hK.lt)
 have hU : MUs w9 gU [] := ⟨_, _, hn10.row, ⟨rfl, fun x hx => by cases hx⟩, ⟨fun x hx => (by cases hx), List.nodup_nil⟩⟩
 have hUlt := hU.lt
 refine rp 9 (.agg #[.nilIface, .map (some gK), .map (some gU)]) ?_
 refine Zar 10 (#[.nilIface, .map (some gK), .map (some gU)]) 49 (fun _ => by kernel_rfl) (fun _ => by kernel_rfl) ?_
 intro w11 g12 hn13
 have hlg2g12 : g2 < g12 := by have := hr4.lt; have := hn13.hg; omega
 have hlgKg12 : gK < g12 := by have := hK.lt; have := hn13.hg; omega
 have hlgUg12 : gU < g12 := by have := hU.lt; have := hn13.hg; omega
 have hzg12 : w.heap.size ≤ g12 := by have := hB.size; have := hn13.hg; omega
 replace hB := hB.go hn13.below
 replace hN := hN.go hn13.below
 replace hr4 := hr4.go hn13.below
 replace hK := hK.keep (Nt.below hn13.below) (Below.block hn13.below _ hK.lt)
 replace hU := hU.keep (Below.block hn13.below _ hU.lt)
 have hr14 : Rw g12 w11 (#[.nilIface, .map (some gK), .map (some gU)]) 49 := hn13.row
 refine rp 5 (.pointer (some ⟨g12, 0, none⟩)) ?_
 refine Zad ?_
 refine Zab ?_
 refine Zac ?_
 refine Zac ?_
 refine Zbd (fun v => Rw g2 v (B8 d) 23) (by kernel_rfl) (hr4) ?_
 replace hB := hB.go (Below.refl _ _).drew
 replace hN := hN.go (Below.refl _ _).drew
 replace hr4 := hr4.go (Below.refl _ _).drew
 replace hK := hK.keep (Nt.below (Below.refl _ _).drew) (Below.block (Below.refl _ _).drew _ hK.lt)
 replace hU := hU.keep (Below.block (Below.refl _ _).drew _ hU.lt)
 replace hr14 := hr14.go (Below.refl _ _).drew
 refine dt 0 11 (.agg (B8 d)) (fun v hv _ => Za2 23 _ _ _ _ _ _ rfl (by kernel_rfl) hv Tryz.underlying23 rfl (Zbm hd)) hr4 ?_
 refine Zas [1] (by kernel_rfl) (by simp) ?_
 refine Za5 1 12 15 #[] rfl (fun _ => by kernel_rfl) (fun _ => by kernel_rfl) (R := RVl w11.drew (.agg (B8 (dref [128])))) (Ziz w11.drew) (fun u w' h9 => hr4.go h9.2) ?_ Zaz
 rintro _ w15 ⟨rfl, hb16⟩
 replace hB := hB.go hb16
 replace hN := hN.go hb16
 replace hr4 := hr4.go hb16
 replace hK := hK.keep (Nt.below hb16) (Below.block hb16 _ hK.lt)
 replace hU := hU.keep (Below.block hb16 _ hU.lt)
 replace hr14 := hr14.go hb16
 refine dt 2 13 (.bool false) (fun v hv _ => Zal (Zpi (xs := d) (ys := dref [128]) rfl (by kernel_rfl) (by kernel_rfl) hd (dref_len _)) (congrArg Value.bool (show (!(d == dref [128])) = false from by simp [he]))) hr4 ?_
 refine Za6 (by kernel_rfl) ?_
 refine Zab ?_
 refine Zaf (fun _ => by kernel_rfl) ?_
 refine Zam ?_
 refine Zab ?_
 refine Zac ?_
 refine Zaa ?_
 refine rp 19 (.pointer (some ⟨g12, 0, none⟩)) ?_
 refine rp 4 (.pointer (some ⟨g12, 0, none⟩)) ?_
 refine Zad ?_
 refine Zab ?_
 refine Zap ?_
 refine Zae (.pointer (some ⟨g12, 0, none⟩)) (fun _ => by kernel_rfl) ?_
 exact ⟨_, rfl, ⟨g12, gK, gU, rfl, ⟨⟨_, hr14, rfl⟩, hK, hU, hKU, trivial, hok⟩, hzg12, hzK, hzU⟩, hB⟩
theorem Zkw (hd : d.length = 32) (hdb : isB d) (hN : NsA w a n c ns) (hn : n ≤ 9223372036854775807) : Calls Tryz.prog 6 #[.agg (B8 d), .slice a n c] w fun e w' => ∃ v', e = .returned v' ∧ RNw w (topP d) (knP ns []) [] v' w' := by
 unfold topP
 by_cases he : d = dref [128]
 ·rw [if_pos he]; exact Zxy hd hdb hN hn he
 ·rw [if_neg he]; exact Zvp hd hdb hN hn he
end Go.Proofs.YtchgejomcgoaeaaGreat
