/- What refItem answers. -/
import Derived.Test.YtchgejomcgoaeaaGreatG20
import Derived.Test.YtchgejomcgoaeaaGreatG21
import Derived.Test.YtchgejomcgoaeaaGreatG13
import Derived.Test.YtchgejomcgoaeaaGreatG17
import Derived.Maps.Keyed
set_option linter.unusedVariables false
set_option maxRecDepth 100000
namespace Go.Proofs.YtchgejomcgoaeaaGreat
open Go.RowKit
variable {w : World} {g : Nat} {b : List Int} {x : RV}
theorem Znn (h : Row g w b) (o : Nat) : w.frozen? ⟨g, o, none⟩ = false := frozen_of_row _ _ _ _ _ h
theorem Zdu {P : Nat → Prop} {n : Nat} (h : Row g w b) (hl : b.length = n) (hb : isB b) (hn : n ≤ 140737488351232) (hP : P g) : LiesP P w (.mk false b []) ⟨false, some ⟨g, 0, none⟩, n, n, none, 0, 0⟩ :=
  liesP_eq.2 ⟨⟨rfl, row_ag (n := n) h hl hb (Nat.le_trans hn (by omega)), rfl, Nat.le_refl _, Nat.zero_le _, ⟨hn, Nat.zero_le _⟩, fun g' off e _ => by cases e; exact ⟨hP, Znn h⟩⟩, Zbs⟩
theorem Zni (P : Nat → Prop) (w : World) : LiesP P w t0 ⟨false, none, 0, 0, none, 0, 0⟩ :=
  liesP_eq.2 ⟨⟨rfl, ⟨.inl ⟨rfl, rfl⟩, fun _ => ⟨rfl, rfl⟩, rfl, fun x hx => by cases hx⟩, rfl, Nat.le_refl _, Nat.zero_le _, ⟨Nat.zero_le _, Nat.zero_le _⟩, fun g off e => by cases e⟩, Zbs⟩
structure Ri (w v : World) (x : RV) : Prop where
  row : v.heap[w.heap.size + 1]? = some (.cells #[.bool false, .slice none 0 0, .slice none 0 0] 76)
  bx : RBx w.heap.size v x
  bel : Below w.heap.size w v
  sz : w.heap.size + 2 ≤ v.heap.size
theorem Ri.go {v v' : World} (h : Ri w v x) (hb : Below v.heap.size v v') : Ri w v' x := ⟨Below.row hb h.row, h.bx.go hb, below_go h.bel hb, Nat.le_trans h.sz hb.size⟩
theorem Zxj (w : World) (x : RV) (hl : x.d.length = 32) : Ri w ((w.alloc (.cells x.cells.toArray 65)).alloc (.cells #[.bool false, .slice none 0 0, .slice none 0 0] 76)) x := by
  have s1 : (w.alloc (.cells x.cells.toArray 65)).heap.size = w.heap.size + 1 := by simp
  refine ⟨?_, (Zkt w x hl).go (below_new _ _), below_go (below_new w _) (below_new _ _), by simp⟩
  have := heap_alloc_new (w.alloc (.cells x.cells.toArray 65)) (.cells #[.bool false, .slice none 0 0, .slice none 0 0] 76)
  rwa [s1] at this
theorem Ri.x0 {v : World} (h : Ri w v x) : v.cell? ⟨w.heap.size + 1, 0, none⟩ = some (.bool false) := by rw [cell_of_row _ _ _ _ _ _ h.row]; rfl
theorem Ri.x1 {v : World} (h : Ri w v x) : v.cell? ⟨w.heap.size + 1, 1, none⟩ = some (.slice none 0 0) := by rw [cell_of_row _ _ _ _ _ _ h.row]; rfl
theorem Ri.x2 {v : World} (h : Ri w v x) : v.cell? ⟨w.heap.size + 1, 2, none⟩ = some (.slice none 0 0) := by rw [cell_of_row _ _ _ _ _ _ h.row]; rfl
theorem Ri.xf {v : World} (h : Ri w v x) : ∀ o, v.frozen? ⟨w.heap.size + 1, o, none⟩ = false := fun o => frozen_of_row _ _ _ _ _ h.row
def IPost (w : World) (t : T) : Ending → World → Prop := fun e w' => (∃ y : V, e = .returned (.agg #[.bool y.l, .slice y.ba y.bn y.bc, .slice y.ia y.m y.ic]) ∧ LiesP (fun b => w.heap.size ≤ b) w' t y) ∧ Below w.heap.size w w'
theorem Zex {v : World} {t : T} {y : V} (h : Ri w v x) (hy : LiesP (fun b => w.heap.size + 2 ≤ b) v t y) :
    IPost w t (.returned (.agg #[.bool y.l, .slice y.ba y.bn y.bc, .slice y.ia y.m y.ic])) (((v.setCell ⟨w.heap.size + 1, 0, none⟩ (.bool y.l)).setCell ⟨w.heap.size + 1, 1, none⟩ (.slice y.ba y.bn y.bc)).setCell ⟨w.heap.size + 1, 2, none⟩ (.slice y.ia y.m y.ic)) :=
  ⟨⟨y, rfl, Zax (fun b hb hlt => ⟨Zcd (by omega) _ _ _, by omega⟩) _ _ hy⟩, Zbx h.bel (by omega) _ _ _⟩
set_option maxHeartbeats 4000000 in
theorem Zgg (K : Nat → Prop) (x : RV) (r : PR) (w : World) (h : RefAt K w x r) :
    Calls Tryz.prog 101 #[.agg x.cells.toArray] w (IPost w (refItemP r)) := by
  have HRI := Hid.mk (Zxj w x h.len)
  have HH := Hid.mk h
  have HLX := Hid.mk h.len
  obtain ⟨res, hres⟩ : ∃ res, refItemP r = res := ⟨_, rfl⟩
  rw [hres]
  unfold refItemP at hres
  rw [← h.1] at hres
  have HRES := Hid.mk hres
  clear h hres
  go_enter Tryz.func101, Tryz.ntmps101
  go_upto_region 1 with fail
  refine gen_w (p := fun v => Code.wp _ _ _ _ v) (q := fun v => Ri w v x) HRI.out ?_
  clear HRI
  intro v R0
  have c0 := R0.bx.c0
  have c33 := R0.bx.c33
  have HR0 := Hid.mk R0
  clear R0
  by_cases h1 : x.k = 1
  · have hr := HRES.out
    rw [if_pos h1] at hr
    have HCD := Hid.mk (Zh4 x.a x.n x.c r.i v (HH.out.2.2.2.2.1.at HR0.out.bel) HH.out.2.2.2.2.2.1)
    have HR := Hid.mk hr
    clear hr HRES
    go_wp2_with fail
    refine HCD.out.mono ?_
    intro e w1 hp
    obtain ⟨hb1, hp⟩ := hp
    have HR1 := Hid.mk (HR0.out.go hb1)
    have HS0 := Hid.mk HR0.out.sz
    have hr := HR.out
    cases hq : decP r.i with
    | bad er =>
      rw [hq] at hp hr
      have hr : t0 = res := hr
      subst hr
      obtain ⟨rfl, her⟩ := hp
      clear hb1 hq her
      go_upto_region 4 with fail
      refine gen_w (p := fun v => Code.wp _ _ _ _ v) (q := fun v => Ri w v x ∧ B1 w1.heap.size v ⟨false, none, 0, 0, none, 0, 0⟩) ⟨HR1.out.go (below_new w1 _), Zfs w1 ⟨false, none, 0, 0, none, 0, 0⟩⟩ ?_
      rintro v2 ⟨R2, B2⟩
      have x0 := R2.x0
      have x1 := R2.x1
      have x2 := R2.x2
      have xf := R2.xf
      have d0 := B2.c0
      have d1 := B2.c1
      have d2 := B2.c2
      have HR2 := Hid.mk R2
      clear R2 B2 c0 c33
      go_wp2_with fail
      have hr := put3 HR2.out.row (.bool false) (.slice none 0 0) (.slice none 0 0)
      refine bodyPost_ret (results_cell_row Tryz.results101 _ _ (w.heap.size + 1) 76 _ (0, 0) _ rfl hr Tryz.underlying76 rfl (by kernel_rfl)) rfl ?_
      exact Zex (y := ⟨false, none, 0, 0, none, 0, 0⟩) HR2.out (Zni _ _)
    | ok t =>
      rw [hq] at hp hr
      have hr : t = res := hr
      subst hr
      obtain ⟨y, rfl, hy⟩ := hp
      have HY := Hid.mk (show LiesP (fun b => w.heap.size + 2 ≤ b) w1 t y from Zax (fun b hb hlt => ⟨rfl, by have := HS0.out; omega⟩) _ _ hy)
      clear hb1 hq hy
      go_upto_region 4 with fail
      refine gen_w (p := fun v => Code.wp _ _ _ _ v) (q := fun v => Ri w v x ∧ B1 w1.heap.size v y ∧ LiesP (fun b => w.heap.size + 2 ≤ b) v t y) ⟨HR1.out.go (below_new w1 _), Zfs w1 _, Zax (fun b hb hlt => ⟨heap_alloc_old _ _ hlt, hb⟩) _ _ HY.out⟩ ?_
      rintro v2 ⟨R2, B2, L2⟩
      have x0 := R2.x0
      have x1 := R2.x1
      have x2 := R2.x2
      have xf := R2.xf
      have d0 := B2.c0
      have d1 := B2.c1
      have d2 := B2.c2
      have HR2 := Hid.mk R2
      have HL2 := Hid.mk L2
      clear R2 B2 L2 c0 c33
      go_wp2_with fail
      have hr := put3 HR2.out.row (.bool y.l) (.slice y.ba y.bn y.bc) (.slice y.ia y.m y.ic)
      refine bodyPost_ret (results_cell_row Tryz.results101 _ _ (w.heap.size + 1) 76 _ (0, 0) _ rfl hr Tryz.underlying76 rfl (by kernel_rfl)) rfl ?_
      exact Zex HR2.out HL2.out
  · by_cases h2 : x.k = 2
    · have hr := HRES.out
      rw [if_neg h1, if_pos h2] at hr
      subst hr
      have hag : Ag v (some ⟨w.heap.size, 1, none⟩) 32 32 r.d := by
        have hd := HR0.out.bx.digest
        rw [HH.out.2.1] at hd
        refine ⟨.inr ⟨w.heap.size, 1, rfl, HH.out.2.2.2.1, by omega, by omega, by unfold maxLen; omega, fun j hj => ?_⟩, (fun e => by cases e), HH.out.2.2.2.1, HH.out.2.2.1⟩
        exact hd j _ (by rw [List.getElem?_map, List.getD, List.getElem?_eq_getElem hj]; rfl)
      have HTX := Hid.mk (Zcx (some ⟨w.heap.size, 1, none⟩) 32 32 r.d v hag (by omega))
      have HS0 := Hid.mk HR0.out.sz
      have e1 : (x.k == 1) = false := by simp [h1]
      clear hag
      go_wp2_with fail
      refine HTX.out.mono ?_
      rintro e w1 ⟨rfl, hrow, hb1⟩
      have R1 := HR0.out.go hb1
      have x0 := R1.x0
      have x1 := R1.x1
      have x2 := R1.x2
      have xf := R1.xf
      have HR1 := Hid.mk R1
      have HY := Hid.mk (Zdu (P := fun b => w.heap.size + 2 ≤ b) hrow HH.out.2.2.2.1 HH.out.2.2.1 (by omega) (by have := HS0.out; omega))
      clear hrow hb1 R1
      go_wp2_with fail
      have hr := put3 HR1.out.row (.bool false) (.slice (some ⟨v.heap.size + 1, 0, none⟩) 32 32) (.slice none 0 0)
      refine bodyPost_ret (results_cell_row Tryz.results101 _ _ (w.heap.size + 1) 76 _ (0, 0) _ rfl hr Tryz.underlying76 rfl (by kernel_rfl)) rfl ?_
      exact Zex (y := ⟨false, some ⟨v.heap.size + 1, 0, none⟩, 32, 32, none, 0, 0⟩) HR1.out HY.out
    · have hr := HRES.out
      rw [if_neg h1, if_neg h2] at hr
      subst hr
      have hag : Ag v none 0 0 [] := ⟨.inl ⟨rfl, rfl⟩, fun _ => ⟨rfl, rfl⟩, rfl, fun x hx => by cases hx⟩
      have HTX := Hid.mk (Zcx none 0 0 [] v hag (by omega))
      have HS0 := Hid.mk HR0.out.sz
      have e1 : (x.k == 1) = false := by simp [h1]
      have e2 : (x.k == 2) = false := by simp [h2]
      clear hag
      go_wp2_with fail
      refine HTX.out.mono ?_
      rintro e w1 ⟨rfl, hrow, hb1⟩
      have R1 := HR0.out.go hb1
      have x0 := R1.x0
      have x1 := R1.x1
      have x2 := R1.x2
      have xf := R1.xf
      have HR1 := Hid.mk R1
      have HY := Hid.mk (Zdu (P := fun b => w.heap.size + 2 ≤ b) (n := 0) hrow rfl (fun x hx => by cases hx) (by omega) (by have := HS0.out; omega))
      clear hrow hb1 R1
      go_wp2_with fail
      have hr := put3 HR1.out.row (.bool false) (.slice (some ⟨v.heap.size + 1, 0, none⟩) 0 0) (.slice none 0 0)
      refine bodyPost_ret (results_cell_row Tryz.results101 _ _ (w.heap.size + 1) 76 _ (0, 0) _ rfl hr Tryz.underlying76 rfl (by kernel_rfl)) rfl ?_
      exact Zex (y := ⟨false, some ⟨v.heap.size + 1, 0, none⟩, 0, 0, none, 0, 0⟩) HR1.out HY.out
end Go.Proofs.YtchgejomcgoaeaaGreat
namespace Go.Proofs.YtchgejomcgoaeaaGreat
open Go.RowKit
open Di (dref)
variable {ds : List Int}
theorem Znx (h : ds.length = 32) : (B8 z32).size = (B8 ds).size := by rw [B8_size, B8_size, h]; rfl
theorem Zbm (h : ds.length = 32) : (Tryz.prog.info? 23).map (·.size) = some (B8 ds).size := by rw [Zv7, B8_size, h]
theorem B8_one (bs : List Int) : (B8 bs).all (·.oneCell') = true := all_oneCell_toArray (B8_one2 bs)
theorem Zye : encP t0 = ([128], 0) := by decide +kernel
set_option maxHeartbeats 2000000 in
theorem Zhg (w : World) : Calls Tryz.prog 17 #[] w fun e w' => e = .returned (.agg (B8 (dref [128]))) ∧ Below w.heap.size w w' := by
  have HOF := Hid.mk (fun (v : World) => Zlv (some ⟨v.heap.size, 0, none⟩) 1 1 [128] (v.alloc (.cells #[.int .u8 128] 5)) (Ni.row_ag (show Ni.Row v.heap.size (v.alloc (.cells #[.int .u8 128] 5)) [128] from heap_alloc_new _ _) rfl (fun x hx => by simp at hx; omega) (show (1 : Nat) ≤ 9223372036854775807 by decide)) (by omega))
  have HDL := Hid.mk (dref_len [128])
  obtain ⟨ds, hds⟩ : ∃ ds, dref [128] = ds := ⟨_, rfl⟩
  rw [hds] at HOF HDL ⊢
  clear hds
  go_enter Tryz.func17, Tryz.ntmps17
  go_upto_region 1 with fail
  refine gen_w (p := fun v => Code.wp _ _ _ _ v) (q := fun v => v.heap[w.heap.size]? = some (.cells (B8 z32) 23) ∧ Below w.heap.size w v) ⟨heap_alloc_new _ _, below_new _ _⟩ ?_
  rintro v ⟨hrow, hb⟩
  have HROW := Hid.mk hrow
  have HB := Hid.mk hb
  clear hrow hb
  go_wp2_with fail
  refine (HOF.out v).mono ?_
  rintro e w1 ⟨rfl, hb1⟩
  have HR1 := Hid.mk (Below.row (below_go (below_new v _) hb1) HROW.out)
  have HB1 := Hid.mk (below_go HB.out (below_go (below_new v _) hb1))
  clear hb1
  go_wp2_with (first | refine wpList_store_row rfl 23 _ _ rfl _ (B8 ds) rfl rfl 23 _ HR1.out (Zbm HDL.out) (Znx HDL.out) (B8_one _) ?_)
  refine bodyPost_ret (results_cell_row Tryz.results17 _ _ w.heap.size 23 (B8 ds) (0, 0) _ rfl (setRow_heap _ _ _ _ _ _ HR1.out) Tryz.underlying23 rfl (Zbm HDL.out)) rfl ?_
  exact ⟨rfl, Below.setRow HB1.out (Nat.le_refl _) _⟩
set_option maxHeartbeats 2000000 in
theorem Zi1 (w : World) : Calls Tryz.prog 15 #[] w fun e w' => e = .returned (.agg (B8 (dref [128]))) ∧ Below w.heap.size w w' := by
  have HDL := Hid.mk (dref_len [128])
  have HOF := Hid.mk (fun (v : World) (a : Option Addr) (c : Nat) (h : Ag v a 1 c [128]) => Zk9 a 1 c [128] v h (by omega))
  obtain ⟨ds, hds⟩ : ∃ ds, dref [128] = ds := ⟨_, rfl⟩
  rw [hds] at HOF HDL ⊢
  clear hds
  have HTX := Hid.mk (fun v => Zcx none 0 0 [] v ⟨.inl ⟨rfl, rfl⟩, fun _ => ⟨rfl, rfl⟩, rfl, fun x hx => by cases hx⟩ (by omega))
  go_enter Tryz.func15, Tryz.ntmps15
  go_upto_region 1 with fail
  refine gen_w (p := fun v => Code.wp _ _ _ _ v) (q := fun v => v.heap[w.heap.size]? = some (.cells (B8 z32) 23) ∧ Below w.heap.size w v) ⟨heap_alloc_new _ _, below_new _ _⟩ ?_
  rintro v ⟨hrow, hb⟩
  have HROW := Hid.mk hrow
  have HB := Hid.mk hb
  clear hrow hb
  go_wp2_with fail
  refine (HTX.out v).mono ?_
  rintro e w1 ⟨rfl, hr1, hb1⟩
  have hlies := Zcn _ _ (Zdu (P := fun _ => True) (n := 0) hr1 rfl (fun x hx => by cases hx) (by omega) trivial)
  have hen := Zfe (.mk false [] []) ⟨false, some ⟨v.heap.size + 1, 0, none⟩, 0, 0, none, 0, 0⟩ w1 hlies
  rw [show encP (.mk false [] []) = ([128], 0) from Zye] at hen
  have HEN := Hid.mk hen
  have HB1 := Hid.mk (below_go HB.out hb1)
  have HR1 := Hid.mk (Below.row hb1 HROW.out)
  clear hr1 hb1 hlies hen HROW HB
  go_wp2_with fail
  refine HEN.out.mono ?_
  rintro e w2 ⟨⟨a, m, c, rfl, hag, -⟩, hb2⟩
  have hm : m = 1 := hag.l.symm
  subst hm
  have HO2 := Hid.mk (HOF.out w2 a c hag)
  have HB2 := Hid.mk (below_go HB1.out hb2)
  have HR2 := Hid.mk (Below.row hb2 HR1.out)
  clear hag hb2
  go_wp2_with fail
  refine HO2.out.mono ?_
  rintro e w3 ⟨rfl, hb3⟩
  have HR3 := Hid.mk (Below.row hb3 HR2.out)
  have HB3 := Hid.mk (below_go HB2.out hb3)
  clear hb3
  go_wp2_with (first | refine wpList_store_row rfl 23 _ _ rfl _ (B8 ds) rfl rfl 23 _ HR3.out (Zbm HDL.out) (Znx HDL.out) (B8_one _) ?_)
  refine bodyPost_ret (results_cell_row Tryz.results15 _ _ w.heap.size 23 (B8 ds) (0, 0) _ rfl (setRow_heap _ _ _ _ _ _ HR3.out) Tryz.underlying23 rfl (Zbm HDL.out)) rfl ?_
  exact ⟨rfl, Below.setRow HB3.out (Nat.le_refl _) _⟩
end Go.Proofs.YtchgejomcgoaeaaGreat
namespace Go.Proofs.YtchgejomcgoaeaaGreat
open Go.RowKit
open Go.ChangeMaps (setBlock)
open Di (dref)
open Pt
variable {K : Nat → Prop} {w w' : World} {a : Option Addr} {n c g m clock : Nat} {vs : Nat → Value} {k : Nat → Pt} {o : Obj} {es : List MapEntry}
abbrev An : Nat → Prop := fun _ => True
theorem Sk.any {bs : List Int} (h : Sk K w a n c bs) : Sk An w a n c bs := ⟨h.ag, fun _ _ _ => trivial⟩
theorem Ag.sk {bs : List Int} (h : Ag w a n c bs) : Sk An w a n c bs := ⟨h, fun _ _ _ => trivial⟩
def ThA (w : World) : Pt → Value → Prop
  | no, v => v = .nilIface
  | st d, v => v = .iface 50 (.agg (B8 d)) ∧ d.length = 32 ∧ isB d
  | leaf p x, v => ∃ a n c a' n' c', v = .iface 110 (.agg #[.slice a n c, .slice a' n' c']) ∧ Sk An w a n c p ∧ Sk An w a' n' c' x ∧ n' ≤ 256 ∧ n ≤ 140737488351232
  | ext p t, v => ∃ a n c u, v = .iface 113 (.agg #[.slice a n c, u]) ∧ Sk An w a n c p ∧ n ≤ 140737488351232 ∧ ThA w t u
  | br k x, v => ∃ vs a n c, v = .iface 116 (.agg (brc vs (.slice a n c))) ∧ (∀ i, i < 16 → ThA w (k i) (vs i)) ∧ Sk An w a n c x ∧ n ≤ 256
def HasB (o : Obj) : Prop := match o with
  | .cells cs _ _ => ∃ (j : Nat) (x : Int), cs[j]? = some (Value.int .u8 x)
  | _ => False
def Nt (w w' : World) : Prop := ∀ (g j : Nat) (x : Int), w.cell? ⟨g, j, none⟩ = some (.int .u8 x) → w'.cell? ⟨g, j, none⟩ = some (.int .u8 x)
theorem Nt.trans {w1 w2 w3 : World} (h : Nt w1 w2) (h2 : Nt w2 w3) : Nt w1 w3 := fun g j x a => h2 g j x (h g j x a)
theorem Nt.below (h : Below w.heap.size w w') : Nt w w' := fun g j x a => (World.cell?_of_block (w := w) (h.block g (block_lt_of_cell a))).trans a
theorem Zkc {o : Nat} {x : Int} (h : w.cell? ⟨g, o, none⟩ = some (.int .u8 x)) : ∃ ob, w.heap[g]? = some ob ∧ HasB ob := by
  have hlt := block_lt_of_cell h
  refine ⟨w.heap[g]'hlt, Array.getElem?_eq_getElem hlt, ?_⟩
  cases hq : w.heap[g]'hlt with
  | cells cs t fr =>
    have hr : w.heap[g]? = some (.cells cs t fr) := by rw [Array.getElem?_eq_getElem hlt, hq]
    rw [cell_of_row _ _ _ _ _ _ hr] at h
    exact ⟨o, x, h⟩
  | _ => exfalso; simp [World.cell?, Array.getElem?_eq_getElem hlt, hq] at h
theorem Nt.touch (h : Touch g w w') (hn : ∀ o, w.heap[g]? = some o → ¬ HasB o) : Nt w w' := fun k j x a => by
  by_cases e : k = g
  · subst e
    obtain ⟨ob, e1, e2⟩ := Zkc a
    exact absurd e2 (hn ob e1)
  · exact (World.cell?_of_block (w := w) (h.block k (block_lt_of_cell a) e)).trans a
theorem Nt.of_obj (h : ∀ (g : Nat) (o : Obj), w.heap[g]? = some o → HasB o → w'.heap[g]? = some o) : Nt w w' := fun g j x a => by
  obtain ⟨ob, e1, e2⟩ := Zkc a
  exact (World.cell?_of_block (w := w) ((h g ob e1 e2).trans e1.symm)).trans a
theorem Nt.tou {v v' : World} (h : Nt w v) (ht : Touch g v v') (hg : w.heap.size ≤ g) : Nt w v' := fun k j x a => by
  have hlt : k < w.heap.size := block_lt_of_cell a
  have hc := h k j x a
  exact (World.cell?_of_block (w := v) (ht.block k (block_lt_of_cell hc) (by omega))).trans hc
theorem Nt.cells {cs cs' : Array Value} {T T' : TypeId} {fr fr' : Nat × Nat} (h : w.heap[g]? = some (.cells cs T fr)) (h' : w'.heap[g]? = some (.cells cs' T' fr')) (ht : Touch g w w') (hc : ∀ (j : Nat) (x : Int), cs[j]? = some (Value.int .u8 x) → cs'[j]? = some (Value.int .u8 x)) : Nt w w' := fun k j x a => by
  by_cases e : k = g
  · subst e
    rw [cell_of_row _ _ _ _ _ _ h] at a
    rw [cell_of_row _ _ _ _ _ _ h']
    exact hc j x a
  · exact (World.cell?_of_block (w := w) (ht.block k (block_lt_of_cell a) e)).trans a
theorem Ag.nt {bs : List Int} (h : Ag w a n c bs) (hn : Nt w w') : Ag w' a n c bs := by
  refine ⟨?_, h.nil, h.l, h.b⟩
  rcases h.i with h0 | ⟨g, off, h1, h2, h3, h4, h5, h6⟩
  · exact .inl h0
  · exact .inr ⟨g, off, h1, h2, h3, h4, h5, fun j hj => hn g _ _ (h6 j hj)⟩
theorem Sk.nt {bs : List Int} (h : Sk K w a n c bs) (hn : Nt w w') : Sk K w' a n c bs := ⟨h.ag.nt hn, h.k⟩
theorem ThA.nt (hn : Nt w w') : ∀ {t : Pt} {v : Value}, ThA w t v → ThA w' t v := by
  intro t
  induction t with
  | no => intro v h; exact h
  | st d => intro v h; exact h
  | leaf p x => rintro v ⟨a, n, c, a', n', c', h1, h2, h3, h4, h5⟩; exact ⟨a, n, c, a', n', c', h1, h2.nt hn, h3.nt hn, h4, h5⟩
  | ext p t ih => rintro v ⟨a, n, c, u, h1, h2, h3, h4⟩; exact ⟨a, n, c, u, h1, h2.nt hn, h3, ih h4⟩
  | br k x ih => rintro v ⟨vs, a, n, c, h1, h2, h3, h4⟩; exact ⟨vs, a, n, c, h1, fun i hi => ih i (h2 i hi), h3.nt hn, h4⟩
theorem ThA.go {t : Pt} {v : Value} (h : ThA w t v) (hb : Below w.heap.size w w') : ThA w' t v := h.nt (Nt.below hb)
theorem ThA.one {t : Pt} {v : Value} (h : ThA w t v) : v.oneCell' = true := by
  cases t with
  | no => rw [show v = .nilIface from h]; rfl
  | st d => rw [h.1]; rfl
  | leaf p x => obtain ⟨a, n, c, a', n', c', rfl, _⟩ := h; rfl
  | ext p t => obtain ⟨a, n, c, u, rfl, _⟩ := h; rfl
  | br k x => obtain ⟨vs, a, n, c, rfl, _⟩ := h; rfl
theorem ThA.cells {t : Pt} {v : Value} (h : ThA w t v) : v.cells = #[v] := by
  cases t with
  | no => rw [show v = .nilIface from h]; rfl
  | st d => rw [h.1]; rfl
  | leaf p x => obtain ⟨a, n, c, a', n', c', rfl, _⟩ := h; rfl
  | ext p t => obtain ⟨a, n, c, u, rfl, _⟩ := h; rfl
  | br k x => obtain ⟨vs, a, n, c, rfl, _⟩ := h; rfl
theorem ThA.u8 {t : Pt} {v : Value} (h : ThA w t v) (x : Int) : v ≠ .int .u8 x := by
  cases t with
  | no => rw [show v = .nilIface from h]; exact fun e => by cases e
  | st d => rw [h.1]; exact fun e => by cases e
  | leaf p x => obtain ⟨a, n, c, a', n', c', rfl, _⟩ := h; exact fun e => by cases e
  | ext p t => obtain ⟨a, n, c, u, rfl, _⟩ := h; exact fun e => by cases e
  | br k x => obtain ⟨vs, a, n, c, rfl, _⟩ := h; exact fun e => by cases e
def KA (w : World) (k : Nat → Pt) (vs : Nat → Value) : Prop := ∀ i, i < 16 → ThA w (k i) (vs i)
theorem Zwl {s : Value} {j : Nat} {v : Value} (h : (brc vs s)[j]? = some v) : (∃ i, i < 16 ∧ v = vs i) ∨ v = s := by
  match j with
  | 0 | 1 | 2 | 3 | 4 | 5 | 6 | 7 | 8 | 9 | 10 | 11 | 12 | 13 | 14 | 15 => exact .inl ⟨_, by omega, (Option.some.inj h).symm⟩
  | 16 => exact .inr (Option.some.inj h).symm
  | n + 17 => simp [brc] at h
theorem KA.put (h : KA w k vs) {i : Nat} {t : Pt} {v : Value} (ht : ThA w t v) : KA w (Pt.upd k i t) (updv vs i v) := fun j hj => by
  unfold Pt.upd updv
  by_cases e : j = i
  · rw [if_pos e, if_pos e]; exact ht
  · rw [if_neg e, if_neg e]; exact h j hj
theorem KA.none (w : World) : KA w nk (fun _ => .nilIface) := fun _ _ => rfl
theorem KA.nt (h : KA w k vs) (hn : Nt w w') : KA w' k vs := fun i hi => (h i hi).nt hn
theorem KA.go (h : KA w k vs) (hb : Below w.heap.size w w') : KA w' k vs := h.nt (Nt.below hb)
def findI (d : List Int) : List (List Int) → Option Nat
  | [] => none
  | x :: r => if x = d then some 0 else (findI d r).map (· + 1)
def Keys (es : List MapEntry) (ds : List (List Int)) : Prop := es.map (·.key) = ds.map (fun d => Value.agg (B8 d)) ∧ ∀ x ∈ ds, x.length = 32
theorem Zh6 (xs : List Int) (hx : xs.length = 32) (em : Bool) (m : Nat) (w : World) : ∀ (n k : Nat), k + n = 32 →
    (forIn (m := Sem) (List.range' k n) PUnit.unit fun i __s => do
            let __do_lift ← sizeOf 5
            let __do_lift ← part 5 (B8 xs) (i * __do_lift)
            Instr.checkKey em (m + 1) 5 __do_lift
            pure (ForInStep.yield PUnit.unit)).run Tryz.prog w = .ok PUnit.unit w
  | 0, k, hk => by simp
  | n + 1, k, hk => by
    have ih := Zh6 xs hx em m w n (k + 1) (by omega)
    have hs : (Tryz.prog.info? 5).map (·.size) = some 1 := by kernel_rfl
    cases hq : Tryz.prog.info? 5 with
    | none => simp [hq] at hs
    | some y =>
      have hy1 : y.size = 1 := by simpa [hq] using hs
      have hlx : k < xs.length := by omega
      have px : (part 5 (B8 xs) (k * 1)).run Tryz.prog w = .ok (.int .u8 (xs.getD k 0)) w := by
        simp only [part, Sem.run_bind, isAgg, run_underlying Tryz.underlying5, Result.andThen_ok, Sem.run_pure, Bool.false_eq_true, if_false, Nat.mul_one, B8_get xs k hlx]
      have pc : (Instr.checkKey em (m + 1) 5 (.int .u8 (xs.getD k 0))).run Tryz.prog w = .ok () w := by
        rw [Instr.checkKey]
        simp only [Sem.run_bind, run_underlying Tryz.underlying5, Result.andThen_ok, Sem.run_pure]
      rw [List.range'_succ, List.forIn_cons]
      simp only [Sem.run_bind, sizeOf, typeInfo, run_program, hq, hy1, Sem.run_pure, Result.andThen_ok, px, pc]
      simp only [sizeOf, typeInfo] at ih
      exact ih
theorem Zb3 (xs : List Int) (hx : xs.length = 32) (em : Bool) (w : World) : (Instr.checkKey em 10000 23 (.agg (B8 xs))).run Tryz.prog w = .ok () w := by
  rw [show (10000 : Nat) = 9998 + 1 + 1 from rfl, Instr.checkKey]
  simp only [Sem.run_bind, run_underlying Tryz.underlying23, Result.andThen_ok]
  rw [Std.Legacy.Range.forIn_eq_forIn_range']
  simp only [Std.Legacy.Range.size]
  rw [show (32 - 0 + 1 - 1) / 1 = 32 from rfl, Zh6 xs hx em 9998 w 32 0 (by omega)]
  simp
theorem Zmy : ∀ (l : List Int) (n : Nat), ((l.map (Value.int .u8)).zip (l.map (Value.int .u8))).all (fun x => match x with | (x, y) => Instr.sameBits n x y) = true
  | [], n => rfl
  | x :: r, n => by
    have ih := Zmy r n
    simp only [List.map_cons, List.zip_cons_cons, List.all_cons, ih, Bool.and_true]
    cases n <;> simp [Instr.sameBits]
theorem Zoo (xs : List Int) : Instr.sameBits 10000 (.agg (B8 xs)) (.agg (B8 xs)) = true := by
  rw [show (10000 : Nat) = 9999 + 1 from rfl, Instr.sameBits]
  simp only [B8, beq_self_eq_true, Bool.true_and]
  exact Zmy xs 9999
theorem stays (xs : List Int) (w : World) : (Instr.keyThatStays (.agg (B8 xs)) (.agg (B8 xs))).run Tryz.prog w = .ok (.agg (B8 xs)) w := by
  unfold Instr.keyThatStays
  rw [if_pos (Zoo xs), Sem.run_pure]
theorem Zq5 (d : List Int) (hd : d.length = 32) (w : World) : ∀ (es : List MapEntry) (ds : List (List Int)) (i : Nat), Keys es ds →
    (Instr.findAsking 23 (.agg (B8 d)) es i).run Tryz.prog w = .ok (match findI d ds with | none => none | some j => (es[j]?).map fun e => (i + j, e.val)) w
  | [], [], i, _ => by simp [Instr.findAsking, findI]
  | e :: es, [], i, h => by simp [Keys] at h
  | [], x :: L, i, h => by simp [Keys] at h
  | e :: es, x :: L, i, h => by
    obtain ⟨h1, h2⟩ := h
    simp only [List.map_cons, List.cons.injEq] at h1
    have ih := Zq5 d hd w es L (i + 1) ⟨h1.2, fun y hy => h2 y (List.mem_cons_of_mem _ hy)⟩
    have hq : (Op.equalIn Op.maxDepth 23 (.agg (B8 d)) (.agg (B8 x))).run Tryz.prog w = .ok (d == x) w := eqD d x hd (h2 x (by simp)) w
    rw [Instr.findAsking]
    simp only [Sem.run_bind, h1.1, Op.equal, hq, Result.andThen_ok]
    unfold findI
    by_cases hx : x = d
    · rw [if_pos hx, show (d == x) = true from by rw [hx]; simp]
      simp
    · rw [if_neg hx, show (d == x) = false from by rw [beq_eq_false_iff_ne]; exact fun e => hx e.symm]
      simp only [Bool.false_eq_true, if_false]
      rw [ih]
      cases findI d L with
      | none => rfl
      | some p => simp only [Option.map_some, List.getElem?_cons_succ]; rw [show i + 1 + p = i + (p + 1) from by omega]
theorem Zf0 (d : List Int) (hd : d.length = 32) (w : World) (es : List MapEntry) (ds : List (List Int)) (h : Keys es ds) :
    (Instr.findKey 23 (.agg (B8 d)) es).run Tryz.prog w = .ok (match findI d ds with | none => none | some j => (es[j]?).map fun e => (j, e.val)) w := by
  have hn : Instr.findNow (.array 32 5) (.agg (B8 d)) es 0 = none ∨ es = [] := by
    cases es with
    | nil => exact .inr rfl
    | cons e r => left; rw [Instr.findNow]; rfl
  unfold Instr.findKey
  simp only [Sem.run_bind, run_underlying Tryz.underlying23, Result.andThen_ok]
  have ha := Zq5 d hd w es ds 0 h
  rcases hn with hn | rfl
  · rw [hn]
    simp only
    rw [ha]
    cases findI d ds with
    | none => rfl
    | some p => simp
  · have : ds = [] := by
      cases ds with
      | nil => rfl
      | cons x r => simp [Keys] at h
    subst this
    rw [Instr.findNow]
    simp [findI]
theorem Zcj {o' : Obj} (h : w.heap[m]? = some o) : (setBlock w m o').heap[m]? = some o' := by
  have hm := lt_of_get h
  simp [setBlock, hm]
theorem Zhc {k : Nat} (h : k ≠ m) : (setBlock w m o).heap[k]? = w.heap[k]? := by
  simp [setBlock, Ne.symm h]
theorem Zbk (w : World) (m : Nat) (o : Obj) : Touch m w (setBlock w m o) := ⟨rfl, rfl, rfl, by simp [setBlock], fun k _ hk => Zhc hk⟩
def EntK (w : World) : List MapEntry → Kn → Prop
  | [], [] => True
  | e :: es, x :: r => e.key = .agg (B8 x.1) ∧ x.1.length = 32 ∧ ThA w x.2 e.val ∧ EntK w es r
  | _, _ => False
theorem EntK.keys : ∀ {es : List MapEntry} {kn : Kn}, EntK w es kn → Keys es (kn.map (·.1))
  | [], [], _ => ⟨rfl, fun x hx => by cases hx⟩
  | e :: es, x :: r, h => by
    obtain ⟨h1, h2⟩ := h.2.2.2.keys
    exact ⟨by simp only [List.map_cons, h.1, h1], fun y hy => by
      rcases List.mem_cons.1 hy with rfl | hy
      · exact h.2.1
      · exact h2 y hy⟩
  | [], _ :: _, h => h.elim
  | _ :: _, [], h => h.elim
theorem EntK.nt (hn : Nt w w') : ∀ {es : List MapEntry} {kn : Kn}, EntK w es kn → EntK w' es kn
  | [], [], _ => trivial
  | e :: es, x :: r, h => ⟨h.1, h.2.1, h.2.2.1.nt hn, h.2.2.2.nt hn⟩
  | [], _ :: _, h => h.elim
  | _ :: _, [], h => h.elim
theorem EntK.find {w : World} {d : List Int} : ∀ {es : List MapEntry} {kn : Kn}, EntK w es kn → (match findI d (kn.map (·.1)) with
    | none => findK d kn = none
    | some j => ∃ e t, es[j]? = some e ∧ findK d kn = some t ∧ ThA w t e.val)
  | [], [], _ => rfl
  | e :: es, x :: r, h => by
    simp only [List.map_cons, findI, findK]
    by_cases hx : x.1 = d
    · rw [if_pos hx, if_pos hx]; exact ⟨e, x.2, rfl, rfl, h.2.2.1⟩
    · rw [if_neg hx, if_neg hx]
      have ih := EntK.find (d := d) h.2.2.2
      cases hq : findI d (r.map (·.1)) with
      | none => rw [hq] at ih; exact ih
      | some j => rw [hq] at ih; simpa using ih
  | [], _ :: _, h => h.elim
  | _ :: _, [], h => h.elim
theorem EntK.push {d : List Int} {t : Pt} {v : Value} {b : Nat} (hd : d.length = 32) (ht : ThA w t v) : ∀ {es : List MapEntry} {kn : Kn}, EntK w es kn → EntK w (es ++ [{ key := .agg (B8 d), val := v, born := b }]) (kn ++ [(d, t)])
  | [], [], _ => ⟨rfl, hd, ht, trivial⟩
  | e :: es, x :: r, h => ⟨h.1, h.2.1, h.2.2.1, h.2.2.2.push hd ht⟩
  | [], _ :: _, h => h.elim
  | _ :: _, [], h => h.elim
def MKn (w : World) (m : Nat) (kn : Kn) : Prop := ∃ es clock, w.heap[m]? = some (.map es clock) ∧ EntK w es.toList kn
def Sta (es : List MapEntry) (clock : Nat) : Prop := (∀ x ∈ es, x.born < clock) ∧ (es.map (·.born)).Nodup
theorem Sta.push (h : Sta es clock) (k v : Value) : Sta (es ++ [{ key := k, val := v, born := clock }]) (clock + 1) := by
  refine ⟨fun x hx => ?_, ?_⟩
  · rcases List.mem_append.1 hx with hx | hx
    · exact Nat.lt_succ_of_lt (h.1 x hx)
    · rw [List.mem_singleton.1 hx]; exact Nat.lt_succ_self _
  · rw [List.map_append, List.nodup_append]
    refine ⟨h.2, by simp, fun a ha b hb e => ?_⟩
    obtain ⟨x, hx, rfl⟩ := List.mem_map.1 ha
    have hbc : b = clock := by simpa using hb
    have := h.1 x hx
    omega
theorem Sta.same {es' : List MapEntry} (h : Sta es clock) (e : es'.map (·.born) = es.map (·.born)) : Sta es' clock := by
  refine ⟨fun x hx => ?_, by rw [e]; exact h.2⟩
  have : x.born ∈ es.map (·.born) := by rw [← e]; exact List.mem_map.2 ⟨x, hx, rfl⟩
  obtain ⟨y, hy, e2⟩ := List.mem_map.1 this
  rw [← e2]; exact h.1 y hy
def MUs (w : World) (m : Nat) (us : List (List Int)) : Prop := ∃ es clock, w.heap[m]? = some (.map es clock) ∧ Keys es.toList us ∧ Sta es.toList clock
theorem Zet {w : World} {m : Nat} {kn : Kn} (h : MKn w m kn) {d : List Int} (hd : d.length = 32) : ∃ v, (∀ (ρ : Operand → Value) (o : Oper) (x y : Operand), o.op = .lookup 44 x y false → ρ x = .map (some m) → ρ y = .agg (B8 d) → (execOp ρ o).run Tryz.prog w = .ok (.value v) w) ∧ (match findK d kn with
    | none => v = .nilIface
    | some t => ThA w t v) := by
  obtain ⟨es, clock, hm, he⟩ := h
  have hf := Zf0 d hd w es.toList _ he.keys
  have hfind := he.find (d := d)
  have hz : (zeroValue 47).run Tryz.prog w = .ok .nilIface w := by
    have hs : (Tryz.prog.info? 47).map (·.zero) = some (some .nilIface) := by kernel_rfl
    cases hq : Tryz.prog.info? 47 with
    | none => simp [hq] at hs
    | some y =>
      have hy : y.zero = some .nilIface := by simpa [hq] using hs
      simp [zeroValue, typeInfo, hq, hy]
  cases hq : findI d (kn.map (·.1)) with
  | none =>
    rw [hq] at hf hfind
    simp only at hf hfind
    refine ⟨.nilIface, fun ρ o x y ho hx hy => ?_, by rw [hfind]⟩
    unfold execOp
    simp [ho, hx, hy, Instr.lookup, run_underlying Tryz.underlying44, MapKept.run_getObj_map hm, Zb3 d hd, hf, hz, Result.andThen]
  | some j =>
    rw [hq] at hf hfind
    simp only at hf hfind
    obtain ⟨e, t, h1, h2, h3⟩ := hfind
    rw [h1] at hf
    refine ⟨e.val, fun ρ o x y ho hx hy => ?_, by rw [h2]; exact h3⟩
    unfold execOp
    simp [ho, hx, hy, Instr.lookup, run_underlying Tryz.underlying44, MapKept.run_getObj_map hm, Zb3 d hd, hf, Result.andThen]
end Go.Proofs.YtchgejomcgoaeaaGreat
