/- What pathNode answers. -/
import Derived.Test.YtalhnnjpjaeakabGreatG24
import Derived.Test.YtalhnnjpjaeakabGreatG20
namespace Go.Proofs.YtalhnnjpjaeakabGreat
open Go.RowKit
open Ni (unpP)
set_option linter.unusedVariables false
set_option maxRecDepth 100000
/-- In memory of which P holds, and that may be written. -/
def OwnP (P : Nat → Prop) (w : World) (g : Nat) : Prop := P g ∧ ∀ o, w.frozen? ⟨g, o, none⟩ = false
/-- What nodeOf and its parts tell; P: what holds of the memory that may be the node's. -/
def NPost (P : Nat → Prop) (w : World) (o : Option PN) : Ending → World → Prop := fun e w' => Below w.heap.size w w' ∧
  match o with
  | none => ∃ y : NV, y.c.d.length = 32 ∧ e = .returned (.tuple #[.agg y.cells.toArray, .bool false])
  | some n => ∃ y : NV, e = .returned (.tuple #[.agg y.cells.toArray, .bool true]) ∧ NodeAt (OwnP P w') w' y n
/-- The two items' boxes and the result's, while pathNode goes on. -/
structure Pn (w v : World) (x y : V) : Prop where
  row : v.heap[w.heap.size + 1 + 1]? = some (.cells nz.cells.toArray 95)
  bx : B1 w.heap.size v x
  by' : B1 (w.heap.size + 1) v y
  bel : Below w.heap.size w v
  sz : w.heap.size + 3 ≤ v.heap.size
end Go.Proofs.YtalhnnjpjaeakabGreat
/- What refItem answers. -/
namespace Go.Proofs.YtalhnnjpjaeakabGreat
open Go.RowKit
set_option linter.unusedVariables false
set_option maxRecDepth 100000
theorem frozen_row {w : World} {g : Nat} {b : List Int} (h : Row g w b) (o : Nat) : w.frozen? ⟨g, o, none⟩ = false := frozen_of_row _ _ _ _ _ h
theorem liesP_txt {P : Nat → Prop} {w : World} {g n : Nat} {b : List Int} (h : Row g w b) (hl : b.length = n) (hb : isB b) (hn : n ≤ 140737488351232) (hP : P g) : LiesP P w (.mk false b []) ⟨false, some ⟨g, 0, none⟩, n, n, none, 0, 0⟩ :=
  liesP_eq.2 ⟨⟨rfl, row_ag (n := n) h hl hb (Nat.le_trans hn (by omega)), rfl, Nat.le_refl _, Nat.zero_le _, ⟨hn, Nat.zero_le _⟩, fun g' off e _ => by cases e; exact ⟨hP, frozen_row h⟩⟩, liesPAll_nil⟩
/-- The reference's box and the result's, while refItem goes on. -/
structure Ri (w v : World) (x : RV) : Prop where
  row : v.heap[w.heap.size + 1]? = some (.cells #[.bool false, .slice none 0 0, .slice none 0 0] 82)
  bx : RBx w.heap.size v x
  bel : Below w.heap.size w v
  sz : w.heap.size + 2 ≤ v.heap.size
/-- What refItem and its like tell: an item in new memory. -/
def IPost (w : World) (t : T) : Ending → World → Prop := fun e w' => (∃ y : V, e = .returned (.agg #[.bool y.l, .slice y.ba y.bn y.bc, .slice y.ia y.m y.ic]) ∧ LiesP (fun b => w.heap.size ≤ b) w' t y) ∧ Below w.heap.size w w'
end Go.Proofs.YtalhnnjpjaeakabGreat
/- What EmptyRoot and EmptyCode answer, the program's and the document's. -/
namespace Go.Proofs.YtalhnnjpjaeakabGreat
open Go.RowKit
open Di (dref)
set_option linter.unusedVariables false
set_option maxRecDepth 100000
theorem z8_size {ds : List Int} (h : ds.length = 32) : (B8 z32).size = (B8 ds).size := by rw [B8_size, B8_size, h]; rfl
theorem infoD' {ds : List Int} (h : ds.length = 32) : (Tryz.prog.info? 46).map (·.size) = some (B8 ds).size := by rw [infoD, B8_size, h]
theorem B8_one (bs : List Int) : (B8 bs).all (·.oneCell') = true := all_oneCell_toArray (B8_one2 bs)
theorem enc_t0 : encP t0 = ([128], 0) := by decide +kernel
set_option maxHeartbeats 2000000 in
theorem remptyRoot_any (w : World) : Calls Tryz.prog 12 #[] w fun e w' => e = .returned (.agg (B8 (dref [128]))) ∧ Below w.heap.size w w' := by
  have HOF := Hid.mk (fun (v : World) => rdof_any (some ⟨v.heap.size, 0, none⟩) 1 1 [128] (v.alloc (.cells #[.int .u8 128] 5)) (Ni.row_ag (show Ni.Row v.heap.size (v.alloc (.cells #[.int .u8 128] 5)) [128] from heap_alloc_new _ _) rfl (fun x hx => by simp at hx; omega) (show (1 : Nat) ≤ 9223372036854775807 by decide)) (by omega))
  have HDL := Hid.mk (dref_len [128])
  obtain ⟨ds, hds⟩ : ∃ ds, dref [128] = ds := ⟨_, rfl⟩
  rw [hds] at HOF HDL ⊢
  clear hds
  go_enter Tryz.func12, Tryz.ntmps12
  go_upto_region 1 with fail
  refine gen_w (p := fun v => Code.wp _ _ _ _ v) (q := fun v => v.heap[w.heap.size]? = some (.cells (B8 z32) 46) ∧ Below w.heap.size w v) ⟨heap_alloc_new _ _, below_new _ _⟩ ?_
  rintro v ⟨hrow, hb⟩
  have HROW := Hid.mk hrow
  have HB := Hid.mk hb
  clear hrow hb
  go_wp2_with fail
  refine (HOF.out v).mono ?_
  rintro e w1 ⟨rfl, hb1⟩
  have HR1 := Hid.mk (Below.row (below_go (below_new v _) hb1) HROW.out)
  have HB1 := Hid.mk (below_go HB.out (below_go (below_new v _) hb1))
  clear hb1
  go_wp2_with (first | refine wpList_store_row rfl 46 _ _ rfl _ (B8 ds) rfl rfl 46 _ HR1.out (infoD' HDL.out) (z8_size HDL.out) (B8_one _) ?_)
  refine bodyPost_ret (results_cell_row Tryz.results12 _ _ w.heap.size 46 (B8 ds) (0, 0) _ rfl (setRow_heap _ _ _ _ _ _ HR1.out) Tryz.underlying46 rfl (infoD' HDL.out)) rfl ?_
  exact ⟨rfl, Below.setRow HB1.out (Nat.le_refl _) _⟩
set_option maxHeartbeats 2000000 in
theorem emptyRoot_any (w : World) : Calls Tryz.prog 24 #[] w fun e w' => e = .returned (.agg (B8 (dref [128]))) ∧ Below w.heap.size w w' := by
  have HDL := Hid.mk (dref_len [128])
  have HOF := Hid.mk (fun (v : World) (a : Option Addr) (c : Nat) (h : Ag v a 1 c [128]) => dof_any a 1 c [128] v h (by omega))
  obtain ⟨ds, hds⟩ : ∃ ds, dref [128] = ds := ⟨_, rfl⟩
  rw [hds] at HOF HDL ⊢
  clear hds
  have HTX := Hid.mk (fun v => text_any none 0 0 [] v ⟨.inl ⟨rfl, rfl⟩, fun _ => ⟨rfl, rfl⟩, rfl, fun x hx => by cases hx⟩ (by omega))
  go_enter Tryz.func24, Tryz.ntmps24
  go_upto_region 1 with fail
  refine gen_w (p := fun v => Code.wp _ _ _ _ v) (q := fun v => v.heap[w.heap.size]? = some (.cells (B8 z32) 46) ∧ Below w.heap.size w v) ⟨heap_alloc_new _ _, below_new _ _⟩ ?_
  rintro v ⟨hrow, hb⟩
  have HROW := Hid.mk hrow
  have HB := Hid.mk hb
  clear hrow hb
  go_wp2_with fail
  refine (HTX.out v).mono ?_
  rintro e w1 ⟨rfl, hr1, hb1⟩
  have hlies := liesP_lies _ _ (liesP_txt (P := fun _ => True) (n := 0) hr1 rfl (fun x hx => by cases hx) (by omega) trivial)
  have hen := encode_own (.mk false [] []) ⟨false, some ⟨v.heap.size + 1, 0, none⟩, 0, 0, none, 0, 0⟩ w1 hlies
  rw [show encP (.mk false [] []) = ([128], 0) from enc_t0] at hen
  have HEN := Hid.mk hen
  have HB1 := Hid.mk (below_go HB.out hb1)
  have HR1 := Hid.mk (Below.row hb1 HROW.out)
  clear hr1 hb1 hlies hen HROW HB
  go_wp2_with fail
  refine HEN.out.mono ?_
  rintro e w2 ⟨⟨a, m, c, rfl, hag, -⟩, hb2⟩
  have hm : m = 1 := hag.l.symm
  subst hm
  have HO2 := Hid.mk (HOF.out w2 a c hag)
  have HB2 := Hid.mk (below_go HB1.out hb2)
  have HR2 := Hid.mk (Below.row hb2 HR1.out)
  clear hag hb2
  go_wp2_with fail
  refine HO2.out.mono ?_
  rintro e w3 ⟨rfl, hb3⟩
  have HR3 := Hid.mk (Below.row hb3 HR2.out)
  have HB3 := Hid.mk (below_go HB2.out hb3)
  clear hb3
  go_wp2_with (first | refine wpList_store_row rfl 46 _ _ rfl _ (B8 ds) rfl rfl 46 _ HR3.out (infoD' HDL.out) (z8_size HDL.out) (B8_one _) ?_)
  refine bodyPost_ret (results_cell_row Tryz.results24 _ _ w.heap.size 46 (B8 ds) (0, 0) _ rfl (setRow_heap _ _ _ _ _ _ HR3.out) Tryz.underlying46 rfl (infoD' HDL.out)) rfl ?_
  exact ⟨rfl, Below.setRow HB3.out (Nat.le_refl _) _⟩
end Go.Proofs.YtalhnnjpjaeakabGreat
