/- Rows of places; what alive asks, reckoned. -/
import Derived.Test.YtbjjboicfghldabDoorG27
namespace Go.Proofs.YtbjjboicfghldabDoor
open Go.RowKit
open Wo
set_option linter.unusedVariables false
set_option maxRecDepth 100000
def Law14 (w : World) : Ending → World → Prop := fun e w' => e = .returned (.bool true) ∧ Below w.heap.size w w'
/-- A row of places. -/
def IsL (w : World) (v : Value) (ns : List Nat) : Prop := ∃ a c, v = .slice a ns.length c ∧ (0 < ns.length → ∃ g off, a = some ⟨g, off, none⟩ ∧ ∀ j, j < ns.length → w.cell? ⟨g, off + j * 1, none⟩ = some (intV (ns.getD j 0)))
theorem IsL.go {w w' : World} {v : Value} {ns : List Nat} (h : IsL w v ns) (hb : Below w.heap.size w w') : IsL w' v ns := by
  obtain ⟨a, c, hv, h⟩ := h
  refine ⟨a, c, hv, fun h0 => ?_⟩
  obtain ⟨g, off, ha, hc⟩ := h h0
  exact ⟨g, off, ha, fun j hj => cell_go (hc j hj) hb⟩
theorem Own.isl {w : World} {base : Nat} {v : Value} {ns : List Nat} (h : Own 3 w base v (ns.map intV)) : IsL w v ns := by
  by_cases h0 : 0 < ns.length
  · obtain ⟨g, cap, hv, hg, hc, hm, hcell⟩ := h.slice (by simpa using h0)
    refine ⟨_, cap, by rw [hv, List.length_map], fun _ => ⟨g, 0, rfl, fun j hj => ?_⟩⟩
    rw [Nat.zero_add, Nat.mul_one]
    refine hcell j _ ?_
    rw [List.getElem?_map, List.getElem?_eq_getElem hj, List.getD, List.getElem?_eq_getElem hj]
    rfl
  · obtain ⟨a, c, hv⟩ := h.form
    exact ⟨a, c, by rw [hv, List.length_map], fun h => absurd h h0⟩
theorem isl_lit {w w' : World} {g : Nat} {p : Nat} (h : New w w' g #[intV p] 3) : IsL w' (.slice (some ⟨g, 0, none⟩) 1 1) [p] := by
  refine ⟨_, 1, rfl, fun _ => ⟨g, 0, rfl, fun j hj => ?_⟩⟩
  have hj' : j < 1 := hj
  obtain rfl : j = 0 := by omega
  rw [cell_of_row _ _ _ _ _ _ h.row]
  rfl
def oCall : Nf := ⟨[99, 97, 108, 108], 0, 4, 1, 40⟩
theorem of_call : ofP 112 = some oCall := rfl
def tAl : List Int := [112, 117, 115, 104, 32, 50, 53, 54, 32, 100, 117, 112, 32, 48]
theorem pr_256 : pr 256 = [50, 53, 54] := by unfold pr; rw [if_neg (by omega), dg_pos (by omega), dg_pos (by omega), dg_pos (by omega), show 256 / 10 / 10 / 10 = 0 from rfl, dg_zero]; rfl
theorem pr_255 : pr 255 = [50, 53, 53] := by unfold pr; rw [if_neg (by omega), dg_pos (by omega), dg_pos (by omega), dg_pos (by omega), show 255 / 10 / 10 / 10 = 0 from rfl, dg_zero]; rfl
theorem ps_256 : ps [50, 53, 54] = (256, true) := by rw [← pr_256]; exact ps_pr (by omega)
theorem ps_0 : ps [48] = (0, true) := by
  have : pr 0 = [48] := rfl
  rw [← this]
  exact ps_pr (by omega)
theorem szo_256 : szo 256 = 2 := by unfold szo; rw [nb_pos (by omega), nb_pos (by omega), show 256 / 256 / 256 = 0 from rfl, nb_zero]; rfl
theorem szo_0 : szo 0 = 1 := by unfold szo; rw [nb_zero]; rfl
def dupW : List Int := [100, 117, 112]
theorem as_alive : asF [] tAl 0 = ([33, 1, 0, 49, 0], 0, 0) := by
  have e1 : s1 tAl 0 = (([33, 1, 0], 0, 0), [32, 100, 117, 112, 32, 48], 8) := by
    have h := st_push (l := pushW) (rest := [32, 50, 53, 54, 32, 100, 117, 112, 32, 48]) (p := 4) (pl := 0) (hd := []) (sz := 8) (m := 256) bg_push (by omega) (show ps [50, 53, 54] = _ from ps_256) (by rw [szo_256]; omega) rfl
    rw [szo_256] at h
    exact h
  have e2 : s1 [32, 100, 117, 112, 32, 48] 8 = (([49, 0], 0, 0), [], 14) := by
    have h := st_ok (l := dupW) (rest := [32, 48]) (p := 12) (pl := 9) (hd := [49]) (sz := 1) (m := 0) rfl (by omega) (show ps [48] = _ from ps_0) (by rw [szo_0]; omega) (by decide)
    exact h
  rw [as_go (by decide) (by rw [e1]) (by rw [e1]; decide), e1]
  simp only
  rw [as_go (by decide) (by rw [e2]) (by rw [e2]; decide), e2]
  simp only
  rw [as_end (by decide)]
  rfl
def tPr : List Int := [109, 97, 114, 107, 32, 98, 121, 116, 101, 32, 50, 53, 53]
theorem pr_alive : prP [66, 255] = (tPr, 0) := by
  have e1 : wr [66] = [109, 97, 114, 107] := rfl
  have e2 : wr [255] = byteW ++ 32 :: [50, 53, 53] := by rw [← pr_255]; exact wr_no (x := 255) (r := []) rfl
  rw [pr_of (by decide), show pcF [66, 255] = [[66], [255]] from rfl, List.map_cons, List.map_cons, List.map_nil, e1, e2]
  rfl
theorem mk_alive : mkF 0 [66] = [0] := rfl
end Go.Proofs.YtbjjboicfghldabDoor
