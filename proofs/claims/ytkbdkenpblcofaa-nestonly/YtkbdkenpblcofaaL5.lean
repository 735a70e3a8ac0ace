/- That NestOnly answers true. -/
import Derived.Test.YtkbdkenpblcofaaP3
import Derived.Test.YtkbdkenpblcofaaS2
import Derived.Test.YtkbdkenpblcofaaM7r
namespace Go.Proofs.Ytkbdkenpblcofaa
open Go.RowKit
set_option linter.unusedVariables false
theorem decP_ok {b : List Int} {t : T} (hb : ∀ x ∈ b, 0 ≤ x ∧ x < 256) (h : decP b = .ok t) : encP t = (b, 0) ∧ (mP t).2 = 0 := by
  unfold decP at h
  split at h
  · cases h
  · rename_i t' n hr
    split at h
    · cases h
    · rename_i hn
      cases h
      have := rd_n hr
      have e : n = b.length := by omega
      rw [e] at hr
      exact dec_enc hb hr
/-- A box that holds an item. -/
structure B1 (g : Nat) (v : World) (y : V) : Prop where
  c0 : v.cell? ⟨g, 0, none⟩ = some (.bool y.l)
  c1 : v.cell? ⟨g, 1, none⟩ = some (.slice y.ba y.bn y.bc)
  c2 : v.cell? ⟨g, 2, none⟩ = some (.slice y.ia y.m y.ic)
theorem B1.go {g : Nat} {v v' : World} {y : V} (h : B1 g v y) (hb : Below v.heap.size v v') : B1 g v' y := ⟨below_cell hb h.c0, below_cell hb h.c1, below_cell hb h.c2⟩
theorem b1_new (w : World) (y : V) : B1 w.heap.size (w.alloc (.cells #[.bool y.l, .slice y.ba y.bn y.bc, .slice y.ia y.m y.ic] 25)) y := by
  have h := heap_alloc_new w (.cells #[.bool y.l, .slice y.ba y.bn y.bc, .slice y.ia y.m y.ic] 25)
  exact ⟨by rw [cell_of_row _ _ _ _ _ _ h]; rfl, by rw [cell_of_row _ _ _ _ _ _ h]; rfl, by rw [cell_of_row _ _ _ _ _ _ h]; rfl⟩
theorem below_new (w : World) (o : Obj) : Below w.heap.size w (w.alloc o) := (Below.refl _ _).alloc (Nat.le_refl _) _
set_option maxHeartbeats 2000000 in
theorem only_law (a : Option Addr) (n c : Nat) (b : List Int) (hn : n ≤ 140737488351232) (w : World) (hag : Ag w a n c b) :
    Calls Try.prog 7 #[.slice a n c] w fun e w' => e = .returned (.bool true) ∧ Below w.heap.size w w' := by
  have hd := decode_any a n c b w hag hn
  have HAG := Hid.mk hag
  cases hdec : decP b with
  | bad er =>
    rw [hdec] at hd
    have HD := Hid.mk hd
    clear hd hdec hag
    go_enter Try.func7, Try.ntmps7
    go_wp2_with fail
    refine HD.out.mono ?_
    rintro e w1 ⟨hb1, rfl, her⟩
    have hee : ((er : Int) != 0) = true := by rw [bne_iff_ne]; omega
    have HB1 := Hid.mk hb1
    clear hb1 her HD
    go_wp2_with fail
    have hbx := b1_new w1 ⟨false, none, 0, 0, none, 0, 0⟩
    have hbn := below_new w1 (.cells #[.bool false, .slice none 0 0, .slice none 0 0] 25)
    refine (alive_any _).mono ?_
    rintro e w2 ⟨rfl, hb2⟩
    obtain ⟨c0, c1, c2⟩ := hbx.go hb2
    have HB2 := Hid.mk (below_go (below_go HB1.out hbn) hb2)
    simp only at c0 c1 c2
    clear hb2 hbx hbn
    go_wp2_with fail
    refine (rsame_zero _).mono ?_
    rintro e w3 ⟨rfl, hb3⟩
    have HB3 := Hid.mk (below_go HB2.out hb3)
    clear hb3
    go_wp2_with fail
    go_ret
    exact ⟨rfl, HB3.out⟩
  | ok t =>
    rw [hdec] at hd
    obtain ⟨e1, e2⟩ := decP_ok hag.b hdec
    have HD := Hid.mk hd
    have HE1 := Hid.mk e1
    have HE2 := Hid.mk e2
    clear hd hdec hag e1 e2
    go_enter Try.func7, Try.ntmps7
    go_wp2_with fail
    refine HD.out.mono ?_
    rintro e w1 ⟨hb1, y, rfl, hy⟩
    have HB1 := Hid.mk hb1
    have HY := Hid.mk (liesP_lies _ _ hy)
    clear hb1 hy HD
    have hbx := b1_new w1 y
    have hbn := below_new w1 (.cells #[.bool y.l, .slice y.ba y.bn y.bc, .slice y.ia y.m y.ic] 25)
    have he := encode_any t y _ (lies_mono hbn t y HY.out)
    rw [HE1.out] at he
    simp only at he
    rw [show ((0 : Nat) : Int) = 0 from rfl] at he
    have HE := Hid.mk he
    have HBX := Hid.mk hbx
    have HBN := Hid.mk hbn
    clear he hbx hbn
    go_wp2_with fail
    refine HE.out.mono ?_
    rintro e w2 ⟨⟨a2, n2, c2, rfl, hag2⟩, hb2⟩
    have HA2 := Hid.mk hag2
    have HBX2 := Hid.mk (HBX.out.go hb2)
    have HB2 := Hid.mk (below_go (below_go HB1.out HBN.out) hb2)
    have HY2 := Hid.mk (lies_mono hb2 t y (lies_mono HBN.out t y HY.out))
    clear hag2 hb2 HE HBX HBN HB1 HY
    go_wp2_with fail
    refine (alive_any _).mono ?_
    rintro e w3 ⟨rfl, hb3⟩
    have HA3 := Hid.mk (HA2.out.at hb3)
    have HBX3 := Hid.mk (HBX2.out.go hb3)
    have HB3 := Hid.mk (below_go HB2.out hb3)
    have HY3 := Hid.mk (lies_mono hb3 t y HY2.out)
    have HAB := Hid.mk (HAG.out.at HB3.out)
    clear hb3 HA2 HBX2 HB2 HY2
    have hs := same_any a a2 n c n2 c2 b b w3 HAB.out HA3.out
    rw [decide_eq_true rfl] at hs
    have HS := Hid.mk hs
    clear hs
    go_wp2_with fail
    refine HS.out.mono ?_
    rintro e w4 ⟨rfl, rfl⟩
    obtain ⟨c0, c1, c2⟩ := HBX3.out
    have hr := right_any t y w4 HY3.out
    rw [decide_eq_true HE2.out] at hr
    have HR := Hid.mk hr
    clear hr HS
    go_wp2_with fail
    refine HR.out.mono ?_
    rintro e w5 ⟨rfl, hb5⟩
    have HB5 := Hid.mk (below_go HB3.out hb5)
    clear hb5
    go_wp2_with fail
    go_ret
    exact ⟨rfl, HB5.out⟩
end Go.Proofs.Ytkbdkenpblcofaa
