/- That NodedbTexts answers true. -/
import Derived.Test.YtjpcfdhkgfaeeaaG18
namespace Go.Proofs.Ytjpcfdhkgfaeeaa
open Go.RowKit
set_option linter.unusedVariables false
set_option maxRecDepth 100000
/-- Bytes that may be written over, one by one. -/
structure Wt (w u : World) (g n : Nat) : Prop where
  bel : Below w.heap.size w u
  fz : ∀ o, o < n → u.frozen? ⟨g, o, none⟩ = false
  ce : ∀ j, j < n → ∃ z, u.cell? ⟨g, j, none⟩ = some (.int .u8 z)
theorem Wt.put {w u : World} {g n j : Nat} (h : Wt w u g n) (hg : w.heap.size ≤ g) (hj : j < n) (x : Int) : Wt w (u.setCell ⟨g, j, none⟩ (.int .u8 x)) g n := by
  refine ⟨h.bel.setCell hg _, fun o ho => by rw [World.frozen?_setCell]; exact h.fz o ho, fun k hk => ?_⟩
  by_cases e : k = j
  · subst e
    obtain ⟨z, hz⟩ := h.ce k hk
    exact ⟨x, World.cell?_setCell_same _ _ _ hz⟩
  · obtain ⟨z, hz⟩ := h.ce k hk
    exact ⟨z, by rw [World.cell?_setCell_other _ _ _ _ (fun q => e (by injection q with _ q2; exact q2.symm))]; exact hz⟩
theorem wt_new {w v : World} (s : ByteArray) (hb : Below w.heap.size w v) : Wt w (Lib.bytesWorld v 5 s) v.heap.size s.size := by
  refine ⟨below_go hb (bytes_below v s), fun o ho => ?_, fun j hj => ⟨_, Lib.bytesWorld_cell v 5 s j hj⟩⟩
  have hc : s.size ≤ (Lib.bytesCells v 5 s).size := by
    unfold Lib.bytesCells
    rw [Array.size_append, Array.size_map]
    have : s.data.size = s.size := rfl
    omega
  simp only [World.frozen?, Lib.bytesWorld_at_new]
  simp
  omega
set_option maxHeartbeats 4000000 in
theorem ntexts_law (s : ByteArray) (hs : s.size ≤ 140737488351232) (w : World) : Calls Try.prog 8 #[.string s] w fun e w' => e = .returned (.bool true) ∧ Below w.heap.size w w' := by
  have hss : (s.toList == s.toList) = true := by simp
  go_enter Try.func8, Try.ntmps8
  go_wp2_with fail
  refine (begun_any 1 w).mono ?_
  rintro e w1 ⟨⟨g, m, rfl, -, -, -⟩, hb1⟩
  have HB1 := Hid.mk hb1
  clear hb1
  go_wp2_with fail
  refine (bytes_any s w1).mono ?_
  rintro e w2 ⟨rfl, rfl⟩
  have k1 := ag_str (bytes_ag w1 s hs)
  have HW := Hid.mk (wt_new s HB1.out)
  have hcap := grownCap_ge w1 s.size 0 5
  have hcm := grownCap_le_maxLen w1 s.size 0 5 (by unfold maxLen; omega)
  unfold maxLen at hcm
  obtain ⟨cc, hcc⟩ : ∃ cc, grownCap w1 s.size 0 5 = cc := ⟨_, rfl⟩
  rw [hcc] at k1 hcap hcm ⊢
  obtain ⟨gB, hgB⟩ : ∃ gB, w1.heap.size = gB := ⟨_, rfl⟩
  have HGB := Hid.mk (show w.heap.size ≤ gB from by rw [← hgB]; exact HB1.out.size)
  rw [hgB] at k1 HW ⊢
  generalize Lib.bytesWorld w1 5 s = u at k1 HW ⊢
  clear hcc hgB HB1
  obtain ⟨n, hn⟩ : ∃ n, s.size = n := ⟨_, rfl⟩
  rw [hn] at k1 HW hcap ⊢
  have HN := Hid.mk hn
  have HHS := Hid.mk hs
  clear hn hs
  go_wp2_with fail
  go_loopw [22] (fun s22 v => ∃ j : Nat, j ≤ n ∧ s22 = .int .i64 j ∧ Wt w v gB n) (fun s22 _ => n - (intOf s22).toNat)
  case atStart => exact ⟨0, by omega, rfl, HW.out⟩
  case round =>
    obtain ⟨j, hj, rfl, hw⟩ := hrel
    have HW' := Hid.mk hw
    clear hw HW k1
    by_cases hlt : j < n
    · have hji : (j : Int) < n := by omega
      obtain ⟨z, hz⟩ := HW'.out.ce j hlt
      have hf := HW'.out.fz j hlt
      have HPUT := Hid.mk (fun x => HW'.out.put HGB.out hlt x)
      go_wp2_with fail
      exact ⟨⟨j + 1, by omega, by simp, HPUT.out _⟩, by simp [intOf]; omega⟩
    · have hji : ¬ (j : Int) < n := by omega
      go_wp2_with fail
      refine (bytes_any s wr).mono ?_
      rintro e w3 ⟨rfl, rfl⟩
      have k1 := ag_str (bytes_ag wr s HHS.out)
      have HE := Hid.mk (below_go HW'.out.bel (bytes_below wr s))
      generalize Lib.bytesWorld wr 5 s = u3 at k1 HE ⊢
      clear HW'
      go_wp2_with fail
      go_ret
      exact ⟨rfl, HE.out⟩
end Go.Proofs.Ytjpcfdhkgfaeeaa
