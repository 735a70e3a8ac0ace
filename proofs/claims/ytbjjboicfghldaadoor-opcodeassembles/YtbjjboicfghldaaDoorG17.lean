/- What the document's Print answers. -/
import Derived.Test.YtbjjboicfghldaaDoorG16
namespace Go.Proofs.YtbjjboicfghldaaDoor.Wo
open Go.RowKit
set_option linter.unusedVariables false
theorem str_app (a b : List Int) : strOfNums a ++ strOfNums b = strOfNums (a ++ b) := by
  apply ByteArray.ext
  apply Array.ext'
  rw [show (strOfNums (a ++ b)).data.toList = _ from strOfNums_data (a ++ b)]
  simp [strOfNums_data]
structure Pr (x : Int) (w v : World) (y : Int) (suf : List Int) : Prop where
  y0 : 0 ≤ y
  y1 : y < 18446744073709551616
  text : dg x.toNat = dg y.toNat ++ suf
  bel : Below w.heap.size w v
  bd : ∀ z ∈ suf, 0 ≤ z ∧ z < 256
set_option maxHeartbeats 1000000 in
theorem rprint_any (x : Int) (hx0 : 0 ≤ x) (hx1 : x < 18446744073709551616) (w : World) :
    Calls Tryd.prog 49 #[.int .u64 x] w fun e w' => e = .returned (.string (strOfNums (pr x.toNat))) ∧ Below w.heap.size w w' := by
  have HL : Hid ((dg x.toNat).length ≤ 20) := Hid.mk (dg_len x.toNat 20 (by show x.toNat < 100000000000000000000; omega))
  go_enter Tryd.func49, Tryd.ntmps49
  go_wp2_with fail
  go_loopw [3, 4] (fun s p v => ∃ (y : Int) (suf : List Int), p = .int .u64 y ∧ s = .string (strOfNums suf) ∧ Pr x w v y suf) (fun _ p _ => (intOf p).toNat)
  case atStart => exact ⟨x, [], rfl, rfl, ⟨hx0, hx1, by rw [List.append_nil], Below.refl _ _, fun z hz => by cases hz⟩⟩
  case round =>
    obtain ⟨y, suf, rfl, rfl, P⟩ := hrel
    have y0 := P.y0
    have y1 := P.y1
    have hl := HL.out
    rw [P.text, List.length_append] at hl
    by_cases hy : y = 0
    · subst hy
      have ht := P.text
      rw [show (0 : Int).toNat = 0 from rfl, dg_zero, List.nil_append] at ht
      have HB := Hid.mk P.bel
      clear P hl y0 y1
      by_cases hx : x = 0
      · subst hx
        have hp : pr (0 : Int).toNat = [48] := rfl
        have HP : Hid (strOfNums (pr (0 : Int).toNat) = { data := #[48] }) := Hid.mk rfl
        clear ht hp
        go_wp2_with fail
        go_ret
        exact ⟨by rw [HP.out]; rfl, HB.out⟩
      · have hxb : (x == 0) = false := by rw [beq_eq_false_iff_ne]; exact hx
        have HP : Hid (pr x.toNat = suf) := Hid.mk (by unfold pr; rw [if_neg (by omega), ht])
        clear ht
        go_wp2_with fail
        go_ret
        exact ⟨by rw [HP.out]; rfl, HB.out⟩
    · have hyp : y > 0 := by omega
      have hcv := conv_any (w := wr.alloc (.cells #[.int .u8 (48 + y % 10)] 5)) (a := some ⟨wr.heap.size, 0, none⟩) (len := 1) (cap := 1) (bs := [48 + y % 10]) (row_ag (show Row wr.heap.size (wr.alloc (.cells #[.int .u8 (48 + y % 10)] 5)) [48 + y % 10] from heap_alloc_new _ _) rfl (fun z hz => by
        have e : z = 48 + y % 10 := by simpa using hz
        omega) (show (1 : Nat) ≤ 9223372036854775807 from by decide)).i
      have HP := Hid.mk P
      clear P
      generalize hs1 : strOfNums [48 + y % 10] = s1 at hcv
      have HS1 := Hid.mk hs1
      generalize hs2 : strOfNums suf = s2
      have HS2 := Hid.mk hs2
      have hz1 : s1.size = 1 := by rw [← hs1]; exact strOfNums_size _
      have hz2 : s2.size ≤ 20 := by rw [← hs2, strOfNums_size]; omega
      clear hs1 hs2 hl
      go_wp2_with fail
      have P := HP.out
      refine ⟨⟨y / 10, [48 + y % 10] ++ suf, rfl, by rw [← str_app, HS1.out, HS2.out], ⟨by omega, by omega, ?_, P.bel.alloc P.bel.size _, ?_⟩⟩, by simp [intOf]; omega⟩
      · rw [P.text, dg_pos (n := y.toNat) (by omega), show y.toNat / 10 = (y / 10).toNat from by omega, show ((48 + y.toNat % 10 : Nat) : Int) = 48 + y % 10 from by omega, List.append_assoc]
      · exact mem_app (fun z hz => by
          have e : z = 48 + y % 10 := by simpa using hz
          omega) P.bd
theorem ps_of_pr {s : List Int} {y : Nat} (hy : y < 18446744073709551616) (h : pr y = s) : ps s = (y, true) := by rw [← h]; exact ps_pr hy
theorem ps_of_not {s : List Int} {y : Nat} (hy : digits s → dvl s < 18446744073709551616 → y = dvl s) (h : pr y ≠ s) : ps s = (0, false) := by
  refine ps_no ?_
  rintro ⟨hg, hv⟩
  have e := hy hg.2.1 hv
  exact h (by rw [e]; exact pr_dvl hg)
set_option maxHeartbeats 1000000 in
theorem rparse_any (s : ByteArray) (hs : s.size ≤ maxLen) (w : World) :
    Calls Tryd.prog 40 #[.string s] w fun e w' => e = .returned (.tuple #[.int .u64 ((ps (sb s)).1 : Nat), .bool (ps (sb s)).2]) ∧ Below w.heap.size w w' := by
  unfold maxLen at hs
  have hsl := sb_length s
  by_cases h20 : s.size > 20
  · have e : ps (sb s) = (0, false) := ps_no (fun h => by
      have h1 := pr_len h.2
      rw [pr_dvl h.1] at h1
      omega)
    rw [e]
    have h20i : (s.size : Int) > 20 := by omega
    clear e hsl h20
    go_enter Tryd.func40, Tryd.ntmps40
    go_wp2_with fail
    go_ret2
    exact ⟨rfl, Below.refl _ _⟩
  have h20i : ¬ (s.size : Int) > 20 := by omega
  have HSL := Hid.mk hsl
  clear hsl h20
  go_enter Tryd.func40, Tryd.ntmps40
  go_wp2_with fail
  go_loopw [4, 5] (fun q i v => ∃ (j : Nat) (y : Int), j ≤ s.size ∧ i = .int .i64 j ∧ q = .int .u64 y ∧ 0 ≤ y ∧ y < 18446744073709551616 ∧ (digits ((sb s).take j) → dvl ((sb s).take j) < 18446744073709551616 → y = (dvl ((sb s).take j) : Nat)) ∧ v = w) (fun _ i _ => s.size - (intOf i).toNat)
  case atStart => exact ⟨0, 0, by omega, rfl, rfl, by omega, by omega, fun _ _ => rfl, rfl⟩
  case round =>
    obtain ⟨j, y, hj, rfl, rfl, hy0, hy1, hinv, rfl⟩ := hrel
    by_cases hlt : j < s.size
    · have hji : (j : Int) < s.size := by omega
      have e1 := sb_get s j hlt
      obtain ⟨b1, b1'⟩ := sb_bd s j
      have hjl : j < (sb s).length := by rw [HSL.out]; exact hlt
      have hvs := dvl_take_le (s := sb s) (j := j) hjl
      have hdig : digits ((sb s).take (j + 1)) → digits ((sb s).take j) ∧ 48 ≤ (sb s).getD j 0 ∧ (sb s).getD j 0 ≤ 57 := by
        intro h
        rw [digits, List.take_add_one, List.getElem?_eq_getElem hjl] at h
        refine ⟨fun x hx => h x (List.mem_append_left _ hx), ?_⟩
        rw [List.getD, List.getElem?_eq_getElem hjl]
        exact h _ (List.mem_append_right _ (by simp))
      obtain ⟨c, hc⟩ : ∃ c, (sb s).getD j 0 = c := ⟨_, rfl⟩
      rw [hc] at e1 b1 b1' hvs hdig
      have HV := Hid.mk hvs
      have HD := Hid.mk hdig
      have HI := Hid.mk hinv
      clear hjl hc hvs hdig hinv
      by_cases hc1 : 48 ≤ c
      · by_cases hc2 : c ≤ 57
        · go_wp2_with fail
          refine ⟨⟨j + 1, _, by omega, by simp, rfl, ?_, ?_, ?_, trivial⟩, by simp [intOf]; omega⟩
          · rw [IntKind.wrap_u64]; omega
          · rw [IntKind.wrap_u64]; omega
          · intro h1 h2
            have hv := HV.out
            have hi := HI.out (HD.out h1).1 (by omega)
            rw [IntKind.wrap_u64, IntKind.wrap_u64]
            omega
        · go_wp2_with fail
          exact ⟨⟨j + 1, y, by omega, by simp, rfl, hy0, hy1, fun h => by have := (HD.out h).2; omega, trivial⟩, by simp [intOf]; omega⟩
      · go_wp2_with fail
        exact ⟨⟨j + 1, y, by omega, by simp, rfl, hy0, hy1, fun h => by have := (HD.out h).2; omega, trivial⟩, by simp [intOf]; omega⟩
    · have hji : ¬ (j : Int) < s.size := by omega
      have hl := HSL.out
      have e : (sb s).take j = sb s := List.take_of_length_le (by omega)
      rw [e] at hinv
      have hpr := rprint_any y hy0 hy1
      have HPR := Hid.mk hpr
      have hse := str_beq (a := pr y.toNat) (b := sb s) (digits_bd (pr_digits _)) (sb_all s)
      rw [str_sb] at hse
      by_cases hq : pr y.toNat = sb s
      · have hy := ps_of_pr (y := y.toNat) (by omega) hq
        rw [decide_eq_true hq] at hse
        have hsn : ((strOfNums (pr y.toNat)).toList != s.toList) = false := by rw [bne, hse]; rfl
        have HY := Hid.mk hy
        have HC : Hid (((y.toNat : Nat) : Int) = y) := Hid.mk (by omega)
        clear hpr hl e hinv hy hq
        generalize strOfNums (pr y.toNat) = t at *
        go_wp2_with fail
        refine (HPR.out _).mono ?_
        rintro e w1 ⟨rfl, hb⟩
        have HB := Hid.mk hb
        clear hb
        go_wp2_with fail
        go_ret2
        exact ⟨by rw [HY.out]; simp only; rw [HC.out]; rfl, HB.out⟩
      · have hy := ps_of_not (s := sb s) (y := y.toNat) (fun h1 h2 => by have := hinv h1 h2; omega) hq
        rw [decide_eq_false hq] at hse
        have hsn : ((strOfNums (pr y.toNat)).toList != s.toList) = true := by rw [bne, hse]; rfl
        have hsx : ¬ (strOfNums (pr y.toNat)).toList = s.toList := by rw [beq_eq_false_iff_ne] at hse; exact hse
        have HY := Hid.mk hy
        clear hpr hl e hinv hy hq
        generalize strOfNums (pr y.toNat) = t at *
        go_wp2_with fail
        refine (HPR.out _).mono ?_
        rintro e w1 ⟨rfl, hb⟩
        have HB := Hid.mk hb
        clear hb
        go_wp2_with fail
        go_ret2
        exact ⟨by rw [HY.out]; rfl, HB.out⟩
end Go.Proofs.YtbjjboicfghldaaDoor.Wo
