/- What withDigit and Parse answer. -/
import Derived.Test.YtbjjboicfghldabDoorG14
import Derived.Test.YtbjjboicfghldabDoorG04
namespace Go.Proofs.YtbjjboicfghldabDoor.Wo
open Go.RowKit
set_option linter.unusedVariables false
/-- The bytes of a string, as numbers. -/
def sb (s : ByteArray) : List Int := s.data.toList.map fun u => (u.toNat : Int)
theorem sb_length (s : ByteArray) : (sb s).length = s.size := by
  unfold sb
  rw [List.length_map, Array.length_toList]
  rfl
theorem sb_get (s : ByteArray) (i : Nat) (h : i < s.size) : ((s[i]'h).toNat : Int) = (sb s).getD i 0 := by
  have h2 : i < s.data.toList.length := by rw [Array.length_toList]; exact h
  unfold sb
  rw [List.getD, List.getElem?_map, List.getElem?_eq_getElem h2]
  simp only [Option.map_some, Option.getD_some]
  rw [Array.getElem_toList]
  rfl
theorem sb_bd (s : ByteArray) (i : Nat) : 0 ≤ (sb s).getD i 0 ∧ (sb s).getD i 0 < 256 := by
  by_cases h : i < s.size
  · rw [← sb_get s i h]
    have := (s[i]'h).toNat_lt
    omega
  · rw [List.getD, List.getElem?_eq_none (by rw [sb_length]; omega)]
    simp
theorem sb_all (s : ByteArray) : ∀ x ∈ sb s, 0 ≤ x ∧ x < 256 := by
  intro x hx
  unfold sb at hx
  obtain ⟨u, _, rfl⟩ := List.mem_map.1 hx
  have := u.toNat_lt
  omega
theorem str_sb (s : ByteArray) : strOfNums (sb s) = s := by
  apply ByteArray.ext
  apply Array.ext'
  rw [show (strOfNums (sb s)).data.toList = _ from strOfNums_data (sb s)]
  unfold sb
  rw [List.map_map]
  conv => rhs; rw [← List.map_id s.data.toList]
  refine List.map_congr_left fun u _ => ?_
  simp
theorem sb_str {l : List Int} (h : ∀ x ∈ l, 0 ≤ x ∧ x < 256) : sb (strOfNums l) = l := by
  unfold sb
  rw [show (strOfNums l).data.toList = _ from strOfNums_data l, List.map_map]
  conv => rhs; rw [← List.map_id l]
  refine List.map_congr_left fun u hu => ?_
  have := h u hu
  simp
  omega
/-- One digit more. -/
def dgP (x c : Int) : Int × Bool := if 48 ≤ c ∧ c ≤ 57 ∧ x * 10 + (c - 48) < 18446744073709551616 then (x * 10 + (c - 48), true) else (0, false)
set_option maxHeartbeats 400000 in
theorem withDigit_any (x c : Int) (hx0 : 0 ≤ x) (hx1 : x < 18446744073709551616) (hc0 : 0 ≤ c) (hc1 : c < 256) (w : World) :
    Calls Tryd.prog 35 #[.int .u64 x, .int .u8 c] w fun e w' => e = .returned (.tuple #[.int .u64 (dgP x c).1, .bool (dgP x c).2]) ∧ w' = w := by
  by_cases h1 : 48 ≤ c
  case neg =>
    have e : dgP x c = (0, false) := by unfold dgP; rw [if_neg (by omega)]
    rw [e]
    clear e
    go_enter Tryd.func35, Tryd.ntmps35
    go_wp2_with fail
    go_ret2
    exact ⟨rfl, rfl⟩
  by_cases h2 : c ≤ 57
  case neg =>
    have e : dgP x c = (0, false) := by unfold dgP; rw [if_neg (by omega)]
    rw [e]
    clear e
    go_enter Tryd.func35, Tryd.ntmps35
    go_wp2_with fail
    go_ret2
    exact ⟨rfl, rfl⟩
  have hm := mul_any x 10 ⟨hx0, hx1⟩ (by omega)
  by_cases h3 : x * 10 < 18446744073709551616
  case neg =>
    have e : dgP x c = (0, false) := by unfold dgP; rw [if_neg (by omega)]
    have e2 : mulP x 10 = (0, false) := by unfold mulP; rw [if_neg h3]
    rw [e]
    rw [e2] at hm
    have HM := Hid.mk hm
    clear e e2 hm
    go_enter Tryd.func35, Tryd.ntmps35
    go_wp2_with fail
    refine (HM.out w).mono ?_
    rintro e w1 ⟨rfl, rfl⟩
    go_wp2_with fail
    go_ret2
    exact ⟨rfl, rfl⟩
  have e2 : mulP x 10 = (x * 10, true) := by unfold mulP; rw [if_pos h3]
  rw [e2] at hm
  have ha := add_any (x * 10) (c - 48) (by omega) (by omega)
  have e3 : addP (x * 10) (c - 48) = dgP x c := by
    unfold addP dgP
    by_cases h4 : x * 10 + (c - 48) < 18446744073709551616
    · rw [if_neg (by omega), if_pos ⟨h1, h2, h4⟩]
    · rw [if_pos (by omega), if_neg (by omega)]
  rw [e3] at ha
  generalize dgP x c = r at *
  obtain ⟨r1, r2⟩ := r
  have HM := Hid.mk hm
  have HA := Hid.mk ha
  clear e2 e3 hm ha
  go_enter Tryd.func35, Tryd.ntmps35
  go_wp2_with fail
  refine (HM.out w).mono ?_
  rintro e w1 ⟨rfl, rfl⟩
  go_wp2_with fail
  refine (HA.out w1).mono ?_
  rintro e w1 ⟨rfl, rfl⟩
  go_wp2_with fail
  go_ret2
  exact ⟨rfl, rfl⟩
theorem ps_bad {s : List Int} {j : Nat} (hj : j < s.length) (h : ¬ (48 ≤ s.getD j 0 ∧ s.getD j 0 ≤ 57) ∨ 18446744073709551616 ≤ dvl (s.take (j + 1))) : ps s = (0, false) := by
  refine ps_no ?_
  rintro ⟨⟨_, hd, _⟩, hv⟩
  rcases h with h | h
  · exact h (hd _ (by rw [List.getD, List.getElem?_eq_getElem hj]; exact List.getElem_mem _))
  · have := dvl_take_mono s (j + 1)
    omega
theorem digits_succ {s : List Int} {j : Nat} (hj : j < s.length) (h : digits (s.take j)) (hx : 48 ≤ s.getD j 0 ∧ s.getD j 0 ≤ 57) : digits (s.take (j + 1)) := by
  intro x hm
  rw [List.take_add_one, List.getElem?_eq_getElem hj] at hm
  rcases List.mem_append.1 hm with hm | hm
  · exact h x hm
  · have e : x = s[j] := by simpa using hm
    rw [List.getD, List.getElem?_eq_getElem hj] at hx
    rw [e]; exact hx
set_option maxHeartbeats 1000000 in
theorem parse_any (s : ByteArray) (hs : s.size ≤ maxLen) (w : World) :
    Calls Tryd.prog 23 #[.string s] w fun e w' => e = .returned (.tuple #[.int .u64 ((ps (sb s)).1 : Nat), .bool (ps (sb s)).2]) ∧ w' = w := by
  unfold maxLen at hs
  have hsl := sb_length s
  by_cases h0 : s.size = 0
  · have e : ps (sb s) = (0, false) := ps_no (fun h => h.1.1 (List.eq_nil_of_length_eq_zero (by omega)))
    rw [e]
    have h0i : (s.size : Int) = 0 := by omega
    clear e hsl h0
    go_enter Tryd.func23, Tryd.ntmps23
    go_wp2_with fail
    go_ret2
    exact ⟨rfl, rfl⟩
  have h0i : ((s.size : Int) == 0) = false := by rw [beq_eq_false_iff_ne]; omega
  by_cases h20 : s.size > 20
  · have e : ps (sb s) = (0, false) := ps_no (fun h => by
      have h1 := pr_len h.2
      rw [pr_dvl h.1] at h1
      omega)
    rw [e]
    have h20i : (s.size : Int) > 20 := by omega
    clear e hsl h20
    go_enter Tryd.func23, Tryd.ntmps23
    go_wp2_with fail
    go_ret2
    exact ⟨rfl, rfl⟩
  have h20i : ¬ (s.size : Int) > 20 := by omega
  have hp0 : 0 < s.size := by omega
  have e0 := sb_get s 0 hp0
  have b0 := sb_bd s 0
  by_cases h1 : s.size > 1 ∧ (sb s).getD 0 0 = 48
  · have e : ps (sb s) = (0, false) := ps_no (fun h => h.1.2.2 ⟨by omega, h1.2⟩)
    rw [e]
    rw [h1.2] at e0
    have h1i : (s.size : Int) > 1 := by omega
    clear e hsl h1
    go_enter Tryd.func23, Tryd.ntmps23
    go_wp2_with fail
    go_ret2
    exact ⟨rfl, rfl⟩
  obtain ⟨⟨r1, r2⟩, hr⟩ : ∃ r, ps (sb s) = r := ⟨_, rfl⟩
  rw [hr]
  have HR := Hid.mk hr
  have HSL := Hid.mk hsl
  have H1 := Hid.mk h1
  have hk : ((s.size : Int) > 1 ∧ ((sb s).getD 0 0 == 48) = false) ∨ ¬ (s.size : Int) > 1 := by
    by_cases hh : s.size > 1
    · exact .inl ⟨by omega, by rw [beq_eq_false_iff_ne]; exact fun e => h1 ⟨hh, e⟩⟩
    · exact .inr (by omega)
  obtain ⟨y, hy⟩ : ∃ y, (sb s).getD 0 0 = y := ⟨_, rfl⟩
  rw [hy] at e0 b0 hk
  clear hr hsl h1 hy h0 h20
  rcases hk with ⟨hk1, hk2⟩ | hk1
  all_goals
    go_enter Tryd.func23, Tryd.ntmps23
    go_wp2_with fail
    clear e0
    go_loopw [4, 28] (fun q i v => ∃ j : Nat, j ≤ s.size ∧ i = .int .i64 j ∧ q = .int .u64 (dvl ((sb s).take j) : Nat) ∧ dvl ((sb s).take j) < 18446744073709551616 ∧ digits ((sb s).take j) ∧ v = w) (fun _ i _ => s.size - (intOf i).toNat)
    case atStart => exact ⟨0, by omega, rfl, rfl, (by rw [List.take_zero]; decide), (fun x hx => by cases hx), rfl⟩
    case round =>
      obtain ⟨j, hj, rfl, rfl, hq, hdg, rfl⟩ := hrel
      by_cases hlt : j < s.size
      · have hji : (j : Int) < s.size := by omega
        have e1 := sb_get s j hlt
        obtain ⟨b1, b1'⟩ := sb_bd s j
        have hvs := dvl_take_le (s := sb s) (j := j) (by rw [HSL.out]; exact hlt)
        have hbad := ps_bad (s := sb s) (j := j) (by rw [HSL.out]; exact hlt)
        have hsuc := digits_succ (s := sb s) (j := j) (by rw [HSL.out]; exact hlt) hdg
        rw [HR.out] at hbad
        obtain ⟨c, hc⟩ : ∃ c, (sb s).getD j 0 = c := ⟨_, rfl⟩
        rw [hc] at e1 b1 b1' hvs hbad hsuc
        obtain ⟨q, hqq⟩ : ∃ q : Int, ((dvl ((sb s).take j) : Nat) : Int) = q := ⟨_, rfl⟩
        have hq0 : 0 ≤ q := by omega
        have hq1 : q < 18446744073709551616 := by omega
        have hd := withDigit_any q c hq0 hq1 b1 b1' wr
        rw [hqq]
        by_cases hgood : 48 ≤ c ∧ c ≤ 57 ∧ q * 10 + (c - 48) < 18446744073709551616
        · have ed : dgP q c = (q * 10 + (c - 48), true) := by unfold dgP; rw [if_pos hgood]
          rw [ed] at hd
          have HD := Hid.mk hd
          have HV : Hid (((dvl ((sb s).take (j + 1)) : Nat) : Int) = q * 10 + (c - 48)) := Hid.mk (by omega)
          have HW : Hid (dvl ((sb s).take (j + 1)) < 18446744073709551616) := Hid.mk (by omega)
          have HX := Hid.mk (hsuc ⟨hgood.1, hgood.2.1⟩)
          clear hd ed hvs hbad hsuc hqq hc hgood hdg hq
          go_wp2_with fail
          refine HD.out.mono ?_
          rintro e w1 ⟨rfl, rfl⟩
          go_wp2_with fail
          exact ⟨⟨j + 1, by omega, by simp, by rw [HV.out], HW.out, HX.out, trivial⟩, by simp [intOf]; omega⟩
        · have ed : dgP q c = (0, false) := by unfold dgP; rw [if_neg hgood]
          rw [ed] at hd
          have HD := Hid.mk hd
          have hb2 : (r1, r2) = (0, false) := hbad (by omega)
          obtain ⟨rfl, rfl⟩ := Prod.mk.inj hb2
          clear hd ed hvs hbad hsuc hqq hc hgood hdg hq hb2
          go_wp2_with fail
          refine HD.out.mono ?_
          rintro e w1 ⟨rfl, rfl⟩
          go_wp2_with fail
          go_ret2
          exact ⟨rfl, rfl⟩
      · have hji : ¬ (j : Int) < s.size := by omega
        have hl := HSL.out
        have e : (sb s).take j = sb s := List.take_of_length_le (by omega)
        rw [e] at hq hdg ⊢
        have hy := ps_yes (s := sb s) ⟨by intro h; rw [h] at hl; simp at hl; omega, hdg, fun h => H1.out ⟨by omega, h.2⟩⟩ hq
        rw [HR.out] at hy
        obtain ⟨rfl, rfl⟩ := Prod.mk.inj hy
        clear hl e hy hq hdg
        go_wp2_with fail
        go_ret2
        exact ⟨rfl, rfl⟩
end Go.Proofs.YtbjjboicfghldabDoor.Wo
