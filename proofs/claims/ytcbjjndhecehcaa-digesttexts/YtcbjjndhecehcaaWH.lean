/- That DigestBack answers true, for every digest and every text: what is written is read as it was, what is read is written as it was. -/
import Derived.Test.YtcbjjndhecehcaaWD
import Derived.Deep.DrawnRows
namespace Go.Proofs.Ytcbjjndhecehcaa
open Go.RowKit
set_option linter.unusedVariables false
theorem dv_hex (c : Int) (h : dk c = true) : hexI (dv c) = c := by
  unfold dk at h
  simp only [Bool.or_eq_true, decide_eq_true_eq] at h
  unfold hexI dv
  rcases h with h | h
  · rw [if_pos h, if_pos (by omega)]; omega
  · rw [if_neg (by omega), if_pos h, if_neg (by omega)]; omega
theorem pk_bounds (cs : List Int) : ∀ x ∈ pk cs 32, 0 ≤ x ∧ x < 256 := by
  intro x hx
  unfold pk at hx
  obtain ⟨i, _, rfl⟩ := List.mem_map.1 hx
  split
  · unfold pv
    have h1 := dv_bd (cs.getD (2 * i) 0)
    have h2 := dv_bd (cs.getD (2 * i + 1) 0)
    omega
  · omega
theorem parsed_len32 (cs : List Int) : (parsed cs).1.length = 32 := by
  unfold parsed
  split
  · exact pk_length cs 32
  · exact List.length_replicate
theorem parsed_bounds (cs : List Int) : ∀ x ∈ (parsed cs).1, 0 ≤ x ∧ x < 256 := by
  unfold parsed
  split
  · exact pk_bounds cs
  · exact zero_bounds
theorem str_sb (s : ByteArray) : strOfNums (sb s) = s := by
  apply ByteArray.ext
  apply Array.ext'
  rw [show (strOfNums (sb s)).data.toList = _ from strOfNums_data (sb s)]
  unfold sb
  rw [List.map_map]
  conv => rhs; rw [← List.map_id s.data.toList]
  refine List.map_congr_left fun u _ => ?_
  simp
/-- What is read is written as it was. -/
theorem print_parse (s : ByteArray) (h : (parsed (sb s)).2 = true) : strOfNums (hexs (parsed (sb s)).1) = s := by
  have hh : (sb s).length = 64 ∧ (List.range 64).all (fun j => dk ((sb s).getD j 0)) = true := by
    unfold parsed at h
    split at h
    · rename_i hc; exact hc
    · cases h
  have e : parsed (sb s) = (pk (sb s) 32, true) := by unfold parsed; rw [if_pos hh]
  rw [e]
  conv => rhs; rw [← str_sb s]
  congr 1
  apply List.ext_getElem
  · rw [hh.1]; simp [hexs]
  · intro j h1 h2
    have hj : j < 64 := by rw [hh.1] at h2; exact h2
    have hk := (List.all_eq_true.1 hh.2) j (by simpa using hj)
    have e1 : (sb s)[j] = (sb s).getD j 0 := by simp [List.getD, List.getElem?_eq_getElem h2]
    simp only [hexs, List.getElem_map, List.getElem_range]
    rw [e1]
    have hp : (pk (sb s) 32).getD (j / 2) 0 = pv (sb s) (j / 2) := by
      have hj2 : j / 2 < 32 := by omega
      simp [pk, List.getD, hj2]
    unfold hexAt
    rw [hp]
    have d1 := dv_bd ((sb s).getD (2 * (j / 2)) 0)
    have d2 := dv_bd ((sb s).getD (2 * (j / 2) + 1) 0)
    by_cases hev : j % 2 = 0
    · rw [if_pos hev]
      have : pv (sb s) (j / 2) / 16 = dv ((sb s).getD j 0) := by
        unfold pv
        rw [show 2 * (j / 2) = j from by omega] at d1 ⊢
        rw [show 2 * (j / 2) + 1 = j + 1 from by omega] at d2
        omega
      rw [this, dv_hex _ hk]
    · rw [if_neg hev]
      have : pv (sb s) (j / 2) % 16 = dv ((sb s).getD j 0) := by
        unfold pv
        rw [show 2 * (j / 2) + 1 = j from by omega] at d2 ⊢
        omega
      rw [this, dv_hex _ hk]
/-- Two rows that lie in memory. -/
structure Two (N gA gB : Nat) (w0 w : World) (xs ys : List Int) : Prop where
  hA : w.heap[gA]? = some (.cells (B8 xs) 24)
  hB : w.heap[gB]? = some (.cells (B8 ys) 24)
  bel : Below N w0 w
  nA : N ≤ gA
  nB : N ≤ gB
theorem Two.call {N gA gB : Nat} {w0 w w' : World} {xs ys : List Int} (h : Two N gA gB w0 w xs ys) (hb : Below w.heap.size w w') : Two N gA gB w0 w' xs ys :=
  ⟨Below.row hb h.hA, Below.row hb h.hB, h.bel.trans (hb.mono (by have := lt_of_get h.hA; have := h.nA; omega)), h.nA, h.nB⟩
theorem Two.drew {N gA gB : Nat} {w0 w : World} {xs ys : List Int} (h : Two N gA gB w0 w xs ys) : Two N gA gB w0 w.drew xs ys := ⟨h.hA, h.hB, h.bel.drew, h.nA, h.nB⟩
/-- A new row, stored into a new block, beside one that lies. -/
theorem two_new {N gA : Nat} {w0 w : World} {xs ys : List Int} {o : Array Value} (hA : w.heap[gA]? = some (.cells (B8 xs) 24)) (hb : Below N w0 w) (nA : N ≤ gA) : Two N gA w.heap.size w0 ((w.alloc (.cells o 24)).setRow w.heap.size (B8 ys)) xs ys := by
  have l := lt_of_get hA
  exact ⟨by rw [setRow_other _ _ _ _ (by omega), Below.heap_alloc _ _ _ l]; exact hA, setRow_heap _ _ _ _ _ _ (heap_alloc_new w _), Below.setRow (hb.alloc (by omega) _) (by omega) _, nA, by omega⟩
theorem info24 (xs : List Int) (h : xs.length = 32) : Hid ((Try.prog.info? 24).map (·.size) = some (B8 xs).size) := by unfold Hid; rw [B8_size, h]; kernel_rfl
theorem zero24 (xs : List Int) (h : xs.length = 32) : Hid ((B8 zz).size = (B8 xs).size) := by unfold Hid; rw [B8_size, B8_size, h, zz_len]
attribute [local go_sem ↓] load24_fold
set_option maxHeartbeats 1000000 in
theorem lawBack (xs : List Int) (s : ByteArray) (hx : xs.length = 32) (hb : ∀ x ∈ xs, 0 ≤ x ∧ x < 256) (hs : s.size ≤ maxLen) (w : World) :
    Calls Try.prog 8 #[.agg (B8 xs), .string s] w fun e w' => e = .returned (.bool true) ∧ Below w.heap.size w w' := by
  have HI := info24 xs hx
  have HZ := zero24 xs hx
  have hr0 : (w.alloc (.cells (B8 xs) 24)).heap[w.heap.size]? = some (.cells (B8 xs) 24) := heap_alloc_new w _
  have HR := Hid.mk hr0
  have HX := Hid.mk hx
  have HB := Hid.mk hb
  have HS := Hid.mk hs
  have q1 : ∀ x, (Op.equalIn 10000 24 (.agg (B8 xs)) (.agg (B8 xs))).run Try.prog x = .ok true x := fun x => by rw [eq24 _ _ hx hx]; simp
  have l0 := load24_run hr0 hx
  clear hr0 hx hb hs
  go_enter Try.func8, Try.ntmps8
  go_wp2_with fail
  refine (print_any xs HX.out HB.out _).mono ?_
  rintro e w1 ⟨rfl, hb1⟩
  have hr1 := Below.row hb1 HR.out
  have hbe : Below w.heap.size w w1 := ((Below.refl _ _).alloc (Nat.le_refl _) _).trans (hb1.mono (by simp))
  clear hb1 HR l0
  go_wp2_with fail
  refine (parse_any _ (by rw [strOfNums_size]; simp [hexs, maxLen]) _).mono ?_
  rintro e w2 ⟨rfl, hb2⟩
  rw [parse_print _ HX.out HB.out]
  have hr2 := Below.row hb2 hr1
  have hbe2 : Below w.heap.size w w2 := hbe.trans (hb2.mono hbe.size)
  clear hb2 hr1 hbe
  have HR2 := Hid.mk hr2
  clear hr2
  go_wp2_with (first | refine wpList_store_row rfl 24 _ _ rfl _ (B8 xs) rfl rfl 24 _ (heap_alloc_new w2 _) HI.out HZ.out (B8_one _) ?_)
  refine gen_w (p := fun v => Calls _ _ _ v _) (q := fun v => Two w.heap.size w.heap.size w2.heap.size w v xs xs) (two_new HR2.out hbe2 (Nat.le_refl _)) ?_
  have hz2 := hbe2.size
  obtain ⟨g5, hg5⟩ : ∃ g, w2.heap.size = g := ⟨_, rfl⟩
  rw [hg5] at hz2 ⊢
  clear HR2 hbe2 hg5 w2
  intro v F
  refine (alive_any v).mono ?_
  rintro e w3 ⟨rfl, hb3⟩
  replace F := F.call hb3
  clear hb3
  have l1 := load24_run F.hA HX.out
  have l2 := load24_run F.hB HX.out
  go_wp2_with fail
  refine (parse_any s HS.out _).mono ?_
  rintro e w4 ⟨rfl, hb4⟩
  have hbe4 := F.bel.trans (hb4.mono (by have := lt_of_get F.hA; omega))
  have hz4 := hbe4.size
  clear F l1 l2 hb4
  have hpl := parsed_len32 (sb s)
  have hpb := Hid.mk (parsed_bounds (sb s))
  have hpp := Hid.mk (print_parse s)
  obtain ⟨ps, eps⟩ : ∃ ps, (parsed (sb s)).1 = ps := ⟨_, rfl⟩
  obtain ⟨ok, eok⟩ : ∃ ok, (parsed (sb s)).2 = ok := ⟨_, rfl⟩
  rw [eps, eok] at hpp
  rw [eps] at hpl hpb
  rw [eps, eok]
  clear eps eok
  have HI4 := info24 ps hpl
  have HZ4 := zero24 ps hpl
  have hpl' := Hid.mk hpl
  clear hpl
  cases ok with
  | false =>
    go_wp2_with (first | refine wpList_store_row rfl 24 _ _ rfl _ (B8 ps) rfl rfl 24 _ (heap_alloc_new w4 _) HI4.out HZ4.out (B8_one _) ?_)
    go_ret
    exact ⟨rfl, Below.setRow (hbe4.alloc (by omega) _) (by omega) _⟩
  | true =>
    have HPR : Hid (strOfNums (hexs ps) = s) := hpp.out rfl
    clear hpp
    have l7 := load24_run (setRow_heap (w4.alloc (.cells (B8 zz) 24)) w4.heap.size _ (B8 ps) 24 _ (heap_alloc_new w4 _)) hpl'.out
    rw [zz_row] at l7
    go_wp2_with (first | refine wpList_store_row rfl 24 _ _ rfl _ (B8 ps) rfl rfl 24 _ (heap_alloc_new w4 _) HI4.out HZ4.out (B8_one _) ?_)
    refine (print_any ps hpl'.out hpb.out _).mono ?_
    rintro e w5 ⟨rfl, hb5⟩
    rw [HPR.out]
    have hbe5 := (Below.setRow (hbe4.alloc (by omega) _) (by omega) _).trans (hb5.mono (by simp; omega))
    clear l7 hb5
    have hse : (s.toList == s.toList) = true := by simp
    go_wp2_with fail
    go_ret
    exact ⟨rfl, hbe5⟩
end Go.Proofs.Ytcbjjndhecehcaa
