/- What digest.Print and the document's Print answer: one and the same text, for every digest. -/
import Derived.Test.YtcbjjndhecehcaaW4
namespace Go.Proofs.Ytcbjjndhecehcaa
open Go.RowKit
def hexI (n : Int) : Int := if n < 10 then 48 + n else 87 + n
def hexAt (xs : List Int) (j : Nat) : Int := if j % 2 = 0 then hexI (xs.getD (j / 2) 0 / 16) else hexI (xs.getD (j / 2) 0 % 16)
def hexk (xs : List Int) (k : Nat) : List Int := (List.range 64).map fun j => if j < 2 * k then hexAt xs j else 0
def hexs (xs : List Int) : List Int := (List.range 64).map (hexAt xs)
theorem hexk_length (xs : List Int) (k : Nat) : (hexk xs k).length = 64 := by simp [hexk]
theorem hexk_all (xs : List Int) : hexk xs 32 = hexs xs := by
  unfold hexk hexs
  refine List.map_congr_left fun i hi => ?_
  rw [if_pos (by simpa using hi)]
theorem hexk_succ (xs : List Int) (k : Nat) (b : Int) (hb : xs.getD k 0 = b) : ((hexk xs k).set (2 * k) (hexI (b / 16))).set (2 * k + 1) (hexI (b % 16)) = hexk xs (k + 1) := by
  subst hb
  apply List.ext_getElem
  · simp [hexk]
  · intro i h1 h2
    simp only [hexk, List.getElem_set, List.getElem_map, List.getElem_range]
    by_cases e : 2 * k + 1 = i
    · subst e
      rw [if_pos rfl, if_pos (by omega)]
      unfold hexAt
      rw [if_neg (by omega), show (2 * k + 1) / 2 = k from by omega]
    · rw [if_neg e]
      by_cases e2 : 2 * k = i
      · subst e2
        rw [if_pos rfl, if_pos (by omega)]
        unfold hexAt
        rw [if_pos (by omega), show (2 * k) / 2 = k from by omega]
      · rw [if_neg e2]
        by_cases e3 : i < 2 * k
        · rw [if_pos e3, if_pos (by omega)]
        · rw [if_neg e3, if_neg (by omega)]
def digs : ByteArray := { data := #[48, 49, 50, 51, 52, 53, 54, 55, 56, 57, 97, 98, 99, 100, 101, 102] }
theorem digs_fin : ∀ n : Fin 16, ((digs[n.val]'(n.isLt)).toNat : Int) = hexI n.val := by decide
theorem digs_get (i : Int) (h0 : 0 ≤ i) (h1 : i < 16) (h : i.toNat < digs.size) : ((digs[i.toNat]'h).toNat : Int) = hexI i := by
  have e := digs_fin ⟨i.toNat, by omega⟩
  have e2 : ((i.toNat : Nat) : Int) = i := by omega
  rw [show (hexI i) = hexI ((i.toNat : Nat) : Int) from by rw [e2]]
  exact e
structure Pr (N : Nat) (w0 w : World) (ds : List Int) : Prop where
  ho : w.heap[N + 1]? = some (.cells (B8 ds) 58)
  bel : Below N w0 w
theorem Pr.set {N : Nat} {w0 w : World} {ds : List Int} (h : Pr N w0 w ds) (k : Nat) (x : Int) : Pr N w0 (w.setCell ⟨N + 1, k, none⟩ (.int .u8 x)) (ds.set k x) :=
  ⟨by rw [heap_setCell_same w (N + 1) k _ 58 _ h.ho, B8_set], h.bel.setCell (by simp) _⟩
set_option maxHeartbeats 400000 in
theorem print_any (xs : List Int) (hx : xs.length = 32) (hb : ∀ x ∈ xs, 0 ≤ x ∧ x < 256) (w : World) :
    Calls Try.prog 22 #[.agg (B8 xs)] w fun e w' => e = .returned (.string (strOfNums (hexs xs))) ∧ Below w.heap.size w w' := by
  have h0 : (w.alloc (.cells (B8 xs) 24)).heap[w.heap.size]? = some (.cells (B8 xs) 24) := heap_alloc_new w _
  have HX : ∀ o, Hid (((w.alloc (.cells (B8 xs) 24)).alloc o).heap[w.heap.size]? = some (.cells (B8 xs) 24)) := fun o => (Below.heap_alloc _ _ _ (by simp)).trans h0
  have HI : Hid ((Try.prog.info? 24).map (·.size) = some (B8 xs).size) := by unfold Hid; rw [B8_size, hx]; kernel_rfl
  have HO : Pr w.heap.size w ((w.alloc (.cells (B8 xs) 24)).alloc (.cells (B8 (List.replicate 64 0)) 58)) (hexk xs 0) := ⟨heap_alloc2_new w _ _, ((Below.refl _ _).alloc (Nat.le_refl _) _).alloc (by simp) _⟩
  clear h0
  go_enter Try.func22, Try.ntmps22
  go_wp2_with (first | refine wpList_load_row rfl 24 _ rfl _ rfl 24 _ _ _ (HX _).out Try.underlying24 rfl HI.out ?_)
  go_loopw [7] (fun i v => ∃ k : Nat, k ≤ 32 ∧ i = .int .i64 k ∧ Pr w.heap.size w v (hexk xs k)) (fun i _ => 32 - (intOf i).toNat)
  case atStart => exact ⟨0, by omega, rfl, HO⟩
  case round =>
    clear HO
    obtain ⟨k, hk, rfl, R⟩ := hrel
    by_cases hlt : k < 32
    · obtain ⟨hb0, hb1⟩ : 0 ≤ xs.getD k 0 ∧ xs.getD k 0 < 256 := hb _ (getD_mem xs k (by omega))
      have hix := fun v => run_index_arr (P := Try.prog) 24 5 32 .u8 Try.underlying24 (by kernel_rfl) Try.underlying5 (B8 xs) (k : Int) _ (by omega) (by omega) (B8_get xs k (by omega)) v
      obtain ⟨b, eb⟩ : ∃ b, xs.getD k 0 = b := ⟨_, rfl⟩
      rw [eb] at hb0 hb1 hix
      have hc1 := B8_cell R.ho (2 * k) (by rw [hexk_length]; omega)
      have hc2 := B8_cell R.ho (2 * k + 1) (by rw [hexk_length]; omega)
      have hf1 := frozen_of_row _ _ (2 * k) _ _ R.ho
      have hf2 := frozen_of_row _ _ (2 * k + 1) _ _ R.ho
      generalize (hexk xs k).getD (2 * k) 0 = y1 at hc1
      generalize (hexk xs k).getD (2 * k + 1) 0 = y2 at hc2
      have T := (R.set (2 * k) (hexI (b / 16))).set (2 * k + 1) (hexI (b % 16))
      rw [hexk_succ xs k b eb] at T
      clear eb
      go_wp2_with fail
      refine ⟨⟨k + 1, by omega, by go_num, ?_⟩, by simp [intOf]; omega⟩
      have e1 := digs_get (b / 16) (by omega) (by omega) (show (b / 16).toNat < 16 from by omega)
      have e2 := digs_get (b % 16) (by omega) (by omega) (show (b % 16).toNat < 16 from by omega)
      rw [← e1, ← e2] at T
      exact T
    · have hk2 : k = 32 := by omega
      subst hk2
      rw [hexk_all] at R
      have hcv := run_convert_bytes_arg wr 22 5 Try.underlying22 Try.underlying5 (w.heap.size + 1) 0 64 64 (hexs xs) (by simp [hexs]) (fun i hi => by rw [Nat.zero_add]; exact B8_cell R.ho i (by simp [hexs]; omega)) 9 Try.underlying9
      go_wp2
      go_ret
      exact ⟨rfl, R.bel⟩
theorem digs_ext_fin : ∀ n : Fin 16, digs.extract n.val (n.val + 1) = strOfNums [hexI n.val] := by decide +kernel
theorem digs_ext (i : Int) (h0 : 0 ≤ i) (h1 : i < 16) : digs.extract i.toNat (i + 1).toNat = strOfNums [hexI i] := by
  have e := digs_ext_fin ⟨i.toNat, by omega⟩
  have e2 : ((i.toNat : Nat) : Int) = i := by omega
  have e3 : (i + 1).toNat = i.toNat + 1 := by omega
  rw [e3, show (hexI i) = hexI ((i.toNat : Nat) : Int) from by rw [e2]]
  exact e
theorem str_app (l m : List Int) : strOfNums l ++ strOfNums m = strOfNums (l ++ m) := by
  apply ByteArray.ext
  simp [strOfNums]
theorem hex_pre (xs : List Int) (k : Nat) (b : Int) (hb : xs.getD k 0 = b) : (List.range (2 * k)).map (hexAt xs) ++ [hexI (b / 16)] ++ [hexI (b % 16)] = (List.range (2 * (k + 1))).map (hexAt xs) := by
  subst hb
  rw [show 2 * (k + 1) = 2 * k + 1 + 1 from by omega, List.range_succ, List.range_succ]
  simp only [List.map_append, List.map_cons, List.map_nil]
  have e1 : hexAt xs (2 * k) = hexI (xs.getD k 0 / 16) := by unfold hexAt; rw [if_pos (by omega), show (2 * k) / 2 = k from by omega]
  have e2 : hexAt xs (2 * k + 1) = hexI (xs.getD k 0 % 16) := by unfold hexAt; rw [if_neg (by omega), show (2 * k + 1) / 2 = k from by omega]
  rw [e1, e2]
set_option maxHeartbeats 400000 in
theorem rprint_any (xs : List Int) (hx : xs.length = 32) (hb : ∀ x ∈ xs, 0 ≤ x ∧ x < 256) (w : World) :
    Calls Try.prog 23 #[.agg (B8 xs)] w fun e w' => e = .returned (.string (strOfNums (hexs xs))) ∧ Below w.heap.size w w' := by
  have h0 : (w.alloc (.cells (B8 xs) 24)).heap[w.heap.size]? = some (.cells (B8 xs) 24) := heap_alloc_new w _
  have HX := Hid.mk h0
  clear h0
  go_enter Try.func23, Try.ntmps23
  go_wp2_with fail
  go_loopw [4, 5] (fun s i v => ∃ k : Nat, k ≤ 32 ∧ i = .int .i64 k ∧ s = .string (strOfNums ((List.range (2 * k)).map (hexAt xs))) ∧ v.heap[w.heap.size]? = some (.cells (B8 xs) 24) ∧ Below w.heap.size w v) (fun _ i _ => 32 - (intOf i).toNat)
  case atStart => exact ⟨0, by omega, rfl, rfl, HX.out, (Below.refl _ _).alloc (Nat.le_refl _) _⟩
  case round =>
    clear HX
    obtain ⟨k, hk, rfl, rfl, h0, hbel⟩ := hrel
    have HX := Hid.mk h0
    clear h0
    by_cases hlt : k < 32
    · obtain ⟨hb0, hb1⟩ : 0 ≤ xs.getD k 0 ∧ xs.getD k 0 < 256 := hb _ (getD_mem xs k (by omega))
      have hc := B8_cell HX.out k (by omega)
      obtain ⟨b, eb⟩ : ∃ b, xs.getD k 0 = b := ⟨_, rfl⟩
      rw [eb] at hb0 hb1 hc
      have HE := Hid.mk eb
      clear eb
      have hsz : (strOfNums ((List.range (2 * k)).map (hexAt xs))).size = 2 * k := by rw [strOfNums_size]; simp
      obtain ⟨S, hS⟩ : ∃ S, strOfNums ((List.range (2 * k)).map (hexAt xs)) = S := ⟨_, rfl⟩
      rw [hS] at hsz ⊢
      have HS := Hid.mk hS
      have hsz2 : S.size ≤ 64 := by omega
      clear hS hsz
      go_wp2_with fail
      go_quiet (fail)
      go_wp2_with fail
      refine ⟨⟨k + 1, by omega, by go_num, ?_, HX.out, below_drewN hbel _⟩, by simp [intOf]; omega⟩
      have e1 := digs_ext (b / 16) (by omega) (by omega)
      have e2 := digs_ext (b % 16) (by omega) (by omega)
      rw [← hex_pre xs k b HE.out, ← str_app, ← str_app, HS.out, ← e1, ← e2]
      rfl
    · have hk2 : k = 32 := by omega
      subst hk2
      go_wp2
      go_ret
      exact ⟨rfl, hbel⟩
end Go.Proofs.Ytcbjjndhecehcaa
