/- What digest.Less and the document's Less answer: one and the same order of rows of 32 bytes. -/
import Derived.Test.YtcbjjndhecehcaaW4
namespace Go.Proofs.Ytcbjjndhecehcaa
open Go.RowKit
/-- The order of rows of bytes of one length. -/
def lt32 : List Int → List Int → Bool
  | x :: xs, y :: ys => if x = y then lt32 xs ys else decide (x < y)
  | _, _ => false
theorem drop_getD (xs : List Int) (k : Nat) (h : k < xs.length) : xs.drop k = xs.getD k 0 :: xs.drop (k + 1) := by
  rw [List.drop_eq_getElem_cons h]
  simp [List.getD, List.getElem?_eq_getElem h]
theorem lt32_end (xs ys : List Int) (k : Nat) (h : xs.length = k) : lt32 (xs.drop k) (ys.drop k) = false := by
  rw [List.drop_eq_nil_of_le (by omega)]
  simp [lt32]
theorem lt32_same (xs ys : List Int) (k : Nat) (x : Int) (hx : k < xs.length) (hy : k < ys.length) (ex : xs.getD k 0 = x) (ey : ys.getD k 0 = x) : lt32 (xs.drop (k + 1)) (ys.drop (k + 1)) = lt32 (xs.drop k) (ys.drop k) := by
  rw [drop_getD xs k hx, drop_getD ys k hy, ex, ey]
  simp [lt32]
theorem lt32_diff (xs ys : List Int) (k : Nat) (x y : Int) (hx : k < xs.length) (hy : k < ys.length) (ex : xs.getD k 0 = x) (ey : ys.getD k 0 = y) (hne : ¬ x = y) : lt32 (xs.drop k) (ys.drop k) = decide (x < y) := by
  rw [drop_getD xs k hx, drop_getD ys k hy, ex, ey]
  simp [lt32, hne]
theorem duo_new (w : World) (A B : Obj) : ((w.alloc A).alloc B).heap[w.heap.size]? = some A ∧ ((w.alloc A).alloc B).heap[w.heap.size + 1]? = some B ∧ Below w.heap.size w ((w.alloc A).alloc B) :=
  ⟨heap_alloc2_old w A B, heap_alloc2_new w A B, ((Below.refl _ _).alloc (Nat.le_refl _) _).alloc (by simp) _⟩
theorem ret_bool {a b : Bool} (h : a = b) : Ending.returned (.bool a) = .returned (.bool b) := by rw [h]
set_option maxHeartbeats 400000 in
theorem less_any (xs ys : List Int) (hx : xs.length = 32) (hy : ys.length = 32) (w : World) :
    Calls Try.prog 18 #[.agg (B8 xs), .agg (B8 ys)] w fun e w' => e = .returned (.bool (lt32 xs ys)) ∧ Below w.heap.size w w' := by
  obtain ⟨h0, h1, hb⟩ := duo_new w (.cells (B8 xs) 24) (.cells (B8 ys) 24)
  have HX := Hid.mk h0
  have HY := Hid.mk h1
  have HI : Hid ((Try.prog.info? 24).map (·.size) = some (B8 xs).size) := by unfold Hid; rw [B8_size, hx]; kernel_rfl
  clear h0 h1
  go_enter Try.func18, Try.ntmps18
  go_wp2_with (first | refine wpList_load_row rfl 24 _ rfl _ rfl 24 _ _ _ HX.out Try.underlying24 rfl HI.out ?_)
  go_loop [8] (fun i => ∃ k : Nat, k ≤ 32 ∧ i = .int .i64 k ∧ Hid (lt32 (xs.drop k) (ys.drop k) = lt32 xs ys)) (fun i => 32 - (intOf i).toNat)
  case atStart => exact ⟨0, by omega, rfl, rfl⟩
  case round =>
    obtain ⟨k, hk, rfl, HL⟩ := hrel
    by_cases hlt : k < 32
    · have hix := fun v => run_index_arr (P := Try.prog) 24 5 32 .u8 Try.underlying24 (by kernel_rfl) Try.underlying5 (B8 xs) (k : Int) _ (by omega) (by omega) (B8_get xs k (by omega)) v
      have hcy := B8_cell HY.out k (by omega)
      obtain ⟨x, ex⟩ : ∃ x, xs.getD k 0 = x := ⟨_, rfl⟩
      obtain ⟨y, ey⟩ : ∃ y, ys.getD k 0 = y := ⟨_, rfl⟩
      rw [ex] at hix
      rw [ey] at hcy
      by_cases hxy : x = y
      · subst hxy
        have HS := Hid.mk ((lt32_same xs ys k x (by omega) (by omega) ex ey).trans HL.out)
        clear ex ey HL
        go_wp2
        go_round
        case rel => exact ⟨k + 1, by omega, by go_num, HS⟩
        case measure => simp [intOf]; omega
      · have HS := Hid.mk ((lt32_diff xs ys k x y (by omega) (by omega) ex ey hxy).symm.trans HL.out)
        have hb2 : (x != y) = true := by rw [bne_iff_ne]; exact hxy
        clear ex ey HL hxy
        go_wp2
        go_ret
        exact ⟨ret_bool HS.out, hb⟩
    · have hk2 : k = 32 := by omega
      subst hk2
      have HS := Hid.mk ((lt32_end xs ys 32 hx).symm.trans HL.out)
      clear HL
      go_wp2
      go_ret
      exact ⟨ret_bool HS.out, hb⟩
set_option maxHeartbeats 400000 in
theorem rless_any (xs ys : List Int) (hx : xs.length = 32) (hy : ys.length = 32) (w : World) :
    Calls Try.prog 19 #[.agg (B8 xs), .agg (B8 ys)] w fun e w' => e = .returned (.bool (lt32 xs ys)) ∧ Below w.heap.size w w' := by
  obtain ⟨h0, h1, hb⟩ := duo_new w (.cells (B8 xs) 24) (.cells (B8 ys) 24)
  have HX := Hid.mk h0
  have HY := Hid.mk h1
  clear h0 h1
  go_enter Try.func19, Try.ntmps19
  go_wp2_with fail
  go_loopw [5] (fun i v => ∃ k : Nat, k ≤ 32 ∧ i = .int .i64 k ∧ Hid (lt32 (xs.drop k) (ys.drop k) = lt32 xs ys) ∧ v.heap[w.heap.size]? = some (.cells (B8 xs) 24) ∧ v.heap[w.heap.size + 1]? = some (.cells (B8 ys) 24) ∧ Below w.heap.size w v) (fun i _ => 32 - (intOf i).toNat)
  case atStart => exact ⟨0, by omega, rfl, rfl, HX.out, HY.out, hb⟩
  case round =>
    clear hb HX HY
    obtain ⟨k, hk, rfl, HL, h0, h1, hb⟩ := hrel
    have HX := Hid.mk h0
    have HY := Hid.mk h1
    clear h0 h1
    by_cases hlt : k < 32
    · have hki : (k : Int) < 32 := by omega
      have hcx := B8_cell HX.out k (by omega)
      have hcy := B8_cell HY.out k (by omega)
      obtain ⟨x, ex⟩ : ∃ x, xs.getD k 0 = x := ⟨_, rfl⟩
      obtain ⟨y, ey⟩ : ∃ y, ys.getD k 0 = y := ⟨_, rfl⟩
      rw [ex] at hcx
      rw [ey] at hcy
      by_cases hxy : x = y
      · subst hxy
        have HS := Hid.mk ((lt32_same xs ys k x (by omega) (by omega) ex ey).trans HL.out)
        clear ex ey HL
        go_wp2_with fail
        go_quiet (fail)
        go_wp2_with fail
        refine ⟨⟨k + 1, by omega, by go_num, HS, HX.out, HY.out, ?_⟩, by simp [intOf]; omega⟩
        repeat (first | exact hb | refine below_drewN ?_ _)
      · have HS := Hid.mk ((lt32_diff xs ys k x y (by omega) (by omega) ex ey hxy).symm.trans HL.out)
        have hb2 : (x != y) = true := by rw [bne_iff_ne]; exact hxy
        clear ex ey HL hxy
        go_wp2_with fail
        go_quiet (fail)
        go_wp2_with fail
        go_quiet (fail)
        go_wp2_with fail
        go_ret
        refine ⟨ret_bool HS.out, ?_⟩
        repeat (first | exact hb | refine below_drewN ?_ _)
    · have hk2 : k = 32 := by omega
      subst hk2
      have HS := Hid.mk ((lt32_end xs ys 32 hx).symm.trans HL.out)
      clear HL
      go_wp2
      go_ret
      exact ⟨ret_bool HS.out, hb⟩
end Go.Proofs.Ytcbjjndhecehcaa
