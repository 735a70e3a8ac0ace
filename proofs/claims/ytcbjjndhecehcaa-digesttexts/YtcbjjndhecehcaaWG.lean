/- What the document's Parse (pergolaref01.Parse) answers: just what digest.Parse does, for every text. -/
import Derived.Test.YtcbjjndhecehcaaWA
import Derived.Test.YtcbjjndhecehcaaWB
import Derived.Deep.QuietTactic
namespace Go.Proofs.Ytcbjjndhecehcaa
open Go.RowKit
set_option linter.unusedVariables false
/-- Which of the first j digits a byte is: the last such, or -1. -/
def fnd (c : Int) : Nat → Int
  | 0 => -1
  | j + 1 => if c = hexI j then j else fnd c j
theorem fnd_fin : ∀ c : Fin 256, fnd (c.val : Nat) 16 = if dk (c.val : Nat) then dv (c.val : Nat) else -1 := by decide +kernel
theorem fnd_all (c : Int) (h0 : 0 ≤ c) (h1 : c < 256) : fnd c 16 = if dk c then dv c else -1 := by
  have e := fnd_fin ⟨c.toNat, by omega⟩
  have e2 : ((c.toNat : Nat) : Int) = c := by omega
  simp only [e2] at e
  exact e
def rp (cs : List Int) (i : Nat) : List Int := (List.range 32).map fun j => if 2 * j + 1 < i then pv cs j else if 2 * j < i then dv (cs.getD (2 * j) 0) else 0
theorem rp_length (cs : List Int) (k : Nat) : (rp cs k).length = 32 := by simp [rp]
theorem rp_getD (cs : List Int) (i j : Nat) (hj : j < 32) : (rp cs i).getD j 0 = if 2 * j + 1 < i then pv cs j else if 2 * j < i then dv (cs.getD (2 * j) 0) else 0 := by
  simp [rp, List.getD, hj]
theorem rp_all (cs : List Int) : rp cs 64 = pk cs 32 := by
  unfold rp pk
  refine List.map_congr_left fun j hj => ?_
  have : j < 32 := by simpa using hj
  rw [if_pos (by omega), if_pos this]
/-- What is stored behind byte i. -/
def rnew (cs : List Int) (i : Nat) : Int := if i % 2 = 0 then dv (cs.getD i 0) else pv cs (i / 2)
theorem rp_succ (cs : List Int) (i : Nat) : (rp cs i).set (i / 2) (rnew cs i) = rp cs (i + 1) := by
  apply List.ext_getElem
  · simp [rp]
  · intro j h1 h2
    simp only [rp, List.getElem_set, List.getElem_map, List.getElem_range]
    by_cases e : i / 2 = j
    · rw [if_pos e]
      unfold rnew
      by_cases he : i % 2 = 0
      · rw [if_pos he, if_neg (by omega), if_pos (by omega), show 2 * j = i from by omega]
      · rw [if_neg he, if_pos (by omega), e]
    · rw [if_neg e]
      by_cases e1 : 2 * j + 1 < i
      · rw [if_pos e1, if_pos (by omega)]
      · rw [if_neg e1, if_neg (by omega), if_neg (by omega), if_neg (by omega)]
theorem rnew_of (cs : List Int) (i : Nat) (hi : i < 64) : ((rp cs i).getD (i / 2) 0 * 16 + dv (cs.getD i 0)) = rnew cs i ∧ 0 ≤ (rp cs i).getD (i / 2) 0 ∧ (rp cs i).getD (i / 2) 0 < 16 := by
  rw [rp_getD cs i _ (by omega)]
  unfold rnew
  by_cases he : i % 2 = 0
  · rw [if_neg (by omega), if_neg (by omega), if_pos he]
    omega
  · rw [if_neg (by omega), if_pos (by omega), if_neg he]
    have := dv_bd (cs.getD (2 * (i / 2)) 0)
    unfold pv
    rw [show 2 * (i / 2) + 1 = i from by omega]
    omega
theorem digs_nat (j : Nat) (h : j < 16) : (((({ data := #[48, 49, 50, 51, 52, 53, 54, 55, 56, 57, 97, 98, 99, 100, 101, 102] } : ByteArray)[j]'h).toNat : Nat) : Int) = hexI j := by
  have e := digs_get (j : Int) (by omega) (by omega) (show ((j : Int)).toNat < 16 from by omega)
  simp only [Int.toNat_natCast] at e
  exact e
theorem Pa.drewN {N : Nat} {w0 w : World} {ds : List Int} (h : Pa N w0 w ds) (n : Nat) : Pa N w0 (w.drewN n) ds := ⟨h.h0, h.ho, below_drewN h.bel n⟩
theorem okTo_one {cs : List Int} {k : Nat} (h : okTo cs k) (h1 : dk (cs.getD k 0) = true) : okTo cs (k + 1) := by
  intro j hj
  by_cases e : j < k
  · exact h j e
  · have e2 : j = k := by omega
    subst e2; exact h1
set_option maxHeartbeats 1000000 in
theorem rparse_any (s : ByteArray) (w : World) :
    Calls Try.prog 21 #[.string s] w fun e w' => e = .returned (.tuple #[.agg (B8 (parsed (sb s)).1), .bool (parsed (sb s)).2]) ∧ Below w.heap.size w w' := by
  have HI : Hid ((Try.prog.info? 24).map (·.size) = some (B8 (List.replicate 32 0)).size) := by unfold Hid; rw [B8_size]; kernel_rfl
  have HP : Pa w.heap.size w ((w.alloc (.cells (B8 (List.replicate 32 0)) 24)).alloc (.cells (B8 (List.replicate 32 0)) 24)) (rp (sb s) 0) := ⟨heap_alloc2_old w _ _, heap_alloc2_new w _ _, ((Below.refl _ _).alloc (Nat.le_refl _) _).alloc (by simp) _⟩
  by_cases h64 : s.size = 64
  · have hne : ((s.size : Int) != 64) = false := by rw [h64]; rfl
    have H64 := Hid.mk h64
    clear h64
    go_enter Try.func21, Try.ntmps21
    go_wp2_with fail
    go_loopw [6] (fun t v => ∃ i : Nat, i ≤ 64 ∧ t = .int .i64 i ∧ okTo (sb s) i ∧ Pa w.heap.size w v (rp (sb s) i)) (fun t _ => 64 - (intOf t).toNat)
    case atStart => exact ⟨0, by omega, rfl, fun j hj => by omega, HP⟩
    case round =>
      clear HP
      obtain ⟨i, hi, rfl, hok, R⟩ := hrel
      have HO := Hid.mk hok
      clear hok
      by_cases hlt : i < 64
      · have hlti : (i : Int) < 64 := by omega
        have hi1 : (i : Int) < s.size := by have := H64.out; omega
        have hj1 : i < s.size := by omega
        have e1 := sb_get s i hj1
        obtain ⟨b1, b1'⟩ := sb_bd s i
        obtain ⟨hn1, hn2, hn3⟩ := rnew_of (sb s) i hlt
        obtain ⟨c, ec⟩ : ∃ c, (sb s).getD i 0 = c := ⟨_, rfl⟩
        rw [ec] at e1 b1 b1' hn1
        have hf := fnd_all c b1 b1'
        have hcell := B8_cell R.ho (i / 2) (by rw [rp_length]; omega)
        have hfr := frozen_of_row _ _ (i / 2) _ _ R.ho
        have T := R.set (i / 2) (rnew (sb s) i)
        rw [rp_succ] at T
        obtain ⟨y, ey⟩ : ∃ y, (rp (sb s) i).getD (i / 2) 0 = y := ⟨_, rfl⟩
        rw [ey] at hcell hn1 hn2 hn3
        rw [← hn1] at T
        have HC := Hid.mk ec
        have HF := Hid.mk hf
        clear ec hf ey hn1
        have hdv := dv_bd c
        go_wp2_with fail
        go_loopw [7, 8] (fun tn tj v => ∃ j : Nat, j ≤ 16 ∧ tj = .int .i64 j ∧ tn = .int .i64 (fnd c j) ∧ ∃ n, v = wr.drewN n) (fun _ tj _ => 16 - (intOf tj).toNat)
        case atStart => exact ⟨0, by omega, rfl, rfl, 0, rfl⟩
        case round =>
          obtain ⟨j, hj, rfl, rfl, nn, rfl⟩ := hrel
          by_cases hl16 : j < 16
          · have hji : (j : Int) < 16 := by omega
            have hjd := digs_nat j hl16
            have hS : fnd c (j + 1) = if c = hexI j then (j : Int) else fnd c j := rfl
            by_cases hcj : c = hexI j
            · have hb : (c == hexI j) = true := by rw [hcj]; exact beq_self_eq_true _
              have HSS := Hid.mk (hS.trans (if_pos hcj))
              clear hcj hS
              go_wp2_with fail
              go_quiet (fail)
              go_wp2_with fail
              exact ⟨⟨j + 1, by omega, by go_num, by rw [HSS.out], _, rfl⟩, by simp [intOf]; omega⟩
            · have hb : (c == hexI j) = false := beq_eq_false_iff_ne.2 hcj
              have HSS := Hid.mk (hS.trans (if_neg hcj))
              clear hcj hS
              go_wp2_with fail
              go_quiet (fail)
              go_wp2_with fail
              exact ⟨⟨j + 1, by omega, by go_num, by rw [HSS.out], _, rfl⟩, by simp [intOf]; omega⟩
          · have hj16 : j = 16 := by omega
            subst hj16
            rw [HF.out]
            have Rd := R.drewN nn
            have HZ := Hid.mk Rd.h0
            cases hd : dk c with
            | false =>
              have HP2 := Hid.mk (parsed_no (sb s) i (by omega) (by rw [HC.out]; exact hd))
              simp only [Bool.false_eq_true, if_false]
              clear HF hj hl16 T
              go_wp2_with (first | refine wpList_store_row rfl 24 _ _ rfl _ (B8 (List.replicate 32 0)) rfl rfl 24 _ HZ.out HI.out rfl (B8_one _) ?_)
              refine bodyPost_ret (results_cell_row2 Try.results21 _ _ w.heap.size 24 (B8 (List.replicate 32 0)) (0, 0) _ (.bool false) rfl rfl (setRow_heap _ _ _ _ _ _ HZ.out) Try.underlying24 rfl HI.out) rfl ?_
              exact ⟨by rw [HP2.out], Below.setRow Rd.bel (Nat.le_refl _) _⟩
            | true =>
              simp only [if_true]
              have HT := Hid.mk (T.drewN nn)
              have HO2 := Hid.mk (okTo_one HO.out (by rw [HC.out]; exact hd))
              obtain ⟨hdv0, hdv1⟩ := hdv
              clear HF hj hl16 T Rd HZ R
              go_wp2_with fail
              exact ⟨⟨i + 1, by omega, by go_num, HO2.out, HT.out⟩, by simp [intOf]; omega⟩
      · have hi64 : i = 64 := by omega
        subst hi64
        have HP2 := Hid.mk (parsed_yes (sb s) (by rw [sb_length]; exact H64.out) HO.out)
        clear HO
        rw [rp_all] at R
        have HIp : Hid ((Try.prog.info? 24).map (·.size) = some (B8 (pk (sb s) 32)).size) := by unfold Hid; rw [B8_size, pk_length]; kernel_rfl
        have HR := Hid.mk R.ho
        have HZ := Hid.mk R.h0
        go_wp2_with (first | refine wpList_load_row rfl 24 _ rfl _ rfl 24 _ _ _ HR.out Try.underlying24 rfl HIp.out ?_ | refine wpList_store_row rfl 24 _ _ rfl _ (B8 (pk (sb s) 32)) rfl rfl 24 _ HZ.out HIp.out (by rw [B8_size, B8_size, pk_length, List.length_replicate]) (B8_one _) ?_)
        refine bodyPost_ret (results_cell_row2 Try.results21 _ _ w.heap.size 24 (B8 (pk (sb s) 32)) (0, 0) _ (.bool true) rfl rfl (setRow_heap _ _ _ _ _ _ HZ.out) Try.underlying24 rfl HIp.out) rfl ?_
        exact ⟨by rw [HP2.out], Below.setRow R.bel (Nat.le_refl _) _⟩
  · have hne : ((s.size : Int) != 64) = true := by rw [bne_iff_ne]; omega
    rw [parsed_len (sb s) (by rw [sb_length]; exact h64)]
    clear h64
    have e0 : rp (sb s) 0 = List.replicate 32 0 := rfl
    rw [e0] at HP
    have HO := Hid.mk HP.ho
    have HZ := Hid.mk HP.h0
    have hbel := HP.bel
    clear HP e0
    go_enter Try.func21, Try.ntmps21
    go_wp2_with (first | refine wpList_load_row rfl 24 _ rfl _ rfl 24 _ _ _ HO.out Try.underlying24 rfl HI.out ?_ | refine wpList_store_row rfl 24 _ _ rfl _ (B8 (List.replicate 32 0)) rfl rfl 24 _ HZ.out HI.out rfl (B8_one _) ?_)
    refine bodyPost_ret (results_cell_row2 Try.results21 _ _ w.heap.size 24 (B8 (List.replicate 32 0)) (0, 0) _ (.bool false) rfl rfl (setRow_heap _ _ _ _ _ _ HZ.out) Try.underlying24 rfl HI.out) rfl ?_
    exact ⟨rfl, Below.setRow hbel (Nat.le_refl _) _⟩
end Go.Proofs.Ytcbjjndhecehcaa
