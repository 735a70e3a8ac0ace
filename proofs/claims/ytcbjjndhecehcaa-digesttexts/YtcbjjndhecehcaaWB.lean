/- What digest.digit and digest.Parse answer, for every text. -/
import Derived.Test.YtcbjjndhecehcaaW4
namespace Go.Proofs.Ytcbjjndhecehcaa
open Go.RowKit
set_option linter.unusedVariables false
def dk (c : Int) : Bool := decide (48 ≤ c ∧ c ≤ 57) || decide (97 ≤ c ∧ c ≤ 102)
def dv (c : Int) : Int := if 48 ≤ c ∧ c ≤ 57 then c - 48 else if 97 ≤ c ∧ c ≤ 102 then c - 87 else 0
theorem dv_bd (c : Int) : 0 ≤ dv c ∧ dv c < 16 := by unfold dv; split <;> (try split) <;> omega
set_option maxHeartbeats 400000 in
theorem digit_any (c : Int) (hc0 : 0 ≤ c) (hc1 : c < 256) (w : World) :
    Calls Try.prog 31 #[.int .u8 c] w fun e w' => e = .returned (.tuple #[.int .u8 (dv c), .bool (dk c)]) ∧ w' = w := by
  by_cases h1 : 48 ≤ c
  · by_cases h2 : c ≤ 57
    · have e1 : dv c = c - 48 := by unfold dv; rw [if_pos ⟨h1, h2⟩]
      have e2 : dk c = true := by unfold dk; simp; omega
      rw [e1, e2]
      clear e1 e2
      go_enter Try.func31, Try.ntmps31
      go_wp2
      go_ret2
      exact ⟨rfl, rfl⟩
    · by_cases h3 : 97 ≤ c
      · by_cases h4 : c ≤ 102
        · have e1 : dv c = c - 87 := by unfold dv; rw [if_neg (by omega), if_pos ⟨h3, h4⟩]
          have e2 : dk c = true := by unfold dk; simp; omega
          rw [e1, e2]
          clear e1 e2
          have e3 : c - 97 + 10 = c - 87 := by omega
          go_enter Try.func31, Try.ntmps31
          go_wp2
          go_ret2
          exact ⟨rfl, rfl⟩
        · have e1 : dv c = 0 := by unfold dv; rw [if_neg (by omega), if_neg (by omega)]
          have e2 : dk c = false := by unfold dk; simp; omega
          rw [e1, e2]
          clear e1 e2
          go_enter Try.func31, Try.ntmps31
          go_wp2
          go_ret2
          exact ⟨rfl, rfl⟩
      · have e1 : dv c = 0 := by unfold dv; rw [if_neg (by omega), if_neg (by omega)]
        have e2 : dk c = false := by unfold dk; simp; omega
        rw [e1, e2]
        clear e1 e2
        go_enter Try.func31, Try.ntmps31
        go_wp2
        go_ret2
        exact ⟨rfl, rfl⟩
  · have e1 : dv c = 0 := by unfold dv; rw [if_neg (by omega), if_neg (by omega)]
    have e2 : dk c = false := by unfold dk; simp; omega
    rw [e1, e2]
    clear e1 e2
    have h3 : ¬ 97 ≤ c := by omega
    go_enter Try.func31, Try.ntmps31
    go_wp2
    go_ret2
    exact ⟨rfl, rfl⟩
/-- The bytes of a string, as numbers. -/
def sb (s : ByteArray) : List Int := s.data.toList.map fun u => (u.toNat : Int)
theorem sb_length (s : ByteArray) : (sb s).length = s.size := by
  unfold sb
  rw [List.length_map, Array.length_toList]
  rfl
theorem sb_get (s : ByteArray) (i : Nat) (h : i < s.size) : ((s[i]'h).toNat : Int) = (sb s).getD i 0 := by
  have h2 : i < s.data.toList.length := by rw [Array.length_toList]; exact h
  unfold sb
  rw [List.getD, List.getElem?_map, List.getElem?_eq_getElem h2]
  simp only [Option.map_some, Option.getD_some]
  rw [Array.getElem_toList]
  rfl
theorem sb_bd (s : ByteArray) (i : Nat) : 0 ≤ (sb s).getD i 0 ∧ (sb s).getD i 0 < 256 := by
  by_cases h : i < s.size
  · rw [← sb_get s i h]
    have := (s[i]'h).toNat_lt
    omega
  · rw [List.getD, List.getElem?_eq_none (by rw [sb_length]; omega)]
    simp
def pv (cs : List Int) (i : Nat) : Int := dv (cs.getD (2 * i) 0) * 16 + dv (cs.getD (2 * i + 1) 0)
def pk (cs : List Int) (k : Nat) : List Int := (List.range 32).map fun i => if i < k then pv cs i else 0
def okTo (cs : List Int) (k : Nat) : Prop := ∀ j, j < k → dk (cs.getD j 0) = true
/-- What Parse tells of a text. -/
def parsed (cs : List Int) : List Int × Bool := if cs.length = 64 ∧ (List.range 64).all (fun j => dk (cs.getD j 0)) then (pk cs 32, true) else (List.replicate 32 0, false)
theorem pk_length (cs : List Int) (k : Nat) : (pk cs k).length = 32 := by simp [pk]
theorem pk_zero (cs : List Int) : pk cs 0 = List.replicate 32 0 := rfl
theorem pk_succ (cs : List Int) (k : Nat) : (pk cs k).set k (pv cs k) = pk cs (k + 1) := by
  apply List.ext_getElem
  · simp [pk]
  · intro i h1 h2
    simp only [pk, List.getElem_set, List.getElem_map, List.getElem_range]
    by_cases e : k = i
    · subst e; rw [if_pos rfl, if_pos (by omega)]
    · rw [if_neg e]
      by_cases e2 : i < k
      · rw [if_pos e2, if_pos (by omega)]
      · rw [if_neg e2, if_neg (by omega)]
theorem parsed_yes (cs : List Int) (hl : cs.length = 64) (h : okTo cs 64) : parsed cs = (pk cs 32, true) := by
  unfold parsed
  rw [if_pos ⟨hl, by rw [List.all_eq_true]; intro j hj; exact h j (by simpa using hj)⟩]
theorem parsed_len (cs : List Int) (hl : ¬ cs.length = 64) : parsed cs = (List.replicate 32 0, false) := by
  unfold parsed
  rw [if_neg (fun h => hl h.1)]
theorem parsed_no (cs : List Int) (j : Nat) (hj : j < 64) (h : dk (cs.getD j 0) = false) : parsed cs = (List.replicate 32 0, false) := by
  unfold parsed
  rw [if_neg]
  intro hh
  have := (List.all_eq_true.1 hh.2) j (by simpa using hj)
  rw [h] at this
  cases this
theorem okTo_succ {cs : List Int} {k : Nat} (h : okTo cs (2 * k)) (h1 : dk (cs.getD (2 * k) 0) = true) (h2 : dk (cs.getD (2 * k + 1) 0) = true) : okTo cs (2 * (k + 1)) := by
  intro j hj
  by_cases e : j < 2 * k
  · exact h j e
  · by_cases e2 : j = 2 * k
    · subst e2; exact h1
    · have e3 : j = 2 * k + 1 := by omega
      subst e3; exact h2
theorem or_dv (a b : Int) (ha : 0 ≤ a ∧ a < 16) (hb : 0 ≤ b ∧ b < 16) : bits BinOp.or IntKind.u8 (a * 16) b = a * 16 + b :=
  bits_join .u8 8 (by decide) wraps_u8 4 (a * 16) b (by omega) (by omega) (by omega) hb.1 (by omega) (by omega)
structure Pa (N : Nat) (w0 w : World) (ds : List Int) : Prop where
  h0 : w.heap[N]? = some (.cells (B8 (List.replicate 32 0)) 24)
  ho : w.heap[N + 1]? = some (.cells (B8 ds) 24)
  bel : Below N w0 w
theorem Pa.set {N : Nat} {w0 w : World} {ds : List Int} (h : Pa N w0 w ds) (k : Nat) (x : Int) : Pa N w0 (w.setCell ⟨N + 1, k, none⟩ (.int .u8 x)) (ds.set k x) :=
  ⟨(heap_setCell_other _ _ _ _ (by simp)).trans h.h0, by rw [heap_setCell_same w (N + 1) k _ 24 _ h.ho, B8_set], h.bel.setCell (by simp) _⟩
theorem results_cell_row2 {P : Program} {fn : Func} {p u : Tmp} {ty : TypeId} (h : fn.results = #[.cell p ty, .tmp u]) (tmps : Array Value) (w : World) (g : Nat) (t : TypeId) (cs : Array Value) (fr : Nat × Nat) (d : TypeDesc) (v : Value)
    (hp : tmps.getD p undef = .pointer (some ⟨g, 0, none⟩)) (hv : tmps.getD u undef = v) (hg : w.heap[g]? = some (.cells cs t fr))
    (hu : P.underlying ty = some d) (hd : (match d with | .struct _ | .array _ _ => true | _ => false) = true) (hi : (P.info? ty).map (·.size) = some cs.size) :
    (results fn tmps).run P w = .ok (.tuple #[.agg cs, v]) w := by
  rw [results_cell_tmp h, hp, hv]
  simp [asAddr, run_loadVar_row w g t ty cs fr d hg hu hd hi]
set_option maxHeartbeats 1000000 in
theorem parse_any (s : ByteArray) (hs : s.size ≤ maxLen) (w : World) :
    Calls Try.prog 20 #[.string s] w fun e w' => e = .returned (.tuple #[.agg (B8 (parsed (sb s)).1), .bool (parsed (sb s)).2]) ∧ Below w.heap.size w w' := by
  unfold maxLen at hs
  have HI : Hid ((Try.prog.info? 24).map (·.size) = some (B8 (List.replicate 32 0)).size) := by unfold Hid; rw [B8_size]; kernel_rfl
  by_cases h64 : s.size = 64
  · have hne : ((s.size : Int) != 64) = false := by rw [h64]; rfl
    have HP : Pa w.heap.size w ((w.alloc (.cells (B8 (List.replicate 32 0)) 24)).alloc (.cells (B8 (List.replicate 32 0)) 24)) (pk (sb s) 0) := ⟨heap_alloc2_old w _ _, heap_alloc2_new w _ _, ((Below.refl _ _).alloc (Nat.le_refl _) _).alloc (by simp) _⟩
    have H64 := Hid.mk h64
    clear h64
    go_enter Try.func20, Try.ntmps20
    go_wp2_with fail
    go_loopw [14] (fun i v => ∃ k : Nat, k ≤ 32 ∧ i = .int .i64 k ∧ okTo (sb s) (2 * k) ∧ Pa w.heap.size w v (pk (sb s) k)) (fun i _ => 32 - (intOf i).toNat)
    case atStart => exact ⟨0, by omega, rfl, fun j hj => by omega, HP⟩
    case round =>
      clear HP
      obtain ⟨k, hk, rfl, hok, R⟩ := hrel
      have HO := Hid.mk hok
      clear hok
      by_cases hlt : k < 32
      · have hi1 : (2 * (k : Int)) < s.size := by have := H64.out; omega
        have hi2 : (2 * (k : Int)) + 1 < s.size := by have := H64.out; omega
        have hj1 : 2 * k < s.size := by omega
        have hj2 : 2 * k + 1 < s.size := by omega
        have e1 := sb_get s (2 * k) hj1
        have e2 := sb_get s (2 * k + 1) hj2
        obtain ⟨b1, b1'⟩ := sb_bd s (2 * k)
        obtain ⟨b2, b2'⟩ := sb_bd s (2 * k + 1)
        obtain ⟨c1, ec1⟩ : ∃ c, (sb s).getD (2 * k) 0 = c := ⟨_, rfl⟩
        obtain ⟨c2, ec2⟩ : ∃ c, (sb s).getD (2 * k + 1) 0 = c := ⟨_, rfl⟩
        rw [ec1] at e1 b1 b1'
        rw [ec2] at e2 b2 b2'
        have HC1 := Hid.mk ec1
        have HC2 := Hid.mk ec2
        have HV : Hid (pv (sb s) k = dv c1 * 16 + dv c2) := by unfold Hid pv; rw [ec1, ec2]
        clear ec1 ec2
        obtain ⟨d1, d1'⟩ := dv_bd c1
        obtain ⟨d2, d2'⟩ := dv_bd c2
        cases hd1 : dk c1 with
        | false =>
          have hp := parsed_no (sb s) (2 * k) (by omega) (by rw [HC1.out]; exact hd1)
          have HP2 := Hid.mk hp
          clear hp HV
          have HZ := Hid.mk R.h0
          go_wp2_with (first | (go_at_call 31; refine (digit_any _ (by assumption) (by assumption) _).mono ?_; rintro e w' ⟨rfl, rfl⟩) | refine wpList_store_row rfl 24 _ _ rfl _ (B8 (List.replicate 32 0)) rfl rfl 24 _ HZ.out HI.out rfl (B8_one _) ?_)
          refine bodyPost_ret (results_cell_row2 Try.results20 _ _ w.heap.size 24 (B8 (List.replicate 32 0)) (0, 0) _ (.bool false) rfl rfl (setRow_heap _ _ _ _ _ _ HZ.out) Try.underlying24 rfl HI.out) rfl ?_
          exact ⟨by rw [HP2.out], Below.setRow R.bel (Nat.le_refl _) _⟩
        | true =>
          cases hd2 : dk c2 with
          | false =>
            have hp := parsed_no (sb s) (2 * k + 1) (by omega) (by rw [HC2.out]; exact hd2)
            have HP2 := Hid.mk hp
            clear hp HV
            have HZ := Hid.mk R.h0
            go_wp2_with (first | (go_at_call 31; refine (digit_any _ (by assumption) (by assumption) _).mono ?_; rintro e w' ⟨rfl, rfl⟩) | refine wpList_store_row rfl 24 _ _ rfl _ (B8 (List.replicate 32 0)) rfl rfl 24 _ HZ.out HI.out rfl (B8_one _) ?_)
            refine bodyPost_ret (results_cell_row2 Try.results20 _ _ w.heap.size 24 (B8 (List.replicate 32 0)) (0, 0) _ (.bool false) rfl rfl (setRow_heap _ _ _ _ _ _ HZ.out) Try.underlying24 rfl HI.out) rfl ?_
            exact ⟨by rw [HP2.out], Below.setRow R.bel (Nat.le_refl _) _⟩
          | true =>
            have hcell := B8_cell R.ho k (by rw [pk_length]; omega)
            have hfr := frozen_of_row _ _ k _ _ R.ho
            generalize (pk (sb s) k).getD k 0 = y at hcell
            have T := R.set k (pv (sb s) k)
            rw [pk_succ, HV.out, ← or_dv _ _ (dv_bd c1) (dv_bd c2)] at T
            clear HV
            go_wp2_with (first | (go_at_call 31; refine (digit_any _ (by assumption) (by assumption) _).mono ?_; rintro e w' ⟨rfl, rfl⟩))
            refine ⟨⟨k + 1, by omega, by go_num, okTo_succ HO.out (by rw [HC1.out]; exact hd1) (by rw [HC2.out]; exact hd2), T⟩, by simp [intOf]; omega⟩
      · have hk2 : k = 32 := by omega
        subst hk2
        have hp := parsed_yes (sb s) (by rw [sb_length]; exact H64.out) HO.out
        have HP2 := Hid.mk hp
        clear hp HO
        have HIp : Hid ((Try.prog.info? 24).map (·.size) = some (B8 (pk (sb s) 32)).size) := by unfold Hid; rw [B8_size, pk_length]; kernel_rfl
        have HR := Hid.mk R.ho
        have HZ := Hid.mk R.h0
        go_wp2_with (first | refine wpList_load_row rfl 24 _ rfl _ rfl 24 _ _ _ HR.out Try.underlying24 rfl HIp.out ?_ | refine wpList_store_row rfl 24 _ _ rfl _ (B8 (pk (sb s) 32)) rfl rfl 24 _ HZ.out HIp.out (by rw [B8_size, B8_size, pk_length, List.length_replicate]) (B8_one _) ?_)
        refine bodyPost_ret (results_cell_row2 Try.results20 _ _ w.heap.size 24 (B8 (pk (sb s) 32)) (0, 0) _ (.bool true) rfl rfl (setRow_heap _ _ _ _ _ _ HZ.out) Try.underlying24 rfl HIp.out) rfl ?_
        exact ⟨by rw [HP2.out], Below.setRow R.bel (Nat.le_refl _) _⟩
  · have hne : ((s.size : Int) != 64) = true := by rw [bne_iff_ne]; omega
    have hp := parsed_len (sb s) (by rw [sb_length]; exact h64)
    rw [hp]
    clear hp h64
    have h0 : (w.alloc (.cells (B8 (List.replicate 32 0)) 24)).heap[w.heap.size]? = some (.cells (B8 (List.replicate 32 0)) 24) := heap_alloc_new _ _
    have HH := Hid.mk h0
    clear h0
    go_enter Try.func20, Try.ntmps20
    go_wp2_with (first | refine wpList_store_row rfl 24 _ _ rfl _ (B8 (List.replicate 32 0)) rfl rfl 24 _ HH.out HI.out rfl (B8_one _) ?_)
    refine bodyPost_ret (results_cell_row2 Try.results20 _ _ w.heap.size 24 (B8 (List.replicate 32 0)) (0, 0) _ (.bool false) rfl rfl (setRow_heap _ _ _ _ _ _ HH.out) Try.underlying24 rfl HI.out) rfl ?_
    exact ⟨rfl, Below.setRow ((Below.refl _ _).alloc (Nat.le_refl _) _) (Nat.le_refl _) _⟩
end Go.Proofs.Ytcbjjndhecehcaa
