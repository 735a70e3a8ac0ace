/- What the document's First and Decode answer. -/
import Derived.Test.YtkbdkenpblcofabG3
import Derived.Test.YtkbdkenpblcofabG4
import Derived.Test.YtkbdkenpblcofabG5
namespace Go.Proofs.Ytkbdkenpblcofab
open Go.RowKit
set_option linter.unusedVariables false
theorem rd1_low {g : List Int → R} {deep : Bool} {x : Int} {r : List Int} (h : x < 128) : rd1 g deep (x :: r) = .ok (.mk false [x] []) 1 := by
  have e : hdr deep (x :: r) = .ok 0 1 := by
    unfold hdr
    simp only
    rw [if_neg (by omega), if_pos h]
  unfold rd1
  rw [e]
  simp only
  rw [if_pos (show (x :: r).headD 0 < 192 by show x < 192; omega), if_neg (by simp)]
  rfl
theorem rfirst_step (k : Nat) (gg : List Int → R) (hrd : ∀ b, rd k b = rd1 gg (decide (k = 0)) b) (hgg : ∀ b t m, gg b = .ok t m → 1 ≤ m ∧ m ≤ b.length)
    (hitems : 0 < k → ∀ d, d + k = 8 → ∀ (a : Option Addr) (n c : Nat) (b : List Int) (w : World), Ag w a n c b → n ≤ 140737488351232 → ∀ i j : Nat, i ≤ j → j ≤ n → j - i < 16777216 → Calls Try.prog 31 #[.slice a n c, .int .i64 i, .int .i64 j, .int .i64 (d + 1 : Nat)] w (IPost w j (rdAll gg (pc b i j).length (pc b i j)))) : FSaid k := by
  intro a n c b w h hn i j d hij hj hd
  have hdec : decide (k = 0) = decide (d = 8) := by by_cases h0 : k = 0 <;> simp [h0] <;> omega
  by_cases hlt : i < j
  case neg => exact rfirst_end a n c i j d w k b hlt (by omega) (by rw [pc_nil (by omega), hrd]; exact rd1_bad rfl)
  rw [pc_cons hlt (by rw [h.l]; omega), hrd, hdec]
  by_cases h1 : b.getD i 0 < 128
  · exact rfirst_low a n c i j d w b h hn hlt hj _ rfl h1 _ (rd1_low h1)
  by_cases h2 : b.getD i 0 < 192
  · exact rfirst_text gg a n c i j d w b h hn hlt hj (by omega) _ rfl (by omega) h2 _ rfl
  by_cases h8 : d = 8
  · subst h8
    exact rfirst_deep a n c i j w b h hn hlt hj _ rfl (by omega) _ (rd1_bad (by rw [decide_eq_true rfl]; exact hdr_deep (by omega)))
  · exact rfirst_list gg a n c i j d w b h hn hlt hj (by omega) _ rfl (by omega) (by omega) (hitems (by omega) d hd) hgg _ rfl
theorem rfirst_any : ∀ k, FSaid k
  | 0 => rfirst_step 0 (fun _ => .bad 21) (fun b => rfl) (fun b t m h => by cases h) (fun h => absurd h (by omega))
  | k + 1 => rfirst_step (k + 1) (rd k) (fun b => rfl) (fun b t m h => rd_n h) (fun _ d hd a n c b w h hn i j hij hj hl => ritems_any k (rfirst_any k) a n c b w h hn i j (d + 1) hij hj hl (by omega))
set_option maxHeartbeats 1000000 in
theorem rFirst_any (a : Option Addr) (n c : Nat) (b : List Int) (w : World) (h : Ag w a n c b) (hn : n ≤ 140737488351232) : Calls Try.prog 20 #[.slice a n c] w (ReadPost w (rd 8 b)) := by
  have hpcb : pc b 0 n = b := by unfold pc; rw [List.drop_zero, List.take_of_length_le (by rw [h.l]; exact Nat.le_refl _)]
  have hcal := fun w' (hb : Below w.heap.size w w') => rfirst_any 8 a n c b w' (h.at hb) hn 0 n 0 (Nat.zero_le _) (Nat.le_refl _) rfl
  rw [hpcb, show ((0 : Nat) : Int) = 0 from rfl] at hcal
  clear hpcb
  have HCAL := Hid.mk hcal
  obtain ⟨res, hres⟩ : ∃ r, rd 8 b = r := ⟨_, rfl⟩
  rw [hres] at HCAL ⊢
  clear hcal h hres
  go_enter Try.func20, Try.ntmps20
  go_wp2_with fail
  refine (HCAL.out _ ((Below.refl _ _).alloc (Nat.le_refl _) _)).mono ?_
  rintro e w1 ⟨hb, hm⟩
  have hres1 : w1.heap[w.heap.size]? = some (.cells #[.bool false, .slice none 0 0, .slice none 0 0] 25) := Below.row hb (heap_alloc_new _ _)
  have hb1 : Below w.heap.size w w1 := ((Below.refl w.heap.size w).alloc (Nat.le_refl _) _).trans (hb.mono (by simp))
  have x0 : w1.cell? ⟨w.heap.size, 0, none⟩ = some (.bool false) := by rw [cell_of_row _ _ _ _ _ _ hres1]; rfl
  have x1 : w1.cell? ⟨w.heap.size, 1, none⟩ = some (.slice none 0 0) := by rw [cell_of_row _ _ _ _ _ _ hres1]; rfl
  have x2 : w1.cell? ⟨w.heap.size, 2, none⟩ = some (.slice none 0 0) := by rw [cell_of_row _ _ _ _ _ _ hres1]; rfl
  have xf : ∀ o, w1.frozen? ⟨w.heap.size, o, none⟩ = false := fun o => frozen_of_row _ _ _ _ _ hres1
  have HR := Hid.mk hres1
  have HB1 := Hid.mk hb1
  clear hres1 hb hb1
  cases res with
  | bad er =>
    obtain ⟨rfl, her⟩ := hm
    go_wp2_with fail
    have hr := put3 HR.out (.bool false) (.slice none 0 0) (.slice none 0 0)
    refine bodyPost_ret (results_row3 Try.results20 _ _ w.heap.size _ _ _ rfl hr) rfl ?_
    exact ⟨below3 HB1.out (Nat.le_refl _) _ _ _, rfl, her⟩
  | ok t m =>
    obtain ⟨y, rfl, hy⟩ := hm
    rw [Nat.zero_add]
    have HY := Hid.mk hy
    clear hy
    go_wp2_with fail
    have hr := put3 HR.out (.bool y.l) (.slice y.ba y.bn y.bc) (.slice y.ia y.m y.ic)
    refine bodyPost_ret (results_row3 Try.results20 _ _ w.heap.size _ _ _ rfl hr) rfl ?_
    refine ⟨below3 HB1.out (Nat.le_refl _) _ _ _, y, rfl, liesP_mono (fun b hb hlt => ?_) t y HY.out⟩
    have hb' : w.heap.size + 1 ≤ b := by have : (w.alloc (.cells #[.bool false, .slice none 0 0, .slice none 0 0] 25)).heap.size ≤ b := hb; simpa using this
    exact ⟨other3 (by omega) _ _ _, by omega⟩
set_option maxHeartbeats 1000000 in
theorem rDecode_any (a : Option Addr) (n c : Nat) (b : List Int) (w : World) (h : Ag w a n c b) (hn : n ≤ 140737488351232) : Calls Try.prog 15 #[.slice a n c] w (DecPost w (decP b)) := by
  have hcal := fun w' (hb : Below w.heap.size w w') => rFirst_any a n c b w' (h.at hb) hn
  have HCAL := Hid.mk hcal
  have hl := h.l
  obtain ⟨res, hres⟩ : ∃ r, decP b = r := ⟨_, rfl⟩
  rw [hres]
  unfold decP at hres
  have HRES := Hid.mk hres
  have HL := Hid.mk hl
  clear hcal h hres hl
  go_enter Try.func15, Try.ntmps15
  go_wp2_with fail
  refine (HCAL.out _ ((Below.refl _ _).alloc (Nat.le_refl _) _)).mono ?_
  rintro e w1 ⟨hb, hm⟩
  have RB := (Rb.new w).call hb
  clear hb
  have hres := HRES.out
  cases hrd : rd 8 b with
  | bad er =>
    rw [hrd] at hm hres
    obtain ⟨rfl, her⟩ := hm
    subst hres
    have hee : ((er : Int) != 0) = true := by rw [bne_iff_ne]; omega
    clear hrd
    go_upto_if 14 with fail
    refine gen_w (p := fun v => Code.wp _ _ _ _ v) (q := fun v => Rb w v ∧ v.heap[w1.heap.size]? = some (.cells #[.bool false, .slice none 0 0, .slice none 0 0] 25)) ⟨RB.alloc _, heap_alloc_new _ _⟩ ?_
    clear RB
    rintro v ⟨RV, hyv⟩
    have x0 := RV.x0
    have x1 := RV.x1
    have x2 := RV.x2
    have xf := RV.xf
    have u0 : v.cell? ⟨w1.heap.size, 0, none⟩ = some (#[.bool false, .slice none 0 0, .slice none 0 0][0]) := by rw [cell_of_row _ _ _ _ _ _ hyv]; rfl
    have u1 : v.cell? ⟨w1.heap.size, 1, none⟩ = some (#[.bool false, .slice none 0 0, .slice none 0 0][1]) := by rw [cell_of_row _ _ _ _ _ _ hyv]; rfl
    have u2 : v.cell? ⟨w1.heap.size, 2, none⟩ = some (#[.bool false, .slice none 0 0, .slice none 0 0][2]) := by rw [cell_of_row _ _ _ _ _ _ hyv]; rfl
    have HRV := Hid.mk RV
    clear RV hyv
    go_wp2_with fail
    have hr := put3 HRV.out.row (.bool false) (.slice none 0 0) (.slice none 0 0)
    refine bodyPost_ret (results_row2 Try.results15 _ _ w.heap.size _ _ _ rfl hr) rfl ?_
    exact ⟨below3 HRV.out.bel (Nat.le_refl _) _ _ _, rfl, her⟩
  | ok t m =>
    rw [hrd] at hm hres
    simp only [HL.out] at hres
    obtain ⟨y, rfl, hy⟩ := hm
    have HY : Hid (∀ o, LiesP (fun b => w.heap.size + 1 ≤ b) (w1.alloc o) t y) := fun o => liesP_mono (fun b hb hlt => ⟨Below.heap_alloc _ _ _ hlt, by have : (w.alloc (.cells #[.bool false, .slice none 0 0, .slice none 0 0] 25)).heap.size ≤ b := hb; simpa using this⟩) t y hy
    clear hy
    by_cases hmn : m < n
    · rw [if_pos hmn] at hres
      subst hres
      have hmi : (m : Int) < n := by omega
      clear hrd
      go_upto_if 14 with fail
      refine gen_w (p := fun v => Code.wp _ _ _ _ v) (q := fun v => Rb w v ∧ v.heap[w1.heap.size]? = some (.cells #[.bool y.l, .slice y.ba y.bn y.bc, .slice y.ia y.m y.ic] 25) ∧ Hid (LiesP (fun b => w.heap.size + 1 ≤ b) v t y)) ⟨RB.alloc _, heap_alloc_new _ _, HY.out _⟩ ?_
      clear RB HY
      rintro v ⟨RV, hyv, HY⟩
      have x0 := RV.x0
      have x1 := RV.x1
      have x2 := RV.x2
      have xf := RV.xf
      have u0 : v.cell? ⟨w1.heap.size, 0, none⟩ = some (#[.bool y.l, .slice y.ba y.bn y.bc, .slice y.ia y.m y.ic][0]) := by rw [cell_of_row _ _ _ _ _ _ hyv]; rfl
      have u1 : v.cell? ⟨w1.heap.size, 1, none⟩ = some (#[.bool y.l, .slice y.ba y.bn y.bc, .slice y.ia y.m y.ic][1]) := by rw [cell_of_row _ _ _ _ _ _ hyv]; rfl
      have u2 : v.cell? ⟨w1.heap.size, 2, none⟩ = some (#[.bool y.l, .slice y.ba y.bn y.bc, .slice y.ia y.m y.ic][2]) := by rw [cell_of_row _ _ _ _ _ _ hyv]; rfl
      have HRV := Hid.mk RV
      clear RV hyv
      go_wp2_with fail
      have hr := put3 HRV.out.row (.bool false) (.slice none 0 0) (.slice none 0 0)
      refine bodyPost_ret (results_row2 Try.results15 _ _ w.heap.size _ _ _ rfl hr) rfl ?_
      exact ⟨below3 HRV.out.bel (Nat.le_refl _) _ _ _, rfl, by decide⟩
    · rw [if_neg hmn] at hres
      subst hres
      have hmi : ¬ (m : Int) < n := by omega
      clear hrd
      go_upto_if 14 with fail
      refine gen_w (p := fun v => Code.wp _ _ _ _ v) (q := fun v => Rb w v ∧ v.heap[w1.heap.size]? = some (.cells #[.bool y.l, .slice y.ba y.bn y.bc, .slice y.ia y.m y.ic] 25) ∧ Hid (LiesP (fun b => w.heap.size + 1 ≤ b) v t y)) ⟨RB.alloc _, heap_alloc_new _ _, HY.out _⟩ ?_
      clear RB HY
      rintro v ⟨RV, hyv, HY⟩
      have x0 := RV.x0
      have x1 := RV.x1
      have x2 := RV.x2
      have xf := RV.xf
      have u0 : v.cell? ⟨w1.heap.size, 0, none⟩ = some (#[.bool y.l, .slice y.ba y.bn y.bc, .slice y.ia y.m y.ic][0]) := by rw [cell_of_row _ _ _ _ _ _ hyv]; rfl
      have u1 : v.cell? ⟨w1.heap.size, 1, none⟩ = some (#[.bool y.l, .slice y.ba y.bn y.bc, .slice y.ia y.m y.ic][1]) := by rw [cell_of_row _ _ _ _ _ _ hyv]; rfl
      have u2 : v.cell? ⟨w1.heap.size, 2, none⟩ = some (#[.bool y.l, .slice y.ba y.bn y.bc, .slice y.ia y.m y.ic][2]) := by rw [cell_of_row _ _ _ _ _ _ hyv]; rfl
      have HRV := Hid.mk RV
      clear RV hyv
      go_wp2_with fail
      have hr := put3 HRV.out.row (.bool y.l) (.slice y.ba y.bn y.bc) (.slice y.ia y.m y.ic)
      refine bodyPost_ret (results_row2 Try.results15 _ _ w.heap.size _ _ _ rfl hr) rfl ?_
      refine ⟨below3 HRV.out.bel (Nat.le_refl _) _ _ _, y, rfl, liesP_mono (fun b (hb : w.heap.size + 1 ≤ b) hlt => ⟨other3 (by omega) _ _ _, by omega⟩) t y HY.out⟩
end Go.Proofs.Ytkbdkenpblcofab
