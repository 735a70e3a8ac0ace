/- What read, First and Decode answer. -/
import Derived.Test.YtalhnnjpjaeakaaGreatG14
import Derived.Test.YtalhnnjpjaeakaaGreatG12
namespace Go.Proofs.YtalhnnjpjaeakaaGreat
open Go.RowKit
set_option linter.unusedVariables false
set_option maxRecDepth 100000
theorem read_step (k : Nat) (gg : List Int → R) (hrd : ∀ b, rd k b = rd1 gg (decide (k = 0)) b) (hlen : ∀ b t m, gg b = .ok t m → 1 ≤ m ∧ m ≤ b.length)
    (hall : 0 < k → ∀ (d : Nat), d + k = 8 → ∀ (a : Option Addr) (n c : Nat) (b : List Int) (w : World), Ag w a n c b → n < 16777216 → Calls Tryz.prog 141 #[.slice a n c, .int .i64 (d + 1 : Nat)] w (AllPost w (rdAll gg b.length b))) : ReadSaid k := by
  intro a n c d b w h hd hn
  rw [hrd]
  have hdec : decide (k = 0) = decide (d = 8) := by by_cases h0 : k = 0 <;> simp [h0] <;> omega
  rw [hdec]
  unfold rd1
  cases hh : hdr (decide (d = 8)) b with
  | bad e => exact read_bad a n c d b w h (by omega) hn e hh
  | ok f t =>
    cases b with
    | nil => simp [hdr] at hh
    | cons x r =>
      dsimp only
      by_cases hx : (x :: r).headD 0 < 192
      · rw [if_pos hx]
        exact read_text a n c d x r w h (by omega) hn f t hh hx _ rfl
      · rw [if_neg hx]
        have hx2 : ¬ x < 192 := hx
        have hk : 0 < k := by
          cases k with
          | succ k => omega
          | zero =>
            exfalso
            have hd8 : decide (d = 8) = true := by simp; omega
            rw [hd8, hdr_deep (by omega)] at hh
            cases hh
        exact read_list gg hlen a n c d x r w h (by omega) hn f t hh (by omega) _ (hall hk d hd) rfl
theorem read_any : ∀ k, ReadSaid k
  | 0 => read_step 0 (fun _ => .bad 21) (fun b => rfl) (fun b t m h => by cases h) (fun h => absurd h (by omega))
  | k + 1 => read_step (k + 1) (rd k) (fun b => rfl) (fun b t m h => rd_n h) (fun _ d hd a n c b w h hn => readAll_any k (read_any k) a n c (d + 1) b w h (by omega) hn)
set_option maxHeartbeats 1000000 in
theorem first_any (a : Option Addr) (n c : Nat) (b : List Int) (w : World) (h : Ag w a n c b) (hn : n ≤ 140737488351232) : Calls Tryz.prog 97 #[.slice a n c] w (ReadPost w (rd 8 b)) := by
  have hcal := fun w' (hb : Below w.heap.size w w') => read_any 8 a n c 0 b w' (h.at hb) (by omega) hn
  rw [show ((0 : Nat) : Int) = 0 from rfl] at hcal
  have HCAL := Hid.mk hcal
  obtain ⟨res, hres⟩ : ∃ r, rd 8 b = r := ⟨_, rfl⟩
  rw [hres] at HCAL ⊢
  clear hcal h hres
  go_enter Tryz.func97, Tryz.ntmps97
  go_wp2_with fail
  refine (HCAL.out _ ((Below.refl _ _).alloc (Nat.le_refl _) _)).mono ?_
  rintro e w1 ⟨hb, hm⟩
  have hres1 : w1.heap[w.heap.size]? = some (.cells #[.bool false, .slice none 0 0, .slice none 0 0] 110) := Below.row hb (heap_alloc_new _ _)
  have hb1 : Below w.heap.size w w1 := ((Below.refl w.heap.size w).alloc (Nat.le_refl _) _).trans (hb.mono (by simp))
  have x0 : w1.cell? ⟨w.heap.size, 0, none⟩ = some (.bool false) := by rw [cell_of_row _ _ _ _ _ _ hres1]; rfl
  have x1 : w1.cell? ⟨w.heap.size, 1, none⟩ = some (.slice none 0 0) := by rw [cell_of_row _ _ _ _ _ _ hres1]; rfl
  have x2 : w1.cell? ⟨w.heap.size, 2, none⟩ = some (.slice none 0 0) := by rw [cell_of_row _ _ _ _ _ _ hres1]; rfl
  have xf : ∀ o, w1.frozen? ⟨w.heap.size, o, none⟩ = false := fun o => frozen_of_row _ _ _ _ _ hres1
  have HR := Hid.mk hres1
  have HB1 := Hid.mk hb1
  clear hres1 hb hb1
  cases res with
  | bad er =>
    obtain ⟨rfl, her⟩ := hm
    go_wp2_with fail
    have hr := put3 HR.out (.bool false) (.slice none 0 0) (.slice none 0 0)
    refine bodyPost_ret (results_row3 Tryz.results97 _ _ w.heap.size _ _ _ rfl hr) rfl ?_
    exact ⟨below3 HB1.out (Nat.le_refl _) _ _ _, rfl, her⟩
  | ok t m =>
    obtain ⟨y, rfl, hy⟩ := hm
    have HY := Hid.mk hy
    clear hy
    go_wp2_with fail
    have hr := put3 HR.out (.bool y.l) (.slice y.ba y.bn y.bc) (.slice y.ia y.m y.ic)
    refine bodyPost_ret (results_row3 Tryz.results97 _ _ w.heap.size _ _ _ rfl hr) rfl ?_
    refine ⟨below3 HB1.out (Nat.le_refl _) _ _ _, y, rfl, liesP_mono (fun b hb hlt => ?_) t y HY.out⟩
    have hb' : w.heap.size + 1 ≤ b := by have : (w.alloc (.cells #[.bool false, .slice none 0 0, .slice none 0 0] 110)).heap.size ≤ b := hb; simpa using this
    exact ⟨other3 (by omega) _ _ _, by omega⟩
inductive RT where
  | bad (e : Nat)
  | ok (t : T)
/-- What Decode tells. -/
def decP (b : List Int) : RT := match rd 8 b with
  | .bad e => .bad e
  | .ok t n => if n < b.length then .bad 24 else .ok t
def DecPost (w : World) (r : RT) : Ending → World → Prop := fun e w' => Below w.heap.size w w' ∧
  match r with
  | .bad er => e = .returned (.tuple #[.agg #[.bool false, .slice none 0 0, .slice none 0 0], .int .i64 (er : Nat)]) ∧ er ≠ 0
  | .ok t => ∃ y : V, e = .returned (.tuple #[.agg #[.bool y.l, .slice y.ba y.bn y.bc, .slice y.ia y.m y.ic], .int .i64 0]) ∧ LiesP (fun b => w.heap.size ≤ b) w' t y
/-- Any world of which something holds, in the place of one. -/
theorem gen_w {W : World} {p q : World → Prop} (F : q W) (h : ∀ v, q v → p v) : p W := h W F
/-- The result's block, while a call goes on. -/
structure Rb (w v : World) : Prop where
  row : v.heap[w.heap.size]? = some (.cells #[.bool false, .slice none 0 0, .slice none 0 0] 110)
  bel : Below w.heap.size w v
theorem Rb.x0 {w v : World} (h : Rb w v) : v.cell? ⟨w.heap.size, 0, none⟩ = some (.bool false) := by rw [cell_of_row _ _ _ _ _ _ h.row]; rfl
theorem Rb.x1 {w v : World} (h : Rb w v) : v.cell? ⟨w.heap.size, 1, none⟩ = some (.slice none 0 0) := by rw [cell_of_row _ _ _ _ _ _ h.row]; rfl
theorem Rb.x2 {w v : World} (h : Rb w v) : v.cell? ⟨w.heap.size, 2, none⟩ = some (.slice none 0 0) := by rw [cell_of_row _ _ _ _ _ _ h.row]; rfl
theorem Rb.xf {w v : World} (h : Rb w v) : ∀ o, v.frozen? ⟨w.heap.size, o, none⟩ = false := fun o => frozen_of_row _ _ _ _ _ h.row
theorem Rb.alloc {w v : World} (h : Rb w v) (o : Obj) : Rb w (v.alloc o) := ⟨(Below.heap_alloc v o _ (lt_of_get h.row)).trans h.row, h.bel.alloc h.bel.size o⟩
theorem Rb.call {w v v' : World} (h : Rb w v) (hb : Below v.heap.size v v') : Rb w v' := ⟨Below.row hb h.row, h.bel.trans (hb.mono h.bel.size)⟩
theorem Rb.new (w : World) : Rb w (w.alloc (.cells #[.bool false, .slice none 0 0, .slice none 0 0] 110)) := ⟨heap_alloc_new _ _, (Below.refl _ _).alloc (Nat.le_refl _) _⟩
set_option maxHeartbeats 1000000 in
theorem decode_any (a : Option Addr) (n c : Nat) (b : List Int) (w : World) (h : Ag w a n c b) (hn : n ≤ 140737488351232) : Calls Tryz.prog 69 #[.slice a n c] w (DecPost w (decP b)) := by
  have hcal := fun w' (hb : Below w.heap.size w w') => first_any a n c b w' (h.at hb) hn
  have HCAL := Hid.mk hcal
  have hl := h.l
  obtain ⟨res, hres⟩ : ∃ r, decP b = r := ⟨_, rfl⟩
  rw [hres]
  unfold decP at hres
  have HRES := Hid.mk hres
  have HL := Hid.mk hl
  clear hcal h hres hl
  go_enter Tryz.func69, Tryz.ntmps69
  go_wp2_with fail
  refine (HCAL.out _ ((Below.refl _ _).alloc (Nat.le_refl _) _)).mono ?_
  rintro e w1 ⟨hb, hm⟩
  have RB := (Rb.new w).call hb
  clear hb
  have hres := HRES.out
  cases hrd : rd 8 b with
  | bad er =>
    rw [hrd] at hm hres
    obtain ⟨rfl, her⟩ := hm
    subst hres
    have hee : ((er : Int) != 0) = true := by rw [bne_iff_ne]; omega
    clear hrd
    go_upto_if 14 with fail
    refine gen_w (p := fun v => Code.wp _ _ _ _ v) (q := fun v => Rb w v ∧ v.heap[w1.heap.size]? = some (.cells #[.bool false, .slice none 0 0, .slice none 0 0] 110)) ⟨RB.alloc _, heap_alloc_new _ _⟩ ?_
    clear RB
    rintro v ⟨RV, hyv⟩
    have x0 := RV.x0
    have x1 := RV.x1
    have x2 := RV.x2
    have xf := RV.xf
    have u0 : v.cell? ⟨w1.heap.size, 0, none⟩ = some (#[.bool false, .slice none 0 0, .slice none 0 0][0]) := by rw [cell_of_row _ _ _ _ _ _ hyv]; rfl
    have u1 : v.cell? ⟨w1.heap.size, 1, none⟩ = some (#[.bool false, .slice none 0 0, .slice none 0 0][1]) := by rw [cell_of_row _ _ _ _ _ _ hyv]; rfl
    have u2 : v.cell? ⟨w1.heap.size, 2, none⟩ = some (#[.bool false, .slice none 0 0, .slice none 0 0][2]) := by rw [cell_of_row _ _ _ _ _ _ hyv]; rfl
    have HRV := Hid.mk RV
    clear RV hyv
    go_wp2_with fail
    have hr := put3 HRV.out.row (.bool false) (.slice none 0 0) (.slice none 0 0)
    refine bodyPost_ret (results_row2 Tryz.results69 _ _ w.heap.size _ _ _ rfl hr) rfl ?_
    exact ⟨below3 HRV.out.bel (Nat.le_refl _) _ _ _, rfl, her⟩
  | ok t m =>
    rw [hrd] at hm hres
    simp only [HL.out] at hres
    obtain ⟨y, rfl, hy⟩ := hm
    have HY : Hid (∀ o, LiesP (fun b => w.heap.size + 1 ≤ b) (w1.alloc o) t y) := fun o => liesP_mono (fun b hb hlt => ⟨Below.heap_alloc _ _ _ hlt, by have : (w.alloc (.cells #[.bool false, .slice none 0 0, .slice none 0 0] 110)).heap.size ≤ b := hb; simpa using this⟩) t y hy
    clear hy
    by_cases hmn : m < n
    · rw [if_pos hmn] at hres
      subst hres
      have hmi : (m : Int) < n := by omega
      clear hrd
      go_upto_if 14 with fail
      refine gen_w (p := fun v => Code.wp _ _ _ _ v) (q := fun v => Rb w v ∧ v.heap[w1.heap.size]? = some (.cells #[.bool y.l, .slice y.ba y.bn y.bc, .slice y.ia y.m y.ic] 110) ∧ Hid (LiesP (fun b => w.heap.size + 1 ≤ b) v t y)) ⟨RB.alloc _, heap_alloc_new _ _, HY.out _⟩ ?_
      clear RB HY
      rintro v ⟨RV, hyv, HY⟩
      have x0 := RV.x0
      have x1 := RV.x1
      have x2 := RV.x2
      have xf := RV.xf
      have u0 : v.cell? ⟨w1.heap.size, 0, none⟩ = some (#[.bool y.l, .slice y.ba y.bn y.bc, .slice y.ia y.m y.ic][0]) := by rw [cell_of_row _ _ _ _ _ _ hyv]; rfl
      have u1 : v.cell? ⟨w1.heap.size, 1, none⟩ = some (#[.bool y.l, .slice y.ba y.bn y.bc, .slice y.ia y.m y.ic][1]) := by rw [cell_of_row _ _ _ _ _ _ hyv]; rfl
      have u2 : v.cell? ⟨w1.heap.size, 2, none⟩ = some (#[.bool y.l, .slice y.ba y.bn y.bc, .slice y.ia y.m y.ic][2]) := by rw [cell_of_row _ _ _ _ _ _ hyv]; rfl
      have HRV := Hid.mk RV
      clear RV hyv
      go_wp2_with fail
      have hr := put3 HRV.out.row (.bool false) (.slice none 0 0) (.slice none 0 0)
      refine bodyPost_ret (results_row2 Tryz.results69 _ _ w.heap.size _ _ _ rfl hr) rfl ?_
      exact ⟨below3 HRV.out.bel (Nat.le_refl _) _ _ _, rfl, by decide⟩
    · rw [if_neg hmn] at hres
      subst hres
      have hmi : ¬ (m : Int) < n := by omega
      clear hrd
      go_upto_if 14 with fail
      refine gen_w (p := fun v => Code.wp _ _ _ _ v) (q := fun v => Rb w v ∧ v.heap[w1.heap.size]? = some (.cells #[.bool y.l, .slice y.ba y.bn y.bc, .slice y.ia y.m y.ic] 110) ∧ Hid (LiesP (fun b => w.heap.size + 1 ≤ b) v t y)) ⟨RB.alloc _, heap_alloc_new _ _, HY.out _⟩ ?_
      clear RB HY
      rintro v ⟨RV, hyv, HY⟩
      have x0 := RV.x0
      have x1 := RV.x1
      have x2 := RV.x2
      have xf := RV.xf
      have u0 : v.cell? ⟨w1.heap.size, 0, none⟩ = some (#[.bool y.l, .slice y.ba y.bn y.bc, .slice y.ia y.m y.ic][0]) := by rw [cell_of_row _ _ _ _ _ _ hyv]; rfl
      have u1 : v.cell? ⟨w1.heap.size, 1, none⟩ = some (#[.bool y.l, .slice y.ba y.bn y.bc, .slice y.ia y.m y.ic][1]) := by rw [cell_of_row _ _ _ _ _ _ hyv]; rfl
      have u2 : v.cell? ⟨w1.heap.size, 2, none⟩ = some (#[.bool y.l, .slice y.ba y.bn y.bc, .slice y.ia y.m y.ic][2]) := by rw [cell_of_row _ _ _ _ _ _ hyv]; rfl
      have HRV := Hid.mk RV
      clear RV hyv
      go_wp2_with fail
      have hr := put3 HRV.out.row (.bool y.l) (.slice y.ba y.bn y.bc) (.slice y.ia y.m y.ic)
      refine bodyPost_ret (results_row2 Tryz.results69 _ _ w.heap.size _ _ _ rfl hr) rfl ?_
      refine ⟨below3 HRV.out.bel (Nat.le_refl _) _ _ _, y, rfl, liesP_mono (fun b (hb : w.heap.size + 1 ≤ b) hlt => ⟨other3 (by omega) _ _ _, by omega⟩) t y HY.out⟩
end Go.Proofs.YtalhnnjpjaeakaaGreat
/- What is written is read as it was; of an encoding no shorter piece is one: plain laws. -/
namespace Go.Proofs.YtalhnnjpjaeakaaGreat
set_option linter.unusedVariables false
theorem val_be (n : Nat) : val (be n) = n := by
  induction n using Nat.strongRecOn with
  | _ n ih =>
    by_cases h : n = 0
    · subst h; rw [be_zero]; rfl
    · rw [be_pos (by omega), val_snoc, ih _ (Nat.div_lt_self (by omega) (by decide))]
      omega
theorem be_ne {n : Nat} (h : 0 < n) : be n ≠ [] := by rw [be_pos h]; simp
theorem be_head (n : Nat) : 0 < n → (be n).headD 0 ≠ 0 := by
  induction n using Nat.strongRecOn with
  | _ n ih =>
    intro h
    rw [be_pos h]
    by_cases h0 : n / 256 = 0
    · rw [h0, be_zero]
      show ((n % 256 : Nat) : Int) ≠ 0
      omega
    · have h1 := ih (n / 256) (Nat.div_lt_self h (by decide)) (by omega)
      have h2 := be_ne (n := n / 256) (by omega)
      cases hd : be (n / 256) with
      | nil => exact absurd hd h2
      | cons x r => rw [hd] at h1; exact h1
theorem head_app {a b : List Int} (h : a ≠ []) : (a ++ b).headD 0 = a.headD 0 := by
  cases a with
  | nil => exact absurd rfl h
  | cons x r => rfl
theorem lenIn_be {n : Nat} (h : 55 < n) (h2 : n < 16777216) (r : List Int) : lenIn (be n ++ r) (nb n) = (n, 0) := by
  have h3 := nb_le3 h2
  have e : (be n ++ r).take (nb n) = be n := by rw [← be_len, List.take_left]
  unfold lenIn
  rw [if_neg (by omega), if_neg (by rw [List.length_append, be_len]; omega), e, val_be, head_app (be_ne (by omega)), if_neg]
  rintro (h4 | h4)
  · exact be_head n (by omega) h4
  · omega
theorem nOf_base {base n : Nat} (hb : base = 128 ∨ base = 192) (hn : n ≤ 63) (h : base = 128 → n < 64) : nOf ((base + n : Nat) : Int) = n := by
  unfold nOf
  rcases hb with rfl | rfl
  · split <;> omega
  · split <;> omega
/-- A head is read as it was written. -/
theorem hdr_hd {deep : Bool} {base : Nat} (hb : base = 128 ∨ base = 192) (hdp : base = 192 → deep = false) (body more : List Int) (hl : body.length ≤ 16777215) :
    hdr deep (hd base body.length ++ (body ++ more)) = .ok (hd base body.length).length ((hd base body.length).length + body.length) := by
  unfold hd
  by_cases h5 : body.length ≤ 55
  · rw [if_pos h5]
    have hn := nOf_base (n := body.length) hb (by omega) (by omega)
    show hdr deep (((base + body.length : Nat) : Int) :: (body ++ more)) = _
    unfold hdr
    simp only
    rw [if_neg (by rintro ⟨h1, h2⟩; rcases hb with rfl | rfl; omega; rw [hdp rfl] at h2; cases h2), if_neg (by rcases hb with rfl | rfl <;> omega), hn, if_neg (by omega), if_neg (by simp only [List.length_cons, List.length_append]; omega)]
    rfl
  · rw [if_neg h5]
    have h3 := nb_le3 (n := body.length) (by omega)
    have h1 := nb_ge (n := body.length) (by omega)
    have hn := nOf_base (n := 55 + nb body.length) hb (by omega) (by omega)
    rw [show base + (55 + nb body.length) = base + 55 + nb body.length from by omega] at hn
    show hdr deep (((base + 55 + nb body.length : Nat) : Int) :: (be body.length ++ (body ++ more))) = _
    unfold hdr
    simp only
    rw [if_neg (by rintro ⟨h1, h2⟩; rcases hb with rfl | rfl; omega; rw [hdp rfl] at h2; cases h2), if_neg (by rcases hb with rfl | rfl <;> omega), hn, if_pos (by omega), show 55 + nb body.length - 55 = nb body.length from by omega, lenIn_be (by omega) (by omega)]
    simp only
    rw [if_neg (by simp), if_neg (by simp only [List.length_cons, List.length_append, be_len]; omega)]
    simp only [List.length_cons, be_len]
    congr 1 <;> omega
theorem hdr_short {base : Nat} (hb : base = 128 ∨ base = 192) (body : List Int) (hl : body.length ≤ 16777215) (n : Nat) (hn : n < (hd base body.length ++ body).length) : hdr false ((hd base body.length ++ body).take n) = .bad 22 := by
  cases n with
  | zero => rfl
  | succ n =>
    unfold hd at hn ⊢
    by_cases h5 : body.length ≤ 55
    · rw [if_pos h5] at hn ⊢
      have hnn := nOf_base (n := body.length) hb (by omega) (by omega)
      simp only [List.length_append, List.length_cons, List.length_nil] at hn
      show hdr false (((base + body.length : Nat) : Int) :: (body.take n)) = _
      unfold hdr
      simp only
      rw [if_neg (by simp), if_neg (by rcases hb with rfl | rfl <;> omega), hnn, if_neg (by omega), if_pos (by simp only [List.length_cons, List.length_take]; omega)]
    · rw [if_neg h5] at hn ⊢
      have h3 := nb_le3 (n := body.length) (by omega)
      have h1 := nb_ge (n := body.length) (by omega)
      have hnn := nOf_base (n := 55 + nb body.length) hb (by omega) (by omega)
      rw [show base + (55 + nb body.length) = base + 55 + nb body.length from by omega] at hnn
      simp only [List.length_append, List.length_cons, be_len] at hn
      show hdr false (((base + 55 + nb body.length : Nat) : Int) :: ((be body.length ++ body).take n)) = _
      unfold hdr
      simp only
      rw [if_neg (by simp), if_neg (by rcases hb with rfl | rfl <;> omega), hnn, if_pos (by omega), show 55 + nb body.length - 55 = nb body.length from by omega]
      have hlt : ((be body.length ++ body).take n).length = n := by rw [List.length_take, List.length_append, be_len]; omega
      by_cases hk : n < nb body.length
      · have e : lenIn ((be body.length ++ body).take n) (nb body.length) = (0, 22) := by
          unfold lenIn
          rw [if_neg (by omega), if_pos (by rw [hlt]; exact hk)]
        rw [e]
        rfl
      · have e0 : (be body.length ++ body).take n = be body.length ++ body.take (n - nb body.length) := by
          rw [List.take_append, be_len, List.take_of_length_le (by rw [be_len]; omega)]
        have e : lenIn ((be body.length ++ body).take n) (nb body.length) = (body.length, 0) := by
          rw [e0]
          exact lenIn_be (by omega) (by omega) _
        rw [e]
        simp only
        rw [if_neg (by simp), if_pos (by rw [List.length_cons, hlt]; omega)]
theorem hd_pos (base n : Nat) : 1 ≤ (hd base n).length := by rw [hd_len]; omega
theorem enc_pos (t : T) : 1 ≤ (enc t).length := by
  obtain ⟨l, bs, its⟩ := t
  rw [enc_eq]
  split
  · rename_i h
    unfold bare at h
    simp only [Bool.and_eq_true, decide_eq_true_eq] at h
    have := h.2.1
    omega
  · rw [List.length_append]
    have := hd_pos (baseOf l) (bs ++ encs its).length
    omega
theorem body_le_enc (t : T) : (bodyOf t).length ≤ (enc t).length := by
  obtain ⟨l, bs, its⟩ := t
  show (bs ++ encs its).length ≤ _
  rw [enc_eq]
  split
  · exact Nat.le_refl _
  · exact Nat.le_trans (Nat.le_add_left _ _) (Nat.le_of_eq List.length_append.symm)
theorem cut_body (h body more : List Int) : ((h ++ (body ++ more)).take (h.length + body.length)).drop h.length = body := by
  rw [← List.append_assoc, List.take_left' (by rw [List.length_append]), List.drop_left]
theorem hd_head {base : Nat} (hb : base = 128 ∨ base = 192) {n : Nat} (hn : n < 16777216) (r : List Int) : (hd base n ++ r).headD 0 < 192 ↔ base = 128 := by
  have h3 := nb_le3 hn
  unfold hd
  split
  · show ((base + n : Nat) : Int) < 192 ↔ _
    rcases hb with rfl | rfl <;> omega
  · show ((base + 55 + nb n : Nat) : Int) < 192 ↔ _
    rcases hb with rfl | rfl <;> omega
theorem rd1_text (g : List Int → R) (deep : Bool) (bs more : List Int) (hl : bs.length ≤ 16777215) : rd1 g deep (enc (.mk false bs []) ++ more) = .ok (.mk false bs []) (enc (.mk false bs [])).length := by
  rw [enc_eq, encs_nil, List.append_nil]
  by_cases hb : bare false bs = true
  · rw [if_pos hb]
    unfold bare at hb
    simp only [Bool.not_false, Bool.true_and, Bool.and_eq_true, decide_eq_true_eq] at hb
    match bs, hb with
    | [x], ⟨_, h2⟩ =>
      have h2' : x < 128 := h2
      show rd1 g deep (x :: more) = _
      have e : hdr deep (x :: more) = .ok 0 1 := by
        unfold hdr
        simp only
        rw [if_neg (by omega), if_pos h2']
      unfold rd1
      rw [e]
      simp only
      rw [if_pos (show (x :: more).headD 0 < 192 by show x < 192; omega), if_neg (by simp)]
      rfl
  · rw [if_neg hb, baseOf, if_neg (by simp), List.append_assoc]
    have e := hdr_hd (deep := deep) (base := 128) (.inl rfl) (fun h => by cases h) bs more hl
    unfold rd1
    rw [e]
    simp only
    have hh : (hd 128 bs.length ++ (bs ++ more)).headD 0 < 192 := (hd_head (base := 128) (Or.inl rfl) (n := bs.length) (by omega) (bs ++ more)).2 rfl
    rw [if_pos hh, cut_body, List.length_append, if_neg]
    rintro ⟨h1, h2, h3⟩
    apply hb
    have hn1 : bs.length = 1 := by omega
    have h5 : hd 128 bs.length = [((128 + bs.length : Nat) : Int)] := by unfold hd; rw [if_pos (by omega)]
    rw [h5] at h3
    clear hh e
    obtain ⟨x, rfl⟩ := List.length_eq_one_iff.1 hn1
    have h3' : x < 128 := h3
    unfold bare
    simp [h3']
theorem rdAll_encs {g : List Int → R} : ∀ (its : List T) (fuel : Nat), (encs its).length ≤ fuel → (∀ t ∈ its, ∀ more, g (enc t ++ more) = .ok t (enc t).length) → rdAll g fuel (encs its) = .ok its
  | [], fuel, _, _ => by rw [encs_nil, rdAll_nil]
  | t :: r, fuel, hl, h => by
    rw [encs_cons] at hl ⊢
    have h1 := enc_pos t
    rw [List.length_append] at hl
    obtain ⟨f, rfl⟩ : ∃ f, fuel = f + 1 := ⟨fuel - 1, by omega⟩
    have hne : enc t ++ encs r ≠ [] := by
      intro e
      have := congrArg List.length e
      rw [List.length_append, List.length_nil] at this
      omega
    rw [rdAll_ok hne (h t (List.mem_cons_self ..) _), List.drop_left, rdAll_encs r f (by omega) (fun u hu => h u (List.mem_cons_of_mem _ hu))]
theorem byts_mem : ∀ {its : List T}, byts its → ∀ t ∈ its, byt t
  | [], _, t, ht => by cases ht
  | x :: r, h, t, ht => by
    have := (byts_cons x r).1 h
    rcases List.mem_cons.1 ht with rfl | ht
    · exact this.1
    · exact byts_mem this.2 t ht
theorem encs_mem_le : ∀ {its : List T} {t : T}, t ∈ its → (enc t).length ≤ (encs its).length
  | x :: r, t, ht => by
    rw [encs_cons, List.length_append]
    rcases List.mem_cons.1 ht with rfl | ht
    · omega
    · have := encs_mem_le ht
      omega
theorem rd_enc : ∀ t, ∀ k d w more, d + k = 8 → (wk t d w).2 = 0 → (bodyOf t).length ≤ 16777215 → rd k (enc t ++ more) = .ok t (enc t).length := by
  refine T.ind fun l bs its ih k d w more hdk h hl => ?_
  obtain ⟨h1, h2, h3, h4⟩ := wk_ok h
  have hw := wrong_false h2
  cases l with
  | false =>
    have hi : its = [] := by simpa using hw
    subst hi
    have hl2 : bs.length ≤ 16777215 := by
      have : (bs ++ encs []).length ≤ 16777215 := hl
      rwa [encs_nil, List.append_nil] at this
    cases k with
    | zero => exact rd1_text _ _ _ _ hl2
    | succ k => exact rd1_text _ _ _ _ hl2
  | true =>
    have hbs : bs = [] := by simpa using hw
    subst hbs
    have hd8 := h1 rfl
    obtain ⟨k, rfl⟩ : ∃ k', k = k' + 1 := ⟨k - 1, by omega⟩
    have hl2 : (encs its).length ≤ 16777215 := by
      have : (([] : List Int) ++ encs its).length ≤ 16777215 := hl
      rwa [List.nil_append] at this
    rw [h4] at h
    have hall : ∀ t ∈ its, ∀ more, rd k (enc t ++ more) = .ok t (enc t).length := by
      intro t ht more
      obtain ⟨w', hw'⟩ := wks_mem h t ht
      have a1 := body_le_enc t
      have a2 := encs_mem_le ht
      exact ih t ht k (d + 1) w' more (by omega) hw' (by omega)
    rw [enc_eq, List.nil_append, if_neg (by simp [bare]), baseOf, if_pos rfl, List.append_assoc]
    have e := hdr_hd (deep := false) (base := 192) (.inr rfl) (fun _ => rfl) (encs its) more hl2
    show rd1 (rd k) false _ = _
    unfold rd1
    rw [e]
    simp only
    have hh : ¬ (hd 192 (encs its).length ++ (encs its ++ more)).headD 0 < 192 := fun h => by
      have := (hd_head (base := 192) (Or.inr rfl) (n := (encs its).length) (by omega) (encs its ++ more)).1 h
      omega
    rw [if_neg hh, cut_body, rdAll_encs its _ (Nat.le_refl _) hall, List.length_append]
/-- What is encoded is decoded as it was. -/
theorem enc_rd {t : T} (h : (mP t).2 = 0) (more : List Int) : rd 8 (enc t ++ more) = .ok t (enc t).length := by
  obtain ⟨h1, h2, _⟩ := mP_ok h
  have hf := wk_form t 0 0 h1
  exact rd_enc t 8 0 0 more rfl h1 (by rw [← szb_len hf]; omega)
theorem enc_dec {t : T} (h : (mP t).2 = 0) : decP (enc t) = .ok t := by
  have := enc_rd h []
  rw [List.append_nil] at this
  unfold decP
  rw [this]
  simp only
  rw [if_neg (by omega)]
theorem enc_short {t : T} (h : (mP t).2 = 0) {n : Nat} (hn : n < (enc t).length) : rd 8 ((enc t).take n) = .bad 22 := by
  obtain ⟨h1, h2, _⟩ := mP_ok h
  have hf := wk_form t 0 0 h1
  rw [szb_len hf] at h2
  show rd1 (rd 7) false _ = _
  have e : hdr false ((enc t).take n) = .bad 22 := by
    obtain ⟨l, bs, its⟩ := t
    have hl : (bs ++ encs its).length ≤ 16777215 := h2
    rw [enc_eq] at hn ⊢
    split at hn
    · rename_i hb
      rw [if_pos hb]
      unfold bare at hb
      simp at hb
      have : n = 0 := by
        rw [List.length_append] at hn
        omega
      subst this
      rfl
    · rename_i hb
      rw [if_neg hb]
      exact hdr_short (by unfold baseOf; split <;> simp) _ hl n hn
  unfold rd1
  rw [e]
end Go.Proofs.YtalhnnjpjaeakaaGreat
/- A list of items that may be written each alone: it may be written, or is too deep: plain laws. -/
namespace Go.Proofs.YtalhnnjpjaeakaaGreat
set_option linter.unusedVariables false
def Deep (d : Nat) (t : T) : Prop := ∀ w, w + (enc t).length ≤ 16777215 → ((wk t d w).2 = 0 ∧ (wk t d w).1 ≤ w + (enc t).length) ∨ (wk t d w).2 = 21
theorem wks_deep {d : Nat} : ∀ {its : List T}, (∀ t ∈ its, Deep d t) → ∀ w, w + (encs its).length ≤ 16777215 → ((wks its d w).2 = 0 ∧ (wks its d w).1 ≤ w + (encs its).length) ∨ (wks its d w).2 = 21
  | [], _, w, _ => by rw [wks_nil]; exact .inl ⟨rfl, by simp⟩
  | t :: r, ih, w, h => by
    rw [encs_cons, List.length_append] at h ⊢
    rw [wks_cons]
    rcases ih t (List.mem_cons_self ..) w (by omega) with ⟨h1, h2⟩ | h1
    · rw [if_pos h1]
      rcases wks_deep (fun u hu => ih u (List.mem_cons_of_mem _ hu)) (wk t d w).1 (by omega) with ⟨h3, h4⟩ | h3
      · exact .inl ⟨h3, by omega⟩
      · exact .inr h3
    · rw [if_neg (by omega)]
      exact .inr h1
theorem wk_deep : ∀ t, form t = true → ∀ d, 0 < d → Deep d t := by
  refine T.ind fun l bs its ih hf d hd0 w h => ?_
  rw [wk_eq]
  cases l with
  | false =>
    have hi := form_text hf
    subst hi
    have h1 := enc_pos (.mk false bs [])
    have h2 := body_le_enc (.mk false bs [])
    have h3 : (bodyOf (.mk false bs [])).length = bs.length := by show (bs ++ encs []).length = _; rw [encs_nil, List.append_nil]
    have hwt : wt false bs d ≤ (enc (.mk false bs [])).length := wt_le (by omega) h1
    rw [if_neg (by simp), if_neg (by simp [wrongForm]), if_neg (by omega), wks_nil]
    exact .inl ⟨rfl, by show w + _ ≤ _; omega⟩
  | true =>
    obtain ⟨hb, hfs⟩ := form_list hf
    subst hb
    by_cases h8 : 8 ≤ d
    · rw [if_pos (by simpa using h8)]
      exact .inr rfl
    · have he : (enc (.mk true [] its)).length = (hd 192 (encs its).length).length + (encs its).length := by
        rw [enc_eq, List.nil_append, if_neg (by simp [bare]), baseOf, if_pos rfl, List.length_append]
      have hp := hd_pos 192 (encs its).length
      have hwt : wt true [] d ≤ 1 := wt_le (by simp) (by omega)
      rw [if_neg (by simp; omega), if_neg (by simp [wrongForm]), if_neg (by omega)]
      rcases wks_deep (d := d + 1) (its := its) (fun t ht => ih t ht (forms_mem hfs t ht) (d + 1) (by omega)) (w + wt true [] d) (by omega) with ⟨h3, h4⟩ | h3
      · exact .inl ⟨h3, by omega⟩
      · exact .inr h3
/-- A list of items that may be written each. -/
theorem list_mP {ts : List T} (h : ∀ t ∈ ts, (mP t).2 = 0) (hl : (encs ts).length ≤ 65536) : ((mP (.mk true [] ts)).2 = 0 ∧ enc (.mk true [] ts) = hd 192 (encs ts).length ++ encs ts) ∨ (mP (.mk true [] ts)).2 = 21 := by
  have hf : ∀ t ∈ ts, form t = true := fun t ht => wk_form t 0 0 (mP_ok (h t ht)).1
  have hw : wk (.mk true [] ts) 0 0 = wks ts 1 0 := by
    rw [wk_eq, if_neg (by simp), if_neg (by simp [wrongForm]), show wt true [] 0 = 0 from rfl, if_neg (by omega)]
  have he : enc (.mk true [] ts) = hd 192 (encs ts).length ++ encs ts := by
    rw [enc_eq, List.nil_append, if_neg (by simp [bare]), baseOf, if_pos rfl]
  have hs : szb (.mk true [] ts) = (encs ts).length := by
    show ([] : List Int).length + szs ts = _
    rw [szs_len fun t ht => sz_len t (hf t ht)]
    simp
  rcases wks_deep (d := 1) (its := ts) (fun t ht => wk_deep t (hf t ht) 1 (by omega)) 0 (by omega) with ⟨h1, _⟩ | h1
  · left
    refine ⟨?_, he⟩
    unfold mP
    rw [hw, if_neg (by rw [h1]; simp), if_neg (by rw [hs]; omega)]
  · right
    unfold mP
    rw [hw, if_pos (by rw [h1]; simp), h1]
theorem hd_le {base n : Nat} (h : n < 16777216) : (hd base n).length ≤ 4 := by
  rw [hd_len]
  have := nb_le3 h
  split <;> omega
theorem hd_first {n : Nat} (h : n < 16777216) (r : List Int) : 192 ≤ (hd 192 n ++ r).getD 0 0 := by
  have := nb_le3 h
  unfold hd
  split
  · show (192 : Int) ≤ ((192 + n : Nat) : Int)
    omega
  · show (192 : Int) ≤ ((192 + 55 + nb n : Nat) : Int)
    omega
end Go.Proofs.YtalhnnjpjaeakaaGreat
