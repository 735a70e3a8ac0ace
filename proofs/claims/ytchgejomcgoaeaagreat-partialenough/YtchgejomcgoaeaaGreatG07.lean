/- What read, First and Decode answer. -/
import Derived.Test.YtchgejomcgoaeaaGreatG06
import Derived.Test.YtchgejomcgoaeaaGreatG04
set_option linter.unusedVariables false
set_option maxRecDepth 100000
namespace Go.Proofs.YtchgejomcgoaeaaGreat
open Go.RowKit
variable {w : World}
theorem Zhz {P : Nat → Prop} {ia : Option Addr} {ic : Nat} {ts : List T} (h1 : ts.length ≤ ic) (h2 : ic ≤ maxLen) (h3 : ts.length ≤ 140737488351232) (h : LiesPAll P w ts ia 0) : LiesP P w (.mk true [] ts) ⟨true, none, 0, 0, ia, ts.length, ic⟩ :=
  liesP_eq.2 ⟨⟨rfl, ⟨.inl ⟨rfl, rfl⟩, fun _ => ⟨rfl, rfl⟩, rfl, fun x hx => by cases hx⟩, rfl, h1, h2, ⟨Nat.zero_le _, h3⟩, fun g off e => by cases e⟩, h⟩
set_option maxHeartbeats 2000000 in
theorem Zo2 (gg : List Int → R) (hlen : ∀ b t m, gg b = .ok t m → 1 ≤ m ∧ m ≤ b.length) (a : Option Addr) (n c d : Nat) (x : Int) (r : List Int) (w : World) (h : Ag w a n c (x :: r)) (hd : d < 8) (hn : n ≤ 140737488351232) (f t : Nat) (hh : hdr (decide (d = 8)) (x :: r) = .ok f t) (hx : 192 ≤ x) (res : R)
    (hall : ∀ (a : Option Addr) (n c : Nat) (b : List Int) (w : World), Ag w a n c b → n < 16777216 → Calls Tryz.prog 123 #[.slice a n c, .int .i64 (d + 1 : Nat)] w (AllPost w (rdAll gg b.length b)))
    (hres : (match rdAll gg (((x :: r).take t).drop f).length (((x :: r).take t).drop f) with | .bad e => R.bad e | .ok ts => R.ok (.mk true [] ts) t) = res) :
    Calls Tryz.prog 110 #[.slice a n c, .int .i64 d] w (ReadPost w res) := by
  have hcal := fun w' (hb : Below w.heap.size w w') => Zfg a n c d (x :: r) w' (h.at hb) (by omega) (by omega)
  have hsmall : t - f < 16777216 := by
    rcases Zs3 hh (h.b x (by simp)).2 with h' | ⟨y, hy, hny⟩
    · exact h'
    · exact absurd (h.b y (List.mem_cons_of_mem _ hy)) hny
  simp only [hh, HR.f, HR.t, HR.e] at hcal
  obtain ⟨hft, htn, ht1, _⟩ := Zj4 hh
  rw [h.l] at htn
  obtain ⟨g, off, rfl, hc1, hc2, hc⟩ := ag_head h (by omega)
  unfold maxLen at hc2
  have hsub := Zui h hft htn
  have HCAL := Hid.mk hcal
  have HALL := Hid.mk hall
  have HLEN := Hid.mk hlen
  have HC := Hid.mk hc
  have HSL := Hid.mk hsub.l
  have HRES := Hid.mk hres
  obtain ⟨hx0, hx1⟩ := h.b x (by simp)
  have hn1 : 0 < n := by omega
  have hn2 : (0 : Int) < n := by omega
  have hfi : (f : Int) ≤ t := by omega
  have hti : (t : Int) ≤ n := by omega
  have hx2 : ¬ x < 192 := by omega
  clear hcal hh h hc hres hall hlen
  by_cases hcf : c = f
  · rw [if_pos hcf] at hsub
    have e1 : t = f := by omega
    have e2 : n = f := by omega
    subst e1 e2 hcf
    rw [Nat.sub_self] at hsub HSL
    have HS := Hid.mk hsub
    clear hsub
    go_enter Tryz.func110, Tryz.ntmps110
    go_wp2_with fail
    refine (HCAL.out _ ((Below.refl _ _).alloc (Nat.le_refl _) _)).mono ?_
    rintro e w1 ⟨rfl, hb⟩
    rw [show ((0 : Nat) : Int) = 0 from rfl]
    have hres1 : w1.heap[w.heap.size]? = some (.cells #[.bool false, .slice none 0 0, .slice none 0 0] 76) := Below.row hb (heap_alloc_new _ _)
    have hb1 : Below w.heap.size w w1 := ((Below.refl w.heap.size w).alloc (Nat.le_refl _) _).trans (hb.mono (by simp))
    have y0 : w1.cell? ⟨g, off, none⟩ = some (.int .u8 x) := by have := HC.out 0 hn1; exact (hb1.cell (p := ⟨g, off, none⟩) (block_lt_of_cell this)).trans this
    have HR := Hid.mk hres1
    have HB1 := Hid.mk hb1
    clear hres1 hb hb1
    have hct := HALL.out _ _ _ _ w1 (HS.out.at HB1.out) (by omega)
    have HCT := Hid.mk hct
    clear hct
    go_wp2_with fail
    rw [show ((d : Int) + 1) = ((d + 1 : Nat) : Int) from by omega]
    refine HCT.out.mono ?_
    rintro e w2 ⟨hb2, hm⟩
    have hres2 := Below.row hb2 HR.out
    have x0 : w2.cell? ⟨w.heap.size, 0, none⟩ = some (.bool false) := by rw [cell_of_row _ _ _ _ _ _ hres2]; rfl
    have x1 : w2.cell? ⟨w.heap.size, 1, none⟩ = some (.slice none 0 0) := by rw [cell_of_row _ _ _ _ _ _ hres2]; rfl
    have x2 : w2.cell? ⟨w.heap.size, 2, none⟩ = some (.slice none 0 0) := by rw [cell_of_row _ _ _ _ _ _ hres2]; rfl
    have xf : ∀ o, w2.frozen? ⟨w.heap.size, o, none⟩ = false := fun o => frozen_of_row _ _ _ _ _ hres2
    have HR2 := Hid.mk hres2
    have HB2 := Hid.mk (HB1.out.trans (hb2.mono HB1.out.size))
    have hz1 := HB1.out.size
    have hz2 := lt_of_get HR.out
    clear hres2 hb2
    cases hr : rdAll gg (((x :: r).take c).drop c).length (((x :: r).take c).drop c) with
    | bad er =>
      rw [hr] at hm
      obtain ⟨rfl, her⟩ := hm
      have hfin := HRES.out
      rw [hr] at hfin
      have HF := Hid.mk hfin
      have hee : ((er : Int) != 0) = true := by rw [bne_iff_ne]; omega
      clear hr hfin
      go_wp2_with fail
      have hr := put3 HR2.out (.bool false) (.slice none 0 0) (.slice none 0 0)
      refine bodyPost_ret (Za3 Tryz.results110 _ _ w.heap.size _ _ _ rfl hr) rfl ?_
      rw [← HF.out]
      exact ⟨Zbx HB2.out (Nat.le_refl _) _ _ _, rfl, her⟩
    | ok ts =>
      rw [hr] at hm
      obtain ⟨ia, ic, rfl, hic1, hic2, hli⟩ := hm
      have hfin := HRES.out
      rw [hr] at hfin
      have hlen := Zgi HLEN.out _ _ _ hr
      have HF := Hid.mk hfin
      have HLI := Hid.mk hli
      have htl : ts.length ≤ 140737488351232 := by rw [HSL.out] at hlen; omega
      clear hr hfin hli hlen
      go_wp2_with fail
      have hr := put3 HR2.out (.bool true) (.slice none 0 0) (.slice ia ts.length ic)
      refine bodyPost_ret (Za3 Tryz.results110 _ _ w.heap.size _ _ _ rfl hr) rfl ?_
      rw [← HF.out]
      refine ⟨Zbx HB2.out (Nat.le_refl _) _ _ _, ⟨true, none, 0, 0, ia, ts.length, ic⟩, rfl, ?_⟩
      refine Zhz hic1 hic2 htl (Zb6 (fun b (hb : w1.heap.size ≤ b) hlt => ⟨Zcd (by omega) _ _ _, by omega⟩) (fun u _ => Zax (fun b (hb : w1.heap.size ≤ b) hlt => ⟨Zcd (by omega) _ _ _, by omega⟩) u) HLI.out)
  · rw [if_neg hcf] at hsub
    have HS := Hid.mk hsub
    clear hsub
    go_enter Tryz.func110, Tryz.ntmps110
    go_wp2_with fail
    refine (HCAL.out _ ((Below.refl _ _).alloc (Nat.le_refl _) _)).mono ?_
    rintro e w1 ⟨rfl, hb⟩
    rw [show ((0 : Nat) : Int) = 0 from rfl]
    have hres1 : w1.heap[w.heap.size]? = some (.cells #[.bool false, .slice none 0 0, .slice none 0 0] 76) := Below.row hb (heap_alloc_new _ _)
    have hb1 : Below w.heap.size w w1 := ((Below.refl w.heap.size w).alloc (Nat.le_refl _) _).trans (hb.mono (by simp))
    have y0 : w1.cell? ⟨g, off, none⟩ = some (.int .u8 x) := by have := HC.out 0 hn1; exact (hb1.cell (p := ⟨g, off, none⟩) (block_lt_of_cell this)).trans this
    have HR := Hid.mk hres1
    have HB1 := Hid.mk hb1
    clear hres1 hb hb1
    have HCT := Hid.mk (HALL.out _ _ _ _ w1 (HS.out.at HB1.out) hsmall)
    go_wp2_with fail
    rw [show ((d : Int) + 1) = ((d + 1 : Nat) : Int) from by omega]
    refine HCT.out.mono ?_
    rintro e w2 ⟨hb2, hm⟩
    have hres2 := Below.row hb2 HR.out
    have x0 : w2.cell? ⟨w.heap.size, 0, none⟩ = some (.bool false) := by rw [cell_of_row _ _ _ _ _ _ hres2]; rfl
    have x1 : w2.cell? ⟨w.heap.size, 1, none⟩ = some (.slice none 0 0) := by rw [cell_of_row _ _ _ _ _ _ hres2]; rfl
    have x2 : w2.cell? ⟨w.heap.size, 2, none⟩ = some (.slice none 0 0) := by rw [cell_of_row _ _ _ _ _ _ hres2]; rfl
    have xf : ∀ o, w2.frozen? ⟨w.heap.size, o, none⟩ = false := fun o => frozen_of_row _ _ _ _ _ hres2
    have HR2 := Hid.mk hres2
    have HB2 := Hid.mk (HB1.out.trans (hb2.mono HB1.out.size))
    have hz1 := HB1.out.size
    have hz2 := lt_of_get HR.out
    clear hres2 hb2
    cases hr : rdAll gg (((x :: r).take t).drop f).length (((x :: r).take t).drop f) with
    | bad er =>
      rw [hr] at hm
      obtain ⟨rfl, her⟩ := hm
      have hfin := HRES.out
      rw [hr] at hfin
      have HF := Hid.mk hfin
      have hee : ((er : Int) != 0) = true := by rw [bne_iff_ne]; omega
      clear hr hfin
      go_wp2_with fail
      have hr := put3 HR2.out (.bool false) (.slice none 0 0) (.slice none 0 0)
      refine bodyPost_ret (Za3 Tryz.results110 _ _ w.heap.size _ _ _ rfl hr) rfl ?_
      rw [← HF.out]
      exact ⟨Zbx HB2.out (Nat.le_refl _) _ _ _, rfl, her⟩
    | ok ts =>
      rw [hr] at hm
      obtain ⟨ia, ic, rfl, hic1, hic2, hli⟩ := hm
      have hfin := HRES.out
      rw [hr] at hfin
      have hlen := Zgi HLEN.out _ _ _ hr
      have HF := Hid.mk hfin
      have HLI := Hid.mk hli
      have htl : ts.length ≤ 140737488351232 := by rw [HSL.out] at hlen; omega
      clear hr hfin hli hlen
      go_wp2_with fail
      have hr := put3 HR2.out (.bool true) (.slice none 0 0) (.slice ia ts.length ic)
      refine bodyPost_ret (Za3 Tryz.results110 _ _ w.heap.size _ _ _ rfl hr) rfl ?_
      rw [← HF.out]
      refine ⟨Zbx HB2.out (Nat.le_refl _) _ _ _, ⟨true, none, 0, 0, ia, ts.length, ic⟩, rfl, ?_⟩
      refine Zhz hic1 hic2 htl (Zb6 (fun b (hb : w1.heap.size ≤ b) hlt => ⟨Zcd (by omega) _ _ _, by omega⟩) (fun u _ => Zax (fun b (hb : w1.heap.size ≤ b) hlt => ⟨Zcd (by omega) _ _ _, by omega⟩) u) HLI.out)
theorem Zjj (k : Nat) (gg : List Int → R) (hrd : ∀ b, rd k b = rd1 gg (decide (k = 0)) b) (hlen : ∀ b t m, gg b = .ok t m → 1 ≤ m ∧ m ≤ b.length)
    (hall : 0 < k → ∀ (d : Nat), d + k = 8 → ∀ (a : Option Addr) (n c : Nat) (b : List Int) (w : World), Ag w a n c b → n < 16777216 → Calls Tryz.prog 123 #[.slice a n c, .int .i64 (d + 1 : Nat)] w (AllPost w (rdAll gg b.length b))) : ReadSaid k := by
  intro a n c d b w h hd hn
  rw [hrd]
  have hdec : decide (k = 0) = decide (d = 8) := by by_cases h0 : k = 0 <;> simp [h0] <;> omega
  rw [hdec]
  unfold rd1
  cases hh : hdr (decide (d = 8)) b with
  | bad e => exact Zr4 a n c d b w h (by omega) hn e hh
  | ok f t =>
    cases b with
    | nil => simp [hdr] at hh
    | cons x r =>
      dsimp only
      by_cases hx : (x :: r).headD 0 < 192
      · rw [if_pos hx]
        exact Zo1 a n c d x r w h (by omega) hn f t hh hx _ rfl
      · rw [if_neg hx]
        have hx2 : ¬ x < 192 := hx
        have hk : 0 < k := by
          cases k with
          | succ k => omega
          | zero =>
            exfalso
            have hd8 : decide (d = 8) = true := by simp; omega
            rw [hd8, Zs4 (by omega)] at hh
            cases hh
        exact Zo2 gg hlen a n c d x r w h (by omega) hn f t hh (by omega) _ (hall hk d hd) rfl
theorem Zlu : ∀ k, ReadSaid k
  | 0 => Zjj 0 (fun _ => .bad 21) (fun b => rfl) (fun b t m h => by cases h) (fun h => absurd h (by omega))
  | k + 1 => Zjj (k + 1) (rd k) (fun b => rfl) (fun b t m h => rd_n h) (fun _ d hd a n c b w h hn => Zks k (Zlu k) a n c (d + 1) b w h (by omega) hn)
set_option maxHeartbeats 1000000 in
theorem Zqn (a : Option Addr) (n c : Nat) (b : List Int) (w : World) (h : Ag w a n c b) (hn : n ≤ 140737488351232) : Calls Tryz.prog 83 #[.slice a n c] w (ReadPost w (rd 8 b)) := by
  have hcal := fun w' (hb : Below w.heap.size w w') => Zlu 8 a n c 0 b w' (h.at hb) (by omega) hn
  rw [show ((0 : Nat) : Int) = 0 from rfl] at hcal
  have HCAL := Hid.mk hcal
  obtain ⟨res, hres⟩ : ∃ r, rd 8 b = r := ⟨_, rfl⟩
  rw [hres] at HCAL ⊢
  clear hcal h hres
  go_enter Tryz.func83, Tryz.ntmps83
  go_wp2_with fail
  refine (HCAL.out _ ((Below.refl _ _).alloc (Nat.le_refl _) _)).mono ?_
  rintro e w1 ⟨hb, hm⟩
  have hres1 : w1.heap[w.heap.size]? = some (.cells #[.bool false, .slice none 0 0, .slice none 0 0] 76) := Below.row hb (heap_alloc_new _ _)
  have hb1 : Below w.heap.size w w1 := ((Below.refl w.heap.size w).alloc (Nat.le_refl _) _).trans (hb.mono (by simp))
  have x0 : w1.cell? ⟨w.heap.size, 0, none⟩ = some (.bool false) := by rw [cell_of_row _ _ _ _ _ _ hres1]; rfl
  have x1 : w1.cell? ⟨w.heap.size, 1, none⟩ = some (.slice none 0 0) := by rw [cell_of_row _ _ _ _ _ _ hres1]; rfl
  have x2 : w1.cell? ⟨w.heap.size, 2, none⟩ = some (.slice none 0 0) := by rw [cell_of_row _ _ _ _ _ _ hres1]; rfl
  have xf : ∀ o, w1.frozen? ⟨w.heap.size, o, none⟩ = false := fun o => frozen_of_row _ _ _ _ _ hres1
  have HR := Hid.mk hres1
  have HB1 := Hid.mk hb1
  clear hres1 hb hb1
  cases res with
  | bad er =>
    obtain ⟨rfl, her⟩ := hm
    go_wp2_with fail
    have hr := put3 HR.out (.bool false) (.slice none 0 0) (.slice none 0 0)
    refine bodyPost_ret (Za3 Tryz.results83 _ _ w.heap.size _ _ _ rfl hr) rfl ?_
    exact ⟨Zbx HB1.out (Nat.le_refl _) _ _ _, rfl, her⟩
  | ok t m =>
    obtain ⟨y, rfl, hy⟩ := hm
    have HY := Hid.mk hy
    clear hy
    go_wp2_with fail
    have hr := put3 HR.out (.bool y.l) (.slice y.ba y.bn y.bc) (.slice y.ia y.m y.ic)
    refine bodyPost_ret (Za3 Tryz.results83 _ _ w.heap.size _ _ _ rfl hr) rfl ?_
    refine ⟨Zbx HB1.out (Nat.le_refl _) _ _ _, y, rfl, Zax (fun b hb hlt => ?_) t y HY.out⟩
    have hb' : w.heap.size + 1 ≤ b := by have : (w.alloc (.cells #[.bool false, .slice none 0 0, .slice none 0 0] 76)).heap.size ≤ b := hb; simpa using this
    exact ⟨Zcd (by omega) _ _ _, by omega⟩
inductive RT where
  | bad (e : Nat)
  | ok (t : T)
def decP (b : List Int) : RT := match rd 8 b with
  | .bad e => .bad e
  | .ok t n => if n < b.length then .bad 24 else .ok t
def DecPost (w : World) (r : RT) : Ending → World → Prop := fun e w' => Below w.heap.size w w' ∧
  match r with
  | .bad er => e = .returned (.tuple #[.agg #[.bool false, .slice none 0 0, .slice none 0 0], .int .i64 (er : Nat)]) ∧ er ≠ 0
  | .ok t => ∃ y : V, e = .returned (.tuple #[.agg #[.bool y.l, .slice y.ba y.bn y.bc, .slice y.ia y.m y.ic], .int .i64 0]) ∧ LiesP (fun b => w.heap.size ≤ b) w' t y
theorem gen_w {W : World} {p q : World → Prop} (F : q W) (h : ∀ v, q v → p v) : p W := h W F
structure Rb (w v : World) : Prop where
  row : v.heap[w.heap.size]? = some (.cells #[.bool false, .slice none 0 0, .slice none 0 0] 76)
  bel : Below w.heap.size w v
theorem Rb.x0 {v : World} (h : Rb w v) : v.cell? ⟨w.heap.size, 0, none⟩ = some (.bool false) := by rw [cell_of_row _ _ _ _ _ _ h.row]; rfl
theorem Rb.x1 {v : World} (h : Rb w v) : v.cell? ⟨w.heap.size, 1, none⟩ = some (.slice none 0 0) := by rw [cell_of_row _ _ _ _ _ _ h.row]; rfl
theorem Rb.x2 {v : World} (h : Rb w v) : v.cell? ⟨w.heap.size, 2, none⟩ = some (.slice none 0 0) := by rw [cell_of_row _ _ _ _ _ _ h.row]; rfl
theorem Rb.xf {v : World} (h : Rb w v) : ∀ o, v.frozen? ⟨w.heap.size, o, none⟩ = false := fun o => frozen_of_row _ _ _ _ _ h.row
theorem Rb.alloc {v : World} (h : Rb w v) (o : Obj) : Rb w (v.alloc o) := ⟨(Below.heap_alloc v o _ (lt_of_get h.row)).trans h.row, h.bel.alloc h.bel.size o⟩
theorem Rb.call {v v' : World} (h : Rb w v) (hb : Below v.heap.size v v') : Rb w v' := ⟨Below.row hb h.row, h.bel.trans (hb.mono h.bel.size)⟩
theorem Rb.new (w : World) : Rb w (w.alloc (.cells #[.bool false, .slice none 0 0, .slice none 0 0] 76)) := ⟨heap_alloc_new _ _, (Below.refl _ _).alloc (Nat.le_refl _) _⟩
set_option maxHeartbeats 1000000 in
theorem Zh4 (a : Option Addr) (n c : Nat) (b : List Int) (w : World) (h : Ag w a n c b) (hn : n ≤ 140737488351232) : Calls Tryz.prog 53 #[.slice a n c] w (DecPost w (decP b)) := by
  have hcal := fun w' (hb : Below w.heap.size w w') => Zqn a n c b w' (h.at hb) hn
  have HCAL := Hid.mk hcal
  have hl := h.l
  obtain ⟨res, hres⟩ : ∃ r, decP b = r := ⟨_, rfl⟩
  rw [hres]
  unfold decP at hres
  have HRES := Hid.mk hres
  have HL := Hid.mk hl
  clear hcal h hres hl
  go_enter Tryz.func53, Tryz.ntmps53
  go_wp2_with fail
  refine (HCAL.out _ ((Below.refl _ _).alloc (Nat.le_refl _) _)).mono ?_
  rintro e w1 ⟨hb, hm⟩
  have RB := (Rb.new w).call hb
  clear hb
  have hres := HRES.out
  cases hrd : rd 8 b with
  | bad er =>
    rw [hrd] at hm hres
    obtain ⟨rfl, her⟩ := hm
    subst hres
    have hee : ((er : Int) != 0) = true := by rw [bne_iff_ne]; omega
    clear hrd
    go_upto_if 14 with fail
    refine gen_w (p := fun v => Code.wp _ _ _ _ v) (q := fun v => Rb w v ∧ v.heap[w1.heap.size]? = some (.cells #[.bool false, .slice none 0 0, .slice none 0 0] 76)) ⟨RB.alloc _, heap_alloc_new _ _⟩ ?_
    clear RB
    rintro v ⟨RV, hyv⟩
    have x0 := RV.x0
    have x1 := RV.x1
    have x2 := RV.x2
    have xf := RV.xf
    have u0 : v.cell? ⟨w1.heap.size, 0, none⟩ = some (#[.bool false, .slice none 0 0, .slice none 0 0][0]) := by rw [cell_of_row _ _ _ _ _ _ hyv]; rfl
    have u1 : v.cell? ⟨w1.heap.size, 1, none⟩ = some (#[.bool false, .slice none 0 0, .slice none 0 0][1]) := by rw [cell_of_row _ _ _ _ _ _ hyv]; rfl
    have u2 : v.cell? ⟨w1.heap.size, 2, none⟩ = some (#[.bool false, .slice none 0 0, .slice none 0 0][2]) := by rw [cell_of_row _ _ _ _ _ _ hyv]; rfl
    have HRV := Hid.mk RV
    clear RV hyv
    go_wp2_with fail
    have hr := put3 HRV.out.row (.bool false) (.slice none 0 0) (.slice none 0 0)
    refine bodyPost_ret (Zdp Tryz.results53 _ _ w.heap.size _ _ _ rfl hr) rfl ?_
    exact ⟨Zbx HRV.out.bel (Nat.le_refl _) _ _ _, rfl, her⟩
  | ok t m =>
    rw [hrd] at hm hres
    simp only [HL.out] at hres
    obtain ⟨y, rfl, hy⟩ := hm
    have HY : Hid (∀ o, LiesP (fun b => w.heap.size + 1 ≤ b) (w1.alloc o) t y) := fun o => Zax (fun b hb hlt => ⟨Below.heap_alloc _ _ _ hlt, by have : (w.alloc (.cells #[.bool false, .slice none 0 0, .slice none 0 0] 76)).heap.size ≤ b := hb; simpa using this⟩) t y hy
    clear hy
    by_cases hmn : m < n
    · rw [if_pos hmn] at hres
      subst hres
      have hmi : (m : Int) < n := by omega
      clear hrd
      go_upto_if 14 with fail
      refine gen_w (p := fun v => Code.wp _ _ _ _ v) (q := fun v => Rb w v ∧ v.heap[w1.heap.size]? = some (.cells #[.bool y.l, .slice y.ba y.bn y.bc, .slice y.ia y.m y.ic] 76) ∧ Hid (LiesP (fun b => w.heap.size + 1 ≤ b) v t y)) ⟨RB.alloc _, heap_alloc_new _ _, HY.out _⟩ ?_
      clear RB HY
      rintro v ⟨RV, hyv, HY⟩
      have x0 := RV.x0
      have x1 := RV.x1
      have x2 := RV.x2
      have xf := RV.xf
      have u0 : v.cell? ⟨w1.heap.size, 0, none⟩ = some (#[.bool y.l, .slice y.ba y.bn y.bc, .slice y.ia y.m y.ic][0]) := by rw [cell_of_row _ _ _ _ _ _ hyv]; rfl
      have u1 : v.cell? ⟨w1.heap.size, 1, none⟩ = some (#[.bool y.l, .slice y.ba y.bn y.bc, .slice y.ia y.m y.ic][1]) := by rw [cell_of_row _ _ _ _ _ _ hyv]; rfl
      have u2 : v.cell? ⟨w1.heap.size, 2, none⟩ = some (#[.bool y.l, .slice y.ba y.bn y.bc, .slice y.ia y.m y.ic][2]) := by rw [cell_of_row _ _ _ _ _ _ hyv]; rfl
      have HRV := Hid.mk RV
      clear RV hyv
      go_wp2_with fail
      have hr := put3 HRV.out.row (.bool false) (.slice none 0 0) (.slice none 0 0)
      refine bodyPost_ret (Zdp Tryz.results53 _ _ w.heap.size _ _ _ rfl hr) rfl ?_
      exact ⟨Zbx HRV.out.bel (Nat.le_refl _) _ _ _, rfl, by decide⟩
    · rw [if_neg hmn] at hres
      subst hres
      have hmi : ¬ (m : Int) < n := by omega
      clear hrd
      go_upto_if 14 with fail
      refine gen_w (p := fun v => Code.wp _ _ _ _ v) (q := fun v => Rb w v ∧ v.heap[w1.heap.size]? = some (.cells #[.bool y.l, .slice y.ba y.bn y.bc, .slice y.ia y.m y.ic] 76) ∧ Hid (LiesP (fun b => w.heap.size + 1 ≤ b) v t y)) ⟨RB.alloc _, heap_alloc_new _ _, HY.out _⟩ ?_
      clear RB HY
      rintro v ⟨RV, hyv, HY⟩
      have x0 := RV.x0
      have x1 := RV.x1
      have x2 := RV.x2
      have xf := RV.xf
      have u0 : v.cell? ⟨w1.heap.size, 0, none⟩ = some (#[.bool y.l, .slice y.ba y.bn y.bc, .slice y.ia y.m y.ic][0]) := by rw [cell_of_row _ _ _ _ _ _ hyv]; rfl
      have u1 : v.cell? ⟨w1.heap.size, 1, none⟩ = some (#[.bool y.l, .slice y.ba y.bn y.bc, .slice y.ia y.m y.ic][1]) := by rw [cell_of_row _ _ _ _ _ _ hyv]; rfl
      have u2 : v.cell? ⟨w1.heap.size, 2, none⟩ = some (#[.bool y.l, .slice y.ba y.bn y.bc, .slice y.ia y.m y.ic][2]) := by rw [cell_of_row _ _ _ _ _ _ hyv]; rfl
      have HRV := Hid.mk RV
      clear RV hyv
      go_wp2_with fail
      have hr := put3 HRV.out.row (.bool y.l) (.slice y.ba y.bn y.bc) (.slice y.ia y.m y.ic)
      refine bodyPost_ret (Zdp Tryz.results53 _ _ w.heap.size _ _ _ rfl hr) rfl ?_
      refine ⟨Zbx HRV.out.bel (Nat.le_refl _) _ _ _, y, rfl, Zax (fun b (hb : w.heap.size + 1 ≤ b) hlt => ⟨Zcd (by omega) _ _ _, by omega⟩) t y HY.out⟩
end Go.Proofs.YtchgejomcgoaeaaGreat
namespace Go.Proofs.YtchgejomcgoaeaaGreat
variable {n base : Nat}
theorem Zw2 (n : Nat) : val (be n) = n := by
  induction n using Nat.strongRecOn with
  | _ n ih =>
    by_cases h : n = 0
    · subst h; rw [Zek]; rfl
    · rw [Zfr (by omega), Zfu, ih _ (Nat.div_lt_self (by omega) (by decide))]
      omega
theorem Zyq (h : 0 < n) : be n ≠ [] := by rw [Zfr h]; simp
theorem Zwn (n : Nat) : 0 < n → (be n).headD 0 ≠ 0 := by
  induction n using Nat.strongRecOn with
  | _ n ih =>
    intro h
    rw [Zfr h]
    by_cases h0 : n / 256 = 0
    · rw [h0, Zek]
      show ((n % 256 : Nat) : Int) ≠ 0
      omega
    · have h1 := ih (n / 256) (Nat.div_lt_self h (by decide)) (by omega)
      have h2 := Zyq (n := n / 256) (by omega)
      cases hd : be (n / 256) with
      | nil => exact absurd hd h2
      | cons x r => rw [hd] at h1; exact h1
theorem Zs1 {a b : List Int} (h : a ≠ []) : (a ++ b).headD 0 = a.headD 0 := by
  cases a with
  | nil => exact absurd rfl h
  | cons x r => rfl
theorem Zsz (h : 55 < n) (h2 : n < 16777216) (r : List Int) : lenIn (be n ++ r) (nb n) = (n, 0) := by
  have h3 := Zgq h2
  have e : (be n ++ r).take (nb n) = be n := by rw [← Zh8, List.take_left]
  unfold lenIn
  rw [if_neg (by omega), if_neg (by rw [List.length_append, Zh8]; omega), e, Zw2, Zs1 (Zyq (by omega)), if_neg]
  rintro (h4 | h4)
  · exact Zwn n (by omega) h4
  · omega
theorem Zma (hb : base = 128 ∨ base = 192) (hn : n ≤ 63) (h : base = 128 → n < 64) : nOf ((base + n : Nat) : Int) = n := by
  unfold nOf
  rcases hb with rfl | rfl
  · split <;> omega
  · split <;> omega
theorem Zub {deep : Bool} (hb : base = 128 ∨ base = 192) (hdp : base = 192 → deep = false) (body more : List Int) (hl : body.length ≤ 16777215) :
    hdr deep (hd base body.length ++ (body ++ more)) = .ok (hd base body.length).length ((hd base body.length).length + body.length) := by
  unfold hd
  by_cases h5 : body.length ≤ 55
  · rw [if_pos h5]
    have hn := Zma (n := body.length) hb (by omega) (by omega)
    show hdr deep (((base + body.length : Nat) : Int) :: (body ++ more)) = _
    unfold hdr
    simp only
    rw [if_neg (by rintro ⟨h1, h2⟩; rcases hb with rfl | rfl; omega; rw [hdp rfl] at h2; cases h2), if_neg (by rcases hb with rfl | rfl <;> omega), hn, if_neg (by omega), if_neg (by simp only [List.length_cons, List.length_append]; omega)]
    rfl
  · rw [if_neg h5]
    have h3 := Zgq (n := body.length) (by omega)
    have h1 := Zx1 (n := body.length) (by omega)
    have hn := Zma (n := 55 + nb body.length) hb (by omega) (by omega)
    rw [show base + (55 + nb body.length) = base + 55 + nb body.length from by omega] at hn
    show hdr deep (((base + 55 + nb body.length : Nat) : Int) :: (be body.length ++ (body ++ more))) = _
    unfold hdr
    simp only
    rw [if_neg (by rintro ⟨h1, h2⟩; rcases hb with rfl | rfl; omega; rw [hdp rfl] at h2; cases h2), if_neg (by rcases hb with rfl | rfl <;> omega), hn, if_pos (by omega), show 55 + nb body.length - 55 = nb body.length from by omega, Zsz (by omega) (by omega)]
    simp only
    rw [if_neg (by simp), if_neg (by simp only [List.length_cons, List.length_append, Zh8]; omega)]
    simp only [List.length_cons, Zh8]
    congr 1 <;> omega
theorem Zmj (base n : Nat) : 1 ≤ (hd base n).length := by rw [hd_len]; omega
theorem Zi0 (t : T) : 1 ≤ (enc t).length := by
  obtain ⟨l, bs, its⟩ := t
  rw [Zb9]
  split
  · rename_i h
    unfold bare at h
    simp only [Bool.and_eq_true, decide_eq_true_eq] at h
    have := h.2.1
    omega
  · rw [List.length_append]
    have := Zmj (baseOf l) (bs ++ encs its).length
    omega
theorem Zdj (t : T) : (bodyOf t).length ≤ (enc t).length := by
  obtain ⟨l, bs, its⟩ := t
  show (bs ++ encs its).length ≤ _
  rw [Zb9]
  split
  · exact Nat.le_refl _
  · exact Nat.le_trans (Nat.le_add_left _ _) (Nat.le_of_eq List.length_append.symm)
theorem Zmt (h body more : List Int) : ((h ++ (body ++ more)).take (h.length + body.length)).drop h.length = body := by
  rw [← List.append_assoc, List.take_left' (by rw [List.length_append]), List.drop_left]
theorem Zqi (hb : base = 128 ∨ base = 192) (hn : n < 16777216) (r : List Int) : (hd base n ++ r).headD 0 < 192 ↔ base = 128 := by
  have h3 := Zgq hn
  unfold hd
  split
  · show ((base + n : Nat) : Int) < 192 ↔ _
    rcases hb with rfl | rfl <;> omega
  · show ((base + 55 + nb n : Nat) : Int) < 192 ↔ _
    rcases hb with rfl | rfl <;> omega
theorem Zlx (g : List Int → R) (deep : Bool) (bs more : List Int) (hl : bs.length ≤ 16777215) : rd1 g deep (enc (.mk false bs []) ++ more) = .ok (.mk false bs []) (enc (.mk false bs [])).length := by
  rw [Zb9, Za4, List.append_nil]
  by_cases hb : bare false bs = true
  · rw [if_pos hb]
    unfold bare at hb
    simp only [Bool.not_false, Bool.true_and, Bool.and_eq_true, decide_eq_true_eq] at hb
    match bs, hb with
    | [x], ⟨_, h2⟩ =>
      have h2' : x < 128 := h2
      show rd1 g deep (x :: more) = _
      have e : hdr deep (x :: more) = .ok 0 1 := by
        unfold hdr
        simp only
        rw [if_neg (by omega), if_pos h2']
      unfold rd1
      rw [e]
      simp only
      rw [if_pos (show (x :: more).headD 0 < 192 by show x < 192; omega), if_neg (by simp)]
      rfl
  · rw [if_neg hb, baseOf, if_neg (by simp), List.append_assoc]
    have e := Zub (deep := deep) (base := 128) (.inl rfl) (fun h => by cases h) bs more hl
    unfold rd1
    rw [e]
    simp only
    have hh : (hd 128 bs.length ++ (bs ++ more)).headD 0 < 192 := (Zqi (base := 128) (Or.inl rfl) (n := bs.length) (by omega) (bs ++ more)).2 rfl
    rw [if_pos hh, Zmt, List.length_append, if_neg]
    rintro ⟨h1, h2, h3⟩
    apply hb
    have hn1 : bs.length = 1 := by omega
    have h5 : hd 128 bs.length = [((128 + bs.length : Nat) : Int)] := by unfold hd; rw [if_pos (by omega)]
    rw [h5] at h3
    clear hh e
    obtain ⟨x, rfl⟩ := List.length_eq_one_iff.1 hn1
    have h3' : x < 128 := h3
    unfold bare
    simp [h3']
theorem Zhy {g : List Int → R} : ∀ (its : List T) (fuel : Nat), (encs its).length ≤ fuel → (∀ t ∈ its, ∀ more, g (enc t ++ more) = .ok t (enc t).length) → rdAll g fuel (encs its) = .ok its
  | [], fuel, _, _ => by rw [Za4, Zc3]
  | t :: r, fuel, hl, h => by
    rw [Za9] at hl ⊢
    have h1 := Zi0 t
    rw [List.length_append] at hl
    obtain ⟨f, rfl⟩ : ∃ f, fuel = f + 1 := ⟨fuel - 1, by omega⟩
    have hne : enc t ++ encs r ≠ [] := by
      intro e
      have := congrArg List.length e
      rw [List.length_append, List.length_nil] at this
      omega
    rw [Zd0 hne (h t (List.mem_cons_self ..) _), List.drop_left, Zhy r f (by omega) (fun u hu => h u (List.mem_cons_of_mem _ hu))]
theorem Zdg : ∀ {its : List T} {t : T}, t ∈ its → (enc t).length ≤ (encs its).length
  | x :: r, t, ht => by
    rw [Za9, List.length_append]
    rcases List.mem_cons.1 ht with rfl | ht
    · omega
    · have := Zdg ht
      omega
theorem Zxn : ∀ t, ∀ k d w more, d + k = 8 → (wk t d w).2 = 0 → (bodyOf t).length ≤ 16777215 → rd k (enc t ++ more) = .ok t (enc t).length := by
  refine T.ind fun l bs its ih k d w more hdk h hl => ?_
  obtain ⟨h1, h2, h3, h4⟩ := Zri h
  have hw := Zc8 h2
  cases l with
  | false =>
    have hi : its = [] := by simpa using hw
    subst hi
    have hl2 : bs.length ≤ 16777215 := by
      have : (bs ++ encs []).length ≤ 16777215 := hl
      rwa [Za4, List.append_nil] at this
    cases k with
    | zero => exact Zlx _ _ _ _ hl2
    | succ k => exact Zlx _ _ _ _ hl2
  | true =>
    have hbs : bs = [] := by simpa using hw
    subst hbs
    have hd8 := h1 rfl
    obtain ⟨k, rfl⟩ : ∃ k', k = k' + 1 := ⟨k - 1, by omega⟩
    have hl2 : (encs its).length ≤ 16777215 := by
      have : (([] : List Int) ++ encs its).length ≤ 16777215 := hl
      rwa [List.nil_append] at this
    rw [h4] at h
    have hall : ∀ t ∈ its, ∀ more, rd k (enc t ++ more) = .ok t (enc t).length := by
      intro t ht more
      obtain ⟨w', hw'⟩ := Zkm h t ht
      have a1 := Zdj t
      have a2 := Zdg ht
      exact ih t ht k (d + 1) w' more (by omega) hw' (by omega)
    rw [Zb9, List.nil_append, if_neg (by simp [bare]), baseOf, if_pos rfl, List.append_assoc]
    have e := Zub (deep := false) (base := 192) (.inr rfl) (fun _ => rfl) (encs its) more hl2
    show rd1 (rd k) false _ = _
    unfold rd1
    rw [e]
    simp only
    have hh : ¬ (hd 192 (encs its).length ++ (encs its ++ more)).headD 0 < 192 := fun h => by
      have := (Zqi (base := 192) (Or.inr rfl) (n := (encs its).length) (by omega) (encs its ++ more)).1 h
      omega
    rw [if_neg hh, Zmt, Zhy its _ (Nat.le_refl _) hall, List.length_append]
theorem Zyf {t : T} (h : (mP t).2 = 0) (more : List Int) : rd 8 (enc t ++ more) = .ok t (enc t).length := by
  obtain ⟨h1, h2, _⟩ := Zx4 h
  have hf := Zn2 t 0 0 h1
  exact Zxn t 8 0 0 more rfl h1 (by rw [← Zid hf]; omega)
theorem Zk8 {t : T} (h : (mP t).2 = 0) : decP (enc t) = .ok t := by
  have := Zyf h []
  rw [List.append_nil] at this
  unfold decP
  rw [this]
  simp only
  rw [if_neg (by omega)]
end Go.Proofs.YtchgejomcgoaeaaGreat
