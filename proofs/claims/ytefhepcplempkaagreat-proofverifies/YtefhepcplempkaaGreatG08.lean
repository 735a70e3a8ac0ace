/- What read, First and Decode answer. -/
import Derived.Test.YtefhepcplempkaaGreatG07
import Derived.Test.YtefhepcplempkaaGreatG06
import Derived.Test.YtefhepcplempkaaGreatG00
set_option linter.unusedVariables false
set_option maxRecDepth 100000
namespace Go.Proofs.YtefhepcplempkaaGreat
open Go.RowKit
theorem Zf7 {P : Nat -> Prop} {w : World} {ia : Option Addr} {ic : Nat} {ts : List T} (h1 : ts.length <= ic) (h2 : ic <= maxLen) (h3 : ts.length <= 140737488351232) (h : LiesPAll P w ts ia 0) : LiesP P w (.mk true [] ts) ⟨true, none, 0, 0, ia, ts.length, ic⟩ :=
 liesP_eq.2 ⟨⟨rfl, ⟨.inl ⟨rfl, rfl⟩, fun _ => ⟨rfl, rfl⟩, rfl, fun x hx => by cases hx⟩, rfl, h1, h2, ⟨Nat.zero_le _, h3⟩, fun g off e => by cases e⟩, h⟩
set_option maxHeartbeats 2000000 in
theorem Zqm (gg : List Int -> R) (hlen : ∀ b t m, gg b = .ok t m -> 1 <= m /\ m <= b.length) (a : Option Addr) (n c d : Nat) (x : Int) (r : List Int) (w : World) (h : Ag w a n c (x :: r)) (hd : d < 8) (hn : n <= 140737488351232) (f t : Nat) (hh : hdr (decide (d = 8)) (x :: r) = .ok f t) (hx : 192 <= x) (res : R)
  (hall : ∀ (a : Option Addr) (n c : Nat) (b : List Int) (w : World), Ag w a n c b -> n < 16777216 -> Calls Tryz.prog 159 #[.slice a n c, .int .i64 (d + 1 : Nat)] w (AllPost w (rdAll gg b.length b)))
  (hres : (match rdAll gg (((x :: r).take t).drop f).length (((x :: r).take t).drop f) with | .bad e => R.bad e | .ok ts => R.ok (.mk true [] ts) t) = res) :
  Calls Tryz.prog 153 #[.slice a n c, .int .i64 d] w (ReadPost w res) := by
 have hcal := fun w' (hb : Below w.heap.size w w') => Zgb a n c d (x :: r) w' (h.at hb) (by omega) (by omega)
 have hsmall : t - f < 16777216 := by
  rcases Ztw hh (h.b x (by simp)).2 with h' | ⟨y, hy, hny⟩
  ·exact h'
  ·exact absurd (h.b y (List.mem_cons_of_mem _ hy)) hny
 simp only [hh, HR.f, HR.t, HR.e] at hcal
 obtain ⟨hft, htn, ht1, _⟩ := Zlu hh
 rw [h.l] at htn
 obtain ⟨g, off, rfl, hc1, hc2, hc⟩ := ag_head h (by omega)
 unfold maxLen at hc2
 have hsub := Zog h hft htn
 have HCAL := Hid.mk hcal
 have HALL := Hid.mk hall
 have HLEN := Hid.mk hlen
 have HC := Hid.mk hc
 have HSL := Hid.mk hsub.l
 have HRES := Hid.mk hres
 obtain ⟨hx0, hx1⟩ := h.b x (by simp)
 have hn1 : 0 < n := by omega
 have hn2 : (0 : Int) < n := by omega
 have hfi : (f : Int) <= t := by omega
 have hti : (t : Int) <= n := by omega
 have hx2 : ¬ x < 192 := by omega
 clear hcal hh h hc hres hall hlen
 by_cases hcf : c = f
 ·rw [if_pos hcf] at hsub
  have e1 : t = f := by omega
  have e2 : n = f := by omega
  subst e1 e2 hcf
  rw [Nat.sub_self] at hsub HSL
  have HS := Hid.mk hsub
  clear hsub
  go_enter Tryz.func153, Tryz.ntmps153
  go_wp2_with fail
  refine (HCAL.out _ ((Below.refl _ _).alloc (Nat.le_refl _) _)).mono ?_
  rintro e w1 ⟨rfl, hb⟩
  rw [show ((0 : Nat) : Int) = 0 from rfl]
  have hres1 : w1.heap[w.heap.size]? = some (.cells #[.bool false, .slice none 0 0, .slice none 0 0] 109) := Below.row hb (heap_alloc_new _ _)
  have hb1 : Below w.heap.size w w1 := ((Below.refl w.heap.size w).alloc (Nat.le_refl _) _).trans (hb.mono (by simp))
  have y0 : w1.cell? ⟨g, off, none⟩ = some (.int .u8 x) := by have := HC.out 0 hn1; exact (hb1.cell (p := ⟨g, off, none⟩) (block_lt_of_cell this)).trans this
  have HR := Hid.mk hres1
  have HB1 := Hid.mk hb1
  clear hres1 hb hb1
  have hct := HALL.out _ _ _ _ w1 (HS.out.at HB1.out) (by omega)
  have HCT := Hid.mk hct
  clear hct
  go_wp2_with fail
  rw [show ((d : Int) + 1) = ((d + 1 : Nat) : Int) from by omega]
  refine HCT.out.mono ?_
  rintro e w2 ⟨hb2, hm⟩
  have hres2 := Below.row hb2 HR.out
  have x0 : w2.cell? ⟨w.heap.size, 0, none⟩ = some (.bool false) := by rw [cell_of_row _ _ _ _ _ _ hres2]; rfl
  have x1 : w2.cell? ⟨w.heap.size, 1, none⟩ = some (.slice none 0 0) := by rw [cell_of_row _ _ _ _ _ _ hres2]; rfl
  have x2 : w2.cell? ⟨w.heap.size, 2, none⟩ = some (.slice none 0 0) := by rw [cell_of_row _ _ _ _ _ _ hres2]; rfl
  have xf : ∀ o, w2.frozen? ⟨w.heap.size, o, none⟩ = false := fun o => frozen_of_row _ _ _ _ _ hres2
  have HR2 := Hid.mk hres2
  have HB2 := Hid.mk (HB1.out.trans (hb2.mono HB1.out.size))
  have hz1 := HB1.out.size
  have hz2 := lt_of_get HR.out
  clear hres2 hb2
  cases hr : rdAll gg (((x :: r).take c).drop c).length (((x :: r).take c).drop c) with
  | bad er =>
   rw [hr] at hm
   obtain ⟨rfl, her⟩ := hm
   have hfin := HRES.out
   rw [hr] at hfin
   have HF := Hid.mk hfin
   have hee : ((er : Int) != 0) = true := by rw [bne_iff_ne]; omega
   clear hr hfin
   go_wp2_with fail
   have hr := put3 HR2.out (.bool false) (.slice none 0 0) (.slice none 0 0)
   refine bodyPost_ret (Zaj Tryz.results153 _ _ w.heap.size _ _ _ rfl hr) rfl ?_
   rw [<- HF.out]
   exact ⟨Za0 HB2.out (Nat.le_refl _) _ _ _, rfl, her⟩
  | ok ts =>
   rw [hr] at hm
   obtain ⟨ia, ic, rfl, hic1, hic2, hli⟩ := hm
   have hfin := HRES.out
   rw [hr] at hfin
   have hlen := Zfg HLEN.out _ _ _ hr
   have HF := Hid.mk hfin
   have HLI := Hid.mk hli
   have htl : ts.length <= 140737488351232 := by rw [HSL.out] at hlen; omega
   clear hr hfin hli hlen
   go_wp2_with fail
   have hr := put3 HR2.out (.bool true) (.slice none 0 0) (.slice ia ts.length ic)
   refine bodyPost_ret (Zaj Tryz.results153 _ _ w.heap.size _ _ _ rfl hr) rfl ?_
   rw [<- HF.out]
   refine ⟨Za0 HB2.out (Nat.le_refl _) _ _ _, ⟨true, none, 0, 0, ia, ts.length, ic⟩, rfl, ?_⟩
   refine Zf7 hic1 hic2 htl (Zbn (fun b (hb : w1.heap.size <= b) hlt => ⟨Zbp (by omega) _ _ _, by omega⟩) (fun u _ => Zap (fun b (hb : w1.heap.size <= b) hlt => ⟨Zbp (by omega) _ _ _, by omega⟩) u) HLI.out)
 ·rw [if_neg hcf] at hsub
  have HS := Hid.mk hsub
  clear hsub
  go_enter Tryz.func153, Tryz.ntmps153
  go_wp2_with fail
  refine (HCAL.out _ ((Below.refl _ _).alloc (Nat.le_refl _) _)).mono ?_
  rintro e w1 ⟨rfl, hb⟩
  rw [show ((0 : Nat) : Int) = 0 from rfl]
  have hres1 : w1.heap[w.heap.size]? = some (.cells #[.bool false, .slice none 0 0, .slice none 0 0] 109) := Below.row hb (heap_alloc_new _ _)
  have hb1 : Below w.heap.size w w1 := ((Below.refl w.heap.size w).alloc (Nat.le_refl _) _).trans (hb.mono (by simp))
  have y0 : w1.cell? ⟨g, off, none⟩ = some (.int .u8 x) := by have := HC.out 0 hn1; exact (hb1.cell (p := ⟨g, off, none⟩) (block_lt_of_cell this)).trans this
  have HR := Hid.mk hres1
  have HB1 := Hid.mk hb1
  clear hres1 hb hb1
  have HCT := Hid.mk (HALL.out _ _ _ _ w1 (HS.out.at HB1.out) hsmall)
  go_wp2_with fail
  rw [show ((d : Int) + 1) = ((d + 1 : Nat) : Int) from by omega]
  refine HCT.out.mono ?_
  rintro e w2 ⟨hb2, hm⟩
  have hres2 := Below.row hb2 HR.out
  have x0 : w2.cell? ⟨w.heap.size, 0, none⟩ = some (.bool false) := by rw [cell_of_row _ _ _ _ _ _ hres2]; rfl
  have x1 : w2.cell? ⟨w.heap.size, 1, none⟩ = some (.slice none 0 0) := by rw [cell_of_row _ _ _ _ _ _ hres2]; rfl
  have x2 : w2.cell? ⟨w.heap.size, 2, none⟩ = some (.slice none 0 0) := by rw [cell_of_row _ _ _ _ _ _ hres2]; rfl
  have xf : ∀ o, w2.frozen? ⟨w.heap.size, o, none⟩ = false := fun o => frozen_of_row _ _ _ _ _ hres2
  have HR2 := Hid.mk hres2
  have HB2 := Hid.mk (HB1.out.trans (hb2.mono HB1.out.size))
  have hz1 := HB1.out.size
  have hz2 := lt_of_get HR.out
  clear hres2 hb2
  cases hr : rdAll gg (((x :: r).take t).drop f).length (((x :: r).take t).drop f) with
  | bad er =>
   rw [hr] at hm
   obtain ⟨rfl, her⟩ := hm
   have hfin := HRES.out
   rw [hr] at hfin
   have HF := Hid.mk hfin
   have hee : ((er : Int) != 0) = true := by rw [bne_iff_ne]; omega
   clear hr hfin
   go_wp2_with fail
   have hr := put3 HR2.out (.bool false) (.slice none 0 0) (.slice none 0 0)
   refine bodyPost_ret (Zaj Tryz.results153 _ _ w.heap.size _ _ _ rfl hr) rfl ?_
   rw [<- HF.out]
   exact ⟨Za0 HB2.out (Nat.le_refl _) _ _ _, rfl, her⟩
  | ok ts =>
   rw [hr] at hm
   obtain ⟨ia, ic, rfl, hic1, hic2, hli⟩ := hm
   have hfin := HRES.out
   rw [hr] at hfin
   have hlen := Zfg HLEN.out _ _ _ hr
   have HF := Hid.mk hfin
   have HLI := Hid.mk hli
   have htl : ts.length <= 140737488351232 := by rw [HSL.out] at hlen; omega
   clear hr hfin hli hlen
   go_wp2_with fail
   have hr := put3 HR2.out (.bool true) (.slice none 0 0) (.slice ia ts.length ic)
   refine bodyPost_ret (Zaj Tryz.results153 _ _ w.heap.size _ _ _ rfl hr) rfl ?_
   rw [<- HF.out]
   refine ⟨Za0 HB2.out (Nat.le_refl _) _ _ _, ⟨true, none, 0, 0, ia, ts.length, ic⟩, rfl, ?_⟩
   refine Zf7 hic1 hic2 htl (Zbn (fun b (hb : w1.heap.size <= b) hlt => ⟨Zbp (by omega) _ _ _, by omega⟩) (fun u _ => Zap (fun b (hb : w1.heap.size <= b) hlt => ⟨Zbp (by omega) _ _ _, by omega⟩) u) HLI.out)
theorem Zlb (k : Nat) (gg : List Int -> R) (hrd : ∀ b, rd k b = rd1 gg (decide (k = 0)) b) (hlen : ∀ b t m, gg b = .ok t m -> 1 <= m /\ m <= b.length)
  (hall : 0 < k -> ∀ (d : Nat), d + k = 8 -> ∀ (a : Option Addr) (n c : Nat) (b : List Int) (w : World), Ag w a n c b -> n < 16777216 -> Calls Tryz.prog 159 #[.slice a n c, .int .i64 (d + 1 : Nat)] w (AllPost w (rdAll gg b.length b))) : ReadSaid k := by
 intro a n c d b w h hd hn
 rw [hrd]
 have hdec : decide (k = 0) = decide (d = 8) := by by_cases h0 : k = 0 <;> simp [h0] <;> omega
 rw [hdec]
 unfold rd1
 cases hh : hdr (decide (d = 8)) b with
 | bad e => exact Zta a n c d b w h (by omega) hn e hh
 | ok f t =>
  cases b with
  | nil => simp [hdr] at hh
  | cons x r =>
   dsimp only
   by_cases hx : (x :: r).headD 0 < 192
   ·rw [if_pos hx]
    exact Zql a n c d x r w h (by omega) hn f t hh hx _ rfl
   ·rw [if_neg hx]
    have hx2 : ¬ x < 192 := hx
    have hk : 0 < k := by
     cases k with
     | succ k => omega
     | zero =>
      exfalso
      have hd8 : decide (d = 8) = true := by simp; omega
      rw [hd8, Zn0 (by omega)] at hh
      cases hh
    exact Zqm gg hlen a n c d x r w h (by omega) hn f t hh (by omega) _ (hall hk d hd) rfl
theorem Znf : ∀ k, ReadSaid k
 | 0 => Zlb 0 (fun _ => .bad 21) (fun b => rfl) (fun b t m h => by cases h) (fun h => absurd h (by omega))
 | k + 1 => Zlb (k + 1) (rd k) (fun b => rfl) (fun b t m h => rd_n h) (fun _ d hd a n c b w h hn => Zmn k (Znf k) a n c (d + 1) b w h (by omega) hn)
set_option maxHeartbeats 1000000 in
theorem Zry (a : Option Addr) (n c : Nat) (b : List Int) (w : World) (h : Ag w a n c b) (hn : n <= 140737488351232) : Calls Tryz.prog 147 #[.slice a n c] w (ReadPost w (rd 8 b)) := by
 have hcal := fun w' (hb : Below w.heap.size w w') => Znf 8 a n c 0 b w' (h.at hb) (by omega) hn
 rw [show ((0 : Nat) : Int) = 0 from rfl] at hcal
 have HCAL := Hid.mk hcal
 obtain ⟨res, hres⟩ : ∃ r, rd 8 b = r := ⟨_, rfl⟩
 rw [hres] at HCAL ⊢
 clear hcal h hres
 go_enter Tryz.func147, Tryz.ntmps147
 go_wp2_with fail
 refine (HCAL.out _ ((Below.refl _ _).alloc (Nat.le_refl _) _)).mono ?_
 rintro e w1 ⟨hb, hm⟩
 have hres1 : w1.heap[w.heap.size]? = some (.cells #[.bool false, .slice none 0 0, .slice none 0 0] 109) := Below.row hb (heap_alloc_new _ _)
 have hb1 : Below w.heap.size w w1 := ((Below.refl w.heap.size w).alloc (Nat.le_refl _) _).trans (hb.mono (by simp))
 have x0 : w1.cell? ⟨w.heap.size, 0, none⟩ = some (.bool false) := by rw [cell_of_row _ _ _ _ _ _ hres1]; rfl
 have x1 : w1.cell? ⟨w.heap.size, 1, none⟩ = some (.slice none 0 0) := by rw [cell_of_row _ _ _ _ _ _ hres1]; rfl
 have x2 : w1.cell? ⟨w.heap.size, 2, none⟩ = some (.slice none 0 0) := by rw [cell_of_row _ _ _ _ _ _ hres1]; rfl
 have xf : ∀ o, w1.frozen? ⟨w.heap.size, o, none⟩ = false := fun o => frozen_of_row _ _ _ _ _ hres1
 have HR := Hid.mk hres1
 have HB1 := Hid.mk hb1
 clear hres1 hb hb1
 cases res with
 | bad er =>
  obtain ⟨rfl, her⟩ := hm
  go_wp2_with fail
  have hr := put3 HR.out (.bool false) (.slice none 0 0) (.slice none 0 0)
  refine bodyPost_ret (Zaj Tryz.results147 _ _ w.heap.size _ _ _ rfl hr) rfl ?_
  exact ⟨Za0 HB1.out (Nat.le_refl _) _ _ _, rfl, her⟩
 | ok t m =>
  obtain ⟨y, rfl, hy⟩ := hm
  have HY := Hid.mk hy
  clear hy
  go_wp2_with fail
  have hr := put3 HR.out (.bool y.l) (.slice y.ba y.bn y.bc) (.slice y.ia y.m y.ic)
  refine bodyPost_ret (Zaj Tryz.results147 _ _ w.heap.size _ _ _ rfl hr) rfl ?_
  refine ⟨Za0 HB1.out (Nat.le_refl _) _ _ _, y, rfl, Zap (fun b hb hlt => ?_) t y HY.out⟩
  have hb' : w.heap.size + 1 <= b := by have : (w.alloc (.cells #[.bool false, .slice none 0 0, .slice none 0 0] 109)).heap.size <= b := hb; simpa using this
  exact ⟨Zbp (by omega) _ _ _, by omega⟩
inductive RT where
 | bad (e : Nat)
 | ok (t : T)
def decP (b : List Int) : RT := match rd 8 b with
 | .bad e => .bad e
 | .ok t n => if n < b.length then .bad 24 else .ok t
def DecPost (w : World) (r : RT) : Ending -> World -> Prop := fun e w' => Below w.heap.size w w' ∧
 match r with
 | .bad er => e = .returned (.tuple #[.agg #[.bool false, .slice none 0 0, .slice none 0 0], .int .i64 (er : Nat)]) /\ er ≠ 0
 | .ok t => ∃ y : V, e = .returned (.tuple #[.agg #[.bool y.l, .slice y.ba y.bn y.bc, .slice y.ia y.m y.ic], .int .i64 0]) /\ LiesP (fun b => w.heap.size <= b) w' t y
theorem gen_w {W : World} {p q : World -> Prop} (F : q W) (h : ∀ v, q v -> p v) : p W := h W F
structure Rb (w v : World) : Prop where
 row : v.heap[w.heap.size]? = some (.cells #[.bool false, .slice none 0 0, .slice none 0 0] 109)
 bel : Below w.heap.size w v
theorem Rb.x0 {w v : World} (h : Rb w v) : v.cell? ⟨w.heap.size, 0, none⟩ = some (.bool false) := by rw [cell_of_row _ _ _ _ _ _ h.row]; rfl
theorem Rb.x1 {w v : World} (h : Rb w v) : v.cell? ⟨w.heap.size, 1, none⟩ = some (.slice none 0 0) := by rw [cell_of_row _ _ _ _ _ _ h.row]; rfl
theorem Rb.x2 {w v : World} (h : Rb w v) : v.cell? ⟨w.heap.size, 2, none⟩ = some (.slice none 0 0) := by rw [cell_of_row _ _ _ _ _ _ h.row]; rfl
theorem Rb.xf {w v : World} (h : Rb w v) : ∀ o, v.frozen? ⟨w.heap.size, o, none⟩ = false := fun o => frozen_of_row _ _ _ _ _ h.row
theorem Rb.alloc {w v : World} (h : Rb w v) (o : Obj) : Rb w (v.alloc o) := ⟨(Below.heap_alloc v o _ (lt_of_get h.row)).trans h.row, h.bel.alloc h.bel.size o⟩
theorem Rb.call {w v v' : World} (h : Rb w v) (hb : Below v.heap.size v v') : Rb w v' := ⟨Below.row hb h.row, h.bel.trans (hb.mono h.bel.size)⟩
theorem Rb.new (w : World) : Rb w (w.alloc (.cells #[.bool false, .slice none 0 0, .slice none 0 0] 109)) := ⟨heap_alloc_new _ _, (Below.refl _ _).alloc (Nat.le_refl _) _⟩
set_option maxHeartbeats 1000000 in
theorem Zjp (a : Option Addr) (n c : Nat) (b : List Int) (w : World) (h : Ag w a n c b) (hn : n <= 140737488351232) : Calls Tryz.prog 132 #[.slice a n c] w (DecPost w (decP b)) := by
 have hcal := fun w' (hb : Below w.heap.size w w') => Zry a n c b w' (h.at hb) hn
 have HCAL := Hid.mk hcal
 have hl := h.l
 obtain ⟨res, hres⟩ : ∃ r, decP b = r := ⟨_, rfl⟩
 rw [hres]
 unfold decP at hres
 have HRES := Hid.mk hres
 have HL := Hid.mk hl
 clear hcal h hres hl
 go_enter Tryz.func132, Tryz.ntmps132
 go_wp2_with fail
 refine (HCAL.out _ ((Below.refl _ _).alloc (Nat.le_refl _) _)).mono ?_
 rintro e w1 ⟨hb, hm⟩
 have RB := (Rb.new w).call hb
 clear hb
 have hres := HRES.out
 cases hrd : rd 8 b with
 | bad er =>
  rw [hrd] at hm hres
  obtain ⟨rfl, her⟩ := hm
  subst hres
  have hee : ((er : Int) != 0) = true := by rw [bne_iff_ne]; omega
  clear hrd
  go_upto_if 14 with fail
  refine gen_w (p := fun v => Code.wp _ _ _ _ v) (q := fun v => Rb w v /\ v.heap[w1.heap.size]? = some (.cells #[.bool false, .slice none 0 0, .slice none 0 0] 109)) ⟨RB.alloc _, heap_alloc_new _ _⟩ ?_
  clear RB
  rintro v ⟨RV, hyv⟩
  have x0 := RV.x0
  have x1 := RV.x1
  have x2 := RV.x2
  have xf := RV.xf
  have u0 : v.cell? ⟨w1.heap.size, 0, none⟩ = some (#[.bool false, .slice none 0 0, .slice none 0 0][0]) := by rw [cell_of_row _ _ _ _ _ _ hyv]; rfl
  have u1 : v.cell? ⟨w1.heap.size, 1, none⟩ = some (#[.bool false, .slice none 0 0, .slice none 0 0][1]) := by rw [cell_of_row _ _ _ _ _ _ hyv]; rfl
  have u2 : v.cell? ⟨w1.heap.size, 2, none⟩ = some (#[.bool false, .slice none 0 0, .slice none 0 0][2]) := by rw [cell_of_row _ _ _ _ _ _ hyv]; rfl
  have HRV := Hid.mk RV
  clear RV hyv
  go_wp2_with fail
  have hr := put3 HRV.out.row (.bool false) (.slice none 0 0) (.slice none 0 0)
  refine bodyPost_ret (Zb8 Tryz.results132 _ _ w.heap.size _ _ _ rfl hr) rfl ?_
  exact ⟨Za0 HRV.out.bel (Nat.le_refl _) _ _ _, rfl, her⟩
 | ok t m =>
  rw [hrd] at hm hres
  simp only [HL.out] at hres
  obtain ⟨y, rfl, hy⟩ := hm
  have HY : Hid (∀ o, LiesP (fun b => w.heap.size + 1 <= b) (w1.alloc o) t y) := fun o => Zap (fun b hb hlt => ⟨Below.heap_alloc _ _ _ hlt, by have : (w.alloc (.cells #[.bool false, .slice none 0 0, .slice none 0 0] 109)).heap.size <= b := hb; simpa using this⟩) t y hy
  clear hy
  by_cases hmn : m < n
  ·rw [if_pos hmn] at hres
   subst hres
   have hmi : (m : Int) < n := by omega
   clear hrd
   go_upto_if 14 with fail
   refine gen_w (p := fun v => Code.wp _ _ _ _ v) (q := fun v => Rb w v /\ v.heap[w1.heap.size]? = some (.cells #[.bool y.l, .slice y.ba y.bn y.bc, .slice y.ia y.m y.ic] 109) /\ Hid (LiesP (fun b => w.heap.size + 1 <= b) v t y)) ⟨RB.alloc _, heap_alloc_new _ _, HY.out _⟩ ?_
   clear RB HY
   rintro v ⟨RV, hyv, HY⟩
   have x0 := RV.x0
   have x1 := RV.x1
   have x2 := RV.x2
   have xf := RV.xf
   have u0 : v.cell? ⟨w1.heap.size, 0, none⟩ = some (#[.bool y.l, .slice y.ba y.bn y.bc, .slice y.ia y.m y.ic][0]) := by rw [cell_of_row _ _ _ _ _ _ hyv]; rfl
   have u1 : v.cell? ⟨w1.heap.size, 1, none⟩ = some (#[.bool y.l, .slice y.ba y.bn y.bc, .slice y.ia y.m y.ic][1]) := by rw [cell_of_row _ _ _ _ _ _ hyv]; rfl
   have u2 : v.cell? ⟨w1.heap.size, 2, none⟩ = some (#[.bool y.l, .slice y.ba y.bn y.bc, .slice y.ia y.m y.ic][2]) := by rw [cell_of_row _ _ _ _ _ _ hyv]; rfl
   have HRV := Hid.mk RV
   clear RV hyv
   go_wp2_with fail
   have hr := put3 HRV.out.row (.bool false) (.slice none 0 0) (.slice none 0 0)
   refine bodyPost_ret (Zb8 Tryz.results132 _ _ w.heap.size _ _ _ rfl hr) rfl ?_
   exact ⟨Za0 HRV.out.bel (Nat.le_refl _) _ _ _, rfl, by decide⟩
  ·rw [if_neg hmn] at hres
   subst hres
   have hmi : ¬ (m : Int) < n := by omega
   clear hrd
   go_upto_if 14 with fail
   refine gen_w (p := fun v => Code.wp _ _ _ _ v) (q := fun v => Rb w v /\ v.heap[w1.heap.size]? = some (.cells #[.bool y.l, .slice y.ba y.bn y.bc, .slice y.ia y.m y.ic] 109) /\ Hid (LiesP (fun b => w.heap.size + 1 <= b) v t y)) ⟨RB.alloc _, heap_alloc_new _ _, HY.out _⟩ ?_
   clear RB HY
   rintro v ⟨RV, hyv, HY⟩
   have x0 := RV.x0
   have x1 := RV.x1
   have x2 := RV.x2
   have xf := RV.xf
   have u0 : v.cell? ⟨w1.heap.size, 0, none⟩ = some (#[.bool y.l, .slice y.ba y.bn y.bc, .slice y.ia y.m y.ic][0]) := by rw [cell_of_row _ _ _ _ _ _ hyv]; rfl
   have u1 : v.cell? ⟨w1.heap.size, 1, none⟩ = some (#[.bool y.l, .slice y.ba y.bn y.bc, .slice y.ia y.m y.ic][1]) := by rw [cell_of_row _ _ _ _ _ _ hyv]; rfl
   have u2 : v.cell? ⟨w1.heap.size, 2, none⟩ = some (#[.bool y.l, .slice y.ba y.bn y.bc, .slice y.ia y.m y.ic][2]) := by rw [cell_of_row _ _ _ _ _ _ hyv]; rfl
   have HRV := Hid.mk RV
   clear RV hyv
   go_wp2_with fail
   have hr := put3 HRV.out.row (.bool y.l) (.slice y.ba y.bn y.bc) (.slice y.ia y.m y.ic)
   refine bodyPost_ret (Zb8 Tryz.results132 _ _ w.heap.size _ _ _ rfl hr) rfl ?_
   refine ⟨Za0 HRV.out.bel (Nat.le_refl _) _ _ _, y, rfl, Zap (fun b (hb : w.heap.size + 1 <= b) hlt => ⟨Zbp (by omega) _ _ _, by omega⟩) t y HY.out⟩
end Go.Proofs.YtefhepcplempkaaGreat
namespace Go.Proofs.YtefhepcplempkaaGreat
theorem Zxi (n : Nat) : val (be n) = n := by
 induction n using Nat.strongRecOn with
 | _ n ih =>
  by_cases h : n = 0
  ·subst h; rw [Zee]; rfl
  ·rw [Zef (by omega), Zgq, ih _ (Nat.div_lt_self (by omega) (by decide))]
   omega
theorem Zyi {n : Nat} (h : 0 < n) : be n ≠ [] := by rw [Zef h]; simp
theorem Zw2 (n : Nat) : 0 < n -> (be n).headD 0 ≠ 0 := by
 induction n using Nat.strongRecOn with
 | _ n ih =>
  intro h
  rw [Zef h]
  by_cases h0 : n / 256 = 0
  ·rw [h0, Zee]
   show ((n % 256 : Nat) : Int) ≠ 0
   omega
  ·have h1 := ih (n / 256) (Nat.div_lt_self h (by decide)) (by omega)
   have h2 := Zyi (n := n / 256) (by omega)
   cases hd : be (n / 256) with
   | nil => exact absurd hd h2
   | cons x r => rw [hd] at h1; exact h1
theorem Ztu {a b : List Int} (h : a ≠ []) : (a ++ b).headD 0 = a.headD 0 := by
 cases a with
 | nil => exact absurd rfl h
 | cons x r => rfl
theorem Zts {n : Nat} (h : 55 < n) (h2 : n < 16777216) (r : List Int) : lenIn (be n ++ r) (nb n) = (n, 0) := by
 have h3 := Zfl h2
 have e : (be n ++ r).take (nb n) = be n := by rw [<- Zjr, List.take_left]
 unfold lenIn
 rw [if_neg (by omega), if_neg (by rw [List.length_append, Zjr]; omega), e, Zxi, Ztu (Zyi (by omega)), if_neg]
 rintro (h4 | h4)
 ·exact Zw2 n (by omega) h4
 ·omega
theorem Znt {base n : Nat} (hb : base = 128 \/ base = 192) (hn : n <= 63) (h : base = 128 -> n < 64) : nOf ((base + n : Nat) : Int) = n := by
 unfold nOf
 rcases hb with rfl | rfl
 ·split <;> omega
 ·split <;> omega
theorem Zu5 {deep : Bool} {base : Nat} (hb : base = 128 \/ base = 192) (hdp : base = 192 -> deep = false) (body more : List Int) (hl : body.length <= 16777215) :
  hdr deep (hd base body.length ++ (body ++ more)) = .ok (hd base body.length).length ((hd base body.length).length + body.length) := by
 unfold hd
 by_cases h5 : body.length <= 55
 ·rw [if_pos h5]
  have hn := Znt (n := body.length) hb (by omega) (by omega)
  show hdr deep (((base + body.length : Nat) : Int) :: (body ++ more)) = _
  unfold hdr
  simp only
  rw [if_neg (by rintro ⟨h1, h2⟩; rcases hb with rfl | rfl; omega; rw [hdp rfl] at h2; cases h2), if_neg (by rcases hb with rfl | rfl <;> omega), hn, if_neg (by omega), if_neg (by simp only [List.length_cons, List.length_append]; omega)]
  rfl
 ·rw [if_neg h5]
  have h3 := Zfl (n := body.length) (by omega)
  have h1 := Zxz (n := body.length) (by omega)
  have hn := Znt (n := 55 + nb body.length) hb (by omega) (by omega)
  rw [show base + (55 + nb body.length) = base + 55 + nb body.length from by omega] at hn
  show hdr deep (((base + 55 + nb body.length : Nat) : Int) :: (be body.length ++ (body ++ more))) = _
  unfold hdr
  simp only
  rw [if_neg (by rintro ⟨h1, h2⟩; rcases hb with rfl | rfl; omega; rw [hdp rfl] at h2; cases h2), if_neg (by rcases hb with rfl | rfl <;> omega), hn, if_pos (by omega), show 55 + nb body.length - 55 = nb body.length from by omega, Zts (by omega) (by omega)]
  simp only
  rw [if_neg (by simp), if_neg (by simp only [List.length_cons, List.length_append, Zjr]; omega)]
  simp only [List.length_cons, Zjr]
  congr 1 <;> omega
theorem Zn2 (base n : Nat) : 1 <= (hd base n).length := by rw [hd_len]; omega
theorem Zie (t : T) : 1 <= (enc t).length := by
 obtain ⟨l, bs, its⟩ := t
 rw [Zch]
 split
 ·rename_i h
  unfold bare at h
  simp only [Bool.and_eq_true, decide_eq_true_eq] at h
  have := h.2.1
  omega
 ·rw [List.length_append]
  have := Zn2 (baseOf l) (bs ++ encs its).length
  omega
theorem Zc5 (t : T) : (bodyOf t).length <= (enc t).length := by
 obtain ⟨l, bs, its⟩ := t
 show (bs ++ encs its).length <= _
 rw [Zch]
 split
 ·exact Nat.le_refl _
 ·exact Nat.le_trans (Nat.le_add_left _ _) (Nat.le_of_eq List.length_append.symm)
theorem Zn9 (h body more : List Int) : ((h ++ (body ++ more)).take (h.length + body.length)).drop h.length = body := by
 rw [<- List.append_assoc, List.take_left' (by rw [List.length_append]), List.drop_left]
theorem Zrs {base : Nat} (hb : base = 128 \/ base = 192) {n : Nat} (hn : n < 16777216) (r : List Int) : (hd base n ++ r).headD 0 < 192 ↔ base = 128 := by
 have h3 := Zfl hn
 unfold hd
 split
 ·show ((base + n : Nat) : Int) < 192 ↔ _
  rcases hb with rfl | rfl <;> omega
 ·show ((base + 55 + nb n : Nat) : Int) < 192 ↔ _
  rcases hb with rfl | rfl <;> omega
theorem Zni (g : List Int -> R) (deep : Bool) (bs more : List Int) (hl : bs.length <= 16777215) : rd1 g deep (enc (.mk false bs []) ++ more) = .ok (.mk false bs []) (enc (.mk false bs [])).length := by
 rw [Zch, Za2, List.append_nil]
 by_cases hb : bare false bs = true
 ·rw [if_pos hb]
  unfold bare at hb
  simp only [Bool.not_false, Bool.true_and, Bool.and_eq_true, decide_eq_true_eq] at hb
  match bs, hb with
  | [x], ⟨_, h2⟩ =>
   have h2' : x < 128 := h2
   show rd1 g deep (x :: more) = _
   have e : hdr deep (x :: more) = .ok 0 1 := by
    unfold hdr
    simp only
    rw [if_neg (by omega), if_pos h2']
   unfold rd1
   rw [e]
   simp only
   rw [if_pos (show (x :: more).headD 0 < 192 by show x < 192; omega), if_neg (by simp)]
   rfl
 ·rw [if_neg hb, baseOf, if_neg (by simp), List.append_assoc]
  have e := Zu5 (deep := deep) (base := 128) (.inl rfl) (fun h => by cases h) bs more hl
  unfold rd1
  rw [e]
  simp only
  have hh : (hd 128 bs.length ++ (bs ++ more)).headD 0 < 192 := (Zrs (base := 128) (Or.inl rfl) (n := bs.length) (by omega) (bs ++ more)).2 rfl
  rw [if_pos hh, Zn9, List.length_append, if_neg]
  rintro ⟨h1, h2, h3⟩
  apply hb
  have hn1 : bs.length = 1 := by omega
  have h5 : hd 128 bs.length = [((128 + bs.length : Nat) : Int)] := by unfold hd; rw [if_pos (by omega)]
  rw [h5] at h3
  clear hh e
  obtain ⟨x, rfl⟩ := List.length_eq_one_iff.1 hn1
  have h3' : x < 128 := h3
  unfold bare
  simp [h3']
theorem Zja {g : List Int -> R} : ∀ (its : List T) (fuel : Nat), (encs its).length <= fuel -> (∀ t ∈ its, ∀ more, g (enc t ++ more) = .ok t (enc t).length) -> rdAll g fuel (encs its) = .ok its
 | [], fuel, _, _ => by rw [Za2, Zc0]
 | t :: r, fuel, hl, h => by
  rw [Za6] at hl ⊢
  have h1 := Zie t
  rw [List.length_append] at hl
  obtain ⟨f, rfl⟩ : ∃ f, fuel = f + 1 := ⟨fuel - 1, by omega⟩
  have hne : enc t ++ encs r ≠ [] := by
   intro e
   have := congrArg List.length e
   rw [List.length_append, List.length_nil] at this
   omega
  rw [Zei hne (h t (List.mem_cons_self ..) _), List.drop_left, Zja r f (by omega) (fun u hu => h u (List.mem_cons_of_mem _ hu))]
theorem Zc4 : ∀ {its : List T} {t : T}, t ∈ its -> (enc t).length <= (encs its).length
 | x :: r, t, ht => by
  rw [Za6, List.length_append]
  rcases List.mem_cons.1 ht with rfl | ht
  ·omega
  ·have := Zc4 ht
   omega
theorem Zxp : ∀ t, ∀ k d w more, d + k = 8 -> (wk t d w).2 = 0 -> (bodyOf t).length <= 16777215 -> rd k (enc t ++ more) = .ok t (enc t).length := by
 refine T.ind fun l bs its ih k d w more hdk h hl => ?_
 obtain ⟨h1, h2, h3, h4⟩ := Zpz h
 have hw := Zci h2
 cases l with
 | false =>
  have hi : its = [] := by simpa using hw
  subst hi
  have hl2 : bs.length <= 16777215 := by
   have : (bs ++ encs []).length <= 16777215 := hl
   rwa [Za2, List.append_nil] at this
  cases k with
  | zero => exact Zni _ _ _ _ hl2
  | succ k => exact Zni _ _ _ _ hl2
 | true =>
  have hbs : bs = [] := by simpa using hw
  subst hbs
  have hd8 := h1 rfl
  obtain ⟨k, rfl⟩ : ∃ k', k = k' + 1 := ⟨k - 1, by omega⟩
  have hl2 : (encs its).length <= 16777215 := by
   have : (([] : List Int) ++ encs its).length <= 16777215 := hl
   rwa [List.nil_append] at this
  rw [h4] at h
  have hall : ∀ t ∈ its, ∀ more, rd k (enc t ++ more) = .ok t (enc t).length := by
   intro t ht more
   obtain ⟨w', hw'⟩ := Zmb h t ht
   have a1 := Zc5 t
   have a2 := Zc4 ht
   exact ih t ht k (d + 1) w' more (by omega) hw' (by omega)
  rw [Zch, List.nil_append, if_neg (by simp [bare]), baseOf, if_pos rfl, List.append_assoc]
  have e := Zu5 (deep := false) (base := 192) (.inr rfl) (fun _ => rfl) (encs its) more hl2
  show rd1 (rd k) false _ = _
  unfold rd1
  rw [e]
  simp only
  have hh : ¬ (hd 192 (encs its).length ++ (encs its ++ more)).headD 0 < 192 := fun h => by
   have := (Zrs (base := 192) (Or.inr rfl) (n := (encs its).length) (by omega) (encs its ++ more)).1 h
   omega
  rw [if_neg hh, Zn9, Zja its _ (Nat.le_refl _) hall, List.length_append]
theorem Zya {t : T} (h : (mP t).2 = 0) (more : List Int) : rd 8 (enc t ++ more) = .ok t (enc t).length := by
 obtain ⟨h1, h2, _⟩ := Zx2 h
 have hf := Zha t 0 0 h1
 exact Zxp t 8 0 0 more rfl h1 (by rw [<- Zhg hf]; omega)
theorem Zkj {t : T} (h : (mP t).2 = 0) : decP (enc t) = .ok t := by
 have := Zya h []
 rw [List.append_nil] at this
 unfold decP
 rw [this]
 simp only
 rw [if_neg (by omega)]
def Deep (d : Nat) (t : T) : Prop := ∀ w, w + (enc t).length <= 16777215 -> ((wk t d w).2 = 0 /\ (wk t d w).1 <= w + (enc t).length) \/ (wk t d w).2 = 21
theorem Ztx {base n : Nat} (h : n < 16777216) : (hd base n).length <= 4 := by
 rw [hd_len]
 have := Zfl h
 split <;> omega
end Go.Proofs.YtefhepcplempkaaGreat
namespace Go.Proofs.YtefhepcplempkaaGreat
open Ni (unpP packP rightP)
structure PR where
 k : Int
 d : List Int
 i : List Int
structure PN where
 k : Int
 p : List Int
 v : List Int
 c : PR
 ks : List PR
def z32 : List Int := List.replicate 32 0
def r0 : PR := ⟨0, z32, []⟩
def n0 : PN := ⟨0, [], [], r0, []⟩
def t0 : T := .mk false [] []
def refOfP (t : T) : Option PR :=
 if t.l = true then (if (mP t).2 = 0 then some ⟨1, z32, enc t⟩ else none)
 else if t.bs.length = 0 then some r0
 else if t.bs.length = 32 then some ⟨2, t.bs, []⟩ else none
def pathP (x y : T) : Option PN :=
 if x.l = true \/ (unpP x.bs).2.2 ≠ 0 then none
 else if (unpP x.bs).2.1 = true then (if y.l = true then none else some ⟨1, (unpP x.bs).1, y.bs, r0, []⟩)
 else match refOfP y with
  | none => none
  | some c => some ⟨2, (unpP x.bs).1, [], c, []⟩
def kidsP : List T -> Option (List PR)
 | [] => some []
 | t :: r => match refOfP t with
  | none => none
  | some a => match kidsP r with
   | none => none
   | some l => some (a :: l)
def branchP (ts : List T) (y : T) : Option PN := match kidsP ts with
 | none => none
 | some ks => if y.l = true then none else some ⟨3, [], y.bs, r0, ks⟩
def nodeOfP (t : T) : Option PN :=
 if t.its.length = 2 then pathP (t.its.getD 0 t0) (t.its.getD 1 t0)
 else if t.its.length = 17 then branchP (t.its.take 16) (t.its.getD 16 t0) else none
def kd (o : Option PN) : Int := match o with
 | none => 0
 | some n => n.k
def rrefP (dk : List Int -> Int) (r : PR) : Bool :=
 if r.k = 0 then decide (r.d = z32) && decide (r.i.length = 0)
 else if r.k = 2 then decide (r.i.length = 0)
 else if r.k = 1 then decide (r.d = z32) && decide (r.i.length < 32) && decide (dk r.i ≠ 0)
 else false
def rpathP (n : PN) : Bool :=
 if n.k = 2 then (if n.p.length = 0 then false else decide (n.p.length <= 64) && rightP n.p)
 else if n.k = 1 then decide (n.p.length <= 64) && rightP n.p
 else decide (n.p.length = 0)
def rvalueP (n : PN) : Bool :=
 if n.k = 1 then (if n.v.length = 0 then false else decide (n.v.length <= 256))
 else if n.k = 3 then decide (n.v.length <= 256)
 else decide (n.v.length = 0)
def rchildP (dk : List Int -> Int) (n : PN) : Bool :=
 if rrefP dk n.c = false then false
 else if n.k ≠ 2 then decide (n.c.k = 0)
 else decide (n.c.k = 2) || decide (dk n.c.i = 3)
def ways : List PR -> Nat
 | [] => 0
 | r :: l => (if r.k ≠ 0 then 1 else 0) + ways l
def rkidsP (dk : List Int -> Int) (n : PN) : Bool :=
 if n.k ≠ 3 then decide (n.ks.length = 0)
 else if n.ks.length ≠ 16 then false
 else n.ks.all (rrefP dk) && decide (2 <= (if 0 < n.v.length then 1 else 0) + ways n.ks)
def knownP (n : PN) : Bool := decide (n.k = 1) || decide (n.k = 2) || decide (n.k = 3)
def nright (dk : List Int -> Int) (n : PN) : Bool := knownP n && rpathP n && rvalueP n && rchildP dk n && rkidsP dk n
def ndec : Nat -> List Int -> Option PN
 | 0, _ => none
 | f + 1, b => match decP b with
  | .bad _ => none
  | .ok t => match nodeOfP t with
   | none => none
   | some n => if nright (fun i => kd (ndec f i)) n = true then some n else none
def ND (b : List Int) : Option PN := ndec 33 b
def KD (b : List Int) : Int := kd (ND b)
def NR (n : PN) : Bool := nright KD n
def refItemP (r : PR) : T :=
 if r.k = 1 then (match decP r.i with | .ok t => t | .bad _ => t0)
 else if r.k = 2 then .mk false r.d [] else t0
def itemP (n : PN) : T :=
 if n.k = 3 then .mk true [] (n.ks.map refItemP ++ [.mk false n.v []])
 else if n.k = 1 then .mk true [] [.mk false (packP n.p true).1 [], .mk false n.v []]
 else .mk true [] [.mk false (packP n.p false).1 [], refItemP n.c]
def isB (b : List Int) : Prop := ∀ x ∈ b, 0 <= x /\ x < 256
def okR (r : PR) : Prop := isB r.d /\ r.d.length = 32 /\ isB r.i
def okN (n : PN) : Prop := isB n.p /\ isB n.v /\ okR n.c /\ ∀ r ∈ n.ks, okR r

theorem Zi2 {dk dk' : List Int -> Int} {r : PR} (h : r.i.length < 32 -> dk r.i = dk' r.i) : rrefP dk r = rrefP dk' r := by
 unfold rrefP
 by_cases h32 : r.i.length < 32
 ·rw [h h32]
 ·simp [h32]
theorem Zi1 {dk : List Int -> Int} {r : PR} (h : rrefP dk r = true) : r.i.length < 32 := by
 unfold rrefP at h
 by_cases h0 : r.k = 0
 ·simp [h0] at h; rw [h.2]; decide
 ·by_cases h2 : r.k = 2
  ·simp [h2] at h; rw [h]; decide
  ·by_cases h1 : r.k = 1
   ·simp [h1] at h; omega
   ·simp [h0, h1, h2] at h
theorem Zl7 {dk dk' : List Int -> Int} : ∀ {ks : List PR}, (∀ r ∈ ks, r.i.length < 32 -> dk r.i = dk' r.i) -> ks.all (rrefP dk) = ks.all (rrefP dk')
 | [], _ => rfl
 | r :: l, h => by
  rw [List.all_cons, List.all_cons, Zi2 (h r (by simp)), Zl7 fun x hx => h x (List.mem_cons_of_mem _ hx)]
theorem Zgg {dk dk' : List Int -> Int} {n : PN} (hc : n.c.i.length < 32 -> dk n.c.i = dk' n.c.i) (hk : ∀ r ∈ n.ks, r.i.length < 32 -> dk r.i = dk' r.i) : nright dk n = nright dk' n := by
 unfold nright rchildP rkidsP
 rw [Zl7 hk, Zi2 hc]
 by_cases h : rrefP dk' n.c = false
 ·simp [h]
 ·rw [hc (Zi1 (by simpa using h))]
theorem Ze5 {b : List Int} {t : T} (hb : isB b) (h : decP b = .ok t) : enc t = b /\ (mP t).2 = 0 /\ form t = true := by
 have hr : rd 8 b = .ok t b.length := by
  unfold decP at h
  cases hq : rd 8 b with
  | bad e => rw [hq] at h; cases h
  | ok t' n =>
   rw [hq] at h
   dsimp only at h
   have := rd_n hq
   by_cases hn : n < b.length
   ·rw [if_pos hn] at h; cases h
   ·rw [if_neg hn] at h
    cases h
    rw [show n = b.length from by omega]
 obtain ⟨h1, h2⟩ := Zwv hb hr
 refine ⟨?_, h2, (Zig h2).2.2⟩
 unfold encP at h1
 rw [if_pos h2] at h1
 exact congrArg Prod.fst h1
theorem Zh8 {t : T} (hf : form t = true) (h : 0 < t.its.length) : t.l = true /\ t.bs = [] /\ forms t.its = true := by
 obtain ⟨l, bs, its⟩ := t
 cases l with
 | false => rw [Zb3 hf] at h; exact absurd h (by simp [T.its])
 | true => exact ⟨rfl, Zcn hf⟩
theorem encL {t : T} (h : t.l = true) (hb : t.bs = []) : enc t = hd 192 (encs t.its).length ++ encs t.its := by
 obtain ⟨l, bs, its⟩ := t
 simp only [T.l, T.bs] at h hb
 subst h hb
 rw [Zch, List.nil_append, if_neg (by simp [bare]), baseOf, if_pos rfl]
 rfl
theorem Zdl {l : List T} {i : Nat} (h : i < l.length) : l.getD i t0 ∈ l := by
 rw [List.getD, List.getElem?_eq_getElem h]
 exact List.getElem_mem h
theorem Zgn : ∀ {its : List T} {t : T}, t ∈ its -> ∀ x ∈ enc t, x ∈ encs its
 | y :: r, t, ht, x, hx => by
  rw [Za6]
  rcases List.mem_cons.1 ht with rfl | ht
  ·exact List.mem_append_left _ hx
  ·exact List.mem_append_right _ (Zgn ht x hx)
theorem Zhh {b : List Int} {t u : T} (hb : isB b) (h : decP b = .ok t) (hu : u ∈ t.its) : (enc u).length < b.length /\ ∀ x ∈ enc u, x ∈ b := by
 obtain ⟨h1, h2, h3⟩ := Ze5 hb h
 obtain ⟨l1, l2, l3⟩ := Zh8 h3 (List.length_pos_of_mem hu)
 rw [encL l1 l2] at h1
 have := Zc4 hu
 have := Zn2 192 (encs t.its).length
 rw [<- h1]
 refine ⟨by rw [List.length_append]; omega, fun x hx => List.mem_append_right _ (Zgn hu x hx)⟩
theorem Zv0 {u : T} {r : PR} (h : refOfP u = some r) : r.i = enc u \/ r.i = [] := by
 unfold refOfP at h
 by_cases hl : u.l = true
 ·rw [if_pos hl] at h
  by_cases hm : (mP u).2 = 0
  ·rw [if_pos hm] at h; cases h; exact .inl rfl
  ·rw [if_neg hm] at h; cases h
 ·rw [if_neg hl] at h
  by_cases h0 : u.bs.length = 0
  ·rw [if_pos h0] at h; cases h; exact .inr rfl
  ·rw [if_neg h0] at h
   by_cases h32 : u.bs.length = 32
   ·rw [if_pos h32] at h; cases h; exact .inr rfl
   ·rw [if_neg h32] at h; cases h
theorem Znx : ∀ {ts : List T} {ks : List PR}, kidsP ts = some ks -> ks.length = ts.length /\ ∀ r ∈ ks, ∃ u ∈ ts, refOfP u = some r
 | [], ks, h => by cases h; exact ⟨rfl, fun r hr => by cases hr⟩
 | t :: l, ks, h => by
  rw [kidsP] at h
  cases hr : refOfP t with
  | none => rw [hr] at h; cases h
  | some a =>
   rw [hr] at h
   dsimp only at h
   cases hk : kidsP l with
   | none => rw [hk] at h; cases h
   | some l' =>
    rw [hk] at h
    cases h
    obtain ⟨h1, h2⟩ := Znx hk
    refine ⟨by simp [h1], fun r hr' => ?_⟩
    rcases List.mem_cons.1 hr' with rfl | hr'
    ·exact ⟨t, by simp, hr⟩
    ·obtain ⟨u, hu, e⟩ := h2 r hr'
     exact ⟨u, by simp [hu], e⟩
theorem Zh1 {t : T} {n : PN} (h : nodeOfP t = some n) : 0 < t.its.length /\ ∀ r, (r = n.c \/ r ∈ n.ks) -> r.i = [] \/ ∃ u ∈ t.its, refOfP u = some r := by
 unfold nodeOfP at h
 by_cases h2 : t.its.length = 2
 ·rw [if_pos h2] at h
  refine ⟨by omega, ?_⟩
  unfold pathP at h
  split at h
  ·cases h
  ·split at h
   ·split at h
    ·cases h
    ·cases h
     intro r hr
     rcases hr with rfl | hr
     ·exact .inl rfl
     ·cases hr
   ·cases hq : refOfP (t.its.getD 1 t0) with
    | none => rw [hq] at h; cases h
    | some c =>
     rw [hq] at h
     cases h
     intro r hr
     rcases hr with rfl | hr
     ·exact .inr ⟨_, Zdl (by omega), hq⟩
     ·cases hr
 ·rw [if_neg h2] at h
  by_cases h17 : t.its.length = 17
  ·rw [if_pos h17] at h
   refine ⟨by omega, ?_⟩
   unfold branchP at h
   cases hk : kidsP (t.its.take 16) with
   | none => rw [hk] at h; cases h
   | some ks =>
    rw [hk] at h
    dsimp only at h
    split at h
    ·cases h
    ·cases h
     intro r hr
     rcases hr with rfl | hr
     ·exact .inl rfl
     ·obtain ⟨u, hu, e⟩ := (Znx hk).2 r hr
      exact .inr ⟨u, List.mem_of_mem_take hu, e⟩
  ·rw [if_neg h17] at h; cases h
theorem Zkd {b : List Int} {t : T} {n : PN} (hb : isB b) (h : decP b = .ok t) (hn : nodeOfP t = some n) : ∀ r, (r = n.c \/ r ∈ n.ks) -> r.i.length < b.length /\ isB r.i := by
 obtain ⟨h0, hr⟩ := Zh1 hn
 have hu0 := (Zhh hb h (Zdl h0)).1
 intro r hrr
 rcases hr r hrr with e | ⟨u, hu, e⟩
 ·rw [e]; exact ⟨by simp; omega, fun x hx => by cases hx⟩
 ·obtain ⟨s1, s2⟩ := Zhh hb h hu
  rcases Zv0 e with e | e
  ·rw [e]; exact ⟨s1, fun x hx => hb x (s2 x hx)⟩
  ·rw [e]; exact ⟨by simp; omega, fun x hx => by cases hx⟩
theorem Zrc : ∀ (L : Nat) (b : List Int), b.length <= L -> isB b -> ∀ f f', b.length < f -> b.length < f' -> ndec f b = ndec f' b := by
 intro L
 induction L using Nat.strongRecOn with
 | _ L ih =>
  intro b hL hb f f' hf hf'
  obtain ⟨g, rfl⟩ : ∃ g, f = g + 1 := ⟨f - 1, by omega⟩
  obtain ⟨g', rfl⟩ : ∃ g', f' = g' + 1 := ⟨f' - 1, by omega⟩
  rw [ndec, ndec]
  cases hd : decP b with
  | bad e => rfl
  | ok t =>
   dsimp only
   cases hn : nodeOfP t with
   | none => rfl
   | some n =>
    dsimp only
    have hs := Zkd hb hd hn
    have hcg : ∀ r, (r = n.c \/ r ∈ n.ks) -> ndec g r.i = ndec g' r.i := fun r hr => by
     obtain ⟨s1, s2⟩ := hs r hr
     exact ih r.i.length (by omega) r.i (Nat.le_refl _) s2 g g' (by omega) (by omega)
    rw [Zgg (dk := fun i => kd (ndec g i)) (dk' := fun i => kd (ndec g' i)) (fun _ => by rw [hcg _ (.inl rfl)]) (fun r hr _ => by rw [hcg _ (.inr hr)])]
theorem Zue {b : List Int} (hb : isB b) : ND b = match decP b with
  | .bad _ => none
  | .ok t => match nodeOfP t with
   | none => none
   | some n => if NR n = true then some n else none := by
 show ndec (32 + 1) b = _
 rw [ndec]
 cases hd : decP b with
 | bad e => rfl
 | ok t =>
  dsimp only
  cases hn : nodeOfP t with
  | none => rfl
  | some n =>
   dsimp only
   have hs := Zkd hb hd hn
   have hcg : ∀ r, (r = n.c \/ r ∈ n.ks) -> r.i.length < 32 -> ndec 32 r.i = ND r.i := fun r hr h32 => by
    obtain ⟨s1, s2⟩ := hs r hr
    exact Zrc r.i.length r.i (Nat.le_refl _) s2 32 33 (by omega) (by omega)
   rw [Zgg (dk := fun i => kd (ndec 32 i)) (dk' := KD) (fun h => by unfold KD; rw [hcg _ (.inl rfl) h]) (fun r hr h => by unfold KD; rw [hcg _ (.inr hr) h])]
   rfl
theorem Zdd {b : List Int} {n : PN} (hb : isB b) (h : ND b = some n) : ∃ t, decP b = .ok t /\ nodeOfP t = some n /\ NR n = true := by
 rw [Zue hb] at h
 cases hd : decP b with
 | bad e => rw [hd] at h; cases h
 | ok t =>
  rw [hd] at h
  dsimp only at h
  cases hn : nodeOfP t with
  | none => rw [hn] at h; cases h
  | some m =>
   rw [hn] at h
   dsimp only at h
   by_cases hr : NR m = true
   ·rw [if_pos hr] at h; cases h; exact ⟨t, rfl, hn, hr⟩
   ·rw [if_neg hr] at h; cases h
theorem Zyr {b : List Int} {t : T} {n : PN} (hb : isB b) (hd : decP b = .ok t) (hn : nodeOfP t = some n) (hr : NR n = true) : ND b = some n := by
 rw [Zue hb, hd]
 dsimp only
 rw [hn]
 dsimp only
 rw [if_pos hr]
theorem Zm1 {n : PN} (h : NR n = true) : n.k = 1 \/ n.k = 2 \/ n.k = 3 := by
 unfold NR nright knownP at h
 simp only [Bool.and_eq_true, Bool.or_eq_true, decide_eq_true_eq] at h
 omega
theorem Zil {b : List Int} (h : KD b ≠ 0) : ∃ n, ND b = some n /\ n.k = KD b := by
 unfold KD at h ⊢
 cases hq : ND b with
 | none => rw [hq] at h; exact absurd rfl h
 | some n => exact ⟨n, rfl, rfl⟩
end Go.Proofs.YtefhepcplempkaaGreat
