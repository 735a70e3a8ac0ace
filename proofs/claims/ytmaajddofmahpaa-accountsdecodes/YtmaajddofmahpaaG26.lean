/- What the document's first answers, for bytes that begin with a text, or with nothing. -/
import Derived.Test.YtmaajddofmahpaaG25
namespace Go.Proofs.Ytmaajddofmahpaa
open Go.RowKit
set_option linter.unusedVariables false
set_option maxRecDepth 100000
theorem rfirst_end (a : Option Addr) (n c i j d : Nat) (w : World) (k : Nat) (b : List Int) (hij : ¬ i < j) (hi : i ≤ 140737488351232) (hrd : rd k (pc b i j) = .bad 22) :
    Calls Try.prog 60 #[.slice a n c, .int .i64 i, .int .i64 j, .int .i64 d] w (FPost w i (rd k (pc b i j))) := by
  rw [hrd]
  have hge : (i : Int) ≥ j := by omega
  clear hrd
  go_enter Try.func60, Try.ntmps60
  go_upto_if 18 with fail
  refine gen_w (p := fun v => Code.wp _ _ _ _ v) (q := Rb w) (Rb.new w) ?_
  intro v R
  have x0 := R.x0
  have x1 := R.x1
  have x2 := R.x2
  have xf := R.xf
  have HR := Hid.mk R
  clear R
  go_wp2_with fail
  have hr := put3 HR.out.row (.bool false) (.slice none 0 0) (.slice none 0 0)
  refine bodyPost_ret (results_row3 Try.results60 _ _ w.heap.size _ _ _ rfl hr) rfl ?_
  exact ⟨below3 HR.out.bel (Nat.le_refl _) _ _ _, rfl, by decide⟩
theorem rfirst_deep (a : Option Addr) (n c i j : Nat) (w : World) (b : List Int) (h : Ag w a n c b) (hn : n ≤ 140737488351232) (hij : i < j) (hj : j ≤ n) (x : Int) (hx : b.getD i 0 = x) (h192 : 192 ≤ x) (res : R) (hres : res = .bad 21) :
    Calls Try.prog 60 #[.slice a n c, .int .i64 i, .int .i64 j, .int .i64 8] w (FPost w i res) := by
  subst hres
  obtain ⟨g, off, rfl, hc1, hc2, hc⟩ := ag_head h (by omega)
  unfold maxLen at hc2
  have hcell := hc i (by omega)
  rw [hx] at hcell
  have hxb := (h.b x (by rw [← hx, List.getD, List.getElem?_eq_getElem (by rw [h.l]; omega)]; exact List.getElem_mem _)).2
  have hlt : (i : Int) < j := by omega
  have hin : (i : Int) < n := by omega
  clear hx hc h
  go_enter Try.func60, Try.ntmps60
  go_upto_if 18 with fail
  have hcw := below_cell (Rb.new w).bel hcell
  refine gen_w (p := fun v => Code.wp _ _ _ _ v) (q := fun v => Rb w v ∧ v.cell? ⟨g, off + i, none⟩ = some (.int .u8 x)) ⟨Rb.new w, hcw⟩ ?_
  clear hcell hcw
  rintro v ⟨R, hcell⟩
  have x0 := R.x0
  have x1 := R.x1
  have x2 := R.x2
  have xf := R.xf
  have HR := Hid.mk R
  clear R
  go_wp2_with fail
  have hr := put3 HR.out.row (.bool false) (.slice none 0 0) (.slice none 0 0)
  refine bodyPost_ret (results_row3 Try.results60 _ _ w.heap.size _ _ _ rfl hr) rfl ?_
  exact ⟨below3 HR.out.bel (Nat.le_refl _) _ _ _, rfl, by decide⟩
set_option maxHeartbeats 1000000 in
theorem rfirst_low (a : Option Addr) (n c i j d : Nat) (w : World) (b : List Int) (h : Ag w a n c b) (hn : n ≤ 140737488351232) (hij : i < j) (hj : j ≤ n) (x : Int) (hx : b.getD i 0 = x) (h128 : x < 128) (res : R) (hres : res = .ok (.mk false [x] []) 1) :
    Calls Try.prog 60 #[.slice a n c, .int .i64 i, .int .i64 j, .int .i64 d] w (FPost w i res) := by
  subst hres
  obtain ⟨g, off, rfl, hc1, hc2, hc⟩ := ag_head h (by omega)
  unfold maxLen at hc2
  have hcell := hc i (by omega)
  rw [hx] at hcell
  have hxb := (h.b x (by rw [← hx, List.getD, List.getElem?_eq_getElem (by rw [h.l]; omega)]; exact List.getElem_mem _)).1
  have hlt : (i : Int) < j := by omega
  have hin : (i : Int) < n := by omega
  clear hx hc h
  go_enter Try.func60, Try.ntmps60
  go_upto_if 18 with fail
  have hcw := below_cell (Rb.new w).bel hcell
  refine gen_w (p := fun v => Code.wp _ _ _ _ v) (q := fun v => Rb w v ∧ v.cell? ⟨g, off + i, none⟩ = some (.int .u8 x)) ⟨Rb.new w, hcw⟩ ?_
  clear hcell hcw
  rintro v ⟨R, hcell⟩
  have HR := Hid.mk R
  clear R
  have R2 := HR.out.alloc (.cells #[.int .u8 x] 5)
  have HR2 := Hid.mk R2
  have x0 := R2.x0
  have x1 := R2.x1
  have x2 := R2.x2
  have xf := R2.xf
  clear R2
  go_wp2_with fail
  have hr := put3 HR2.out.row (.bool false) (.slice (some ⟨v.heap.size, 0, none⟩) 1 1) (.slice none 0 0)
  refine bodyPost_ret (results_row3 Try.results60 _ _ w.heap.size _ _ _ rfl hr) rfl ?_
  have hz := HR.out.bel.size
  have hz2 := lt_of_get HR.out.row
  refine ⟨below3 HR2.out.bel (Nat.le_refl _) _ _ _, ⟨false, some ⟨v.heap.size, 0, none⟩, 1, 1, none, 0, 0⟩, by simp, ?_⟩
  have hrow : Row v.heap.size (((v.alloc (.cells #[.int .u8 x] 5)).setCell ⟨w.heap.size, 0, none⟩ (.bool false)).setCell ⟨w.heap.size, 1, none⟩ (.slice (some ⟨v.heap.size, 0, none⟩) 1 1) |>.setCell ⟨w.heap.size, 2, none⟩ (.slice none 0 0)) [x] :=
    (other3 (by omega) _ _ _).trans (heap_alloc_new _ _)
  exact liesP_text hrow rfl (fun y hy => by
    have e : y = x := by simpa using hy
    omega) (by omega) (by omega)
end Go.Proofs.Ytmaajddofmahpaa
/- What the document's first answers, for bytes that begin with a longer text, or a list. -/
namespace Go.Proofs.Ytmaajddofmahpaa
open Go.RowKit
set_option linter.unusedVariables false
set_option maxRecDepth 100000
set_option maxRecDepth 20000 in
set_option maxHeartbeats 4000000 in
theorem rfirst_text (gg : List Int → R) (a : Option Addr) (n c i j d : Nat) (w : World) (b : List Int) (h : Ag w a n c b) (hn : n ≤ 140737488351232) (hij : i < j) (hj : j ≤ n) (hd : d ≤ 8) (x : Int) (hx : b.getD i 0 = x) (hlo : 128 ≤ x) (hhi : x < 192) (res : R)
    (hres : res = rd1 gg (decide (d = 8)) (x :: pc b (i + 1) j)) :
    Calls Try.prog 60 #[.slice a n c, .int .i64 i, .int .i64 j, .int .i64 d] w (FPost w i res) := by
  obtain ⟨g, off, rfl, hc1, hc2, hc⟩ := ag_head h (by omega)
  unfold maxLen at hc2
  have hcell := hc i (by omega)
  rw [hx] at hcell
  have hbl := h.l
  have hx256 := (h.b x (by rw [← hx, List.getD, List.getElem?_eq_getElem (by omega)]; exact List.getElem_mem _)).2
  have hlt : (i : Int) < j := by omega
  have hin : (i : Int) < n := by omega
  have hrl := pc_len (b := b) (i := i + 1) (j := j) (by omega)
  have hrb : ∀ y ∈ pc b (i + 1) j, 0 ≤ y ∧ y < 256 := fun y hy => h.b y (pc_mem hy)
  have hnd : ¬ (192 ≤ x ∧ decide (d = 8) = true) := by omega
  have hn128 : ¬ x < 128 := by omega
  obtain ⟨N, hN⟩ : ∃ N, nOf x = N := ⟨_, rfl⟩
  have hNx : x - 128 = N := by
    rw [← hN]; unfold nOf
    rw [if_neg (by omega)]; omega
  have hN63 : N ≤ 63 := by omega
  have HX := Hid.mk hx
  have HC := Hid.mk hc
  have HA := Hid.mk h
  have HRL := Hid.mk hrl
  have HRB := Hid.mk hrb
  have HND := Hid.mk hnd
  have HN := Hid.mk hN
  have HRES := Hid.mk hres
  skip
  clear hx hc h hrl hrb hnd hN hres hbl
  go_enter Try.func60, Try.ntmps60
  go_upto_if 18 with fail
  have hbw := (Rb.new w).bel
  refine gen_w (p := fun v => Code.wp _ _ _ _ v) (q := Rb w) (Rb.new w) ?_
  clear hbw
  intro v R
  replace hcell := below_cell R.bel hcell
  have x0 := R.x0
  have x1 := R.x1
  have x2 := R.x2
  have xf := R.xf
  have HR := Hid.mk R
  clear R
  by_cases h58 : N > 58
  · have h58i : (N : Int) > 58 := by omega
    have hfin : res = .bad 23 := by rw [HRES.out]; exact rd1_bad (hd_bad HND.out hn128 (by rw [HN.out]; omega) (lenIn_long (by rw [HN.out]; omega)) (by decide))
    subst hfin
    go_wp2_with fail
    have hr := put3 HR.out.row (.bool false) (.slice none 0 0) (.slice none 0 0)
    refine bodyPost_ret (results_row3 Try.results60 _ _ w.heap.size _ _ _ rfl hr) rfl ?_
    exact ⟨below3 HR.out.bel (Nat.le_refl _) _ _ _, rfl, by decide⟩
  have h58i : ¬ (N : Int) > 58 := by omega
  go_upto_if 54 with fail
  go_cut [1, 13] (fun p q v' => ∃ f L : Nat, p = .int .i64 (i + f : Nat) ∧ q = .int .i64 L ∧ Hd (decide (d = 8)) x (pc b (i + 1) j) f L ∧ v' = v)
  case first =>
    by_cases h55 : N > 55
    case neg =>
      have h55i : ¬ (N : Int) > 55 := by omega
      go_wp2_with fail
      go_meet
      case rel =>
        have := hd_one (r := pc b (i + 1) j) HND.out (by omega) (by rw [HN.out]; omega)
        rw [HN.out] at this
        exact ⟨1, N, by simp, rfl, this, rfl⟩
    have h55i : (N : Int) > 55 := by omega
    obtain ⟨K, hK⟩ : ∃ K, N = 55 + K := ⟨N - 55, by omega⟩
    subst hK
    have hK3 : K ≤ 3 := by omega
    have hK1 : 1 ≤ K := by omega
    have hKi : ((55 + K : Nat) : Int) - 55 = K := by omega
    by_cases hsh : j - (i + 1) < K
    · have hshi : (j : Int) - (i + 1) < K := by omega
      have hfin : res = .bad 22 := by rw [HRES.out]; exact rd1_bad (hd_bad HND.out hn128 (by rw [HN.out]; omega) (lenIn_short (by rw [HN.out]; omega) (by rw [HN.out, HRL.out]; omega)) (by decide))
      subst hfin
      go_wp2_with fail
      have hr := put3 HR.out.row (.bool false) (.slice none 0 0) (.slice none 0 0)
      refine bodyPost_ret (results_row3 Try.results60 _ _ w.heap.size _ _ _ rfl hr) rfl ?_
      exact ⟨below3 HR.out.bel (Nat.le_refl _) _ _ _, rfl, by decide⟩
    have hshi : ¬ (j : Int) - (i + 1) < K := by omega
    go_wp2_with fail
    go_loopw [13, 15] (fun p q v' => ∃ u : Nat, u ≤ K ∧ q = .int .i64 u ∧ p = .int .i64 (val ((pc b (i + 1) j).take u) : Nat) ∧ v' = v) (fun _ q _ => K - (intOf q).toNat)
    case atStart => exact ⟨0, by omega, rfl, rfl, rfl⟩
    case round =>
      obtain ⟨u, hu, rfl, rfl, rfl⟩ := hrel
      have hrl := HRL.out
      by_cases hlt2 : u < K
      · have hui : (u : Int) < K := by omega
        have hcu := below_cell HR.out.bel (HC.out (i + 1 + u) (by omega))
        rw [← pc_get (b := b) (i := i + 1) (j := j) (k := u) (by omega) (by rw [HA.out.l]; omega)] at hcu
        obtain ⟨v1, v2⟩ := val_take HRB.out (j := u) (by omega) (by omega)
        have v3 := val_take HRB.out (j := u + 1) (by omega) (by omega)
        have hvs := val_succ (b := pc b (i + 1) j) (j := u) (by omega)
        have hxx := HRB.out ((pc b (i + 1) j).getD u 0) (by rw [List.getD, List.getElem?_eq_getElem (by omega)]; exact List.getElem_mem _)
        obtain ⟨q, hq⟩ : ∃ q, val ((pc b (i + 1) j).take u) = q := ⟨_, rfl⟩
        obtain ⟨z, hz⟩ : ∃ z, (pc b (i + 1) j).getD u 0 = z := ⟨_, rfl⟩
        rw [hq] at v1 hvs ⊢
        rw [hz] at hcu hxx hvs
        obtain ⟨hz0, hz1⟩ := hxx
        rw [hvs] at v3
        have hq2 : q < 65536 := by omega
        have HV : Hid (((val ((pc b (i + 1) j).take (u + 1)) : Nat) : Int) = 256 * q + z) := Hid.mk (by omega)
        have hnn : (i : Int) + 1 + u < n := by omega
        clear hvs v1 v2 v3 hq hz hrl
        go_wp2_with fail
        exact ⟨⟨u + 1, by omega, by simp, by rw [HV.out], trivial⟩, by simp [intOf]; omega⟩
      · have huK : u = K := by omega
        subst huK
        have hui : ¬ (u : Int) < u := by omega
        obtain ⟨v1, v2⟩ := val_take HRB.out (j := u) (by omega) (by omega)
        have hc0 := below_cell HR.out.bel (HC.out (i + 1) (by omega))
        have hhd : (pc b (i + 1) j).headD 0 = b.getD (i + 1) 0 := by rw [pc_cons (by omega) (by rw [HA.out.l]; omega)]; rfl
        have hz1 := HA.out.b (b.getD (i + 1) 0) (by rw [List.getD, List.getElem?_eq_getElem (by rw [HA.out.l]; omega)]; exact List.getElem_mem _)
        have hform := fun h => rd1_bad (g := gg) (hd_bad HND.out (x := x) (by omega) (by rw [HN.out]; omega) (lenIn_form (r := pc b (i + 1) j) (by rw [HN.out]; omega) (by rw [HN.out, HRL.out]; omega) h) (show 23 ≠ 0 by decide))
        have hmore := hd_more (x := x) HRB.out HND.out (by omega) (by rw [HN.out]; omega) (by rw [HN.out]; omega) (by rw [HN.out, HRL.out]; omega)
        rw [← HRES.out] at hform
        rw [HN.out, show 55 + u - 55 = u from by omega, hhd] at hform hmore
        obtain ⟨q, hq⟩ : ∃ q, val ((pc b (i + 1) j).take u) = q := ⟨_, rfl⟩
        obtain ⟨z, hz⟩ : ∃ z, b.getD (i + 1) 0 = z := ⟨_, rfl⟩
        rw [hq] at v1 hform hmore ⊢
        rw [hz] at hc0 hz1 hform hmore
        have hq24 : q < 16777216 := by omega
        have hnn : (i : Int) + 1 < n := by omega
        have HFO := Hid.mk hform
        have HMO := Hid.mk hmore
        clear hq hz hhd hrl v1 v2 hform hmore
        by_cases hz0 : z = 0
        · have hfin : res = .bad 23 := HFO.out (.inl hz0)
          subst hfin hz0
          clear hz1
          go_wp2_with fail
          have hr := put3 HR.out.row (.bool false) (.slice none 0 0) (.slice none 0 0)
          refine bodyPost_ret (results_row3 Try.results60 _ _ w.heap.size _ _ _ rfl hr) rfl ?_
          exact ⟨below3 HR.out.bel (Nat.le_refl _) _ _ _, rfl, by decide⟩
        · have hzb : (z == 0) = false := by rw [beq_eq_false_iff_ne]; exact hz0
          by_cases hq55 : q < 56
          · have hfin : res = .bad 23 := HFO.out (.inr (by omega))
            have hqi : (q : Int) < 56 := by omega
            subst hfin
            go_wp2_with fail
            have hr := put3 HR.out.row (.bool false) (.slice none 0 0) (.slice none 0 0)
            refine bodyPost_ret (results_row3 Try.results60 _ _ w.heap.size _ _ _ rfl hr) rfl ?_
            exact ⟨below3 HR.out.bel (Nat.le_refl _) _ _ _, rfl, by decide⟩
          · have hqi : ¬ (q : Int) < 56 := by omega
            have HMM := Hid.mk (HMO.out (by rintro (h | h); exact hz0 h; omega))
            go_wp2_with fail
            go_meet
            case rel => exact ⟨1 + u, q, by simp; omega, rfl, HMM.out, rfl⟩
  case rest =>
    obtain ⟨f, L, rfl, rfl, H, rfl⟩ := hcut
    have heq := H.eq
    have hf1 := H.f1
    have hf4 := H.f4
    have hL24 := H.L24
    have hiff := H.iff
    have hfle := H.fle
    rw [HRL.out] at heq hfle
    have hpc : x :: pc b (i + 1) j = pc b i j := by rw [pc_cons (b := b) (i := i) hij (by rw [HA.out.l]; omega), HX.out]
    clear H hcell
    by_cases hsh : (j - (i + 1) + 1) - f < L
    · rw [if_pos hsh] at heq
      have hfin : res = .bad 22 := by rw [HRES.out]; exact rd1_bad heq
      subst hfin
      have hshi : (j : Int) - ((i + f : Nat) : Int) < L := by omega
      clear heq hpc
      go_wp2_with fail
      have hr := put3 HR.out.row (.bool false) (.slice none 0 0) (.slice none 0 0)
      refine bodyPost_ret (results_row3 Try.results60 _ _ w.heap.size _ _ _ rfl hr) rfl ?_
      exact ⟨below3 HR.out.bel (Nat.le_refl _) _ _ _, rfl, by decide⟩
    rw [if_neg hsh] at heq
    have hshi : ¬ (j : Int) - ((i + f : Nat) : Int) < L := by omega
    have hfjn : i + f + L ≤ j := by omega
    have hri := HRES.out
    unfold rd1 at hri
    rw [heq] at hri
    simp only at hri
    rw [hpc, pc_sub (by omega)] at hri
    have hhd : (pc b i j).headD 0 = x := by rw [← hpc]; rfl
    rw [hhd] at hri
    have hsub := ag_sub (HA.out.at HR.out.bel) (f := i + f) (t := i + (f + L)) (by omega) (by omega)
    rw [show i + (f + L) - (i + f) = L from by omega] at hsub
    clear heq hhd hsh
    rw [if_pos hhi] at hri
    have hget : (pc b i j).getD 1 0 = b.getD (i + 1) 0 ∨ ¬ (f = 1 ∧ f + L = 2) := by
      by_cases h1 : f = 1 ∧ f + L = 2
      · exact .inl (pc_get (by omega) (by rw [HA.out.l]; omega))
      · exact .inr h1
    by_cases hone : f = 1 ∧ f + L = 2 ∧ (pc b i j).getD 1 0 < 128
    · rw [if_pos hone] at hri
      obtain ⟨o1, o2, o3⟩ := hone
      have oL : L = 1 := by omega
      rw [hget.resolve_right (fun h => h ⟨o1, o2⟩)] at o3
      subst o1 oL hri
      have hc0 := below_cell HR.out.bel (HC.out (i + 1) (by omega))
      have hz1 := (HA.out.b (b.getD (i + 1) 0) (by rw [List.getD, List.getElem?_eq_getElem (by rw [HA.out.l]; omega)]; exact List.getElem_mem _)).1
      generalize b.getD (i + 1) 0 = z at *
      have hnn : ((i + 1 : Nat) : Int) < n := by omega
      clear hsub hget hpc hiff
      go_wp2_with fail
      have hr := put3 HR.out.row (.bool false) (.slice none 0 0) (.slice none 0 0)
      refine bodyPost_ret (results_row3 Try.results60 _ _ w.heap.size _ _ _ rfl hr) rfl ?_
      exact ⟨below3 HR.out.bel (Nat.le_refl _) _ _ _, rfl, by decide⟩
    rw [if_neg hone] at hri
    have HRI := Hid.mk hri
    have hib : ((i + f : Nat) : Int) ≤ ((i + f : Nat) : Int) + L := by omega
    have hib2 : ((i + f : Nat) : Int) + L ≤ n := by omega
    have hcz : ¬ L = 1 ∨ (L = 1 ∧ f = 1 ∧ ¬ b.getD (i + 1) 0 < 128) := by
      by_cases hL1 : L = 1
      · have hf : f = 1 := hiff.2 (by omega)
        refine .inr ⟨hL1, hf, fun h => hone ⟨hf, by omega, ?_⟩⟩
        rw [hget.resolve_right (fun h => h ⟨hf, by omega⟩)]
        exact h
      · exact .inl hL1
    have hcp := copied_any _ L _ _ _ hsub (by omega)
    have HCP := Hid.mk hcp
    clear hcp
    clear hri hone hget hsub hiff hpc
    have hout : ∀ (a' : Option Addr) (c' : Nat) (w2 : World), Ag w2 a' L c' (pc b (i + f) (i + (f + L))) → (∀ g off, a' = some ⟨g, off, none⟩ → wc.heap.size ≤ g ∧ ∀ o, w2.frozen? ⟨g, o, none⟩ = false) → Below wc.heap.size wc w2 → FPost w i res (.returned (.tuple #[.agg #[.bool false, .slice a' L c', .slice none 0 0], .int .i64 (((i + f : Nat) : Int) + L), .int .i64 0])) (((w2.setCell ⟨w.heap.size, 0, none⟩ (.bool false)).setCell ⟨w.heap.size, 1, none⟩ (.slice a' L c')).setCell ⟨w.heap.size, 2, none⟩ (.slice none 0 0)) := by
      intro a' c' w2 h1 h2 h3
      rw [HRI.out]
      have hz := HR.out.bel.size
      have hz2 := lt_of_get HR.out.row
      refine ⟨below3 (below_go HR.out.bel h3) (Nat.le_refl _) _ _ _, ⟨false, a', L, c', none, 0, 0⟩, by simp; omega, ?_⟩
      refine liesP_eq.2 ⟨⟨rfl, ag_keep h1 (fun g off e _ _ => other3 (by have := (h2 g off e).1; omega) _ _ _), rfl, Nat.le_refl _, by show 0 ≤ maxLen; unfold maxLen; omega, ⟨by show L ≤ 140737488351232; omega, by show 0 ≤ 140737488351232; omega⟩, fun g off e _ => ⟨Nat.le_trans hz (h2 g off e).1, fun o => by rw [World.frozen?_setCell, World.frozen?_setCell, World.frozen?_setCell]; exact (h2 g off e).2 o⟩⟩, liesPAll_nil⟩
    have HOUT := Hid.mk hout
    clear hout
    clear x0 x1 x2 xf
    rcases hcz with hL1 | ⟨rfl, rfl, hz128⟩
    · have hLb : ((L : Int) == 1) = false := by rw [beq_eq_false_iff_ne]; omega
      by_cases hck : c = i + f
      · rw [if_pos hck] at HCP
        subst hck
        rw [Nat.sub_self] at HCP
        go_wp2_with fail
        refine HCP.out.mono ?_
        rintro e w2 ⟨⟨a', c', rfl, h1, h2⟩, h3⟩
        have R2 := HR.out.call h3
        have x0 := R2.x0
        have x1 := R2.x1
        have x2 := R2.x2
        have xf := R2.xf
        have HFI := Hid.mk (HOUT.out a' c' w2 h1 h2 h3)
        have HR2 := Hid.mk R2
        clear R2 h1 h2 h3 HCP
        go_wp2_with fail
        have hr := put3 HR2.out.row (.bool false) (.slice a' L c') (.slice none 0 0)
        refine bodyPost_ret (results_row3 Try.results60 _ _ w.heap.size _ _ _ rfl hr) rfl ?_
        exact HFI.out
      · rw [if_neg hck] at HCP
        go_wp2_with fail
        refine HCP.out.mono ?_
        rintro e w2 ⟨⟨a', c', rfl, h1, h2⟩, h3⟩
        have R2 := HR.out.call h3
        have x0 := R2.x0
        have x1 := R2.x1
        have x2 := R2.x2
        have xf := R2.xf
        have HFI := Hid.mk (HOUT.out a' c' w2 h1 h2 h3)
        have HR2 := Hid.mk R2
        clear R2 h1 h2 h3 HCP
        go_wp2_with fail
        have hr := put3 HR2.out.row (.bool false) (.slice a' L c') (.slice none 0 0)
        refine bodyPost_ret (results_row3 Try.results60 _ _ w.heap.size _ _ _ rfl hr) rfl ?_
        exact HFI.out
    · have hnn : ((i + 1 : Nat) : Int) < n := by omega
      have hck : ¬ c = i + 1 := by omega
      have hc0 := below_cell HR.out.bel (HC.out (i + 1) (by omega))
      have hz1 := (HA.out.b (b.getD (i + 1) 0) (by rw [List.getD, List.getElem?_eq_getElem (by rw [HA.out.l]; omega)]; exact List.getElem_mem _))
      generalize b.getD (i + 1) 0 = z at *
      have hz128 : ¬ z < 128 := hz128
      · rw [if_neg hck] at HCP
        go_wp2_with fail
        refine HCP.out.mono ?_
        rintro e w2 ⟨⟨a', c', rfl, h1, h2⟩, h3⟩
        have R2 := HR.out.call h3
        have x0 := R2.x0
        have x1 := R2.x1
        have x2 := R2.x2
        have xf := R2.xf
        have HFI := Hid.mk (HOUT.out a' c' w2 h1 h2 h3)
        have HR2 := Hid.mk R2
        clear R2 h1 h2 h3 HCP
        go_wp2_with fail
        have hr := put3 HR2.out.row (.bool false) (.slice a' 1 c') (.slice none 0 0)
        refine bodyPost_ret (results_row3 Try.results60 _ _ w.heap.size _ _ _ rfl hr) rfl ?_
        exact HFI.out
end Go.Proofs.Ytmaajddofmahpaa
