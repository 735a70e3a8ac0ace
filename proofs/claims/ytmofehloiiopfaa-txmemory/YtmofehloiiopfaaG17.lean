/- What the document's first answers, for bytes that begin with a longer text, or a list. -/
import Derived.Test.YtmofehloiiopfaaG16
namespace Go.Proofs.Ytmofehloiiopfaa
open Go.RowKit
set_option linter.unusedVariables false
set_option maxRecDepth 100000
set_option maxRecDepth 20000 in
set_option maxHeartbeats 4000000 in
theorem rfirst_text (gg : List Int → R) (a : Option Addr) (n c i j d : Nat) (w : World) (b : List Int) (h : Ag w a n c b) (hn : n ≤ 140737488351232) (hij : i < j) (hj : j ≤ n) (hd : d ≤ 8) (x : Int) (hx : b.getD i 0 = x) (hlo : 128 ≤ x) (hhi : x < 192) (res : R)
    (hres : res = rd1 gg (decide (d = 8)) (x :: pc b (i + 1) j)) :
    Calls Try.prog 70 #[.slice a n c, .int .i64 i, .int .i64 j, .int .i64 d] w (FPost w i res) := by
  obtain ⟨g, off, rfl, hc1, hc2, hc⟩ := ag_head h (by omega)
  unfold maxLen at hc2
  have hcell := hc i (by omega)
  rw [hx] at hcell
  have hbl := h.l
  have hx256 := (h.b x (by rw [← hx, List.getD, List.getElem?_eq_getElem (by omega)]; exact List.getElem_mem _)).2
  have hlt : (i : Int) < j := by omega
  have hin : (i : Int) < n := by omega
  have hrl := pc_len (b := b) (i := i + 1) (j := j) (by omega)
  have hrb : ∀ y ∈ pc b (i + 1) j, 0 ≤ y ∧ y < 256 := fun y hy => h.b y (pc_mem hy)
  have hnd : ¬ (192 ≤ x ∧ decide (d = 8) = true) := by omega
  have hn128 : ¬ x < 128 := by omega
  obtain ⟨N, hN⟩ : ∃ N, nOf x = N := ⟨_, rfl⟩
  have hNx : x - 128 = N := by
    rw [← hN]; unfold nOf
    rw [if_neg (by omega)]; omega
  have hN63 : N ≤ 63 := by omega
  have HX := Hid.mk hx
  have HC := Hid.mk hc
  have HA := Hid.mk h
  have HRL := Hid.mk hrl
  have HRB := Hid.mk hrb
  have HND := Hid.mk hnd
  have HN := Hid.mk hN
  have HRES := Hid.mk hres
  skip
  clear hx hc h hrl hrb hnd hN hres hbl
  go_enter Try.func70, Try.ntmps70
  go_upto_if 18 with fail
  have hbw := (Rb.new w).bel
  refine gen_w (p := fun v => Code.wp _ _ _ _ v) (q := Rb w) (Rb.new w) ?_
  clear hbw
  intro v R
  replace hcell := below_cell R.bel hcell
  have x0 := R.x0
  have x1 := R.x1
  have x2 := R.x2
  have xf := R.xf
  have HR := Hid.mk R
  clear R
  by_cases h58 : N > 58
  · have h58i : (N : Int) > 58 := by omega
    have hfin : res = .bad 23 := by rw [HRES.out]; exact rd1_bad (hd_bad HND.out hn128 (by rw [HN.out]; omega) (lenIn_long (by rw [HN.out]; omega)) (by decide))
    subst hfin
    go_wp2_with fail
    have hr := put3 HR.out.row (.bool false) (.slice none 0 0) (.slice none 0 0)
    refine bodyPost_ret (results_row3 Try.results70 _ _ w.heap.size _ _ _ rfl hr) rfl ?_
    exact ⟨below3 HR.out.bel (Nat.le_refl _) _ _ _, rfl, by decide⟩
  have h58i : ¬ (N : Int) > 58 := by omega
  go_upto_if 54 with fail
  go_cut [1, 13] (fun p q v' => ∃ f L : Nat, p = .int .i64 (i + f : Nat) ∧ q = .int .i64 L ∧ Hd (decide (d = 8)) x (pc b (i + 1) j) f L ∧ v' = v)
  case first =>
    by_cases h55 : N > 55
    case neg =>
      have h55i : ¬ (N : Int) > 55 := by omega
      go_wp2_with fail
      go_meet
      case rel =>
        have := hd_one (r := pc b (i + 1) j) HND.out (by omega) (by rw [HN.out]; omega)
        rw [HN.out] at this
        exact ⟨1, N, by simp, rfl, this, rfl⟩
    have h55i : (N : Int) > 55 := by omega
    obtain ⟨K, hK⟩ : ∃ K, N = 55 + K := ⟨N - 55, by omega⟩
    subst hK
    have hK3 : K ≤ 3 := by omega
    have hK1 : 1 ≤ K := by omega
    have hKi : ((55 + K : Nat) : Int) - 55 = K := by omega
    by_cases hsh : j - (i + 1) < K
    · have hshi : (j : Int) - (i + 1) < K := by omega
      have hfin : res = .bad 22 := by rw [HRES.out]; exact rd1_bad (hd_bad HND.out hn128 (by rw [HN.out]; omega) (lenIn_short (by rw [HN.out]; omega) (by rw [HN.out, HRL.out]; omega)) (by decide))
      subst hfin
      go_wp2_with fail
      have hr := put3 HR.out.row (.bool false) (.slice none 0 0) (.slice none 0 0)
      refine bodyPost_ret (results_row3 Try.results70 _ _ w.heap.size _ _ _ rfl hr) rfl ?_
      exact ⟨below3 HR.out.bel (Nat.le_refl _) _ _ _, rfl, by decide⟩
    have hshi : ¬ (j : Int) - (i + 1) < K := by omega
    go_wp2_with fail
    go_loopw [13, 15] (fun p q v' => ∃ u : Nat, u ≤ K ∧ q = .int .i64 u ∧ p = .int .i64 (val ((pc b (i + 1) j).take u) : Nat) ∧ v' = v) (fun _ q _ => K - (intOf q).toNat)
    case atStart => exact ⟨0, by omega, rfl, rfl, rfl⟩
    case round =>
      obtain ⟨u, hu, rfl, rfl, rfl⟩ := hrel
      have hrl := HRL.out
      by_cases hlt2 : u < K
      · have hui : (u : Int) < K := by omega
        have hcu := below_cell HR.out.bel (HC.out (i + 1 + u) (by omega))
        rw [← pc_get (b := b) (i := i + 1) (j := j) (k := u) (by omega) (by rw [HA.out.l]; omega)] at hcu
        obtain ⟨v1, v2⟩ := val_take HRB.out (j := u) (by omega) (by omega)
        have v3 := val_take HRB.out (j := u + 1) (by omega) (by omega)
        have hvs := val_succ (b := pc b (i + 1) j) (j := u) (by omega)
        have hxx := HRB.out ((pc b (i + 1) j).getD u 0) (by rw [List.getD, List.getElem?_eq_getElem (by omega)]; exact List.getElem_mem _)
        obtain ⟨q, hq⟩ : ∃ q, val ((pc b (i + 1) j).take u) = q := ⟨_, rfl⟩
        obtain ⟨z, hz⟩ : ∃ z, (pc b (i + 1) j).getD u 0 = z := ⟨_, rfl⟩
        rw [hq] at v1 hvs ⊢
        rw [hz] at hcu hxx hvs
        obtain ⟨hz0, hz1⟩ := hxx
        rw [hvs] at v3
        have hq2 : q < 65536 := by omega
        have HV : Hid (((val ((pc b (i + 1) j).take (u + 1)) : Nat) : Int) = 256 * q + z) := Hid.mk (by omega)
        have hnn : (i : Int) + 1 + u < n := by omega
        clear hvs v1 v2 v3 hq hz hrl
        go_wp2_with fail
        exact ⟨⟨u + 1, by omega, by simp, by rw [HV.out], trivial⟩, by simp [intOf]; omega⟩
      · have huK : u = K := by omega
        subst huK
        have hui : ¬ (u : Int) < u := by omega
        obtain ⟨v1, v2⟩ := val_take HRB.out (j := u) (by omega) (by omega)
        have hc0 := below_cell HR.out.bel (HC.out (i + 1) (by omega))
        have hhd : (pc b (i + 1) j).headD 0 = b.getD (i + 1) 0 := by rw [pc_cons (by omega) (by rw [HA.out.l]; omega)]; rfl
        have hz1 := HA.out.b (b.getD (i + 1) 0) (by rw [List.getD, List.getElem?_eq_getElem (by rw [HA.out.l]; omega)]; exact List.getElem_mem _)
        have hform := fun h => rd1_bad (g := gg) (hd_bad HND.out (x := x) (by omega) (by rw [HN.out]; omega) (lenIn_form (r := pc b (i + 1) j) (by rw [HN.out]; omega) (by rw [HN.out, HRL.out]; omega) h) (show 23 ≠ 0 by decide))
        have hmore := hd_more (x := x) HRB.out HND.out (by omega) (by rw [HN.out]; omega) (by rw [HN.out]; omega) (by rw [HN.out, HRL.out]; omega)
        rw [← HRES.out] at hform
        rw [HN.out, show 55 + u - 55 = u from by omega, hhd] at hform hmore
        obtain ⟨q, hq⟩ : ∃ q, val ((pc b (i + 1) j).take u) = q := ⟨_, rfl⟩
        obtain ⟨z, hz⟩ : ∃ z, b.getD (i + 1) 0 = z := ⟨_, rfl⟩
        rw [hq] at v1 hform hmore ⊢
        rw [hz] at hc0 hz1 hform hmore
        have hq24 : q < 16777216 := by omega
        have hnn : (i : Int) + 1 < n := by omega
        have HFO := Hid.mk hform
        have HMO := Hid.mk hmore
        clear hq hz hhd hrl v1 v2 hform hmore
        by_cases hz0 : z = 0
        · have hfin : res = .bad 23 := HFO.out (.inl hz0)
          subst hfin hz0
          clear hz1
          go_wp2_with fail
          have hr := put3 HR.out.row (.bool false) (.slice none 0 0) (.slice none 0 0)
          refine bodyPost_ret (results_row3 Try.results70 _ _ w.heap.size _ _ _ rfl hr) rfl ?_
          exact ⟨below3 HR.out.bel (Nat.le_refl _) _ _ _, rfl, by decide⟩
        · have hzb : (z == 0) = false := by rw [beq_eq_false_iff_ne]; exact hz0
          by_cases hq55 : q < 56
          · have hfin : res = .bad 23 := HFO.out (.inr (by omega))
            have hqi : (q : Int) < 56 := by omega
            subst hfin
            go_wp2_with fail
            have hr := put3 HR.out.row (.bool false) (.slice none 0 0) (.slice none 0 0)
            refine bodyPost_ret (results_row3 Try.results70 _ _ w.heap.size _ _ _ rfl hr) rfl ?_
            exact ⟨below3 HR.out.bel (Nat.le_refl _) _ _ _, rfl, by decide⟩
          · have hqi : ¬ (q : Int) < 56 := by omega
            have HMM := Hid.mk (HMO.out (by rintro (h | h); exact hz0 h; omega))
            go_wp2_with fail
            go_meet
            case rel => exact ⟨1 + u, q, by simp; omega, rfl, HMM.out, rfl⟩
  case rest =>
    obtain ⟨f, L, rfl, rfl, H, rfl⟩ := hcut
    have heq := H.eq
    have hf1 := H.f1
    have hf4 := H.f4
    have hL24 := H.L24
    have hiff := H.iff
    have hfle := H.fle
    rw [HRL.out] at heq hfle
    have hpc : x :: pc b (i + 1) j = pc b i j := by rw [pc_cons (b := b) (i := i) hij (by rw [HA.out.l]; omega), HX.out]
    clear H hcell
    by_cases hsh : (j - (i + 1) + 1) - f < L
    · rw [if_pos hsh] at heq
      have hfin : res = .bad 22 := by rw [HRES.out]; exact rd1_bad heq
      subst hfin
      have hshi : (j : Int) - ((i + f : Nat) : Int) < L := by omega
      clear heq hpc
      go_wp2_with fail
      have hr := put3 HR.out.row (.bool false) (.slice none 0 0) (.slice none 0 0)
      refine bodyPost_ret (results_row3 Try.results70 _ _ w.heap.size _ _ _ rfl hr) rfl ?_
      exact ⟨below3 HR.out.bel (Nat.le_refl _) _ _ _, rfl, by decide⟩
    rw [if_neg hsh] at heq
    have hshi : ¬ (j : Int) - ((i + f : Nat) : Int) < L := by omega
    have hfjn : i + f + L ≤ j := by omega
    have hri := HRES.out
    unfold rd1 at hri
    rw [heq] at hri
    simp only at hri
    rw [hpc, pc_sub (by omega)] at hri
    have hhd : (pc b i j).headD 0 = x := by rw [← hpc]; rfl
    rw [hhd] at hri
    have hsub := ag_sub (HA.out.at HR.out.bel) (f := i + f) (t := i + (f + L)) (by omega) (by omega)
    rw [show i + (f + L) - (i + f) = L from by omega] at hsub
    clear heq hhd hsh
    rw [if_pos hhi] at hri
    have hget : (pc b i j).getD 1 0 = b.getD (i + 1) 0 ∨ ¬ (f = 1 ∧ f + L = 2) := by
      by_cases h1 : f = 1 ∧ f + L = 2
      · exact .inl (pc_get (by omega) (by rw [HA.out.l]; omega))
      · exact .inr h1
    by_cases hone : f = 1 ∧ f + L = 2 ∧ (pc b i j).getD 1 0 < 128
    · rw [if_pos hone] at hri
      obtain ⟨o1, o2, o3⟩ := hone
      have oL : L = 1 := by omega
      rw [hget.resolve_right (fun h => h ⟨o1, o2⟩)] at o3
      subst o1 oL hri
      have hc0 := below_cell HR.out.bel (HC.out (i + 1) (by omega))
      have hz1 := (HA.out.b (b.getD (i + 1) 0) (by rw [List.getD, List.getElem?_eq_getElem (by rw [HA.out.l]; omega)]; exact List.getElem_mem _)).1
      generalize b.getD (i + 1) 0 = z at *
      have hnn : ((i + 1 : Nat) : Int) < n := by omega
      clear hsub hget hpc hiff
      go_wp2_with fail
      have hr := put3 HR.out.row (.bool false) (.slice none 0 0) (.slice none 0 0)
      refine bodyPost_ret (results_row3 Try.results70 _ _ w.heap.size _ _ _ rfl hr) rfl ?_
      exact ⟨below3 HR.out.bel (Nat.le_refl _) _ _ _, rfl, by decide⟩
    rw [if_neg hone] at hri
    have HRI := Hid.mk hri
    have hib : ((i + f : Nat) : Int) ≤ ((i + f : Nat) : Int) + L := by omega
    have hib2 : ((i + f : Nat) : Int) + L ≤ n := by omega
    have hcz : ¬ L = 1 ∨ (L = 1 ∧ f = 1 ∧ ¬ b.getD (i + 1) 0 < 128) := by
      by_cases hL1 : L = 1
      · have hf : f = 1 := hiff.2 (by omega)
        refine .inr ⟨hL1, hf, fun h => hone ⟨hf, by omega, ?_⟩⟩
        rw [hget.resolve_right (fun h => h ⟨hf, by omega⟩)]
        exact h
      · exact .inl hL1
    have hcp := copied_any _ L _ _ _ hsub (by omega)
    have HCP := Hid.mk hcp
    clear hcp
    clear hri hone hget hsub hiff hpc
    have hout : ∀ (a' : Option Addr) (c' : Nat) (w2 : World), Ag w2 a' L c' (pc b (i + f) (i + (f + L))) → (∀ g off, a' = some ⟨g, off, none⟩ → wc.heap.size ≤ g ∧ ∀ o, w2.frozen? ⟨g, o, none⟩ = false) → Below wc.heap.size wc w2 → FPost w i res (.returned (.tuple #[.agg #[.bool false, .slice a' L c', .slice none 0 0], .int .i64 (((i + f : Nat) : Int) + L), .int .i64 0])) (((w2.setCell ⟨w.heap.size, 0, none⟩ (.bool false)).setCell ⟨w.heap.size, 1, none⟩ (.slice a' L c')).setCell ⟨w.heap.size, 2, none⟩ (.slice none 0 0)) := by
      intro a' c' w2 h1 h2 h3
      rw [HRI.out]
      have hz := HR.out.bel.size
      have hz2 := lt_of_get HR.out.row
      refine ⟨below3 (below_go HR.out.bel h3) (Nat.le_refl _) _ _ _, ⟨false, a', L, c', none, 0, 0⟩, by simp; omega, ?_⟩
      refine liesP_eq.2 ⟨⟨rfl, ag_keep h1 (fun g off e _ _ => other3 (by have := (h2 g off e).1; omega) _ _ _), rfl, Nat.le_refl _, by show 0 ≤ maxLen; unfold maxLen; omega, ⟨by show L ≤ 140737488351232; omega, by show 0 ≤ 140737488351232; omega⟩, fun g off e _ => ⟨Nat.le_trans hz (h2 g off e).1, fun o => by rw [World.frozen?_setCell, World.frozen?_setCell, World.frozen?_setCell]; exact (h2 g off e).2 o⟩⟩, liesPAll_nil⟩
    have HOUT := Hid.mk hout
    clear hout
    clear x0 x1 x2 xf
    rcases hcz with hL1 | ⟨rfl, rfl, hz128⟩
    · have hLb : ((L : Int) == 1) = false := by rw [beq_eq_false_iff_ne]; omega
      by_cases hck : c = i + f
      · rw [if_pos hck] at HCP
        subst hck
        rw [Nat.sub_self] at HCP
        go_wp2_with fail
        refine HCP.out.mono ?_
        rintro e w2 ⟨⟨a', c', rfl, h1, h2⟩, h3⟩
        have R2 := HR.out.call h3
        have x0 := R2.x0
        have x1 := R2.x1
        have x2 := R2.x2
        have xf := R2.xf
        have HFI := Hid.mk (HOUT.out a' c' w2 h1 h2 h3)
        have HR2 := Hid.mk R2
        clear R2 h1 h2 h3 HCP
        go_wp2_with fail
        have hr := put3 HR2.out.row (.bool false) (.slice a' L c') (.slice none 0 0)
        refine bodyPost_ret (results_row3 Try.results70 _ _ w.heap.size _ _ _ rfl hr) rfl ?_
        exact HFI.out
      · rw [if_neg hck] at HCP
        go_wp2_with fail
        refine HCP.out.mono ?_
        rintro e w2 ⟨⟨a', c', rfl, h1, h2⟩, h3⟩
        have R2 := HR.out.call h3
        have x0 := R2.x0
        have x1 := R2.x1
        have x2 := R2.x2
        have xf := R2.xf
        have HFI := Hid.mk (HOUT.out a' c' w2 h1 h2 h3)
        have HR2 := Hid.mk R2
        clear R2 h1 h2 h3 HCP
        go_wp2_with fail
        have hr := put3 HR2.out.row (.bool false) (.slice a' L c') (.slice none 0 0)
        refine bodyPost_ret (results_row3 Try.results70 _ _ w.heap.size _ _ _ rfl hr) rfl ?_
        exact HFI.out
    · have hnn : ((i + 1 : Nat) : Int) < n := by omega
      have hck : ¬ c = i + 1 := by omega
      have hc0 := below_cell HR.out.bel (HC.out (i + 1) (by omega))
      have hz1 := (HA.out.b (b.getD (i + 1) 0) (by rw [List.getD, List.getElem?_eq_getElem (by rw [HA.out.l]; omega)]; exact List.getElem_mem _))
      generalize b.getD (i + 1) 0 = z at *
      have hz128 : ¬ z < 128 := hz128
      · rw [if_neg hck] at HCP
        go_wp2_with fail
        refine HCP.out.mono ?_
        rintro e w2 ⟨⟨a', c', rfl, h1, h2⟩, h3⟩
        have R2 := HR.out.call h3
        have x0 := R2.x0
        have x1 := R2.x1
        have x2 := R2.x2
        have xf := R2.xf
        have HFI := Hid.mk (HOUT.out a' c' w2 h1 h2 h3)
        have HR2 := Hid.mk R2
        clear R2 h1 h2 h3 HCP
        go_wp2_with fail
        have hr := put3 HR2.out.row (.bool false) (.slice a' 1 c') (.slice none 0 0)
        refine bodyPost_ret (results_row3 Try.results70 _ _ w.heap.size _ _ _ rfl hr) rfl ?_
        exact HFI.out
end Go.Proofs.Ytmofehloiiopfaa
/- What the document's first answers, for bytes that begin with a list. -/
namespace Go.Proofs.Ytmofehloiiopfaa
open Go.RowKit
set_option linter.unusedVariables false
set_option maxRecDepth 100000
set_option maxRecDepth 20000 in
set_option maxHeartbeats 4000000 in
theorem rfirst_list (gg : List Int → R) (a : Option Addr) (n c i j d : Nat) (w : World) (b : List Int) (h : Ag w a n c b) (hn : n ≤ 140737488351232) (hij : i < j) (hj : j ≤ n) (hd : d ≤ 8) (x : Int) (hx : b.getD i 0 = x) (hlo : 192 ≤ x) (hd8 : d < 8)
    (hitems : ∀ (a : Option Addr) (n c : Nat) (b : List Int) (w : World), Ag w a n c b → n ≤ 140737488351232 → ∀ i j : Nat, i ≤ j → j ≤ n → j - i < 16777216 → Calls Try.prog 80 #[.slice a n c, .int .i64 i, .int .i64 j, .int .i64 (d + 1 : Nat)] w (GPost w j (rdAll gg (pc b i j).length (pc b i j))))
    (hgg : ∀ b t m, gg b = .ok t m → 1 ≤ m ∧ m ≤ b.length) (res : R)
    (hres : res = rd1 gg (decide (d = 8)) (x :: pc b (i + 1) j)) :
    Calls Try.prog 70 #[.slice a n c, .int .i64 i, .int .i64 j, .int .i64 d] w (FPost w i res) := by
  obtain ⟨g, off, rfl, hc1, hc2, hc⟩ := ag_head h (by omega)
  unfold maxLen at hc2
  have hcell := hc i (by omega)
  rw [hx] at hcell
  have hbl := h.l
  have hx256 := (h.b x (by rw [← hx, List.getD, List.getElem?_eq_getElem (by omega)]; exact List.getElem_mem _)).2
  have hlt : (i : Int) < j := by omega
  have hin : (i : Int) < n := by omega
  have hrl := pc_len (b := b) (i := i + 1) (j := j) (by omega)
  have hrb : ∀ y ∈ pc b (i + 1) j, 0 ≤ y ∧ y < 256 := fun y hy => h.b y (pc_mem hy)
  have hnd : ¬ (192 ≤ x ∧ decide (d = 8) = true) := by simp; omega
  have hn128 : ¬ x < 128 := by omega
  obtain ⟨N, hN⟩ : ∃ N, nOf x = N := ⟨_, rfl⟩
  have hNx : x - 192 = N := by
    rw [← hN]; unfold nOf
    rw [if_pos (by omega)]; omega
  have hN63 : N ≤ 63 := by omega
  have HX := Hid.mk hx
  have HC := Hid.mk hc
  have HA := Hid.mk h
  have HRL := Hid.mk hrl
  have HRB := Hid.mk hrb
  have HND := Hid.mk hnd
  have HN := Hid.mk hN
  have HRES := Hid.mk hres
  have HIT := Hid.mk hitems
  have HGG := Hid.mk hgg
  clear hitems hgg
  clear hx hc h hrl hrb hnd hN hres hbl
  go_enter Try.func70, Try.ntmps70
  go_upto_if 18 with fail
  have hbw := (Rb.new w).bel
  refine gen_w (p := fun v => Code.wp _ _ _ _ v) (q := Rb w) (Rb.new w) ?_
  clear hbw
  intro v R
  replace hcell := below_cell R.bel hcell
  have x0 := R.x0
  have x1 := R.x1
  have x2 := R.x2
  have xf := R.xf
  have HR := Hid.mk R
  clear R
  by_cases h58 : N > 58
  · have h58i : (N : Int) > 58 := by omega
    have hfin : res = .bad 23 := by rw [HRES.out]; exact rd1_bad (hd_bad HND.out hn128 (by rw [HN.out]; omega) (lenIn_long (by rw [HN.out]; omega)) (by decide))
    subst hfin
    go_wp2_with fail
    have hr := put3 HR.out.row (.bool false) (.slice none 0 0) (.slice none 0 0)
    refine bodyPost_ret (results_row3 Try.results70 _ _ w.heap.size _ _ _ rfl hr) rfl ?_
    exact ⟨below3 HR.out.bel (Nat.le_refl _) _ _ _, rfl, by decide⟩
  have h58i : ¬ (N : Int) > 58 := by omega
  go_upto_if 54 with fail
  go_cut [1, 13] (fun p q v' => ∃ f L : Nat, p = .int .i64 (i + f : Nat) ∧ q = .int .i64 L ∧ Hd (decide (d = 8)) x (pc b (i + 1) j) f L ∧ v' = v)
  case first =>
    by_cases h55 : N > 55
    case neg =>
      have h55i : ¬ (N : Int) > 55 := by omega
      go_wp2_with fail
      go_meet
      case rel =>
        have := hd_one (r := pc b (i + 1) j) HND.out (by omega) (by rw [HN.out]; omega)
        rw [HN.out] at this
        exact ⟨1, N, by simp, rfl, this, rfl⟩
    have h55i : (N : Int) > 55 := by omega
    obtain ⟨K, hK⟩ : ∃ K, N = 55 + K := ⟨N - 55, by omega⟩
    subst hK
    have hK3 : K ≤ 3 := by omega
    have hK1 : 1 ≤ K := by omega
    have hKi : ((55 + K : Nat) : Int) - 55 = K := by omega
    by_cases hsh : j - (i + 1) < K
    · have hshi : (j : Int) - (i + 1) < K := by omega
      have hfin : res = .bad 22 := by rw [HRES.out]; exact rd1_bad (hd_bad HND.out hn128 (by rw [HN.out]; omega) (lenIn_short (by rw [HN.out]; omega) (by rw [HN.out, HRL.out]; omega)) (by decide))
      subst hfin
      go_wp2_with fail
      have hr := put3 HR.out.row (.bool false) (.slice none 0 0) (.slice none 0 0)
      refine bodyPost_ret (results_row3 Try.results70 _ _ w.heap.size _ _ _ rfl hr) rfl ?_
      exact ⟨below3 HR.out.bel (Nat.le_refl _) _ _ _, rfl, by decide⟩
    have hshi : ¬ (j : Int) - (i + 1) < K := by omega
    go_wp2_with fail
    go_loopw [13, 15] (fun p q v' => ∃ u : Nat, u ≤ K ∧ q = .int .i64 u ∧ p = .int .i64 (val ((pc b (i + 1) j).take u) : Nat) ∧ v' = v) (fun _ q _ => K - (intOf q).toNat)
    case atStart => exact ⟨0, by omega, rfl, rfl, rfl⟩
    case round =>
      obtain ⟨u, hu, rfl, rfl, rfl⟩ := hrel
      have hrl := HRL.out
      by_cases hlt2 : u < K
      · have hui : (u : Int) < K := by omega
        have hcu := below_cell HR.out.bel (HC.out (i + 1 + u) (by omega))
        rw [← pc_get (b := b) (i := i + 1) (j := j) (k := u) (by omega) (by rw [HA.out.l]; omega)] at hcu
        obtain ⟨v1, v2⟩ := val_take HRB.out (j := u) (by omega) (by omega)
        have v3 := val_take HRB.out (j := u + 1) (by omega) (by omega)
        have hvs := val_succ (b := pc b (i + 1) j) (j := u) (by omega)
        have hxx := HRB.out ((pc b (i + 1) j).getD u 0) (by rw [List.getD, List.getElem?_eq_getElem (by omega)]; exact List.getElem_mem _)
        obtain ⟨q, hq⟩ : ∃ q, val ((pc b (i + 1) j).take u) = q := ⟨_, rfl⟩
        obtain ⟨z, hz⟩ : ∃ z, (pc b (i + 1) j).getD u 0 = z := ⟨_, rfl⟩
        rw [hq] at v1 hvs ⊢
        rw [hz] at hcu hxx hvs
        obtain ⟨hz0, hz1⟩ := hxx
        rw [hvs] at v3
        have hq2 : q < 65536 := by omega
        have HV : Hid (((val ((pc b (i + 1) j).take (u + 1)) : Nat) : Int) = 256 * q + z) := Hid.mk (by omega)
        have hnn : (i : Int) + 1 + u < n := by omega
        clear hvs v1 v2 v3 hq hz hrl
        go_wp2_with fail
        exact ⟨⟨u + 1, by omega, by simp, by rw [HV.out], trivial⟩, by simp [intOf]; omega⟩
      · have huK : u = K := by omega
        subst huK
        have hui : ¬ (u : Int) < u := by omega
        obtain ⟨v1, v2⟩ := val_take HRB.out (j := u) (by omega) (by omega)
        have hc0 := below_cell HR.out.bel (HC.out (i + 1) (by omega))
        have hhd : (pc b (i + 1) j).headD 0 = b.getD (i + 1) 0 := by rw [pc_cons (by omega) (by rw [HA.out.l]; omega)]; rfl
        have hz1 := HA.out.b (b.getD (i + 1) 0) (by rw [List.getD, List.getElem?_eq_getElem (by rw [HA.out.l]; omega)]; exact List.getElem_mem _)
        have hform := fun h => rd1_bad (g := gg) (hd_bad HND.out (x := x) (by omega) (by rw [HN.out]; omega) (lenIn_form (r := pc b (i + 1) j) (by rw [HN.out]; omega) (by rw [HN.out, HRL.out]; omega) h) (show 23 ≠ 0 by decide))
        have hmore := hd_more (x := x) HRB.out HND.out (by omega) (by rw [HN.out]; omega) (by rw [HN.out]; omega) (by rw [HN.out, HRL.out]; omega)
        rw [← HRES.out] at hform
        rw [HN.out, show 55 + u - 55 = u from by omega, hhd] at hform hmore
        obtain ⟨q, hq⟩ : ∃ q, val ((pc b (i + 1) j).take u) = q := ⟨_, rfl⟩
        obtain ⟨z, hz⟩ : ∃ z, b.getD (i + 1) 0 = z := ⟨_, rfl⟩
        rw [hq] at v1 hform hmore ⊢
        rw [hz] at hc0 hz1 hform hmore
        have hq24 : q < 16777216 := by omega
        have hnn : (i : Int) + 1 < n := by omega
        have HFO := Hid.mk hform
        have HMO := Hid.mk hmore
        clear hq hz hhd hrl v1 v2 hform hmore
        by_cases hz0 : z = 0
        · have hfin : res = .bad 23 := HFO.out (.inl hz0)
          subst hfin hz0
          clear hz1
          go_wp2_with fail
          have hr := put3 HR.out.row (.bool false) (.slice none 0 0) (.slice none 0 0)
          refine bodyPost_ret (results_row3 Try.results70 _ _ w.heap.size _ _ _ rfl hr) rfl ?_
          exact ⟨below3 HR.out.bel (Nat.le_refl _) _ _ _, rfl, by decide⟩
        · have hzb : (z == 0) = false := by rw [beq_eq_false_iff_ne]; exact hz0
          by_cases hq55 : q < 56
          · have hfin : res = .bad 23 := HFO.out (.inr (by omega))
            have hqi : (q : Int) < 56 := by omega
            subst hfin
            go_wp2_with fail
            have hr := put3 HR.out.row (.bool false) (.slice none 0 0) (.slice none 0 0)
            refine bodyPost_ret (results_row3 Try.results70 _ _ w.heap.size _ _ _ rfl hr) rfl ?_
            exact ⟨below3 HR.out.bel (Nat.le_refl _) _ _ _, rfl, by decide⟩
          · have hqi : ¬ (q : Int) < 56 := by omega
            have HMM := Hid.mk (HMO.out (by rintro (h | h); exact hz0 h; omega))
            go_wp2_with fail
            go_meet
            case rel => exact ⟨1 + u, q, by simp; omega, rfl, HMM.out, rfl⟩
  case rest =>
    obtain ⟨f, L, rfl, rfl, H, rfl⟩ := hcut
    have heq := H.eq
    have hf1 := H.f1
    have hf4 := H.f4
    have hL24 := H.L24
    have hiff := H.iff
    have hfle := H.fle
    rw [HRL.out] at heq hfle
    have hpc : x :: pc b (i + 1) j = pc b i j := by rw [pc_cons (b := b) (i := i) hij (by rw [HA.out.l]; omega), HX.out]
    clear H hcell
    by_cases hsh : (j - (i + 1) + 1) - f < L
    · rw [if_pos hsh] at heq
      have hfin : res = .bad 22 := by rw [HRES.out]; exact rd1_bad heq
      subst hfin
      have hshi : (j : Int) - ((i + f : Nat) : Int) < L := by omega
      clear heq hpc
      go_wp2_with fail
      have hr := put3 HR.out.row (.bool false) (.slice none 0 0) (.slice none 0 0)
      refine bodyPost_ret (results_row3 Try.results70 _ _ w.heap.size _ _ _ rfl hr) rfl ?_
      exact ⟨below3 HR.out.bel (Nat.le_refl _) _ _ _, rfl, by decide⟩
    rw [if_neg hsh] at heq
    have hshi : ¬ (j : Int) - ((i + f : Nat) : Int) < L := by omega
    have hfjn : i + f + L ≤ j := by omega
    have hri := HRES.out
    unfold rd1 at hri
    rw [heq] at hri
    simp only at hri
    rw [hpc, pc_sub (by omega)] at hri
    have hhd : (pc b i j).headD 0 = x := by rw [← hpc]; rfl
    rw [hhd] at hri
    have hsub := ag_sub (HA.out.at HR.out.bel) (f := i + f) (t := i + (f + L)) (by omega) (by omega)
    rw [show i + (f + L) - (i + f) = L from by omega] at hsub
    clear heq hhd hsh
    rw [if_neg (by omega)] at hri
    have hit := HIT.out _ n c b wc (HA.out.at HR.out.bel) hn (i + f) (i + (f + L)) (by omega) (by omega) (by omega)
    rw [show ((i + (f + L) : Nat) : Int) = ((i + f : Nat) : Int) + L from by omega, show ((d + 1 : Nat) : Int) = (d : Int) + 1 from by omega] at hit
    have hln := fun ts h => rdAll_len HGG.out (pc b (i + f) (i + (f + L))).length (pc b (i + f) (i + (f + L))) ts h
    rw [pc_len (by rw [HA.out.l]; omega)] at hln
    have HLN := Hid.mk hln
    have HIC := Hid.mk hit
    have HRI := Hid.mk hri
    clear hit hri hsub hiff hpc HIT hln x0 x1 x2 xf
    go_wp2_with fail
    refine HIC.out.mono ?_
    rintro e w2 ⟨h3, hm⟩
    have R2 := HR.out.call h3
    have x0 := R2.x0
    have x1 := R2.x1
    have x2 := R2.x2
    have xf := R2.xf
    have HR2 := Hid.mk R2
    have H3 := Hid.mk h3
    have hz := HR.out.bel.size
    have hz2 := lt_of_get HR.out.row
    clear R2 h3 HIC
    cases hr : rdAll gg (pc b (i + f) (i + (f + L))).length (pc b (i + f) (i + (f + L))) with
    | bad er =>
      rw [hr] at hm
      obtain ⟨rfl, her⟩ := hm
      have hfin := HRI.out
      rw [hr] at hfin
      simp only at hfin
      subst hfin
      clear hr
      go_wp2_with fail
      have hr := put3 HR2.out.row (.bool false) (.slice none 0 0) (.slice none 0 0)
      refine bodyPost_ret (results_row3 Try.results70 _ _ w.heap.size _ _ _ rfl hr) rfl ?_
      exact ⟨below3 HR2.out.bel (Nat.le_refl _) _ _ _, rfl, her⟩
    | ok ts =>
      rw [hr] at hm
      obtain ⟨ia, ic, rfl, q1, q2, q3⟩ := hm
      have hfin := HRI.out
      rw [hr] at hfin
      simp only at hfin
      subst hfin
      have htl := HLN.out ts (by rw [pc_len (by rw [HA.out.l]; omega)] at hr; exact hr)
      have HQ := Hid.mk q3
      clear hr q3
      go_wp2_with fail
      have hr := put3 HR2.out.row (.bool true) (.slice none 0 0) (.slice ia ts.length ic)
      refine bodyPost_ret (results_row3 Try.results70 _ _ w.heap.size _ _ _ rfl hr) rfl ?_
      refine ⟨below3 HR2.out.bel (Nat.le_refl _) _ _ _, ⟨true, none, 0, 0, ia, ts.length, ic⟩, by simp, ?_⟩
      refine liesP_list q1 q2 (by omega) (liesPAll_mono (fun b (hb : wc.heap.size ≤ b) hlt => ⟨other3 (by omega) _ _ _, by omega⟩) (fun u _ => liesP_mono (fun b (hb : wc.heap.size ≤ b) hlt => ⟨other3 (by omega) _ _ _, by omega⟩) u) HQ.out)
end Go.Proofs.Ytmofehloiiopfaa
/- What the document's items answers, by what first answers. -/
namespace Go.Proofs.Ytmofehloiiopfaa
open Go.RowKit
set_option linter.unusedVariables false
set_option maxRecDepth 100000
/-- The same cell is set in two worlds. -/
theorem below_set {N : Nat} {u v : World} (h : Below N u v) {g o t : Nat} {cs : Array Value} (hg : g < N) (hu : u.heap[g]? = some (.cells cs t)) (x : Value) : Below N (u.setCell ⟨g, o, none⟩ x) (v.setCell ⟨g, o, none⟩ x) := by
  have hgb := (h.block g hg).trans hu
  refine ⟨h.os, h.tape, h.output, by simpa using h.size, fun k hk => ?_⟩
  by_cases e : k = g
  · subst e
    rw [heap_setCell_same u k o _ t x hu, heap_setCell_same v k o _ t x hgb]
  · rw [heap_setCell_other _ _ _ _ e, heap_setCell_other _ _ _ _ e]
    exact h.block k hk
/-- While items goes on: the result's block, the box of the list, what is gathered. -/
structure Ib (w v U : World) (it : Value) (ts : List T) (ys : List V) : Prop where
  sz : U.heap.size = w.heap.size + 2
  res : U.heap[w.heap.size]? = some (.cells #[.bool false, .slice none 0 0, .slice none 0 0] 45)
  box : U.heap[w.heap.size + 1]? = some (.cells #[.bool true, .slice none 0 0, it] 45)
  bw : Below w.heap.size w U
  bel : Below U.heap.size U v
  own : OwnI v U.heap.size it ys
  all : AllP (fun b => U.heap.size ≤ b ∧ it.ownBlock ≠ some b) v ts ys
theorem ib_new (w : World) : Ib w ((w.alloc (.cells #[.bool false, .slice none 0 0, .slice none 0 0] 45)).alloc (.cells #[.bool true, .slice none 0 0, .slice none 0 0] 45)) ((w.alloc (.cells #[.bool false, .slice none 0 0, .slice none 0 0] 45)).alloc (.cells #[.bool true, .slice none 0 0, .slice none 0 0] 45)) (.slice none 0 0) [] [] :=
  ⟨by simp, (Below.heap_alloc _ _ _ (by simp)).trans (heap_alloc_new _ _), heap_alloc2_new _ _ _, ((Below.refl _ _).alloc (Nat.le_refl _) _).alloc (by simp) _, Below.refl _ _, World.ownsRow_nil _ _ _ _, trivial⟩
/-- One thing more. -/
theorem ib_step {w v U w1 : World} {it : Value} {ts : List T} {ys : List V} {y : V} {t : T} (h : Ib w v U it ts ys) (hb1 : Below v.heap.size v w1) (hy : LiesP (fun b => v.heap.size ≤ b) w1 t y) (hlen : ys.length ≤ 1000000000) (ty : TypeId) :
    ∃ it' w3, (Builtin.append_ #[43, 43] ty #[it, .slice (some ⟨w1.heap.size + 1, 0, none⟩) 1 1]).run Try.prog ((w1.alloc (.cells #[.bool y.l, .slice y.ba y.bn y.bc, .slice y.ia y.m y.ic] 45)).alloc (.cells #[.bool y.l, .slice y.ba y.bn y.bc, .slice y.ia y.m y.ic] 45)) = .ok it' w3 ∧
      Below U.heap.size U w3 ∧ Ib w (w3.setCell ⟨w.heap.size + 1, 2, none⟩ it') (U.setCell ⟨w.heap.size + 1, 2, none⟩ it') it' (ts ++ [t]) (ys ++ [y]) := by
  obtain ⟨it', w3, hrun, s1, s2, s3⟩ := round_step h.own h.all h.bel hb1 hy hlen ty
  have hs := h.sz
  refine ⟨it', w3, hrun, s3, ⟨by simpa using hs, (heap_setCell_other _ _ _ _ (show w.heap.size ≠ w.heap.size + 1 by omega)).trans h.res, ?_, h.bw.setCell (by simp) _, ?_, ?_, ?_⟩⟩
  · have := heap_setCell_same U (w.heap.size + 1) 2 _ 45 it' h.box
    simpa using this
  · have := below_set s3 (g := w.heap.size + 1) (o := 2) (by omega) h.box it'
    simpa using this
  · have e : (U.setCell ⟨w.heap.size + 1, 2, none⟩ it').heap.size = U.heap.size := by simp
    rw [e]
    exact own_keep s1 (fun g hg _ => heap_setCell_other _ _ _ _ (show g ≠ w.heap.size + 1 by have := (own_lt s1 hg).1; omega))
  · have e : (U.setCell ⟨w.heap.size + 1, 2, none⟩ it').heap.size = U.heap.size := by simp
    rw [e]
    exact s2.mono fun b hb _ => ⟨heap_setCell_other _ _ _ _ (show b ≠ w.heap.size + 1 by have := hb.1; omega), hb⟩
theorem own_slice {w : World} {base : Nat} {v : Value} {ys : List V} (h : OwnI w base v ys) : ∃ a n c, v = .slice a n c := by
  rcases h.2 with ⟨h2, _⟩ | ⟨g, cap, cur, hv, _⟩
  · exact ⟨_, _, _, h2⟩
  · exact ⟨_, _, _, hv⟩
theorem Ib.cells {w v U : World} {it : Value} {ts : List T} {ys : List V} (h : Ib w v U it ts ys) {v' : World} (hb : Below U.heap.size U v') :
    (∀ o, v'.frozen? ⟨w.heap.size, o, none⟩ = false) ∧ (∀ o, v'.frozen? ⟨w.heap.size + 1, o, none⟩ = false) ∧ v'.cell? ⟨w.heap.size, 0, none⟩ = some (.bool false) ∧ v'.cell? ⟨w.heap.size, 1, none⟩ = some (.slice none 0 0) ∧ v'.cell? ⟨w.heap.size, 2, none⟩ = some (.slice none 0 0) ∧ v'.cell? ⟨w.heap.size + 1, 0, none⟩ = some (.bool true) ∧ v'.cell? ⟨w.heap.size + 1, 1, none⟩ = some (.slice none 0 0) ∧ v'.cell? ⟨w.heap.size + 1, 2, none⟩ = some it := by
  have r1 := Below.row hb h.res
  have r2 := Below.row hb h.box
  exact ⟨fun o => frozen_of_row _ _ _ _ _ r1, fun o => frozen_of_row _ _ _ _ _ r2, by rw [cell_of_row _ _ _ _ _ _ r1]; rfl, by rw [cell_of_row _ _ _ _ _ _ r1]; rfl, by rw [cell_of_row _ _ _ _ _ _ r1]; rfl, by rw [cell_of_row _ _ _ _ _ _ r2]; rfl, by rw [cell_of_row _ _ _ _ _ _ r2]; rfl, by rw [cell_of_row _ _ _ _ _ _ r2]; rfl⟩
set_option maxHeartbeats 4000000 in
theorem ritems_any (k : Nat) (hfirst : FSaid k) (a : Option Addr) (n c : Nat) (b : List Int) (w : World) (h : Ag w a n c b) (hn : n ≤ 140737488351232) (i j d : Nat) (hij : i ≤ j) (hj : j ≤ n) (hl : j - i < 16777216) (hd : d + k = 8) :
    Calls Try.prog 80 #[.slice a n c, .int .i64 i, .int .i64 j, .int .i64 d] w (GPost w j (rdAll (rd k) (pc b i j).length (pc b i j))) := by
  have HF := Hid.mk hfirst
  have HA := Hid.mk h
  obtain ⟨res, hres⟩ : ∃ r, rdAll (rd k) (pc b i j).length (pc b i j) = r := ⟨_, rfl⟩
  rw [hres]
  have HRES := Hid.mk hres
  clear hfirst h hres
  go_enter Try.func80, Try.ntmps80
  go_wp2_with fail
  go_loopw [1] (fun p v => ∃ (q : Nat) (U : World) (it : Value) (ts : List T) (ys : List V), p = .int .i64 q ∧ i ≤ q ∧ q ≤ j ∧ ts.length ≤ q - i ∧ res = RL.pre ts (rdAll (rd k) (pc b q j).length (pc b q j)) ∧ Ib w v U it ts ys) (fun p _ => j - (intOf p).toNat)
  case atStart => exact ⟨i, _, _, [], [], rfl, Nat.le_refl _, hij, by simp, by rw [pre_nil]; exact HRES.out.symm, ib_new w⟩
  case round =>
    obtain ⟨q, U, it, ts, ys, rfl, hiq, hqj, htl, hpre, H⟩ := hrel
    obtain ⟨f1, f2, c0, c1, c2, e0, e1, e2⟩ := H.cells H.bel
    have HH := Hid.mk H
    have HP := Hid.mk hpre
    clear H hpre
    by_cases hlt : q < j
    · have hqi : (q : Int) < j := by omega
      have hcal := HF.out a n c b wr (HA.out.at (below_go HH.out.bw HH.out.bel)) hn q j d (by omega) hj hd
      have HC := Hid.mk hcal
      clear hcal
      go_wp2_with fail
      refine HC.out.mono ?_
      rintro e w1 ⟨hb1, hm⟩
      cases hr : rd k (pc b q j) with
      | bad er =>
        rw [hr] at hm
        obtain ⟨rfl, her⟩ := hm
        have hne : pc b q j ≠ [] := by
          intro e
          have := pc_len (b := b) (i := q) (j := j) (by rw [HA.out.l]; omega)
          rw [e] at this
          simp at this
          omega
        have hfin : res = .bad er := by
          rw [HP.out]
          obtain ⟨u, hu⟩ : ∃ u, (pc b q j).length = u + 1 := ⟨(pc b q j).length - 1, by have := List.length_pos_iff.2 hne; omega⟩
          rw [hu, rdAll_bad hne hr]
          rfl
        subst hfin
        have hee : ((er : Int) != 0) = true := by rw [bne_iff_ne]; omega
        have hb2 := below_go HH.out.bel (below_go hb1 (below_new w1 (.cells #[.bool false, .slice none 0 0, .slice none 0 0] 45)))
        obtain ⟨f1, f2, c0, c1, c2, e0, e1, e2⟩ := HH.out.cells hb2
        have HB2 := Hid.mk (below_go HH.out.bw hb2)
        have HRW := Hid.mk (Below.row hb2 HH.out.res)
        clear hb1 hb2 hr hne HC
        go_wp2_with fail
        have hr := put3 HRW.out (.bool false) (.slice none 0 0) (.slice none 0 0)
        refine bodyPost_ret (results_row3 Try.results80 _ _ w.heap.size _ _ _ rfl hr) rfl ?_
        exact ⟨below3 HB2.out (Nat.le_refl _) _ _ _, rfl, her⟩
      | ok t m =>
        rw [hr] at hm
        obtain ⟨y, rfl, hy⟩ := hm
        have hmn := rd_n hr
        rw [pc_len (by rw [HA.out.l]; omega)] at hmn
        have hyl : ys.length ≤ 1000000000 := by have := HH.out.all.len; omega
        obtain ⟨it', w3, hrun, s3, I2⟩ := ib_step HH.out hb1 hy hyl 43
        obtain ⟨ia', n', ic', rfl⟩ := own_slice I2.own
        have hne : pc b q j ≠ [] := by
          intro e
          have := pc_len (b := b) (i := q) (j := j) (by rw [HA.out.l]; omega)
          rw [e] at this
          simp at this
          omega
        have hpre := pre_snoc (f := rd k) (ts := ts) (fun b t m h => (rd_n h).1) hne hr
        have hdrop : (pc b q j).drop m = pc b (q + m) j := by unfold pc; rw [List.drop_drop]
        rw [hdrop, ← HP.out] at hpre
        have hb2 := below_go HH.out.bel (below_go hb1 (below_new w1 (.cells #[.bool y.l, .slice y.ba y.bn y.bc, .slice y.ia y.m y.ic] 45)))
        have hb3 := below_go hb2 (below_new _ (.cells #[.bool y.l, .slice y.ba y.bn y.bc, .slice y.ia y.m y.ic] 45))
        obtain ⟨f1, f2, c0, c1, c2, e0, e1, e2⟩ := HH.out.cells hb2
        obtain ⟨g1, g2, d0, d1, d2, h0, h1, h2⟩ := HH.out.cells s3
        have HRUN := Hid.mk hrun
        have HI2 := Hid.mk I2
        have HPP := Hid.mk hpre
        clear hb1 hb2 hb3 hr hne HC hy hrun s3 I2 hpre hdrop
        go_wp2_with (first | refine wpl_append rfl _ _ rfl _ _ rfl rfl HRUN.out ?_)
        refine ⟨⟨q + m, _, _, ts ++ [t], ys ++ [y], by simp, by omega, by omega, by rw [List.length_append]; simp; omega, HPP.out, HI2.out⟩, by simp [intOf]; omega⟩
    · have hqe : q = j := by omega
      subst hqe
      have hqi : ¬ (q : Int) < q := by omega
      have hfin := HP.out
      rw [pc_nil (Nat.le_refl _), rdAll_nil] at hfin
      simp only [RL.pre, List.append_nil] at hfin
      subst hfin
      obtain ⟨ia, ic, hit, q1, q2, q3⟩ := own_lies (P := fun b => U.heap.size ≤ b) HH.out.own (HH.out.all.mono fun b hb _ => ⟨rfl, hb.1⟩) (fun g hg => (own_lt HH.out.own hg).1)
      subst hit
      have HQ := Hid.mk q3
      clear q3
      go_wp2_with fail
      have hr := put3 (Below.row HH.out.bel HH.out.res) (.bool true) (.slice none 0 0) (.slice ia ts.length ic)
      refine bodyPost_ret (results_row3 Try.results80 _ _ w.heap.size _ _ _ rfl hr) rfl ?_
      have hs := HH.out.sz
      refine ⟨below3 (below_go HH.out.bw HH.out.bel) (Nat.le_refl _) _ _ _, ia, ic, rfl, q1, q2, ?_⟩
      exact liesPAll_mono (fun b (hb : U.heap.size ≤ b) hlt => ⟨other3 (by omega) _ _ _, by omega⟩) (fun u _ => liesP_mono (fun b (hb : U.heap.size ≤ b) hlt => ⟨other3 (by omega) _ _ _, by omega⟩) u) HQ.out
end Go.Proofs.Ytmofehloiiopfaa
