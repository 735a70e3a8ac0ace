/- What the document's first answers, for bytes that begin with a longer text, or a list. -/
import Derived.Test.YtdkpilgelgjieaaGreatG25
import Derived.Test.YtdkpilgelgjieaaGreatG15
import Derived.Test.YtdkpilgelgjieaaGreatG02
set_option linter.unusedVariables false
set_option maxRecDepth 100000
namespace Go.Proofs.YtdkpilgelgjieaaGreat
open Go.RowKit
set_option maxRecDepth 20000 in
set_option maxHeartbeats 4000000 in
theorem Zm8 (gg : List Int -> R) (a : Option Addr) (n c i j d : Nat) (w : World) (b : List Int) (h : Ag w a n c b) (hn : n <= 140737488351232) (hij : i < j) (hj : j <= n) (hd : d <= 8) (x : Int) (hx : b.getD i 0 = x) (hlo : 128 <= x) (hhi : x < 192) (res : R)
  (hres : res = rd1 gg (decide (d = 8)) (x :: pc b (i + 1) j)) :
  Calls Tryz.prog 117 #[.slice a n c, .int .i64 i, .int .i64 j, .int .i64 d] w (FPost w i res) := by
 obtain ⟨g, off, rfl, hc1, hc2, hc⟩ := ag_head h (by omega)
 unfold maxLen at hc2
 have hcell := hc i (by omega)
 rw [hx] at hcell
 have hbl := h.l
 have hx256 := (h.b x (by rw [<- hx, List.getD, List.getElem?_eq_getElem (by omega)]; exact List.getElem_mem _)).2
 have hlt : (i : Int) < j := by omega
 have hin : (i : Int) < n := by omega
 have hrl := Zif (b := b) (i := i + 1) (j := j) (by omega)
 have hrb : ∀ y ∈ pc b (i + 1) j, 0 <= y /\ y < 256 := fun y hy => h.b y (Zwg hy)
 have hnd : ¬ (192 <= x /\ decide (d = 8) = true) := by omega
 have hn128 : ¬ x < 128 := by omega
 obtain ⟨N, hN⟩ : ∃ N, nOf x = N := ⟨_, rfl⟩
 have hNx : x - 128 = N := by
  rw [<- hN]; unfold nOf
  rw [if_neg (by omega)]; omega
 have hN63 : N <= 63 := by omega
 have HX := Hid.mk hx
 have HC := Hid.mk hc
 have HA := Hid.mk h
 have HRL := Hid.mk hrl
 have HRB := Hid.mk hrb
 have HND := Hid.mk hnd
 have HN := Hid.mk hN
 have HRES := Hid.mk hres
 skip
 clear hx hc h hrl hrb hnd hN hres hbl
 go_enter Tryz.func117, Tryz.ntmps117
 go_upto_if 18 with fail
 have hbw := (Rb.new w).bel
 refine gen_w (p := fun v => Code.wp _ _ _ _ v) (q := Rb w) (Rb.new w) ?_
 clear hbw
 intro v R
 replace hcell := Zae R.bel hcell
 have x0 := R.x0
 have x1 := R.x1
 have x2 := R.x2
 have xf := R.xf
 have HR := Hid.mk R
 clear R
 by_cases h58 : N > 58
 ·have h58i : (N : Int) > 58 := by omega
  have hfin : res = .bad 23 := by rw [HRES.out]; exact Zdh (Zj1 HND.out hn128 (by rw [HN.out]; omega) (Zjz (by rw [HN.out]; omega)) (by decide))
  subst hfin
  go_wp2_with fail
  have hr := put3 HR.out.row (.bool false) (.slice none 0 0) (.slice none 0 0)
  refine bodyPost_ret (Zag Tryz.results117 _ _ w.heap.size _ _ _ rfl hr) rfl ?_
  exact ⟨Za0 HR.out.bel (Nat.le_refl _) _ _ _, rfl, by decide⟩
 have h58i : ¬ (N : Int) > 58 := by omega
 go_upto_if 54 with fail
 go_cut [1, 13] (fun p q v' => ∃ f L : Nat, p = .int .i64 (i + f : Nat) /\ q = .int .i64 L /\ Hd (decide (d = 8)) x (pc b (i + 1) j) f L /\ v' = v)
 case first =>
  by_cases h55 : N > 55
  case neg =>
   have h55i : ¬ (N : Int) > 55 := by omega
   go_wp2_with fail
   go_meet
   case rel =>
    have := Zwr (r := pc b (i + 1) j) HND.out (by omega) (by rw [HN.out]; omega)
    rw [HN.out] at this
    exact ⟨1, N, by simp, rfl, this, rfl⟩
  have h55i : (N : Int) > 55 := by omega
  obtain ⟨K, hK⟩ : ∃ K, N = 55 + K := ⟨N - 55, by omega⟩
  subst hK
  have hK3 : K <= 3 := by omega
  have hK1 : 1 <= K := by omega
  have hKi : ((55 + K : Nat) : Int) - 55 = K := by omega
  by_cases hsh : j - (i + 1) < K
  ·have hshi : (j : Int) - (i + 1) < K := by omega
   have hfin : res = .bad 22 := by rw [HRES.out]; exact Zdh (Zj1 HND.out hn128 (by rw [HN.out]; omega) (Ziu (by rw [HN.out]; omega) (by rw [HN.out, HRL.out]; omega)) (by decide))
   subst hfin
   go_wp2_with fail
   have hr := put3 HR.out.row (.bool false) (.slice none 0 0) (.slice none 0 0)
   refine bodyPost_ret (Zag Tryz.results117 _ _ w.heap.size _ _ _ rfl hr) rfl ?_
   exact ⟨Za0 HR.out.bel (Nat.le_refl _) _ _ _, rfl, by decide⟩
  have hshi : ¬ (j : Int) - (i + 1) < K := by omega
  go_wp2_with fail
  go_loopw [13, 15] (fun p q v' => ∃ u : Nat, u <= K /\ q = .int .i64 u /\ p = .int .i64 (val ((pc b (i + 1) j).take u) : Nat) /\ v' = v) (fun _ q _ => K - (intOf q).toNat)
  case atStart => exact ⟨0, by omega, rfl, rfl, rfl⟩
  case round =>
   obtain ⟨u, hu, rfl, rfl, rfl⟩ := hrel
   have hrl := HRL.out
   by_cases hlt2 : u < K
   ·have hui : (u : Int) < K := by omega
    have hcu := Zae HR.out.bel (HC.out (i + 1 + u) (by omega))
    rw [<- Zr1 (b := b) (i := i + 1) (j := j) (k := u) (by omega) (by rw [HA.out.l]; omega)] at hcu
    obtain ⟨v1, v2⟩ := Zby HRB.out (j := u) (by omega) (by omega)
    have v3 := Zby HRB.out (j := u + 1) (by omega) (by omega)
    have hvs := Zkl (b := pc b (i + 1) j) (j := u) (by omega)
    have hxx := HRB.out ((pc b (i + 1) j).getD u 0) (by rw [List.getD, List.getElem?_eq_getElem (by omega)]; exact List.getElem_mem _)
    obtain ⟨q, hq⟩ : ∃ q, val ((pc b (i + 1) j).take u) = q := ⟨_, rfl⟩
    obtain ⟨z, hz⟩ : ∃ z, (pc b (i + 1) j).getD u 0 = z := ⟨_, rfl⟩
    rw [hq] at v1 hvs ⊢
    rw [hz] at hcu hxx hvs
    obtain ⟨hz0, hz1⟩ := hxx
    rw [hvs] at v3
    have hq2 : q < 65536 := by omega
    have HV : Hid (((val ((pc b (i + 1) j).take (u + 1)) : Nat) : Int) = 256 * q + z) := Hid.mk (by omega)
    have hnn : (i : Int) + 1 + u < n := by omega
    clear hvs v1 v2 v3 hq hz hrl
    go_wp2_with fail
    exact ⟨⟨u + 1, by omega, by simp, by rw [HV.out], trivial⟩, by simp [intOf]; omega⟩
   ·have huK : u = K := by omega
    subst huK
    have hui : ¬ (u : Int) < u := by omega
    obtain ⟨v1, v2⟩ := Zby HRB.out (j := u) (by omega) (by omega)
    have hc0 := Zae HR.out.bel (HC.out (i + 1) (by omega))
    have hhd : (pc b (i + 1) j).headD 0 = b.getD (i + 1) 0 := by rw [Zig (by omega) (by rw [HA.out.l]; omega)]; rfl
    have hz1 := HA.out.b (b.getD (i + 1) 0) (by rw [List.getD, List.getElem?_eq_getElem (by rw [HA.out.l]; omega)]; exact List.getElem_mem _)
    have hform := fun h => Zdh (g := gg) (Zj1 HND.out (x := x) (by omega) (by rw [HN.out]; omega) (Zj0 (r := pc b (i + 1) j) (by rw [HN.out]; omega) (by rw [HN.out, HRL.out]; omega) h) (show 23 ≠ 0 by decide))
    have hmore := Zs0 (x := x) HRB.out HND.out (by omega) (by rw [HN.out]; omega) (by rw [HN.out]; omega) (by rw [HN.out, HRL.out]; omega)
    rw [<- HRES.out] at hform
    rw [HN.out, show 55 + u - 55 = u from by omega, hhd] at hform hmore
    obtain ⟨q, hq⟩ : ∃ q, val ((pc b (i + 1) j).take u) = q := ⟨_, rfl⟩
    obtain ⟨z, hz⟩ : ∃ z, b.getD (i + 1) 0 = z := ⟨_, rfl⟩
    rw [hq] at v1 hform hmore ⊢
    rw [hz] at hc0 hz1 hform hmore
    have hq24 : q < 16777216 := by omega
    have hnn : (i : Int) + 1 < n := by omega
    have HFO := Hid.mk hform
    have HMO := Hid.mk hmore
    clear hq hz hhd hrl v1 v2 hform hmore
    by_cases hz0 : z = 0
    ·have hfin : res = .bad 23 := HFO.out (.inl hz0)
     subst hfin hz0
     clear hz1
     go_wp2_with fail
     have hr := put3 HR.out.row (.bool false) (.slice none 0 0) (.slice none 0 0)
     refine bodyPost_ret (Zag Tryz.results117 _ _ w.heap.size _ _ _ rfl hr) rfl ?_
     exact ⟨Za0 HR.out.bel (Nat.le_refl _) _ _ _, rfl, by decide⟩
    ·have hzb : (z == 0) = false := by rw [beq_eq_false_iff_ne]; exact hz0
     by_cases hq55 : q < 56
     ·have hfin : res = .bad 23 := HFO.out (.inr (by omega))
      have hqi : (q : Int) < 56 := by omega
      subst hfin
      go_wp2_with fail
      have hr := put3 HR.out.row (.bool false) (.slice none 0 0) (.slice none 0 0)
      refine bodyPost_ret (Zag Tryz.results117 _ _ w.heap.size _ _ _ rfl hr) rfl ?_
      exact ⟨Za0 HR.out.bel (Nat.le_refl _) _ _ _, rfl, by decide⟩
     ·have hqi : ¬ (q : Int) < 56 := by omega
      have HMM := Hid.mk (HMO.out (by rintro (h | h); exact hz0 h; omega))
      go_wp2_with fail
      go_meet
      case rel => exact ⟨1 + u, q, by simp; omega, rfl, HMM.out, rfl⟩
 case rest =>
  obtain ⟨f, L, rfl, rfl, H, rfl⟩ := hcut
  have heq := H.eq
  have hf1 := H.f1
  have hf4 := H.f4
  have hL24 := H.L24
  have hiff := H.iff
  have hfle := H.fle
  rw [HRL.out] at heq hfle
  have hpc : x :: pc b (i + 1) j = pc b i j := by rw [Zig (b := b) (i := i) hij (by rw [HA.out.l]; omega), HX.out]
  clear H hcell
  by_cases hsh : (j - (i + 1) + 1) - f < L
  ·rw [if_pos hsh] at heq
   have hfin : res = .bad 22 := by rw [HRES.out]; exact Zdh heq
   subst hfin
   have hshi : (j : Int) - ((i + f : Nat) : Int) < L := by omega
   clear heq hpc
   go_wp2_with fail
   have hr := put3 HR.out.row (.bool false) (.slice none 0 0) (.slice none 0 0)
   refine bodyPost_ret (Zag Tryz.results117 _ _ w.heap.size _ _ _ rfl hr) rfl ?_
   exact ⟨Za0 HR.out.bel (Nat.le_refl _) _ _ _, rfl, by decide⟩
  rw [if_neg hsh] at heq
  have hshi : ¬ (j : Int) - ((i + f : Nat) : Int) < L := by omega
  have hfjn : i + f + L <= j := by omega
  have hri := HRES.out
  unfold rd1 at hri
  rw [heq] at hri
  simp only at hri
  rw [hpc, Zwe (by omega)] at hri
  have hhd : (pc b i j).headD 0 = x := by rw [<- hpc]; rfl
  rw [hhd] at hri
  have hsub := Zpq (HA.out.at HR.out.bel) (f := i + f) (t := i + (f + L)) (by omega) (by omega)
  rw [show i + (f + L) - (i + f) = L from by omega] at hsub
  clear heq hhd hsh
  rw [if_pos hhi] at hri
  have hget : (pc b i j).getD 1 0 = b.getD (i + 1) 0 \/ ¬ (f = 1 /\ f + L = 2) := by
   by_cases h1 : f = 1 /\ f + L = 2
   ·exact .inl (Zr1 (by omega) (by rw [HA.out.l]; omega))
   ·exact .inr h1
  by_cases hone : f = 1 /\ f + L = 2 /\ (pc b i j).getD 1 0 < 128
  ·rw [if_pos hone] at hri
   obtain ⟨o1, o2, o3⟩ := hone
   have oL : L = 1 := by omega
   rw [hget.resolve_right (fun h => h ⟨o1, o2⟩)] at o3
   subst o1 oL hri
   have hc0 := Zae HR.out.bel (HC.out (i + 1) (by omega))
   have hz1 := (HA.out.b (b.getD (i + 1) 0) (by rw [List.getD, List.getElem?_eq_getElem (by rw [HA.out.l]; omega)]; exact List.getElem_mem _)).1
   generalize b.getD (i + 1) 0 = z at *
   have hnn : ((i + 1 : Nat) : Int) < n := by omega
   clear hsub hget hpc hiff
   go_wp2_with fail
   have hr := put3 HR.out.row (.bool false) (.slice none 0 0) (.slice none 0 0)
   refine bodyPost_ret (Zag Tryz.results117 _ _ w.heap.size _ _ _ rfl hr) rfl ?_
   exact ⟨Za0 HR.out.bel (Nat.le_refl _) _ _ _, rfl, by decide⟩
  rw [if_neg hone] at hri
  have HRI := Hid.mk hri
  have hib : ((i + f : Nat) : Int) <= ((i + f : Nat) : Int) + L := by omega
  have hib2 : ((i + f : Nat) : Int) + L <= n := by omega
  have hcz : ¬ L = 1 \/ (L = 1 /\ f = 1 /\ ¬ b.getD (i + 1) 0 < 128) := by
   by_cases hL1 : L = 1
   ·have hf : f = 1 := hiff.2 (by omega)
    refine .inr ⟨hL1, hf, fun h => hone ⟨hf, by omega, ?_⟩⟩
    rw [hget.resolve_right (fun h => h ⟨hf, by omega⟩)]
    exact h
   ·exact .inl hL1
  have hcp := Zqr _ L _ _ _ hsub (by omega)
  have HCP := Hid.mk hcp
  clear hcp
  clear hri hone hget hsub hiff hpc
  have hout : ∀ (a' : Option Addr) (c' : Nat) (w2 : World), Ag w2 a' L c' (pc b (i + f) (i + (f + L))) -> (∀ g off, a' = some ⟨g, off, none⟩ -> wc.heap.size <= g /\ ∀ o, w2.frozen? ⟨g, o, none⟩ = false) -> Below wc.heap.size wc w2 -> FPost w i res (.returned (.tuple #[.agg #[.bool false, .slice a' L c', .slice none 0 0], .int .i64 (((i + f : Nat) : Int) + L), .int .i64 0])) (((w2.setCell ⟨w.heap.size, 0, none⟩ (.bool false)).setCell ⟨w.heap.size, 1, none⟩ (.slice a' L c')).setCell ⟨w.heap.size, 2, none⟩ (.slice none 0 0)) := by
   intro a' c' w2 h1 h2 h3
   rw [HRI.out]
   have hz := HR.out.bel.size
   have hz2 := lt_of_get HR.out.row
   refine ⟨Za0 (below_go HR.out.bel h3) (Nat.le_refl _) _ _ _, ⟨false, a', L, c', none, 0, 0⟩, by simp; omega, ?_⟩
   refine liesP_eq.2 ⟨⟨rfl, Zle h1 (fun g off e _ _ => Zbv (by have := (h2 g off e).1; omega) _ _ _), rfl, Nat.le_refl _, by show 0 <= maxLen; unfold maxLen; omega, ⟨by show L <= 140737488351232; omega, by show 0 <= 140737488351232; omega⟩, fun g off e _ => ⟨Nat.le_trans hz (h2 g off e).1, fun o => by rw [World.frozen?_setCell, World.frozen?_setCell, World.frozen?_setCell]; exact (h2 g off e).2 o⟩⟩, Zbk⟩
  have HOUT := Hid.mk hout
  clear hout
  clear x0 x1 x2 xf
  rcases hcz with hL1 | ⟨rfl, rfl, hz128⟩
  ·have hLb : ((L : Int) == 1) = false := by rw [beq_eq_false_iff_ne]; omega
   by_cases hck : c = i + f
   ·rw [if_pos hck] at HCP
    subst hck
    rw [Nat.sub_self] at HCP
    go_wp2_with fail
    refine HCP.out.mono ?_
    rintro e w2 ⟨⟨a', c', rfl, h1, h2⟩, h3⟩
    have R2 := HR.out.call h3
    have x0 := R2.x0
    have x1 := R2.x1
    have x2 := R2.x2
    have xf := R2.xf
    have HFI := Hid.mk (HOUT.out a' c' w2 h1 h2 h3)
    have HR2 := Hid.mk R2
    clear R2 h1 h2 h3 HCP
    go_wp2_with fail
    have hr := put3 HR2.out.row (.bool false) (.slice a' L c') (.slice none 0 0)
    refine bodyPost_ret (Zag Tryz.results117 _ _ w.heap.size _ _ _ rfl hr) rfl ?_
    exact HFI.out
   ·rw [if_neg hck] at HCP
    go_wp2_with fail
    refine HCP.out.mono ?_
    rintro e w2 ⟨⟨a', c', rfl, h1, h2⟩, h3⟩
    have R2 := HR.out.call h3
    have x0 := R2.x0
    have x1 := R2.x1
    have x2 := R2.x2
    have xf := R2.xf
    have HFI := Hid.mk (HOUT.out a' c' w2 h1 h2 h3)
    have HR2 := Hid.mk R2
    clear R2 h1 h2 h3 HCP
    go_wp2_with fail
    have hr := put3 HR2.out.row (.bool false) (.slice a' L c') (.slice none 0 0)
    refine bodyPost_ret (Zag Tryz.results117 _ _ w.heap.size _ _ _ rfl hr) rfl ?_
    exact HFI.out
  ·have hnn : ((i + 1 : Nat) : Int) < n := by omega
   have hck : ¬ c = i + 1 := by omega
   have hc0 := Zae HR.out.bel (HC.out (i + 1) (by omega))
   have hz1 := (HA.out.b (b.getD (i + 1) 0) (by rw [List.getD, List.getElem?_eq_getElem (by rw [HA.out.l]; omega)]; exact List.getElem_mem _))
   generalize b.getD (i + 1) 0 = z at *
   have hz128 : ¬ z < 128 := hz128
   ·rw [if_neg hck] at HCP
    go_wp2_with fail
    refine HCP.out.mono ?_
    rintro e w2 ⟨⟨a', c', rfl, h1, h2⟩, h3⟩
    have R2 := HR.out.call h3
    have x0 := R2.x0
    have x1 := R2.x1
    have x2 := R2.x2
    have xf := R2.xf
    have HFI := Hid.mk (HOUT.out a' c' w2 h1 h2 h3)
    have HR2 := Hid.mk R2
    clear R2 h1 h2 h3 HCP
    go_wp2_with fail
    have hr := put3 HR2.out.row (.bool false) (.slice a' 1 c') (.slice none 0 0)
    refine bodyPost_ret (Zag Tryz.results117 _ _ w.heap.size _ _ _ rfl hr) rfl ?_
    exact HFI.out
set_option maxRecDepth 20000 in
set_option maxHeartbeats 4000000 in
theorem Zm9 (gg : List Int -> R) (a : Option Addr) (n c i j d : Nat) (w : World) (b : List Int) (h : Ag w a n c b) (hn : n <= 140737488351232) (hij : i < j) (hj : j <= n) (hd : d <= 8) (x : Int) (hx : b.getD i 0 = x) (hlo : 192 <= x) (hd8 : d < 8)
  (hitems : ∀ (a : Option Addr) (n c : Nat) (b : List Int) (w : World), Ag w a n c b -> n <= 140737488351232 -> ∀ i j : Nat, i <= j -> j <= n -> j - i < 16777216 -> Calls Tryz.prog 121 #[.slice a n c, .int .i64 i, .int .i64 j, .int .i64 (d + 1 : Nat)] w (GPost w j (rdAll gg (pc b i j).length (pc b i j))))
  (hgg : ∀ b t m, gg b = .ok t m -> 1 <= m /\ m <= b.length) (res : R)
  (hres : res = rd1 gg (decide (d = 8)) (x :: pc b (i + 1) j)) :
  Calls Tryz.prog 117 #[.slice a n c, .int .i64 i, .int .i64 j, .int .i64 d] w (FPost w i res) := by
 obtain ⟨g, off, rfl, hc1, hc2, hc⟩ := ag_head h (by omega)
 unfold maxLen at hc2
 have hcell := hc i (by omega)
 rw [hx] at hcell
 have hbl := h.l
 have hx256 := (h.b x (by rw [<- hx, List.getD, List.getElem?_eq_getElem (by omega)]; exact List.getElem_mem _)).2
 have hlt : (i : Int) < j := by omega
 have hin : (i : Int) < n := by omega
 have hrl := Zif (b := b) (i := i + 1) (j := j) (by omega)
 have hrb : ∀ y ∈ pc b (i + 1) j, 0 <= y /\ y < 256 := fun y hy => h.b y (Zwg hy)
 have hnd : ¬ (192 <= x /\ decide (d = 8) = true) := by simp; omega
 have hn128 : ¬ x < 128 := by omega
 obtain ⟨N, hN⟩ : ∃ N, nOf x = N := ⟨_, rfl⟩
 have hNx : x - 192 = N := by
  rw [<- hN]; unfold nOf
  rw [if_pos (by omega)]; omega
 have hN63 : N <= 63 := by omega
 have HX := Hid.mk hx
 have HC := Hid.mk hc
 have HA := Hid.mk h
 have HRL := Hid.mk hrl
 have HRB := Hid.mk hrb
 have HND := Hid.mk hnd
 have HN := Hid.mk hN
 have HRES := Hid.mk hres
 have HIT := Hid.mk hitems
 have HGG := Hid.mk hgg
 clear hitems hgg
 clear hx hc h hrl hrb hnd hN hres hbl
 go_enter Tryz.func117, Tryz.ntmps117
 go_upto_if 18 with fail
 have hbw := (Rb.new w).bel
 refine gen_w (p := fun v => Code.wp _ _ _ _ v) (q := Rb w) (Rb.new w) ?_
 clear hbw
 intro v R
 replace hcell := Zae R.bel hcell
 have x0 := R.x0
 have x1 := R.x1
 have x2 := R.x2
 have xf := R.xf
 have HR := Hid.mk R
 clear R
 by_cases h58 : N > 58
 ·have h58i : (N : Int) > 58 := by omega
  have hfin : res = .bad 23 := by rw [HRES.out]; exact Zdh (Zj1 HND.out hn128 (by rw [HN.out]; omega) (Zjz (by rw [HN.out]; omega)) (by decide))
  subst hfin
  go_wp2_with fail
  have hr := put3 HR.out.row (.bool false) (.slice none 0 0) (.slice none 0 0)
  refine bodyPost_ret (Zag Tryz.results117 _ _ w.heap.size _ _ _ rfl hr) rfl ?_
  exact ⟨Za0 HR.out.bel (Nat.le_refl _) _ _ _, rfl, by decide⟩
 have h58i : ¬ (N : Int) > 58 := by omega
 go_upto_if 54 with fail
 go_cut [1, 13] (fun p q v' => ∃ f L : Nat, p = .int .i64 (i + f : Nat) /\ q = .int .i64 L /\ Hd (decide (d = 8)) x (pc b (i + 1) j) f L /\ v' = v)
 case first =>
  by_cases h55 : N > 55
  case neg =>
   have h55i : ¬ (N : Int) > 55 := by omega
   go_wp2_with fail
   go_meet
   case rel =>
    have := Zwr (r := pc b (i + 1) j) HND.out (by omega) (by rw [HN.out]; omega)
    rw [HN.out] at this
    exact ⟨1, N, by simp, rfl, this, rfl⟩
  have h55i : (N : Int) > 55 := by omega
  obtain ⟨K, hK⟩ : ∃ K, N = 55 + K := ⟨N - 55, by omega⟩
  subst hK
  have hK3 : K <= 3 := by omega
  have hK1 : 1 <= K := by omega
  have hKi : ((55 + K : Nat) : Int) - 55 = K := by omega
  by_cases hsh : j - (i + 1) < K
  ·have hshi : (j : Int) - (i + 1) < K := by omega
   have hfin : res = .bad 22 := by rw [HRES.out]; exact Zdh (Zj1 HND.out hn128 (by rw [HN.out]; omega) (Ziu (by rw [HN.out]; omega) (by rw [HN.out, HRL.out]; omega)) (by decide))
   subst hfin
   go_wp2_with fail
   have hr := put3 HR.out.row (.bool false) (.slice none 0 0) (.slice none 0 0)
   refine bodyPost_ret (Zag Tryz.results117 _ _ w.heap.size _ _ _ rfl hr) rfl ?_
   exact ⟨Za0 HR.out.bel (Nat.le_refl _) _ _ _, rfl, by decide⟩
  have hshi : ¬ (j : Int) - (i + 1) < K := by omega
  go_wp2_with fail
  go_loopw [13, 15] (fun p q v' => ∃ u : Nat, u <= K /\ q = .int .i64 u /\ p = .int .i64 (val ((pc b (i + 1) j).take u) : Nat) /\ v' = v) (fun _ q _ => K - (intOf q).toNat)
  case atStart => exact ⟨0, by omega, rfl, rfl, rfl⟩
  case round =>
   obtain ⟨u, hu, rfl, rfl, rfl⟩ := hrel
   have hrl := HRL.out
   by_cases hlt2 : u < K
   ·have hui : (u : Int) < K := by omega
    have hcu := Zae HR.out.bel (HC.out (i + 1 + u) (by omega))
    rw [<- Zr1 (b := b) (i := i + 1) (j := j) (k := u) (by omega) (by rw [HA.out.l]; omega)] at hcu
    obtain ⟨v1, v2⟩ := Zby HRB.out (j := u) (by omega) (by omega)
    have v3 := Zby HRB.out (j := u + 1) (by omega) (by omega)
    have hvs := Zkl (b := pc b (i + 1) j) (j := u) (by omega)
    have hxx := HRB.out ((pc b (i + 1) j).getD u 0) (by rw [List.getD, List.getElem?_eq_getElem (by omega)]; exact List.getElem_mem _)
    obtain ⟨q, hq⟩ : ∃ q, val ((pc b (i + 1) j).take u) = q := ⟨_, rfl⟩
    obtain ⟨z, hz⟩ : ∃ z, (pc b (i + 1) j).getD u 0 = z := ⟨_, rfl⟩
    rw [hq] at v1 hvs ⊢
    rw [hz] at hcu hxx hvs
    obtain ⟨hz0, hz1⟩ := hxx
    rw [hvs] at v3
    have hq2 : q < 65536 := by omega
    have HV : Hid (((val ((pc b (i + 1) j).take (u + 1)) : Nat) : Int) = 256 * q + z) := Hid.mk (by omega)
    have hnn : (i : Int) + 1 + u < n := by omega
    clear hvs v1 v2 v3 hq hz hrl
    go_wp2_with fail
    exact ⟨⟨u + 1, by omega, by simp, by rw [HV.out], trivial⟩, by simp [intOf]; omega⟩
   ·have huK : u = K := by omega
    subst huK
    have hui : ¬ (u : Int) < u := by omega
    obtain ⟨v1, v2⟩ := Zby HRB.out (j := u) (by omega) (by omega)
    have hc0 := Zae HR.out.bel (HC.out (i + 1) (by omega))
    have hhd : (pc b (i + 1) j).headD 0 = b.getD (i + 1) 0 := by rw [Zig (by omega) (by rw [HA.out.l]; omega)]; rfl
    have hz1 := HA.out.b (b.getD (i + 1) 0) (by rw [List.getD, List.getElem?_eq_getElem (by rw [HA.out.l]; omega)]; exact List.getElem_mem _)
    have hform := fun h => Zdh (g := gg) (Zj1 HND.out (x := x) (by omega) (by rw [HN.out]; omega) (Zj0 (r := pc b (i + 1) j) (by rw [HN.out]; omega) (by rw [HN.out, HRL.out]; omega) h) (show 23 ≠ 0 by decide))
    have hmore := Zs0 (x := x) HRB.out HND.out (by omega) (by rw [HN.out]; omega) (by rw [HN.out]; omega) (by rw [HN.out, HRL.out]; omega)
    rw [<- HRES.out] at hform
    rw [HN.out, show 55 + u - 55 = u from by omega, hhd] at hform hmore
    obtain ⟨q, hq⟩ : ∃ q, val ((pc b (i + 1) j).take u) = q := ⟨_, rfl⟩
    obtain ⟨z, hz⟩ : ∃ z, b.getD (i + 1) 0 = z := ⟨_, rfl⟩
    rw [hq] at v1 hform hmore ⊢
    rw [hz] at hc0 hz1 hform hmore
    have hq24 : q < 16777216 := by omega
    have hnn : (i : Int) + 1 < n := by omega
    have HFO := Hid.mk hform
    have HMO := Hid.mk hmore
    clear hq hz hhd hrl v1 v2 hform hmore
    by_cases hz0 : z = 0
    ·have hfin : res = .bad 23 := HFO.out (.inl hz0)
     subst hfin hz0
     clear hz1
     go_wp2_with fail
     have hr := put3 HR.out.row (.bool false) (.slice none 0 0) (.slice none 0 0)
     refine bodyPost_ret (Zag Tryz.results117 _ _ w.heap.size _ _ _ rfl hr) rfl ?_
     exact ⟨Za0 HR.out.bel (Nat.le_refl _) _ _ _, rfl, by decide⟩
    ·have hzb : (z == 0) = false := by rw [beq_eq_false_iff_ne]; exact hz0
     by_cases hq55 : q < 56
     ·have hfin : res = .bad 23 := HFO.out (.inr (by omega))
      have hqi : (q : Int) < 56 := by omega
      subst hfin
      go_wp2_with fail
      have hr := put3 HR.out.row (.bool false) (.slice none 0 0) (.slice none 0 0)
      refine bodyPost_ret (Zag Tryz.results117 _ _ w.heap.size _ _ _ rfl hr) rfl ?_
      exact ⟨Za0 HR.out.bel (Nat.le_refl _) _ _ _, rfl, by decide⟩
     ·have hqi : ¬ (q : Int) < 56 := by omega
      have HMM := Hid.mk (HMO.out (by rintro (h | h); exact hz0 h; omega))
      go_wp2_with fail
      go_meet
      case rel => exact ⟨1 + u, q, by simp; omega, rfl, HMM.out, rfl⟩
 case rest =>
  obtain ⟨f, L, rfl, rfl, H, rfl⟩ := hcut
  have heq := H.eq
  have hf1 := H.f1
  have hf4 := H.f4
  have hL24 := H.L24
  have hiff := H.iff
  have hfle := H.fle
  rw [HRL.out] at heq hfle
  have hpc : x :: pc b (i + 1) j = pc b i j := by rw [Zig (b := b) (i := i) hij (by rw [HA.out.l]; omega), HX.out]
  clear H hcell
  by_cases hsh : (j - (i + 1) + 1) - f < L
  ·rw [if_pos hsh] at heq
   have hfin : res = .bad 22 := by rw [HRES.out]; exact Zdh heq
   subst hfin
   have hshi : (j : Int) - ((i + f : Nat) : Int) < L := by omega
   clear heq hpc
   go_wp2_with fail
   have hr := put3 HR.out.row (.bool false) (.slice none 0 0) (.slice none 0 0)
   refine bodyPost_ret (Zag Tryz.results117 _ _ w.heap.size _ _ _ rfl hr) rfl ?_
   exact ⟨Za0 HR.out.bel (Nat.le_refl _) _ _ _, rfl, by decide⟩
  rw [if_neg hsh] at heq
  have hshi : ¬ (j : Int) - ((i + f : Nat) : Int) < L := by omega
  have hfjn : i + f + L <= j := by omega
  have hri := HRES.out
  unfold rd1 at hri
  rw [heq] at hri
  simp only at hri
  rw [hpc, Zwe (by omega)] at hri
  have hhd : (pc b i j).headD 0 = x := by rw [<- hpc]; rfl
  rw [hhd] at hri
  have hsub := Zpq (HA.out.at HR.out.bel) (f := i + f) (t := i + (f + L)) (by omega) (by omega)
  rw [show i + (f + L) - (i + f) = L from by omega] at hsub
  clear heq hhd hsh
  rw [if_neg (by omega)] at hri
  have hit := HIT.out _ n c b wc (HA.out.at HR.out.bel) hn (i + f) (i + (f + L)) (by omega) (by omega) (by omega)
  rw [show ((i + (f + L) : Nat) : Int) = ((i + f : Nat) : Int) + L from by omega, show ((d + 1 : Nat) : Int) = (d : Int) + 1 from by omega] at hit
  have hln := fun ts h => Zfo HGG.out (pc b (i + f) (i + (f + L))).length (pc b (i + f) (i + (f + L))) ts h
  rw [Zif (by rw [HA.out.l]; omega)] at hln
  have HLN := Hid.mk hln
  have HIC := Hid.mk hit
  have HRI := Hid.mk hri
  clear hit hri hsub hiff hpc HIT hln x0 x1 x2 xf
  go_wp2_with fail
  refine HIC.out.mono ?_
  rintro e w2 ⟨h3, hm⟩
  have R2 := HR.out.call h3
  have x0 := R2.x0
  have x1 := R2.x1
  have x2 := R2.x2
  have xf := R2.xf
  have HR2 := Hid.mk R2
  have H3 := Hid.mk h3
  have hz := HR.out.bel.size
  have hz2 := lt_of_get HR.out.row
  clear R2 h3 HIC
  cases hr : rdAll gg (pc b (i + f) (i + (f + L))).length (pc b (i + f) (i + (f + L))) with
  | bad er =>
   rw [hr] at hm
   obtain ⟨rfl, her⟩ := hm
   have hfin := HRI.out
   rw [hr] at hfin
   simp only at hfin
   subst hfin
   clear hr
   go_wp2_with fail
   have hr := put3 HR2.out.row (.bool false) (.slice none 0 0) (.slice none 0 0)
   refine bodyPost_ret (Zag Tryz.results117 _ _ w.heap.size _ _ _ rfl hr) rfl ?_
   exact ⟨Za0 HR2.out.bel (Nat.le_refl _) _ _ _, rfl, her⟩
  | ok ts =>
   rw [hr] at hm
   obtain ⟨ia, ic, rfl, q1, q2, q3⟩ := hm
   have hfin := HRI.out
   rw [hr] at hfin
   simp only at hfin
   subst hfin
   have htl := HLN.out ts (by rw [Zif (by rw [HA.out.l]; omega)] at hr; exact hr)
   have HQ := Hid.mk q3
   clear hr q3
   go_wp2_with fail
   have hr := put3 HR2.out.row (.bool true) (.slice none 0 0) (.slice ia ts.length ic)
   refine bodyPost_ret (Zag Tryz.results117 _ _ w.heap.size _ _ _ rfl hr) rfl ?_
   refine ⟨Za0 HR2.out.bel (Nat.le_refl _) _ _ _, ⟨true, none, 0, 0, ia, ts.length, ic⟩, by simp, ?_⟩
   refine Zgd q1 q2 (by omega) (Zbt (fun b (hb : wc.heap.size <= b) hlt => ⟨Zbv (by omega) _ _ _, by omega⟩) (fun u _ => Zak (fun b (hb : wc.heap.size <= b) hlt => ⟨Zbv (by omega) _ _ _, by omega⟩) u) HQ.out)
theorem Zt1 {N : Nat} {u v : World} (h : Below N u v) {g o t : Nat} {cs : Array Value} (hg : g < N) (hu : u.heap[g]? = some (.cells cs t)) (x : Value) : Below N (u.setCell ⟨g, o, none⟩ x) (v.setCell ⟨g, o, none⟩ x) := by
 have hgb := (h.block g hg).trans hu
 refine ⟨h.os, h.tape, h.output, by simpa using h.size, fun k hk => ?_⟩
 by_cases e : k = g
 ·subst e
  rw [heap_setCell_same u k o _ t x hu, heap_setCell_same v k o _ t x hgb]
 ·rw [heap_setCell_other _ _ _ _ e, heap_setCell_other _ _ _ _ e]
  exact h.block k hk
structure Ib (w v U : World) (it : Value) (ts : List T) (ys : List V) : Prop where
 sz : U.heap.size = w.heap.size + 2
 res : U.heap[w.heap.size]? = some (.cells #[.bool false, .slice none 0 0, .slice none 0 0] 94)
 box : U.heap[w.heap.size + 1]? = some (.cells #[.bool true, .slice none 0 0, it] 94)
 bw : Below w.heap.size w U
 bel : Below U.heap.size U v
 own : OwnI v U.heap.size it ys
 all : AllP (fun b => U.heap.size <= b /\ it.ownBlock ≠ some b) v ts ys
theorem Zzw (w : World) : Ib w ((w.alloc (.cells #[.bool false, .slice none 0 0, .slice none 0 0] 94)).alloc (.cells #[.bool true, .slice none 0 0, .slice none 0 0] 94)) ((w.alloc (.cells #[.bool false, .slice none 0 0, .slice none 0 0] 94)).alloc (.cells #[.bool true, .slice none 0 0, .slice none 0 0] 94)) (.slice none 0 0) [] [] :=
 ⟨by simp, (Below.heap_alloc _ _ _ (by simp)).trans (heap_alloc_new _ _), heap_alloc2_new _ _ _, ((Below.refl _ _).alloc (Nat.le_refl _) _).alloc (by simp) _, Below.refl _ _, World.ownsRow_nil _ _ _ _, trivial⟩
theorem Zx8 {w v U w1 : World} {it : Value} {ts : List T} {ys : List V} {y : V} {t : T} (h : Ib w v U it ts ys) (hb1 : Below v.heap.size v w1) (hy : LiesP (fun b => v.heap.size <= b) w1 t y) (hlen : ys.length <= 1000000000) (ty : TypeId) :
  ∃ it' w3, (Builtin.append_ #[92, 92] ty #[it, .slice (some ⟨w1.heap.size + 1, 0, none⟩) 1 1]).run Tryz.prog ((w1.alloc (.cells #[.bool y.l, .slice y.ba y.bn y.bc, .slice y.ia y.m y.ic] 94)).alloc (.cells #[.bool y.l, .slice y.ba y.bn y.bc, .slice y.ia y.m y.ic] 94)) = .ok it' w3 ∧
   Below U.heap.size U w3 /\ Ib w (w3.setCell ⟨w.heap.size + 1, 2, none⟩ it') (U.setCell ⟨w.heap.size + 1, 2, none⟩ it') it' (ts ++ [t]) (ys ++ [y]) := by
 obtain ⟨it', w3, hrun, s1, s2, s3⟩ := Zjo h.own h.all h.bel hb1 hy hlen ty
 have hs := h.sz
 refine ⟨it', w3, hrun, s3, ⟨by simpa using hs, (heap_setCell_other _ _ _ _ (show w.heap.size ≠ w.heap.size + 1 by omega)).trans h.res, ?_, h.bw.setCell (by simp) _, ?_, ?_, ?_⟩⟩
 ·have := heap_setCell_same U (w.heap.size + 1) 2 _ 94 it' h.box
  simpa using this
 ·have := Zt1 s3 (g := w.heap.size + 1) (o := 2) (by omega) h.box it'
  simpa using this
 ·have e : (U.setCell ⟨w.heap.size + 1, 2, none⟩ it').heap.size = U.heap.size := by simp
  rw [e]
  exact Zca s1 (fun g hg _ => heap_setCell_other _ _ _ _ (show g ≠ w.heap.size + 1 by have := (Zdq s1 hg).1; omega))
 ·have e : (U.setCell ⟨w.heap.size + 1, 2, none⟩ it').heap.size = U.heap.size := by simp
  rw [e]
  exact s2.mono fun b hb _ => ⟨heap_setCell_other _ _ _ _ (show b ≠ w.heap.size + 1 by have := hb.1; omega), hb⟩
theorem Zr4 {w : World} {base : Nat} {v : Value} {ys : List V} (h : OwnI w base v ys) : ∃ a n c, v = .slice a n c := by
 rcases h.2 with ⟨h2, _⟩ | ⟨g, cap, cur, hv, _⟩
 ·exact ⟨_, _, _, h2⟩
 ·exact ⟨_, _, _, hv⟩
theorem Ib.cells {w v U : World} {it : Value} {ts : List T} {ys : List V} (h : Ib w v U it ts ys) {v' : World} (hb : Below U.heap.size U v') :
  (∀ o, v'.frozen? ⟨w.heap.size, o, none⟩ = false) /\ (∀ o, v'.frozen? ⟨w.heap.size + 1, o, none⟩ = false) /\ v'.cell? ⟨w.heap.size, 0, none⟩ = some (.bool false) /\ v'.cell? ⟨w.heap.size, 1, none⟩ = some (.slice none 0 0) /\ v'.cell? ⟨w.heap.size, 2, none⟩ = some (.slice none 0 0) /\ v'.cell? ⟨w.heap.size + 1, 0, none⟩ = some (.bool true) /\ v'.cell? ⟨w.heap.size + 1, 1, none⟩ = some (.slice none 0 0) /\ v'.cell? ⟨w.heap.size + 1, 2, none⟩ = some it := by
 have r1 := Below.row hb h.res
 have r2 := Below.row hb h.box
 exact ⟨fun o => frozen_of_row _ _ _ _ _ r1, fun o => frozen_of_row _ _ _ _ _ r2, by rw [cell_of_row _ _ _ _ _ _ r1]; rfl, by rw [cell_of_row _ _ _ _ _ _ r1]; rfl, by rw [cell_of_row _ _ _ _ _ _ r1]; rfl, by rw [cell_of_row _ _ _ _ _ _ r2]; rfl, by rw [cell_of_row _ _ _ _ _ _ r2]; rfl, by rw [cell_of_row _ _ _ _ _ _ r2]; rfl⟩
set_option maxHeartbeats 4000000 in
theorem Zp0 (k : Nat) (hfirst : FSaid k) (a : Option Addr) (n c : Nat) (b : List Int) (w : World) (h : Ag w a n c b) (hn : n <= 140737488351232) (i j d : Nat) (hij : i <= j) (hj : j <= n) (hl : j - i < 16777216) (hd : d + k = 8) :
  Calls Tryz.prog 121 #[.slice a n c, .int .i64 i, .int .i64 j, .int .i64 d] w (GPost w j (rdAll (rd k) (pc b i j).length (pc b i j))) := by
 have HF := Hid.mk hfirst
 have HA := Hid.mk h
 obtain ⟨res, hres⟩ : ∃ r, rdAll (rd k) (pc b i j).length (pc b i j) = r := ⟨_, rfl⟩
 rw [hres]
 have HRES := Hid.mk hres
 clear hfirst h hres
 go_enter Tryz.func121, Tryz.ntmps121
 go_wp2_with fail
 go_loopw [1] (fun p v => ∃ (q : Nat) (U : World) (it : Value) (ts : List T) (ys : List V), p = .int .i64 q /\ i <= q /\ q <= j /\ ts.length <= q - i /\ res = RL.pre ts (rdAll (rd k) (pc b q j).length (pc b q j)) /\ Ib w v U it ts ys) (fun p _ => j - (intOf p).toNat)
 case atStart => exact ⟨i, _, _, [], [], rfl, Nat.le_refl _, hij, by simp, by rw [Zrz]; exact HRES.out.symm, Zzw w⟩
 case round =>
  obtain ⟨q, U, it, ts, ys, rfl, hiq, hqj, htl, hpre, H⟩ := hrel
  obtain ⟨f1, f2, c0, c1, c2, e0, e1, e2⟩ := H.cells H.bel
  have HH := Hid.mk H
  have HP := Hid.mk hpre
  clear H hpre
  by_cases hlt : q < j
  ·have hqi : (q : Int) < j := by omega
   have hcal := HF.out a n c b wr (HA.out.at (below_go HH.out.bw HH.out.bel)) hn q j d (by omega) hj hd
   have HC := Hid.mk hcal
   clear hcal
   go_wp2_with fail
   refine HC.out.mono ?_
   rintro e w1 ⟨hb1, hm⟩
   cases hr : rd k (pc b q j) with
   | bad er =>
    rw [hr] at hm
    obtain ⟨rfl, her⟩ := hm
    have hne : pc b q j ≠ [] := by
     intro e
     have := Zif (b := b) (i := q) (j := j) (by rw [HA.out.l]; omega)
     rw [e] at this
     simp at this
     omega
    have hfin : res = .bad er := by
     rw [HP.out]
     obtain ⟨u, hu⟩ : ∃ u, (pc b q j).length = u + 1 := ⟨(pc b q j).length - 1, by have := List.length_pos_iff.2 hne; omega⟩
     rw [hu, Zdp hne hr]
     rfl
    subst hfin
    have hee : ((er : Int) != 0) = true := by rw [bne_iff_ne]; omega
    have hb2 := below_go HH.out.bel (below_go hb1 (below_new w1 (.cells #[.bool false, .slice none 0 0, .slice none 0 0] 94)))
    obtain ⟨f1, f2, c0, c1, c2, e0, e1, e2⟩ := HH.out.cells hb2
    have HB2 := Hid.mk (below_go HH.out.bw hb2)
    have HRW := Hid.mk (Below.row hb2 HH.out.res)
    clear hb1 hb2 hr hne HC
    go_wp2_with fail
    have hr := put3 HRW.out (.bool false) (.slice none 0 0) (.slice none 0 0)
    refine bodyPost_ret (Zag Tryz.results121 _ _ w.heap.size _ _ _ rfl hr) rfl ?_
    exact ⟨Za0 HB2.out (Nat.le_refl _) _ _ _, rfl, her⟩
   | ok t m =>
    rw [hr] at hm
    obtain ⟨y, rfl, hy⟩ := hm
    have hmn := rd_n hr
    rw [Zif (by rw [HA.out.l]; omega)] at hmn
    have hyl : ys.length <= 1000000000 := by have := HH.out.all.len; omega
    obtain ⟨it', w3, hrun, s3, I2⟩ := Zx8 HH.out hb1 hy hyl 92
    obtain ⟨ia', n', ic', rfl⟩ := Zr4 I2.own
    have hne : pc b q j ≠ [] := by
     intro e
     have := Zif (b := b) (i := q) (j := j) (by rw [HA.out.l]; omega)
     rw [e] at this
     simp at this
     omega
    have hpre := Zol (f := rd k) (ts := ts) (fun b t m h => (rd_n h).1) hne hr
    have hdrop : (pc b q j).drop m = pc b (q + m) j := by unfold pc; rw [List.drop_drop]
    rw [hdrop, <- HP.out] at hpre
    have hb2 := below_go HH.out.bel (below_go hb1 (below_new w1 (.cells #[.bool y.l, .slice y.ba y.bn y.bc, .slice y.ia y.m y.ic] 94)))
    have hb3 := below_go hb2 (below_new _ (.cells #[.bool y.l, .slice y.ba y.bn y.bc, .slice y.ia y.m y.ic] 94))
    obtain ⟨f1, f2, c0, c1, c2, e0, e1, e2⟩ := HH.out.cells hb2
    obtain ⟨g1, g2, d0, d1, d2, h0, h1, h2⟩ := HH.out.cells s3
    have HRUN := Hid.mk hrun
    have HI2 := Hid.mk I2
    have HPP := Hid.mk hpre
    clear hb1 hb2 hb3 hr hne HC hy hrun s3 I2 hpre hdrop
    go_wp2_with (first | refine Zcc rfl _ _ rfl _ _ rfl rfl HRUN.out ?_)
    refine ⟨⟨q + m, _, _, ts ++ [t], ys ++ [y], by simp, by omega, by omega, by rw [List.length_append]; simp; omega, HPP.out, HI2.out⟩, by simp [intOf]; omega⟩
  ·have hqe : q = j := by omega
   subst hqe
   have hqi : ¬ (q : Int) < q := by omega
   have hfin := HP.out
   rw [Zwf (Nat.le_refl _), Zc4] at hfin
   simp only [RL.pre, List.append_nil] at hfin
   subst hfin
   obtain ⟨ia, ic, hit, q1, q2, q3⟩ := Zkx (P := fun b => U.heap.size <= b) HH.out.own (HH.out.all.mono fun b hb _ => ⟨rfl, hb.1⟩) (fun g hg => (Zdq HH.out.own hg).1)
   subst hit
   have HQ := Hid.mk q3
   clear q3
   go_wp2_with fail
   have hr := put3 (Below.row HH.out.bel HH.out.res) (.bool true) (.slice none 0 0) (.slice ia ts.length ic)
   refine bodyPost_ret (Zag Tryz.results121 _ _ w.heap.size _ _ _ rfl hr) rfl ?_
   have hs := HH.out.sz
   refine ⟨Za0 (below_go HH.out.bw HH.out.bel) (Nat.le_refl _) _ _ _, ia, ic, rfl, q1, q2, ?_⟩
   exact Zbt (fun b (hb : U.heap.size <= b) hlt => ⟨Zbv (by omega) _ _ _, by omega⟩) (fun u _ => Zak (fun b (hb : U.heap.size <= b) hlt => ⟨Zbv (by omega) _ _ _, by omega⟩) u) HQ.out
theorem Zxm {g : List Int -> R} {deep : Bool} {x : Int} {r : List Int} (h : x < 128) : rd1 g deep (x :: r) = .ok (.mk false [x] []) 1 := by
 have e : hdr deep (x :: r) = .ok 0 1 := by
  unfold hdr
  simp only
  rw [if_neg (by omega), if_pos h]
 unfold rd1
 rw [e]
 simp only
 rw [if_pos (show (x :: r).headD 0 < 192 by show x < 192; omega), if_neg (by simp)]
 rfl
theorem Zh4 (k : Nat) (gg : List Int -> R) (hrd : ∀ b, rd k b = rd1 gg (decide (k = 0)) b) (hgg : ∀ b t m, gg b = .ok t m -> 1 <= m /\ m <= b.length)
  (hitems : 0 < k -> ∀ d, d + k = 8 -> ∀ (a : Option Addr) (n c : Nat) (b : List Int) (w : World), Ag w a n c b -> n <= 140737488351232 -> ∀ i j : Nat, i <= j -> j <= n -> j - i < 16777216 -> Calls Tryz.prog 121 #[.slice a n c, .int .i64 i, .int .i64 j, .int .i64 (d + 1 : Nat)] w (GPost w j (rdAll gg (pc b i j).length (pc b i j)))) : FSaid k := by
 intro a n c b w h hn i j d hij hj hd
 have hdec : decide (k = 0) = decide (d = 8) := by by_cases h0 : k = 0 <;> simp [h0] <;> omega
 by_cases hlt : i < j
 case neg => exact Zp2 a n c i j d w k b hlt (by omega) (by rw [Zwf (by omega), hrd]; exact Zdh rfl)
 rw [Zig hlt (by rw [h.l]; omega), hrd, hdec]
 by_cases h1 : b.getD i 0 < 128
 ·exact Zp1 a n c i j d w b h hn hlt hj _ rfl h1 _ (Zxm h1)
 by_cases h2 : b.getD i 0 < 192
 ·exact Zm8 gg a n c i j d w b h hn hlt hj (by omega) _ rfl (by omega) h2 _ rfl
 by_cases h8 : d = 8
 ·subst h8
  exact Zna a n c i j w b h hn hlt hj _ rfl (by omega) _ (Zdh (by rw [decide_eq_true rfl]; exact Zo1 (by omega)))
 ·exact Zm9 gg a n c i j d w b h hn hlt hj (by omega) _ rfl (by omega) (by omega) (hitems (by omega) d hd) hgg _ rfl
theorem Zjp : ∀ k, FSaid k
 | 0 => Zh4 0 (fun _ => .bad 21) (fun b => rfl) (fun b t m h => by cases h) (fun h => absurd h (by omega))
 | k + 1 => Zh4 (k + 1) (rd k) (fun b => rfl) (fun b t m h => rd_n h) (fun _ d hd a n c b w h hn i j hij hj hl => Zp0 k (Zjp k) a n c b w h hn i j (d + 1) hij hj hl (by omega))
set_option maxHeartbeats 1000000 in
theorem Zp7 (a : Option Addr) (n c : Nat) (b : List Int) (w : World) (h : Ag w a n c b) (hn : n <= 140737488351232) : Calls Tryz.prog 107 #[.slice a n c] w (ReadPost w (rd 8 b)) := by
 have hpcb : pc b 0 n = b := by unfold pc; rw [List.drop_zero, List.take_of_length_le (by rw [h.l]; exact Nat.le_refl _)]
 have hcal := fun w' (hb : Below w.heap.size w w') => Zjp 8 a n c b w' (h.at hb) hn 0 n 0 (Nat.zero_le _) (Nat.le_refl _) rfl
 rw [hpcb, show ((0 : Nat) : Int) = 0 from rfl] at hcal
 clear hpcb
 have HCAL := Hid.mk hcal
 obtain ⟨res, hres⟩ : ∃ r, rd 8 b = r := ⟨_, rfl⟩
 rw [hres] at HCAL ⊢
 clear hcal h hres
 go_enter Tryz.func107, Tryz.ntmps107
 go_wp2_with fail
 refine (HCAL.out _ ((Below.refl _ _).alloc (Nat.le_refl _) _)).mono ?_
 rintro e w1 ⟨hb, hm⟩
 have hres1 : w1.heap[w.heap.size]? = some (.cells #[.bool false, .slice none 0 0, .slice none 0 0] 94) := Below.row hb (heap_alloc_new _ _)
 have hb1 : Below w.heap.size w w1 := ((Below.refl w.heap.size w).alloc (Nat.le_refl _) _).trans (hb.mono (by simp))
 have x0 : w1.cell? ⟨w.heap.size, 0, none⟩ = some (.bool false) := by rw [cell_of_row _ _ _ _ _ _ hres1]; rfl
 have x1 : w1.cell? ⟨w.heap.size, 1, none⟩ = some (.slice none 0 0) := by rw [cell_of_row _ _ _ _ _ _ hres1]; rfl
 have x2 : w1.cell? ⟨w.heap.size, 2, none⟩ = some (.slice none 0 0) := by rw [cell_of_row _ _ _ _ _ _ hres1]; rfl
 have xf : ∀ o, w1.frozen? ⟨w.heap.size, o, none⟩ = false := fun o => frozen_of_row _ _ _ _ _ hres1
 have HR := Hid.mk hres1
 have HB1 := Hid.mk hb1
 clear hres1 hb hb1
 cases res with
 | bad er =>
  obtain ⟨rfl, her⟩ := hm
  go_wp2_with fail
  have hr := put3 HR.out (.bool false) (.slice none 0 0) (.slice none 0 0)
  refine bodyPost_ret (Zag Tryz.results107 _ _ w.heap.size _ _ _ rfl hr) rfl ?_
  exact ⟨Za0 HB1.out (Nat.le_refl _) _ _ _, rfl, her⟩
 | ok t m =>
  obtain ⟨y, rfl, hy⟩ := hm
  rw [Nat.zero_add]
  have HY := Hid.mk hy
  clear hy
  go_wp2_with fail
  have hr := put3 HR.out (.bool y.l) (.slice y.ba y.bn y.bc) (.slice y.ia y.m y.ic)
  refine bodyPost_ret (Zag Tryz.results107 _ _ w.heap.size _ _ _ rfl hr) rfl ?_
  refine ⟨Za0 HB1.out (Nat.le_refl _) _ _ _, y, rfl, Zak (fun b hb hlt => ?_) t y HY.out⟩
  have hb' : w.heap.size + 1 <= b := by have : (w.alloc (.cells #[.bool false, .slice none 0 0, .slice none 0 0] 94)).heap.size <= b := hb; simpa using this
  exact ⟨Zbv (by omega) _ _ _, by omega⟩
set_option maxHeartbeats 1000000 in
theorem Zid (a : Option Addr) (n c : Nat) (b : List Int) (w : World) (h : Ag w a n c b) (hn : n <= 140737488351232) : Calls Tryz.prog 91 #[.slice a n c] w (DecPost w (decP b)) := by
 have hcal := fun w' (hb : Below w.heap.size w w') => Zp7 a n c b w' (h.at hb) hn
 have HCAL := Hid.mk hcal
 have hl := h.l
 obtain ⟨res, hres⟩ : ∃ r, decP b = r := ⟨_, rfl⟩
 rw [hres]
 unfold decP at hres
 have HRES := Hid.mk hres
 have HL := Hid.mk hl
 clear hcal h hres hl
 go_enter Tryz.func91, Tryz.ntmps91
 go_wp2_with fail
 refine (HCAL.out _ ((Below.refl _ _).alloc (Nat.le_refl _) _)).mono ?_
 rintro e w1 ⟨hb, hm⟩
 have RB := (Rb.new w).call hb
 clear hb
 have hres := HRES.out
 cases hrd : rd 8 b with
 | bad er =>
  rw [hrd] at hm hres
  obtain ⟨rfl, her⟩ := hm
  subst hres
  have hee : ((er : Int) != 0) = true := by rw [bne_iff_ne]; omega
  clear hrd
  go_upto_if 14 with fail
  refine gen_w (p := fun v => Code.wp _ _ _ _ v) (q := fun v => Rb w v /\ v.heap[w1.heap.size]? = some (.cells #[.bool false, .slice none 0 0, .slice none 0 0] 94)) ⟨RB.alloc _, heap_alloc_new _ _⟩ ?_
  clear RB
  rintro v ⟨RV, hyv⟩
  have x0 := RV.x0
  have x1 := RV.x1
  have x2 := RV.x2
  have xf := RV.xf
  have u0 : v.cell? ⟨w1.heap.size, 0, none⟩ = some (#[.bool false, .slice none 0 0, .slice none 0 0][0]) := by rw [cell_of_row _ _ _ _ _ _ hyv]; rfl
  have u1 : v.cell? ⟨w1.heap.size, 1, none⟩ = some (#[.bool false, .slice none 0 0, .slice none 0 0][1]) := by rw [cell_of_row _ _ _ _ _ _ hyv]; rfl
  have u2 : v.cell? ⟨w1.heap.size, 2, none⟩ = some (#[.bool false, .slice none 0 0, .slice none 0 0][2]) := by rw [cell_of_row _ _ _ _ _ _ hyv]; rfl
  have HRV := Hid.mk RV
  clear RV hyv
  go_wp2_with fail
  have hr := put3 HRV.out.row (.bool false) (.slice none 0 0) (.slice none 0 0)
  refine bodyPost_ret (Zcd Tryz.results91 _ _ w.heap.size _ _ _ rfl hr) rfl ?_
  exact ⟨Za0 HRV.out.bel (Nat.le_refl _) _ _ _, rfl, her⟩
 | ok t m =>
  rw [hrd] at hm hres
  simp only [HL.out] at hres
  obtain ⟨y, rfl, hy⟩ := hm
  have HY : Hid (∀ o, LiesP (fun b => w.heap.size + 1 <= b) (w1.alloc o) t y) := fun o => Zak (fun b hb hlt => ⟨Below.heap_alloc _ _ _ hlt, by have : (w.alloc (.cells #[.bool false, .slice none 0 0, .slice none 0 0] 94)).heap.size <= b := hb; simpa using this⟩) t y hy
  clear hy
  by_cases hmn : m < n
  ·rw [if_pos hmn] at hres
   subst hres
   have hmi : (m : Int) < n := by omega
   clear hrd
   go_upto_if 14 with fail
   refine gen_w (p := fun v => Code.wp _ _ _ _ v) (q := fun v => Rb w v /\ v.heap[w1.heap.size]? = some (.cells #[.bool y.l, .slice y.ba y.bn y.bc, .slice y.ia y.m y.ic] 94) /\ Hid (LiesP (fun b => w.heap.size + 1 <= b) v t y)) ⟨RB.alloc _, heap_alloc_new _ _, HY.out _⟩ ?_
   clear RB HY
   rintro v ⟨RV, hyv, HY⟩
   have x0 := RV.x0
   have x1 := RV.x1
   have x2 := RV.x2
   have xf := RV.xf
   have u0 : v.cell? ⟨w1.heap.size, 0, none⟩ = some (#[.bool y.l, .slice y.ba y.bn y.bc, .slice y.ia y.m y.ic][0]) := by rw [cell_of_row _ _ _ _ _ _ hyv]; rfl
   have u1 : v.cell? ⟨w1.heap.size, 1, none⟩ = some (#[.bool y.l, .slice y.ba y.bn y.bc, .slice y.ia y.m y.ic][1]) := by rw [cell_of_row _ _ _ _ _ _ hyv]; rfl
   have u2 : v.cell? ⟨w1.heap.size, 2, none⟩ = some (#[.bool y.l, .slice y.ba y.bn y.bc, .slice y.ia y.m y.ic][2]) := by rw [cell_of_row _ _ _ _ _ _ hyv]; rfl
   have HRV := Hid.mk RV
   clear RV hyv
   go_wp2_with fail
   have hr := put3 HRV.out.row (.bool false) (.slice none 0 0) (.slice none 0 0)
   refine bodyPost_ret (Zcd Tryz.results91 _ _ w.heap.size _ _ _ rfl hr) rfl ?_
   exact ⟨Za0 HRV.out.bel (Nat.le_refl _) _ _ _, rfl, by decide⟩
  ·rw [if_neg hmn] at hres
   subst hres
   have hmi : ¬ (m : Int) < n := by omega
   clear hrd
   go_upto_if 14 with fail
   refine gen_w (p := fun v => Code.wp _ _ _ _ v) (q := fun v => Rb w v /\ v.heap[w1.heap.size]? = some (.cells #[.bool y.l, .slice y.ba y.bn y.bc, .slice y.ia y.m y.ic] 94) /\ Hid (LiesP (fun b => w.heap.size + 1 <= b) v t y)) ⟨RB.alloc _, heap_alloc_new _ _, HY.out _⟩ ?_
   clear RB HY
   rintro v ⟨RV, hyv, HY⟩
   have x0 := RV.x0
   have x1 := RV.x1
   have x2 := RV.x2
   have xf := RV.xf
   have u0 : v.cell? ⟨w1.heap.size, 0, none⟩ = some (#[.bool y.l, .slice y.ba y.bn y.bc, .slice y.ia y.m y.ic][0]) := by rw [cell_of_row _ _ _ _ _ _ hyv]; rfl
   have u1 : v.cell? ⟨w1.heap.size, 1, none⟩ = some (#[.bool y.l, .slice y.ba y.bn y.bc, .slice y.ia y.m y.ic][1]) := by rw [cell_of_row _ _ _ _ _ _ hyv]; rfl
   have u2 : v.cell? ⟨w1.heap.size, 2, none⟩ = some (#[.bool y.l, .slice y.ba y.bn y.bc, .slice y.ia y.m y.ic][2]) := by rw [cell_of_row _ _ _ _ _ _ hyv]; rfl
   have HRV := Hid.mk RV
   clear RV hyv
   go_wp2_with fail
   have hr := put3 HRV.out.row (.bool y.l) (.slice y.ba y.bn y.bc) (.slice y.ia y.m y.ic)
   refine bodyPost_ret (Zcd Tryz.results91 _ _ w.heap.size _ _ _ rfl hr) rfl ?_
   refine ⟨Za0 HRV.out.bel (Nat.le_refl _) _ _ _, y, rfl, Zak (fun b (hb : w.heap.size + 1 <= b) hlt => ⟨Zbv (by omega) _ _ _, by omega⟩) t y HY.out⟩
set_option maxHeartbeats 4000000 in
theorem Zfk (K : Nat -> Prop) (x : RV) (r : PR) (w : World) (h : RefAt K w x r) :
  Calls Tryz.prog 77 #[.agg x.cells.toArray] w (IPost w (refItemP r)) := by
 have HRI := Hid.mk (Zwa w x h.len)
 have HH := Hid.mk h
 have HLX := Hid.mk h.len
 obtain ⟨res, hres⟩ : ∃ res, refItemP r = res := ⟨_, rfl⟩
 rw [hres]
 unfold refItemP at hres
 rw [<- h.1] at hres
 have HRES := Hid.mk hres
 clear h hres
 go_enter Tryz.func77, Tryz.ntmps77
 go_upto_region 1 with fail
 refine gen_w (p := fun v => Code.wp _ _ _ _ v) (q := fun v => Ri w v x) HRI.out ?_
 clear HRI
 intro v R0
 have c0 := R0.bx.c0
 have c33 := R0.bx.c33
 have HR0 := Hid.mk R0
 clear R0
 by_cases h1 : x.k = 1
 ·have hr := HRES.out
  rw [if_pos h1] at hr
  have HCD := Hid.mk (Zid x.a x.n x.c r.i v (HH.out.2.2.2.2.1.at HR0.out.bel) HH.out.2.2.2.2.2.1)
  have HR := Hid.mk hr
  clear hr HRES
  go_wp2_with fail
  refine HCD.out.mono ?_
  intro e w1 hp
  obtain ⟨hb1, hp⟩ := hp
  have HR1 := Hid.mk (HR0.out.go hb1)
  have HS0 := Hid.mk HR0.out.sz
  have hr := HR.out
  cases hq : decP r.i with
  | bad er =>
   rw [hq] at hp hr
   have hr : t0 = res := hr
   subst hr
   obtain ⟨rfl, her⟩ := hp
   clear hb1 hq her
   go_upto_region 3 with fail
   refine gen_w (p := fun v => Code.wp _ _ _ _ v) (q := fun v => Ri w v x /\ B1 w1.heap.size v ⟨false, none, 0, 0, none, 0, 0⟩) ⟨HR1.out.go (below_new w1 _), Zcy w1 ⟨false, none, 0, 0, none, 0, 0⟩⟩ ?_
   rintro v2 ⟨R2, B2⟩
   have x0 := R2.x0
   have x1 := R2.x1
   have x2 := R2.x2
   have xf := R2.xf
   have d0 := B2.c0
   have d1 := B2.c1
   have d2 := B2.c2
   have HR2 := Hid.mk R2
   clear R2 B2 c0 c33
   go_wp2_with fail
   have hr := put3 HR2.out.row (.bool false) (.slice none 0 0) (.slice none 0 0)
   refine bodyPost_ret (results_cell_row Tryz.results77 _ _ (w.heap.size + 1) 94 _ (0, 0) _ rfl hr Tryz.underlying94 rfl (by kernel_rfl)) rfl ?_
   exact Zcs (y := ⟨false, none, 0, 0, none, 0, 0⟩) HR2.out (Zgc _ _)
  | ok t =>
   rw [hq] at hp hr
   have hr : t = res := hr
   subst hr
   obtain ⟨y, rfl, hy⟩ := hp
   have HY := Hid.mk (show LiesP (fun b => w.heap.size + 2 <= b) w1 t y from Zak (fun b hb hlt => ⟨rfl, by have := HS0.out; omega⟩) _ _ hy)
   clear hb1 hq hy
   go_upto_region 3 with fail
   refine gen_w (p := fun v => Code.wp _ _ _ _ v) (q := fun v => Ri w v x /\ B1 w1.heap.size v y /\ LiesP (fun b => w.heap.size + 2 <= b) v t y) ⟨HR1.out.go (below_new w1 _), Zcy w1 _, Zak (fun b hb hlt => ⟨heap_alloc_old _ _ hlt, hb⟩) _ _ HY.out⟩ ?_
   rintro v2 ⟨R2, B2, L2⟩
   have x0 := R2.x0
   have x1 := R2.x1
   have x2 := R2.x2
   have xf := R2.xf
   have d0 := B2.c0
   have d1 := B2.c1
   have d2 := B2.c2
   have HR2 := Hid.mk R2
   have HL2 := Hid.mk L2
   clear R2 B2 L2 c0 c33
   go_wp2_with fail
   have hr := put3 HR2.out.row (.bool y.l) (.slice y.ba y.bn y.bc) (.slice y.ia y.m y.ic)
   refine bodyPost_ret (results_cell_row Tryz.results77 _ _ (w.heap.size + 1) 94 _ (0, 0) _ rfl hr Tryz.underlying94 rfl (by kernel_rfl)) rfl ?_
   exact Zcs HR2.out HL2.out
 ·by_cases h2 : x.k = 2
  ·have hr := HRES.out
   rw [if_neg h1, if_pos h2] at hr
   subst hr
   have e1 : (x.k == 1) = false := by simp [h1]
   have HS0 := Hid.mk HR0.out.sz
   clear c33
   go_wp2_with fail
   clear c0 e1
   go_loopw [5, 6] (fun s5 s6 u => ∃ j : Nat, j <= 32 /\ s6 = .int .i64 j /\ OwnB u v.heap.size s5 (r.d.take j) /\ Below v.heap.size v u) (fun _ s6 _ => 32 - (intOf s6).toNat)
   case atStart => exact ⟨0, by omega, rfl, Ni.ownB_nil _ _, Below.refl _ _⟩
   case round =>
    obtain ⟨j, hj, rfl, hown, hb⟩ := hrel
    have HO := Hid.mk hown
    have HBW := Hid.mk hb
    have HRR := Hid.mk (HR0.out.go hb)
    clear hown hb
    by_cases hlt : j < 32
    ·have hji : (j : Int) < 32 := by omega
     have hjd : j < r.d.length := by rw [HH.out.2.2.2.1]; exact hlt
     have hcell : wr.cell? ⟨w.heap.size, 1 + j, none⟩ = some (.int .u8 (r.d.getD j 0)) := by
      have hd := HRR.out.bx.digest
      rw [HH.out.2.1] at hd
      exact hd j _ (by rw [List.getElem?_map, List.getD, List.getElem?_eq_getElem hjd]; rfl)
     have HN := Hid.mk (Ni.take_snoc hjd)
     have HTL := Hid.mk (show (r.d.take j).length = j from by rw [List.length_take]; omega)
     generalize r.d.getD j 0 = z at hcell HN
     have HO2 : Hid (∀ o : Obj, OwnB (wr.alloc o) v.heap.size u5 (r.d.take j)) := Hid.mk fun o => OwnB.alloc HO.out o
     have HSZ := Hid.mk HBW.out.size
     clear HO hjd
     go_wp2_with (first
      | (at_builtin; refine Zbx rfl (.tmp 24) (.tmp 29) rfl v.heap.size _ (r.d.take j) rfl (HO2.out _) (some ⟨wr.heap.size, 0, none⟩) 1 1 [z] rfl (Ni.in0_one wr _) (fun h => by cases h) rfl (by rw [HTL.out]; omega) (by have := HSZ.out; simp; omega) ?_; intro v1 w1 o1 hb1; rw [<- HN.out] at o1; have HO3 := Hid.mk o1; have HB3 := Hid.mk ((HBW.out.alloc HSZ.out _).trans hb1); clear o1 hb1))
     go_roundw
     case rel => exact ⟨j + 1, by omega, by simp, HO3.out, HB3.out⟩
     case measure => simp [intOf]; omega
    ·have hji : ¬ (j : Int) < 32 := by omega
     have hbt : r.d.take j = r.d := List.take_of_length_le (by rw [HH.out.2.2.2.1]; omega)
     rw [hbt] at HO
     obtain ⟨g, cap, rfl, hg1, hg2, hg3, hg4, hg5⟩ := HO.out.slice (by rw [HH.out.2.2.2.1]; omega)
     have hag := (HO.out.ag HH.out.2.2.1)
     obtain ⟨aa, cc, hve, hag⟩ := hag
     cases hve
     have hfz : ∀ o, wr.frozen? ⟨g, o, none⟩ = false := by
      rcases HO.out.2 with ⟨hx, _⟩ | ⟨g', cap', cur, hx, _, hh, _⟩
      ·cases hx
      ·cases hx; exact fun o => frozen_of_row _ _ _ _ _ hh
     have hld := HH.out.2.2.2.1
     rw [hld] at hag ⊢
     have HLY := Hid.mk (show LiesP (fun b => w.heap.size + 2 <= b) wr (.mk false r.d []) ⟨false, some ⟨g, 0, none⟩, 32, cap, none, 0, 0⟩ from
      liesP_eq.2 ⟨⟨rfl, hag, rfl, Nat.le_refl _, Nat.zero_le _, ⟨by show 32 <= _; omega, Nat.zero_le _⟩, fun g' off e _ => by cases e; exact ⟨by have := HS0.out; omega, hfz⟩⟩, Zbk⟩)
     have x0 := HRR.out.x0
     have x1 := HRR.out.x1
     have x2 := HRR.out.x2
     have xf := HRR.out.xf
     clear hag hfz hld hbt hg1 hg2 hg3 hg4 hg5
     go_wp2_with fail
     have hr := put3 HRR.out.row (.bool false) (.slice (some ⟨g, 0, none⟩) 32 cap) (.slice none 0 0)
     refine bodyPost_ret (results_cell_row Tryz.results77 _ _ (w.heap.size + 1) 94 _ (0, 0) _ rfl hr Tryz.underlying94 rfl (by kernel_rfl)) rfl ?_
     exact Zcs (y := ⟨false, some ⟨g, 0, none⟩, 32, cap, none, 0, 0⟩) HRR.out HLY.out
  ·have hr := HRES.out
   rw [if_neg h1, if_neg h2] at hr
   subst hr
   have e1 : (x.k == 1) = false := by simp [h1]
   have e2 : (x.k == 2) = false := by simp [h2]
   have x0 := HR0.out.x0
   have x1 := HR0.out.x1
   have x2 := HR0.out.x2
   have xf := HR0.out.xf
   go_wp2_with fail
   have hr := put3 HR0.out.row (.bool false) (.slice none 0 0) (.slice none 0 0)
   refine bodyPost_ret (results_cell_row Tryz.results77 _ _ (w.heap.size + 1) 94 _ (0, 0) _ rfl hr Tryz.underlying94 rfl (by kernel_rfl)) rfl ?_
   exact Zcs (y := ⟨false, none, 0, 0, none, 0, 0⟩) HR0.out (Zgc _ _)
end Go.Proofs.YtdkpilgelgjieaaGreat
