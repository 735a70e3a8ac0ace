/- A node that is made a thing and a node again is the same; a call asks for nothing but what it uses. -/
import Derived.Test.YtchgejomcgoaeaaGreatG35
import Derived.Maps.RangeRun
import Derived.Test.YtchgejomcgoaeaaGreatG14
set_option linter.unusedVariables false
set_option maxRecDepth 100000
namespace Go.Proofs.YtchgejomcgoaeaaGreat
open Go.RowKit
open Di (dref)
open Pt
open Ni (lessP)
variable {n : PN} {d y : List Int} {us ns : List (List Int)} {kn : Kn} {k : Int}
theorem Xbr {r : PR} (h : rrefP KD r = true) (hk : r.k = 0) : r = r0 := by
 rcases Zcm h with h | h | h
 ·exact PR.ext h.1 h.2.1 h.2.2
 ·omega
 ·omega
theorem Xay {f : Nat} (h : NR n = true) (hr : ∀ r, (r = n.c ∨ r ∈ n.ks) → rfT (nmN f r) = r) : ndT (thG (nmN f) n) = n := by
 obtain ⟨k, p, v, c, ks⟩ := n
 rcases Zcb h with q | q | q
 ·obtain ⟨hk, _, _, _, _, hc, hc0, hks⟩ := q
  simp only at hk hc hc0 hks
  rw [Xbr hc hc0, hks, hk]
  unfold thG
  rw [if_pos rfl]
  rfl
 ·obtain ⟨hk, _, _, _, hv, hc, _, hks⟩ := q
  simp only at hk hc hv hks
  have := hr c (.inl rfl)
  rw [hks, hk, hv]
  unfold thG
  simp only [show ¬ (2 : Int) = 1 by omega, if_false, if_true]
  show (⟨2, p, [], rfT (nmN f c), []⟩ : PN) = _
  rw [this]
 ·obtain ⟨hk, hp, _, hc, hc0, hks, _, _⟩ := q
  simp only at hk hp hc hc0 hks
  rw [Xbr hc hc0, hp, hk]
  unfold thG
  simp only [show ¬ (3 : Int) = 1 by omega, show ¬ (3 : Int) = 2 by omega, if_false]
  have e : ((List.range 16).map fun i => rfT (nmN f (ks.getD i r0))) = ks := by
   apply List.ext_getElem (by simp [hks])
   intro i h1 h2
   have hi : ks.getD i r0 = ks[i] := by simp [List.getD, h2]
   simp only [List.getElem_map, List.getElem_range, hi]
   exact hr _ (.inr (List.getElem_mem h2))
  show (⟨3, [], v, r0, (List.range 16).map fun i => rfT (nmN f (ks.getD i r0))⟩ : PN) = _
  rw [e]
theorem Xa9 : ∀ (f : Nat) (r : PR), okR r → rrefP KD r = true → r.i.length < f → rfT (nmN f r) = r
  | 0, r, _, _, hl => by omega
  | f + 1, r, ho, h, hl => by
    rcases Zcm h with q | q | q
    · unfold nmN
      rw [if_neg (by omega), if_neg (by omega)]
      exact (PR.ext q.1 q.2.1 q.2.2 : r = r0).symm
    · unfold nmN
      rw [if_neg (by omega), if_pos q.1]
      exact (PR.ext q.1 rfl q.2 : r = ⟨2, r.d, []⟩).symm
    · unfold nmN
      rw [if_pos q.1]
      obtain ⟨m, hm, _⟩ := Zhb q.2.2.2
      rw [hm]
      have hom := Zir ho.2.2 hm
      obtain ⟨hnr, hne, hdec⟩ := Zgo ho.2.2 hm
      obtain ⟨t, hd, hnt, _⟩ := Zel ho.2.2 hm
      have hb := Xay (f := f) hnr fun r' hr' => Xa9 f r' (Zl6 hom r' hr') (Zle hnr r' hr') (by have := (Zes ho.2.2 hd hnt r' hr').1; omega)
      show rfT (thG (nmN f) m) = r
      have hnd : (thG (nmN f) m).isNd = true := by
        unfold thG
        split
        · rfl
        · split <;> rfl
      rw [Xb8 hnd, hb]
      have he : encN m = r.i := by
        show (NEP m).1 = r.i
        unfold NEP
        rw [if_pos hnr]
        exact hne
      rw [he]
      unfold referP
      rw [if_pos q.2.2.1]
      exact (PR.ext q.1 q.2.1 rfl : r = ⟨1, z32, r.i⟩).symm
theorem Xbx {b : List Int} (hb : isB b) (h : ND b = some n) : encN (ndT (TH n)) = b := by
 obtain ⟨hnr, hne, _⟩ := Zgo hb h
 have hom := Zir hb h
 have e : ndT (TH n) = n := Xay (f := 33) hnr fun r hr => Xa9 33 r (Zl6 hom r hr) (Zle hnr r hr) (by have := Ze7 (Zle hnr r hr); omega)
 rw [e]
 show (NEP n).1 = b
 unfold NEP
 rw [if_pos hnr]
 exact hne
def KLe (k1 k2 : Kn) : Prop := ∀ d t, findK d k1 = some t → findK d k2 = some t
theorem Xab {d : List Int} {x : List Int × Pt} : ∀ {kn : Kn}, findK d (kn ++ [x]) = match findK d kn with
    | some t => some t
    | none => if x.1 = d then some x.2 else none
  | [] => by simp [findK]
  | y :: l => by
    rw [List.cons_append]
    unfold findK
    split
    · rfl
    · exact Xab
theorem Xbt : ∀ (ns : List (List Int)) (kn : Kn), KLe kn (knP ns kn)
  | [], kn => fun _ _ h => h
  | b :: r, kn => fun d t h => by
    rw [Zmc]
    refine Xbt r _ d t ?_
    cases findK (dref b) kn with
    | some _ => exact h
    | none =>
      cases ND b with
      | none => exact h
      | some n => simp only; rw [Xab, h]
theorem Xbd : ∀ (ns : List (List Int)) (kn : Kn), (∀ b ∈ ns, isB b) → (∀ d t, findK d kn = some t → ∃ b n, isB b ∧ dref b = d ∧ ND b = some n ∧ TH n = t) → ∀ d t, findK d (knP ns kn) = some t → ∃ b n, isB b ∧ dref b = d ∧ ND b = some n ∧ TH n = t
  | [], kn, _, h => h
  | b :: r, kn, hb, h => by
    rw [Zmc]
    refine Xbd r _ (fun x hx => hb x (List.mem_cons_of_mem _ hx)) ?_
    cases findK (dref b) kn with
    | some _ => exact h
    | none =>
      cases hn : ND b with
      | none => exact h
      | some n =>
        simp only
        intro d t e
        rw [Xab] at e
        cases hf : findK d kn with
        | some t' => rw [hf] at e; simp only [Option.some.injEq] at e; subst e; exact h d _ hf
        | none =>
          rw [hf] at e
          simp only at e
          by_cases hd : dref b = d
          · rw [if_pos hd] at e; cases e
            exact ⟨b, n, hb b (by simp), hd, hn, rfl⟩
          · rw [if_neg hd] at e; cases e
theorem Xa4 {k1 : Kn} : ∀ (L : List (List Int)) (kn : Kn), KLe kn k1 → (∀ b ∈ L, ∃ n, ND b = some n ∧ findK (dref b) k1 = some (TH n)) → KLe (knP L kn) k1 ∧ ∀ b ∈ L, ∃ t, findK (dref b) (knP L kn) = some t
  | [], kn, h, _ => ⟨h, fun b hb => by cases hb⟩
  | b :: r, kn, h, hL => by
    obtain ⟨n, hn, hk⟩ := hL b (by simp)
    have hstep : ∃ k', (match findK (dref b) kn with
        | some _ => kn
        | none => match ND b with
          | none => kn
          | some n => kn ++ [(dref b, TH n)]) = k' ∧ KLe k' k1 ∧ ∃ t, findK (dref b) k' = some t := by
      cases hf : findK (dref b) kn with
      | some t => exact ⟨kn, rfl, h, t, hf⟩
      | none =>
        rw [hn]
        refine ⟨_, rfl, fun d t e => ?_, TH n, ?_⟩
        · rw [Xab] at e
          cases hq : findK d kn with
          | some t' => rw [hq] at e; simp only [Option.some.injEq] at e; subst e; exact h d _ hq
          | none =>
            rw [hq] at e
            simp only at e
            by_cases hd : dref b = d
            · rw [if_pos hd] at e; cases e; rw [← hd]; exact hk
            · rw [if_neg hd] at e; cases e
        · rw [Xab, hf]; simp
    obtain ⟨k', e, h1, t, h2⟩ := hstep
    rw [show knP (b :: r) kn = knP r k' from (Zmc b r kn).trans (congrArg (knP r) e)]
    obtain ⟨h3, h4⟩ := Xa4 r k' h1 (fun x hx => hL x (List.mem_cons_of_mem _ hx))
    refine ⟨h3, fun x hx => ?_⟩
    rcases List.mem_cons.1 hx with rfl | hx
    · exact ⟨t, Xbt r k' _ t h2⟩
    · exact h4 x hx
theorem Xbk (b : List Int) (r : List (List Int)) (kn : Kn) : ∃ k', knP (b :: r) kn = knP r k' ∧ k'.length ≤ kn.length + 1 := by
 rw [Zmc]
 cases findK (dref b) kn with
 | some _ => exact ⟨kn, rfl, by omega⟩
 | none =>
  cases ND b with
  | none => exact ⟨kn, rfl, by omega⟩
  | some n => exact ⟨_, rfl, by simp⟩
theorem Xbe : ∀ (ns : List (List Int)) (kn : Kn), (knP ns kn).length ≤ kn.length + ns.length
  | [], kn => by unfold knP; simp
  | b :: r, kn => by
    obtain ⟨k', e, h⟩ := Xbk b r kn
    rw [e]
    have := Xbe r k'
    simp only [List.length_cons]
    omega
theorem useP_mem {x : List Int} : x ∈ useP d us ↔ x = d ∨ x ∈ us := by
 unfold useP
 cases hf : findI d us with
 | none => simp [or_comm]
 | some j =>
  have := List.mem_of_getElem? (Zj8 hf)
  simp only
  constructor
  ·exact .inr
  ·rintro (rfl | h)
   ·exact this
   ·exact h
theorem Xav {d : List Int} : ∀ {us : List (List Int)}, findI d us = none → d ∉ us
  | [], _ => by simp
  | x :: r, h => by
    unfold findI at h
    split at h
    · cases h
    · rename_i hne
      cases hq : findI d r with
      | some i => rw [hq] at h; cases h
      | none =>
        have := Xav hq
        simp only [List.mem_cons, not_or]
        exact ⟨fun e => hne (by first | exact e.symm | exact e), this⟩
section
variable {kn : Kn} {Pp : List (List Int) → Prop}
theorem Xac (hp : ∀ s us, Pp us → Pp (lkU kn s us)) {q : List Int} : ∀ {f : Nat} {s : Sp} {us : List (List Int)}, Pp us → Pp (wkU kn q f s us)
  | 0, s, us, h => h
  | f + 1, s, us, h => by
    unfold wkU
    cases lookP kn s with
    | none => exact h
    | some u =>
      simp only
      cases nextP q ⟨u, s.l, s.c⟩ with
      | none => exact hp s us h
      | some s2 => exact Xac hp (hp s us h)
theorem Xar (hp : ∀ s us, Pp us → Pp (lkU kn s us)) {k : Nat → Pt} {x : List Int} {l : Nat} {us : List (List Int)} (h : Pp us) : Pp (nrmU kn k x l us) := by
 unfold nrmU
 split
 ·exact h
 ·split
  ·exact h
  ·exact hp _ _ h
theorem Xaa (hp : ∀ s us, Pp us → Pp (lkU kn s us)) {q : List Int} : ∀ {ws : List Sp} {t : Pt} {us : List (List Int)}, Pp us → Pp (remU kn q ws t us)
  | [], t, us, h => h
  | s :: r, t, us, h => by
    unfold remU
    cases s.t with
    | ext p c => exact Xaa hp h
    | br k x =>
      simp only
      cases nrmP kn (upd k (q.getD s.l 0).toNat t) x s.l with
      | none => exact Xar hp h
      | some u => exact Xaa hp (Xar hp h)
    | no => exact Xaa hp h
    | st d => exact Xaa hp h
    | leaf p v => exact Xaa hp h
theorem Xao (hp : ∀ s us, Pp us → Pp (lkU kn s us)) {s : Sp} {us : List (List Int)} (h : Pp us) : Pp (woU kn s us) := by
 unfold woU
 split
 ·exact Xar hp h
 ·exact h
theorem Xaw (hp : ∀ s us, Pp us → Pp (lkU kn s us)) {t : Pt} {k : Int} {key y : List Int} {us : List (List Int)} (h : Pp us) : Pp (callU kn t k key y us) := by
 unfold callU
 split
 ·unfold getU
  split
  ·exact h
  ·exact Xac hp h
 ·split
  ·unfold putU
   split
   ·exact h
   ·split
    ·exact h
    ·split
     ·exact Xac hp h
     ·exact Xaa hp (Xac hp h)
  ·split
   ·unfold delU
    split
    ·exact h
    ·split
     ·exact Xac hp h
     ·split
      ·exact Xac hp h
      ·split
       ·exact Xao hp (Xac hp h)
       ·exact Xaa hp (Xao hp (Xac hp h))
   ·exact h
end
theorem Xal {A : List (List Int)} (s : Sp) (us : List (List Int)) (h : ∀ d ∈ A, d ∈ us) : ∀ d ∈ A, d ∈ lkU kn s us := by
 unfold lkU
 split
 ·split
  ·exact h
  ·exact fun d hd => useP_mem.2 (.inr (h d hd))
 ·exact h
theorem Xcc (s : Sp) (us : List (List Int)) (h : us.Nodup ∧ ∀ d ∈ us, ∃ t, findK d kn = some t) : (lkU kn s us).Nodup ∧ ∀ d ∈ lkU kn s us, ∃ t, findK d kn = some t := by
 unfold lkU
 split
 ·rename_i d hs
  split
  ·exact h
  ·rename_i u hl
   refine ⟨?_, fun x hx => ?_⟩
   ·unfold useP
    cases hf : findI d us with
    | none =>
     simp only
     rw [List.nodup_append]
     refine ⟨h.1, by simp, fun a ha b hb e => ?_⟩
     rw [List.mem_singleton.1 hb] at e
     rw [e] at ha
     exact Xav hf ha
    | some j => exact h.1
   ·rcases useP_mem.1 hx with rfl | hx
    ·unfold lookP at hl
     rw [hs] at hl
     simp only at hl
     cases hq : findK x kn with
     | none => rw [hq] at hl; cases hl
     | some t => exact ⟨t, rfl⟩
    ·exact h.2 x hx
 ·exact h
theorem Xa1 : ∀ (us ds : List (List Int)), us.Nodup → (∀ d ∈ us, d ∈ ds) → us.length ≤ ds.length
  | [], ds, _, _ => Nat.zero_le _
  | d :: r, ds, hn, h => by
    obtain ⟨h1, h2⟩ := List.nodup_cons.1 hn
    have hd := h d (by simp)
    have := Xa1 r (ds.erase d) h2 (fun x hx => (List.mem_erase_of_ne (fun e => h1 (by rw [← e]; exact hx))).2 (h x (List.mem_cons_of_mem _ hx)))
    rw [List.length_erase_of_mem hd] at this
    have := List.length_pos_of_mem hd
    simp only [List.length_cons]
    omega
theorem Xau {d : List Int} : ∀ {kn : Kn} {t : Pt}, findK d kn = some t → d ∈ kn.map (·.1)
  | x :: r, t, h => by
    unfold findK at h
    split at h
    · rename_i e; simp [e]
    · have := Xau h; simp only [List.map_cons, List.mem_cons]; exact .inr this
section
variable {k1 k2 : Kn} {U : List (List Int)}
theorem Xag (hle : KLe k2 k1) (hU : ∀ d ∈ U, findK d k2 = findK d k1) {s : Sp} {us : List (List Int)} (hs : ∀ d ∈ lkU k1 s us, d ∈ U) : lookP k2 s = lookP k1 s := by
 obtain ⟨t, l, c⟩ := s
 cases t with
 | st d =>
  unfold lkU at hs
  simp only at hs
  unfold lookP at hs ⊢
  simp only at hs ⊢
  cases hf : findK d k1 with
  | none =>
   cases hg : findK d k2 with
   | none => rfl
   | some u => rw [hle d u hg] at hf; cases hf
  | some u =>
   rw [hf] at hs
   simp only at hs ⊢
   by_cases hc : ((c && !isBr u) || !fitP u l) = true
   ·rw [if_pos hc]
    cases hg : findK d k2 with
    | none => rfl
    | some u' =>
     have := hle d u' hg
     rw [hf] at this
     cases this
     simp only
     rw [if_pos hc]
   ·rw [if_neg hc] at hs ⊢
    rw [hU d (hs d (useP_mem.2 (.inl rfl))), hf]
    simp only
    rw [if_neg hc]
 | no => rfl
 | leaf p x => rfl
 | ext p t => rfl
 | br k x => rfl
theorem Xbb (hle : KLe k2 k1) (hU : ∀ d ∈ U, findK d k2 = findK d k1) {s : Sp} {us : List (List Int)} (hs : ∀ d ∈ lkU k1 s us, d ∈ U) : lkU k2 s us = lkU k1 s us := by
 unfold lkU
 rw [Xag hle hU hs]
theorem Xaj (hle : KLe k2 k1) (hU : ∀ d ∈ U, findK d k2 = findK d k1) {q : List Int} : ∀ {f : Nat} {s : Sp} {us : List (List Int)}, (∀ d ∈ wkU k1 q f s us, d ∈ U) → walkP k2 q f s = walkP k1 q f s ∧ wkU k2 q f s us = wkU k1 q f s us
  | 0, s, us, h => ⟨rfl, rfl⟩
  | f + 1, s, us, h => by
    unfold wkU at h
    cases hl : lookP k1 s with
    | none =>
      rw [hl] at h
      have h2 : lookP k2 s = none := by rw [Xag hle hU (us := us) (by rw [Zsv hl]; exact h), hl]
      unfold walkP wkU
      rw [hl, h2]
      exact ⟨rfl, rfl⟩
    | some u =>
      rw [hl] at h
      simp only at h
      cases hn : nextP q ⟨u, s.l, s.c⟩ with
      | none =>
        rw [hn] at h
        simp only at h
        have h2 := Xag hle hU h
        unfold walkP wkU
        rw [h2, hl]
        simp only [hn]
        exact ⟨trivial, Xbb hle hU h⟩
      | some s2 =>
        rw [hn] at h
        simp only at h
        have h3 : ∀ d ∈ lkU k1 s us, d ∈ U := fun d hd => h d (Xac (Pp := fun x => d ∈ x) (fun s' us' h' => Xal (A := [d]) s' us' (fun e he => by rw [List.mem_singleton.1 he]; exact h') d (by simp)) hd)
        have h2 := Xag hle hU h3
        obtain ⟨h4, h5⟩ := Xaj hle hU h
        unfold walkP wkU
        rw [h2, hl]
        simp only [hn]
        rw [h4, Xbb hle hU h3, h5]
        exact ⟨rfl, rfl⟩
theorem Xax (hle : KLe k2 k1) (hU : ∀ d ∈ U, findK d k2 = findK d k1) {k : Nat → Pt} {x : List Int} {l : Nat} {us : List (List Int)} (h : ∀ d ∈ nrmU k1 k x l us, d ∈ U) : nrmP k2 k x l = nrmP k1 k x l ∧ nrmU k2 k x l us = nrmU k1 k x l us := by
 unfold nrmU at h ⊢
 unfold nrmP
 by_cases h0 : kidsN k 16 = 0
 ·rw [if_pos h0, if_pos h0, if_pos h0, if_pos h0]; exact ⟨rfl, rfl⟩
 rw [if_neg h0] at h
 rw [if_neg h0, if_neg h0, if_neg h0, if_neg h0]
 by_cases h1 : 1 < kidsN k 16 ∨ 0 < x.length
 ·rw [if_pos h1, if_pos h1, if_pos h1, if_pos h1]; exact ⟨rfl, rfl⟩
 rw [if_neg h1] at h
 rw [if_neg h1, if_neg h1, if_neg h1, if_neg h1, Xag hle hU h, Xbb hle hU h]
 exact ⟨rfl, rfl⟩
theorem Xae (hle : KLe k2 k1) (hU : ∀ d ∈ U, findK d k2 = findK d k1) {q : List Int} : ∀ {ws : List Sp} {t : Pt} {us : List (List Int)}, (∀ d ∈ remU k1 q ws t us, d ∈ U) → remP k2 q ws t = remP k1 q ws t ∧ remU k2 q ws t us = remU k1 q ws t us
  | [], t, us, h => ⟨rfl, rfl⟩
  | s :: r, t, us, h => by
    unfold remU at h
    unfold remP remU
    cases hs : s.t with
    | ext p c => rw [hs] at h; exact Xae hle hU h
    | no => rw [hs] at h; exact Xae hle hU h
    | st d => rw [hs] at h; exact Xae hle hU h
    | leaf p v => rw [hs] at h; exact Xae hle hU h
    | br k x =>
      rw [hs] at h
      simp only at h ⊢
      cases hn : nrmP k1 (upd k (q.getD s.l 0).toNat t) x s.l with
      | none =>
        rw [hn] at h
        obtain ⟨e1, e2⟩ := Xax hle hU h
        rw [e1, hn]
        simp only
        exact ⟨trivial, e2⟩
      | some u =>
        rw [hn] at h
        simp only at h
        have h3 : ∀ d ∈ nrmU k1 (upd k (q.getD s.l 0).toNat t) x s.l us, d ∈ U := fun d hd => h d (Xaa (Pp := fun x => d ∈ x) (fun s' us' h' => Xal (A := [d]) s' us' (fun e he => by rw [List.mem_singleton.1 he]; exact h') d (by simp)) hd)
        obtain ⟨e1, e2⟩ := Xax hle hU h3
        rw [e1, hn, e2]
        exact Xae hle hU h
theorem Xbq (hle : KLe k2 k1) (hU : ∀ d ∈ U, findK d k2 = findK d k1) {s : Sp} {us : List (List Int)} (h : ∀ d ∈ woU k1 s us, d ∈ U) : woP k2 s = woP k1 s ∧ woU k2 s us = woU k1 s us := by
 unfold woU at h
 unfold woP woU
 cases hs : s.t with
 | br k x => rw [hs] at h; exact Xax hle hU h
 | no => exact ⟨rfl, rfl⟩
 | st d => exact ⟨rfl, rfl⟩
 | leaf p v => exact ⟨rfl, rfl⟩
 | ext p c => exact ⟨rfl, rfl⟩
end
section
variable {k1 k2 : Kn} {U : List (List Int)}
theorem Xb0 (hle : KLe k2 k1) (hU : ∀ d ∈ U, findK d k2 = findK d k1) {t : Pt} {key : List Int} {us : List (List Int)} (h : ∀ d ∈ getU k1 t key us, d ∈ U) : getP k2 t key = getP k1 t key ∧ getU k2 t key us = getU k1 t key us := by
 unfold getU at h
 unfold getP getU
 by_cases h0 : 32 < key.length
 ·simp only [if_pos h0]; exact ⟨trivial, trivial⟩
 rw [if_neg h0] at h
 obtain ⟨e1, e2⟩ := Xaj hle hU h
 simp only [if_neg h0]
 rw [show wayP k2 t (Ni.nib key) = wayP k1 t (Ni.nib key) from e1]
 exact ⟨rfl, e2⟩
theorem Xby (hle : KLe k2 k1) (hU : ∀ d ∈ U, findK d k2 = findK d k1) {t : Pt} {key y : List Int} {us : List (List Int)} (h : ∀ d ∈ putU k1 t key y us, d ∈ U) : putQ k2 t key y = putQ k1 t key y ∧ putU k2 t key y us = putU k1 t key y us := by
 unfold putU at h
 unfold putQ putU
 by_cases h0 : 32 < key.length
 ·simp only [if_pos h0]; exact ⟨trivial, trivial⟩
 rw [if_neg h0] at h
 simp only [if_neg h0]
 by_cases h1 : y.length = 0 ∨ 256 < y.length
 ·simp only [if_pos h1]; exact ⟨trivial, trivial⟩
 rw [if_neg h1] at h
 simp only [if_neg h1]
 cases hw : wayP k1 t (Ni.nib key) with
 | none =>
  rw [hw] at h
  obtain ⟨e1, e2⟩ := Xaj hle hU h
  rw [show wayP k2 t (Ni.nib key) = none from e1.trans hw]
  exact ⟨rfl, e2⟩
 | some way =>
  rw [hw] at h
  simp only at h
  have h3 : ∀ d ∈ wkU k1 (Ni.nib key) ((Ni.nib key).length + 1) ⟨t, 0, false⟩ us, d ∈ U := fun d hd => h d (Xaa (Pp := fun x => d ∈ x) (fun s' us' h' => Xal (A := [d]) s' us' (fun e he => by rw [List.mem_singleton.1 he]; exact h') d (by simp)) hd)
  obtain ⟨e1, e2⟩ := Xaj hle hU h3
  rw [show wayP k2 t (Ni.nib key) = some way from e1.trans hw]
  simp only
  rw [e2]
  obtain ⟨e3, e4⟩ := Xae hle hU h
  rw [e3]
  exact ⟨rfl, e4⟩
theorem Xb1 (hle : KLe k2 k1) (hU : ∀ d ∈ U, findK d k2 = findK d k1) {t : Pt} {key : List Int} {us : List (List Int)} (h : ∀ d ∈ delU k1 t key us, d ∈ U) : delQ k2 t key = delQ k1 t key ∧ delU k2 t key us = delU k1 t key us := by
 unfold delU at h
 unfold delQ delU
 by_cases h0 : 32 < key.length
 ·simp only [if_pos h0]; exact ⟨trivial, trivial⟩
 rw [if_neg h0] at h
 simp only [if_neg h0]
 cases hw : wayP k1 t (Ni.nib key) with
 | none =>
  rw [hw] at h
  obtain ⟨e1, e2⟩ := Xaj hle hU h
  rw [show wayP k2 t (Ni.nib key) = none from e1.trans hw]
  exact ⟨rfl, e2⟩
 | some way =>
  rw [hw] at h
  simp only at h
  by_cases h1 : (valS (Ni.nib key) (endS way)).length = 0
  ·rw [if_pos h1] at h
   obtain ⟨e1, e2⟩ := Xaj hle hU h
   rw [show wayP k2 t (Ni.nib key) = some way from e1.trans hw]
   simp only [if_pos h1]
   exact ⟨trivial, e2⟩
  rw [if_neg h1] at h
  have hmono : ∀ d (s' : Sp) (us' : List (List Int)), d ∈ us' → d ∈ lkU k1 s' us' := fun d s' us' h' => Xal (A := [d]) s' us' (fun e he => by rw [List.mem_singleton.1 he]; exact h') d (by simp)
  cases hq : woP k1 (endS way) with
  | none =>
   rw [hq] at h
   simp only at h
   have h3 : ∀ d ∈ wkU k1 (Ni.nib key) ((Ni.nib key).length + 1) ⟨t, 0, false⟩ us, d ∈ U := fun d hd => h d (Xao (Pp := fun x => d ∈ x) (hmono d) hd)
   obtain ⟨e1, e2⟩ := Xaj hle hU h3
   obtain ⟨e3, e4⟩ := Xbq hle hU h
   rw [show wayP k2 t (Ni.nib key) = some way from e1.trans hw]
   simp only [if_neg h1]
   rw [e3, hq, e2]
   exact ⟨rfl, e4⟩
  | some u =>
   rw [hq] at h
   simp only at h
   have h2 : ∀ d ∈ woU k1 (endS way) (wkU k1 (Ni.nib key) ((Ni.nib key).length + 1) ⟨t, 0, false⟩ us), d ∈ U := fun d hd => h d (Xaa (Pp := fun x => d ∈ x) (hmono d) hd)
   have h3 : ∀ d ∈ wkU k1 (Ni.nib key) ((Ni.nib key).length + 1) ⟨t, 0, false⟩ us, d ∈ U := fun d hd => h2 d (Xao (Pp := fun x => d ∈ x) (hmono d) hd)
   obtain ⟨e1, e2⟩ := Xaj hle hU h3
   obtain ⟨e3, e4⟩ := Xbq hle hU h2
   obtain ⟨e5, e6⟩ := Xae hle hU h
   rw [show wayP k2 t (Ni.nib key) = some way from e1.trans hw]
   simp only [if_neg h1]
   rw [e3, hq, e2]
   simp only
   rw [e5, e4]
   exact ⟨rfl, e6⟩
theorem Xbn (hle : KLe k2 k1) (hU : ∀ d ∈ U, findK d k2 = findK d k1) {t : Pt} {k : Int} {key y : List Int} {us : List (List Int)} (h : ∀ d ∈ callU k1 t k key y us, d ∈ U) : callP k2 t k key y = callP k1 t k key y ∧ callU k2 t k key y us = callU k1 t k key y us := by
 unfold callU at h
 unfold callP callU
 by_cases h0 : k = 0
 ·rw [if_pos h0] at h
  obtain ⟨e1, e2⟩ := Xb0 hle hU h
  simp only [if_pos h0]
  rw [e1, e2]
  exact ⟨rfl, rfl⟩
 rw [if_neg h0] at h
 simp only [if_neg h0]
 by_cases h1 : k = 1
 ·rw [if_pos h1] at h
  obtain ⟨e1, e2⟩ := Xby hle hU h
  simp only [if_pos h1]
  rw [e1, e2]
  exact ⟨rfl, rfl⟩
 rw [if_neg h1] at h
 simp only [if_neg h1]
 by_cases h2 : k = 2
 ·rw [if_pos h2] at h
  obtain ⟨e1, e2⟩ := Xb1 hle hU h
  simp only [if_pos h2]
  rw [e1, e2]
  exact ⟨rfl, rfl⟩
 simp only [if_neg h2]
 exact ⟨trivial, trivial⟩
end
theorem Xbg {t : Pt} {key : List Int} (h : d ∈ us) : d ∈ callU kn t k key y us := Xaw (Pp := fun x => d ∈ x) (fun s' us' h' => Xal (A := [d]) s' us' (fun e he => by rw [List.mem_singleton.1 he]; exact h') d (by simp)) h
theorem Xbo {t : Pt} {key : List Int} (h : us.Nodup ∧ ∀ d ∈ us, ∃ t, findK d kn = some t) : (callU kn t k key y us).Nodup ∧ ∀ d ∈ callU kn t k key y us, ∃ t, findK d kn = some t := Xaw (Pp := fun x => x.Nodup ∧ ∀ d ∈ x, ∃ t, findK d kn = some t) Xcc h
def usB (kn : Kn) (d : List Int) : List Int := match findK d kn with
  | some t => encN (ndT t)
  | none => []
theorem Xa7 (hns : ∀ b ∈ ns, isB b) {t : Pt} (h : findK d (knP ns []) = some t) : isB (usB (knP ns []) d) ∧ dref (usB (knP ns []) d) = d ∧ ∃ n, ND (usB (knP ns []) d) = some n ∧ TH n = t := by
 obtain ⟨b, n, hb, hd, hn, ht⟩ := Xbd ns [] hns (fun d t e => by simp [findK] at e) d t h
 have e : usB (knP ns []) d = b := by
  unfold usB
  rw [h]
  simp only
  rw [← ht]
  exact Xbx hb hn
 rw [e]
 exact ⟨hb, hd, n, hn, ht⟩
theorem Xbw {U L : List (List Int)} (hns : ∀ b ∈ ns, isB b) (hU : ∀ d ∈ U, ∃ t, findK d (knP ns []) = some t) (hp : L.Perm (U.map (usB (knP ns [])))) : KLe (knP L []) (knP ns []) ∧ ∀ d ∈ U, findK d (knP L []) = findK d (knP ns []) := by
  obtain ⟨h1, h2⟩ := Xa4 (k1 := knP ns []) L [] (fun d t e => by simp [findK] at e) (fun b hb => by
    obtain ⟨d, hd, e⟩ := List.mem_map.1 (hp.mem_iff.1 hb)
    obtain ⟨t, ht⟩ := hU d hd
    obtain ⟨_, h3, n, h4, h5⟩ := Xa7 hns ht
    rw [e] at h3 h4
    exact ⟨n, h4, by rw [h3, ht, h5]⟩)
  refine ⟨h1, fun d hd => ?_⟩
  obtain ⟨t, ht⟩ := hU d hd
  obtain ⟨_, h3, _⟩ := Xa7 hns ht
  obtain ⟨t', ht'⟩ := h2 _ (hp.mem_iff.2 (List.mem_map_of_mem hd))
  rw [h3] at ht'
  rw [ht', h1 d t' ht']
theorem Xaz : ∀ (A B : List (List Int)), A.Perm B → A.Pairwise (fun p q => lessP q p = false) → B.Pairwise (fun p q => lessP q p = false) → A = B
  | [], B, h, _, _ => (List.nil_perm.1 h).symm
  | a :: A, [], h, _, _ => absurd h (by simp)
  | a :: A, b :: B, h, hA, hB => by
    obtain ⟨ha, hA'⟩ := List.pairwise_cons.1 hA
    obtain ⟨hb, hB'⟩ := List.pairwise_cons.1 hB
    have e : a = b := by
      rcases List.mem_cons.1 (h.mem_iff.1 (List.mem_cons_self ..)) with e | e
      · exact e
      rcases List.mem_cons.1 (h.mem_iff.2 (List.mem_cons_self ..)) with e2 | e2
      · exact e2.symm
      by_cases hne : a = b
      · exact hne
      have h3 := Xa2 a b hne (hb a e)
      rw [ha b e2] at h3
      cases h3
    subst e
    rw [Xaz A B ((List.perm_cons a).1 h) hA' hB']
end Go.Proofs.YtchgejomcgoaeaaGreat
namespace Go.Proofs.YtchgejomcgoaeaaGreat
open Go.RowKit
open Go.ChangeMaps (setBlock)
open Di (dref)
open Pt
open Ni (lessP)
variable {es : Array MapEntry} {seen : Array Nat} {ss us M : List (List Int)} {w w' : World} {a : Option Addr} {n c base g : Nat} {b : List Int}
theorem Zx9 : ∃ i, Tryz.prog.info? 29 = some i ∧ i.zero = some (.slice none 0 0) ∧ i.size = 1 ∧ i.bytes = 24 := by
 have hs : (Tryz.prog.info? 29).map (fun i => (i.zero, i.size, i.bytes)) = some (some (.slice none 0 0), 1, 24) := by kernel_rfl
 cases hq : Tryz.prog.info? 29 with
 | none => simp [hq] at hs
 | some i =>
  rw [hq] at hs
  simp only [Option.map_some, Option.some.injEq, Prod.mk.injEq] at hs
  exact ⟨i, rfl, hs.1, hs.2.1, hs.2.2⟩
theorem Zvj {w w' : World} {v u r : Value} {ρ : Operand → Value} {o : Oper} (hr : ∀ ty, (Builtin.append_ #[24, 24] ty #[v, u]).run Tryz.prog w = .ok r w') (x y : Operand) (ho : o.op = .call { callee := .builtin .append, args := #[x, y], argTypes := #[24, 24] }) (hx : ρ x = v) (hy : ρ y = u) : (execOp ρ o).run Tryz.prog w = .ok (.value r) w' := by
 unfold execOp
 simp only [ho, resolve, invoke, builtin, Sem.run_bind, Sem.run_pure, Result.andThen_ok, List.map_toArray, List.map_cons, List.map_nil, hx, hy, hr]
theorem Zsu {w : World} {m : Nat} {kn : Kn} (h : MKn w m kn) {d : List Int} (hd : d.length = 32) {t : Pt} (hf : findK d kn = some t) : ∃ x, (∀ v : World, v.heap[m]? = w.heap[m]? → ∀ (ρ : Operand → Value) (o : Oper) (x1 y1 : Operand), o.op = .lookup 44 x1 y1 false → ρ x1 = .map (some m) → ρ y1 = .agg (B8 d) → (execOp ρ o).run Tryz.prog v = .ok (.value x) v) ∧ ThA w t x := by
 obtain ⟨es, clock, hm, he⟩ := h
 have hfind := he.find (d := d)
 cases hq : findI d (kn.map (·.1)) with
 | none =>
  rw [hq] at hfind
  simp only at hfind
  rw [hf] at hfind
  cases hfind
 | some j =>
  rw [hq] at hfind
  simp only at hfind
  obtain ⟨e, t', h1, h2, h3⟩ := hfind
  rw [hf] at h2
  cases h2
  refine ⟨e.val, fun v hv ρ o x y ho hx hy => ?_, h3⟩
  have hf2 := Zf0 d hd v es.toList _ he.keys
  rw [hq] at hf2
  simp only at hf2
  rw [h1] at hf2
  unfold execOp
  simp [ho, hx, hy, Instr.lookup, run_underlying Tryz.underlying44, MapKept.run_getObj_map (hv.trans hm), Zb3 d hd, hf2, Result.andThen]
theorem Zvh {w : World} {ρ : Operand → Value} {o : Oper} {m clock : Nat} (x : Operand) {es : Array MapEntry} (ho : o.op = .range 46 x) (hx : ρ x = .map (some m)) (hm : w.heap[m]? = some (.map es clock)) : (execOp ρ o).run Tryz.prog w = .ok (.value (.pointer (some ⟨w.heap.size, 0, none⟩))) (w.alloc (.mapIter (some m) clock #[] clock)) := by
 unfold execOp
 rw [ho]
 simp only [hx, Sem.run_bind, run_range_map w 46 _ _ m es clock Tryz.underlying46 hm, Result.andThen_ok, Sem.run_pure]
structure Vis (es : Array MapEntry) (seen : Array Nat) (ss : List (List Int)) : Prop where
  ex : ∃ vis : List MapEntry, seen.toList = vis.map (·.born) ∧ vis.map (·.key) = ss.map (fun d => Value.agg (B8 d)) ∧ (vis ++ (leftOf es seen).toList).Perm es.toList
theorem Xbv (es : Array MapEntry) : Vis es #[] [] := ⟨[], rfl, rfl, by
  rw [List.nil_append, show (leftOf es #[]).toList = es.toList from by unfold leftOf; rw [Array.toList_filter]; exact List.filter_eq_self.2 (fun x _ => by simp)]⟩

theorem Xbc {e : MapEntry} (hn : (es.toList.map (·.born)).Nodup) (he : e ∈ (leftOf es seen).toList) : (e :: (leftOf es (seen.push e.born)).toList).Perm (leftOf es seen).toList := by
 have h1 : (leftOf es (seen.push e.born)).toList = (leftOf es seen).toList.filter (fun x => !(x.born == e.born)) := by
  unfold leftOf
  rw [Array.toList_filter, Array.toList_filter, List.filter_filter]
  refine List.filter_congr fun x _ => ?_
  simp only [Array.contains_push]
  cases seen.contains x.born <;> cases hq : (x.born == e.born) <;> simp_all
 have hn2 : ((leftOf es seen).toList.map (·.born)).Nodup := by
  unfold leftOf
  rw [Array.toList_filter]
  exact hn.sublist (List.filter_sublist.map _)
 rw [h1]
 generalize (leftOf es seen).toList = l at he hn2
 clear h1
 induction l with
 | nil => cases he
 | cons x r ih =>
  rw [List.map_cons, List.nodup_cons] at hn2
  rcases List.mem_cons.1 he with rfl | he
  ·have : r.filter (fun x => !(x.born == e.born)) = r := List.filter_eq_self.2 fun y hy => by
    simp only [Bool.not_eq_true', beq_eq_false_iff_ne]
    intro q
    exact hn2.1 (by rw [← q]; exact List.mem_map_of_mem hy)
   simp [this]
  ·have hx : (x.born == e.born) = false := by
    rw [beq_eq_false_iff_ne]
    intro q
    exact hn2.1 (by rw [q]; exact List.mem_map_of_mem he)
   rw [List.filter_cons, hx]
   exact (List.Perm.swap x e _).trans ((ih he hn2.2).cons x)
theorem Vis.push (h : Vis es seen ss) (hn : (es.toList.map (·.born)).Nodup) {e : MapEntry} (he : e ∈ (leftOf es seen).toList) {d : List Int} (hd : e.key = .agg (B8 d)) : Vis es (seen.push e.born) (ss ++ [d]) := by
 obtain ⟨vis, h1, h2, h3⟩ := h.ex
 refine ⟨vis ++ [e], by simp [h1], by simp [h2, hd], ?_⟩
 rw [List.append_assoc]
 exact ((List.perm_append_left_iff vis).2 (Xbc hn he)).trans h3
def unB : Value → List Int
  | .agg cs => cs.toList.map fun v => match v with | .int _ x => x | _ => 0
  | _ => []
theorem Xb4 (d : List Int) : unB (.agg (B8 d)) = d := by simp [unB, B8, Function.comp_def]
theorem Vis.done (h : Vis es seen ss) (h0 : (leftOf es seen).size = 0) (he : Keys es.toList us) : ss.Perm us := by
 obtain ⟨vis, h1, h2, h3⟩ := h.ex
 have e0 : (leftOf es seen).toList = [] := List.eq_nil_of_length_eq_zero (by simpa using h0)
 rw [e0, List.append_nil] at h3
 have h4 := h3.map (fun e => unB e.key)
 have e1 : ∀ {l : List MapEntry} {ds : List (List Int)}, l.map (·.key) = ds.map (fun d => Value.agg (B8 d)) → l.map (fun e => unB e.key) = ds := by
  intro l ds hh
  rw [show (fun e : MapEntry => unB e.key) = unB ∘ (fun e : MapEntry => e.key) from rfl, ← List.map_map, hh, List.map_map]
  simp [Function.comp_def, Xb4]
 rw [e1 h2, e1 he.1] at h4
 exact h4
theorem Vis.len (h : Vis es seen ss) : ss.length + (leftOf es seen).size = es.size := by
 obtain ⟨vis, h1, h2, h3⟩ := h.ex
 have e1 := congrArg List.length h2
 have e2 := h3.length_eq
 simp at e1 e2
 omega
theorem Keys.key {es : List MapEntry} (h : Keys es us) {e : MapEntry} (he : e ∈ es) : ∃ d ∈ us, e.key = .agg (B8 d) := by
 have : e.key ∈ es.map (·.key) := List.mem_map_of_mem he
 rw [h.1] at this
 obtain ⟨d, hd, e'⟩ := List.mem_map.1 this
 exact ⟨d, hd, e'.symm⟩
theorem Xa3 {e : MapEntry} (h : e ∈ (leftOf es seen).toList) : e ∈ es.toList := by
 unfold leftOf at h
 rw [Array.toList_filter] at h
 exact (List.mem_filter.1 h).1
structure NsV (w : World) (ys : List Value) (ms : List (List Int)) : Prop where
  len : ys.length = ms.length
  at_ : ∀ (j : Nat) (b : List Int), ms[j]? = some b → ∃ a n c, ys[j]? = some (.slice a n c) ∧ Sk An w a n c b ∧ n ≤ 140737488351232
theorem NsV.nil (w : World) : NsV w [] [] := ⟨rfl, fun j b h => by simp at h⟩
theorem NsV.nt {ys : List Value} {ms : List (List Int)} (h : NsV w ys ms) (hn : Nt w w') : NsV w' ys ms := ⟨h.len, fun j b hj => by
  obtain ⟨a, n, c, e1, e2, e3⟩ := h.at_ j b hj
  exact ⟨a, n, c, e1, e2.nt hn, e3⟩⟩
theorem NsV.snoc {xs : List Value} {ns : List (List Int)} (h : NsV w xs ns) (hb : Sk An w a n c b) (hn : n ≤ 140737488351232) : NsV w (xs ++ [.slice a n c]) (ns ++ [b]) := ⟨by rw [List.length_append, List.length_append, h.len]; rfl, fun j b' hj => by
  have hl := h.len
  by_cases hlt : j < ns.length
  · rw [List.getElem?_append_left hlt] at hj
    rw [List.getElem?_append_left (by omega)]
    exact h.at_ j b' hj
  · rw [List.getElem?_append_right (by omega)] at hj
    rw [List.getElem?_append_right (by omega), hl]
    have h0 : j - ns.length = 0 := by
      have := (List.getElem?_eq_some_iff.1 hj).1
      simpa using this
    rw [h0] at hj ⊢
    cases hj
    exact ⟨a, n, c, rfl, hb, hn⟩⟩
theorem Xbu {x : Int} (h : isS (.int .u8 x)) : False := by obtain ⟨a, n, c, e⟩ := h; cases e
structure URw (w : World) (base : Nat) (v : Value) (M : List (List Int)) : Prop where
  ex : ∃ xs, w.ownsRow base 29 1 v M.length xs ∧ NsV w xs M
  sl : SlB w v
theorem URw.own {v : Value} (h : URw w base v M) : ∀ k, v.ownBlock = some k → base ≤ k ∧ k < w.heap.size := by
 obtain ⟨⟨xs, ⟨_, h3⟩, _⟩, _⟩ := h
 intro k hk
 rcases h3 with ⟨rfl, _⟩ | ⟨g, cap, cur, rfl, hbg, hg, _⟩
 ·simp [Value.ownBlock] at hk
 ·simp only [Value.ownBlock, Option.some.injEq] at hk
  subst hk
  exact ⟨hbg, lt_of_get hg⟩
theorem URw.nil (w : World) (base : Nat) : URw w base (.slice none 0 0) [] := ⟨⟨[], World.ownsRow_nil w base _ 1, NsV.nil w⟩, SlB.nil w⟩
theorem URw.keep {v : Value} (h : URw w base v M) (hn : Nt w w') (ho : ∀ k, v.ownBlock = some k → w'.heap[k]? = w.heap[k]?) : URw w' base v M := by
 obtain ⟨⟨xs, ⟨h2, h3⟩, h4⟩, hs⟩ := h
 refine ⟨⟨xs, ⟨h2, ?_⟩, h4.nt hn⟩, fun k cur T fr hk hh => hs k cur T fr hk (by rw [← ho k hk]; exact hh)⟩
 rcases h3 with q | ⟨g, cap, cur, e1, e2, e3, e4⟩
 ·exact .inl q
 ·exact .inr ⟨g, cap, cur, e1, e2, (ho g (by rw [e1]; rfl)).trans e3, e4⟩
theorem URw.go {v : Value} (h : URw w base v M) (hb : Below w.heap.size w w') : URw w' base v M := h.keep (Nt.below hb) (fun k hk => hb.block k (h.own k hk).2)
theorem URw.nt_of {v : Value} (h : URw w base v M) (hg : w.grownBy w' v.ownBlock) : Nt w w' := fun k j x a => by
  by_cases e : some k = v.ownBlock
  · obtain ⟨⟨xs, ⟨_, h3⟩, _⟩, hs⟩ := h
    rcases h3 with ⟨rfl, _⟩ | ⟨g, cap, cur, rfl, hbg, hr, _⟩
    · simp [Value.ownBlock] at e
    · simp only [Value.ownBlock, Option.some.injEq] at e
      subst e
      rw [cell_of_row _ _ _ _ _ _ hr] at a
      rw [← Array.getElem?_toList] at a
      exact (Xbu (hs k cur _ _ rfl hr _ (List.mem_of_getElem? a))).elim
  · exact (World.cell?_of_block (w := w) (hg.block k (block_lt_of_cell a) e)).trans a
theorem app_u (hbase : base ≤ w.heap.size) {v : Value} (hu : URw w base v M) (hr : Rw g w #[.slice a n c] 29) (hb : Sk An w a n c b) (hn : n ≤ 140737488351232) (hle : M.length + 1 ≤ 5864062014805) :
    ∃ v' w', (∀ ty, (Builtin.append_ #[24, 24] ty #[v, .slice (some ⟨g, 0, none⟩) 1 1]).run Tryz.prog w = .ok v' w') ∧ URw w' base v' (M ++ [b]) ∧ w.grownBy w' v.ownBlock ∧ Nt w w' := by
  obtain ⟨i, hi, hz, hsz, hby⟩ := Zx9
  obtain ⟨⟨xs, ho, hV⟩, hs⟩ := id hu
  have hnews : ∀ j u, ([.slice a n c] : List Value)[j]? = some u → w.cell? ((⟨g, 0, none⟩ : Addr).add j) = some u := fun j u hu => by
    rw [Zbb, Nat.zero_add, cell_of_row _ _ _ _ _ _ hr]
    match j with
    | 0 => exact hu
    | n + 1 => simp at hu
  obtain ⟨v', w', hrun, hown', hgr, _⟩ := run_append_own (P := Tryz.prog) w base 24 0 29 i _ 1 24 Tryz.underlying24 hi hz hsz hby rfl (by decide) v M.length xs ho ⟨g, 0, none⟩ 1 1 [.slice a n c] rfl hnews (fun y hy => by rw [List.mem_singleton.1 hy]; rfl) (by unfold maxLen; omega) (by omega) hbase
  have hnt := hu.nt_of hgr
  refine ⟨v', w', fun ty => hrun, ⟨⟨_, by rw [List.length_append]; exact hown', (hV.nt hnt).snoc (hb.nt hnt) hn⟩, ?_⟩, hgr, hnt⟩
  exact Xcg (ty := 0) (m := 1) (c := 1) (a := ⟨g, 0, none⟩) (news := [.slice a n c]) Tryz.underlying24 hi hz hsz hby ho hs rfl hnews (fun u hu => by rw [List.mem_singleton.1 hu]; exact ⟨a, n, c, rfl⟩) (by omega) (by unfold maxLen; omega) (by omega) hrun
theorem Rw.gr {cells : Array Value} {T : TypeId} {ob : Option Nat} (h : Rw g w cells T) (hg : w.grownBy w' ob) (hne : ∀ k, ob = some k → k ≠ g) : Rw g w' cells T := (hg.block g (lt_of_get h) (fun e => hne g e.symm rfl)).trans h
def RUs (w : World) (M : List (List Int)) : Value → World → Prop := fun u w' => (∃ a n c L, u = .slice a n c ∧ NsA w' a n c L ∧ L.Perm M ∧ L.Pairwise (fun p q => lessP q p = false)) ∧ Bl w w'
theorem Xb6 {w0 : World} (hB : Bl w0 w) (hb0 : w0.heap.size ≤ base) {v : Value} (hu : URw w base v M) (hnil : M = [] → v = .slice none 0 0) (hle : M.length ≤ 5864062014805) : Calls Tryz.prog 23 #[v, .func (.func 24) #[] #[]] w fun e w' => ∃ u, e = .returned u ∧ (u = .tuple #[] ∧ RUs w0 M v w') := by
 obtain ⟨⟨xs, ho, hV⟩, hs⟩ := id hu
 rcases ho.2 with ⟨rfl, h0⟩ | ⟨gb, cap, cur, rfl, hbg, hr, hnc, hcm, hcs, htk⟩
 ·have hM : M = [] := List.length_eq_zero_iff.1 h0
  subst hM
  refine (Xb7 (w := w)).mono ?_
  rintro e w' ⟨u, rfl, rfl, hb⟩
  exact ⟨_, rfl, rfl, ⟨none, 0, 0, [], rfl, ⟨rfl, fun j b h => by simp at h⟩, List.Perm.refl _, List.Pairwise.nil⟩, hB.go hb⟩
 ·have hl := hV.len
  rw [Nat.mul_one] at htk hcs
  have hpl : (xs.zip M).length = M.length := by rw [List.length_zip]; omega
  have hfst : (xs.zip M).map Prod.fst = xs := List.map_fst_zip (by omega)
  have hsnd : (xs.zip M).map Prod.snd = M := List.map_snd_zip (by omega)
  have hgd : ∀ p ∈ xs.zip M, Gd (fun b => b ≠ gb) w p ∧ ∃ a n c, p.1 = .slice a n c ∧ n ≤ 140737488351232 := by
   intro p hp
   obtain ⟨j, hj⟩ := List.getElem?_of_mem hp
   rw [List.getElem?_zip_eq_some] at hj
   obtain ⟨a, n, c, e1, e2, e3⟩ := hV.at_ j p.2 hj.2
   rw [hj.1] at e1
   refine ⟨⟨a, n, c, Option.some.inj e1, e2.ag, fun x hx hn => ?_⟩, a, n, c, Option.some.inj e1, e3⟩
   intro eb
   rcases e2.ag.i with ⟨q1, q2⟩ | ⟨g2, off, q1, q2, q3, q4, q5, q7⟩
   ·omega
   ·rw [q1] at hx
    cases hx
    have eb : g2 = gb := eb
    subst eb
    have := q7 0 (by omega)
    rw [cell_of_row _ _ _ _ _ _ hr, ← Array.getElem?_toList] at this
    exact Xbu (hs g2 cur _ _ rfl hr _ (List.mem_of_getElem? this))
  by_cases hz : M.length = 0
  ·have hM : M = [] := List.length_eq_zero_iff.1 hz
   cases hnil hM
  ·refine (Xa5 (K := fun b => b ≠ gb) (ps := xs.zip M) hr (by rw [hfst]; exact htk) (cap := cap) (by omega) hpl hnc (fun p hp => (hgd p hp).1) (fun h => h rfl) (by omega) (by omega)).mono ?_
   rintro e w' ⟨u, rfl, rfl, ⟨ps', cur', hp, hpw, hr', hc', hsz'⟩, ht⟩
   refine ⟨_, rfl, rfl, ⟨_, _, _, ps'.map Prod.snd, rfl, ⟨?_, fun j b hj => ?_⟩, ?_, ?_⟩, ht.below hB (by omega) hB.size⟩
   ·rw [List.length_map, hp.length_eq, hpl]
   ·rw [List.getElem?_map] at hj
    cases hq : ps'[j]? with
    | none => rw [hq] at hj; cases hj
    | some p =>
     rw [hq] at hj
     cases hj
     obtain ⟨hG, a1, n1, c1, q1, q2⟩ := hgd p (hp.mem_iff.1 (List.mem_of_getElem? hq))
     obtain ⟨a, n, c, e1, e2⟩ := hG.tou ht (fun h => h rfl)
     rw [q1] at e1
     cases e1
     refine ⟨gb, 0, a1, n1, c1, rfl, ?_, e2.any, q2⟩
     rw [Nat.zero_add, Nat.mul_one, cell_of_row _ _ _ _ _ _ hr', ← Array.getElem?_toList]
     have hjl : j < M.length := by
      have := (List.getElem?_eq_some_iff.1 hq).1
      rw [hp.length_eq, hpl] at this
      exact this
     have := congrArg (fun l => l[j]?) hc'
     simp only [List.getElem?_take_of_lt hjl, List.getElem?_map, hq, Option.map_some, q1] at this
     exact this
   ·have := hp.map Prod.snd
    rw [hsnd] at this
    exact this
   ·rw [List.pairwise_map]
    exact hpw
set_option maxHeartbeats 1000000 in
theorem Xap {gK gU : Nat} {t0 : Pt} {kn : Kn} (hP : PAt w g gK gU t0 kn us) (hall : ∀ d ∈ us, ∃ t, findK d kn = some t) (hle : us.length ≤ 5864062014800) : Calls Tryz.prog 9 #[.pointer (some ⟨g, 0, none⟩)] w fun e w' => ∃ v', e = .returned v' ∧ RUs w (us.map (usB kn)) v' w' := by
 have hgP := hP.lt
 have hgK := hP.km.lt
 have hgU := hP.um.lt
 obtain ⟨es, clock, hum, hkeys, hsta⟩ := hP.um
 obtain ⟨vt, hrt, htt⟩ := hP.row
 have hesl : es.size = us.length := by have := congrArg List.length hkeys.1; simpa using this
 have hB : Bl w w := Bl.refl w
 refine Zaj Tryz.func9 rfl 27 rfl ?_
 show CW _ _ _ _ _ _ _ [(0, .pointer (some ⟨g, 0, none⟩))] _
 refine Zac ?_
 refine Zaa ?_
 refine rp 2 (.slice none 0 0) ?_
 refine Zad ?_
 refine Zab ?_
 refine Zac ?_
 refine Zaa ?_
 refine rp 3 (.slice none 0 0) ?_
 refine Zad ?_
 refine Zab ?_
 refine Zac ?_
 refine Zac ?_
 refine Zaa ?_
 refine rp 5 (.pointer (some ⟨g, 0, none⟩)) ?_
 refine rp 6 (.pointer (some ⟨g, 0, none⟩)) ?_
 refine rp 7 (.pointer (some ⟨g, 2, none⟩)) ?_
 refine rv 8 (.map (some gU)) (fun _ => Zag 46 _ ⟨g, 2, none⟩ _ _ rfl (by kernel_rfl) (by rw [cell_of_row _ _ _ _ _ _ hrt]; rfl) Tryz.underlying46 rfl) ?_
 obtain ⟨gI, hgI⟩ : ∃ q, w.heap.size = q := ⟨_, rfl⟩
 refine rw_v 9 (.pointer (some ⟨gI, 0, none⟩)) (fun _ => by kernel_rfl) (fun _ => by rw [← hgI]; exact Zvh _ rfl (by kernel_rfl) hum) ?_
 have hI : (w.alloc (.mapIter (some gU) clock #[] clock)).heap[gI]? = some (.mapIter (some gU) clock #[] clock) := by rw [← hgI]; exact heap_alloc_new _ _
 have hb2 : Bl w (w.alloc (.mapIter (some gU) clock #[] clock)) := (Below.refl _ _).alloc (Nat.le_refl _) _
 obtain ⟨w2, hw2⟩ : ∃ q, w.alloc (.mapIter (some gU) clock #[] clock) = q := ⟨_, rfl⟩
 rw [hw2] at hI hb2 ⊢
 replace hB := hb2
 clear hb2
 have hIlt := lt_of_get hI
 obtain ⟨gB, hgB⟩ : ∃ q, w2.heap.size = q := ⟨_, rfl⟩
 refine Zad ?_
 refine Zab ?_
 refine Zan ?_
 refine Zb8 (X := Array Nat × List (List Int) × Value) (fun x => [(3, x.2.2), (9, .pointer (some ⟨gI, 0, none⟩)), (2, .slice none 0 0), (0, .pointer (some ⟨g, 0, none⟩))]) (fun x v => Bl w v ∧ gB ≤ v.heap.size ∧ v.heap[gI]? = some (.mapIter (some gU) clock x.1 clock) ∧ Vis es x.1 x.2.1 ∧ URw v gB x.2.2 (x.2.1.map (usB kn)) ∧ (x.2.1 = [] → x.2.2 = .slice none 0 0)) (fun x => (leftOf es x.1).size) (#[], [], .slice none 0 0) (by exact ⟨fun _ => by kernel_rfl, ⟨fun _ => by kernel_rfl, ⟨fun _ => by kernel_rfl, ⟨fun _ => by kernel_rfl, trivial⟩⟩⟩⟩) ⟨hB, by rw [hgB]; exact Nat.le_refl _, hI, Xbv es, URw.nil _ _, fun _ => rfl⟩ ?_
 clear hB hI
 rintro ⟨seen, ss, sl⟩ v ⟨hB, hgv, hI, hvis, hU, hnil⟩
 simp only at hI hvis hU hnil
 have hPv := hP.go hB
 have humv := (hB.block gU hgU).trans hum
 have hvl := hvis.len
 rcases run_next_at (P := Tryz.prog) v 0 gI gU clock clock seen es clock hI humv hsta.1 (Nat.le_refl _) with ⟨hz, hrun⟩ | ⟨e, hel, w1, hw1, hrun⟩
 ·skip
  show CW _ _ _ _ _ _ _ [(3, sl), (9, .pointer (some ⟨gI, 0, none⟩)), (2, .slice none 0 0), (0, .pointer (some ⟨g, 0, none⟩))] _
  refine Zac ?_
  refine Zaa ?_
  refine rw_v 10 (.tuple #[.bool false]) (fun _ => by kernel_rfl) (fun _ => Xba _ _ _ _ rfl (by kernel_rfl) hrun) ?_
  refine rp 11 (.bool false) ?_
  refine Zad ?_
  refine Zab ?_
  refine Zac ?_
  refine Zaf (fun _ => by kernel_rfl) ?_
  refine Zb1 ?_
  refine Zat ?_
  refine Zat ?_
  refine Za1 ?_
  refine Zab ?_
  refine Zac ?_
  refine Zaa ?_
  refine rp 24 (sl) ?_
  refine Zak 25 23 #[sl, .func (.func 24) #[] #[]] (fun _ => by kernel_rfl) (fun _ => by kernel_rfl) (R := fun u w' => u = .tuple #[] ∧ RUs w (ss.map (usB kn)) sl w') (Xb6 hB (by omega) hU (fun h9 => hnil (List.map_eq_nil_iff.1 h9)) (by rw [List.length_map]; omega)) ?_
  rintro _ w1 ⟨rfl, hRU⟩
  refine Zad ?_
  refine Zab ?_
  refine Zac ?_
  refine Zaa ?_
  refine rp 26 (sl) ?_
  refine rp 2 (sl) ?_
  refine Zad ?_
  refine Zab ?_
  refine Zap ?_
  refine Zae (sl) (fun _ => by kernel_rfl) ?_
  obtain ⟨⟨aU, nU, cU, L, rfl, hN9, hp9, hs9⟩, hb9⟩ := hRU
  exact ⟨_, rfl, ⟨aU, nU, cU, L, rfl, hN9, hp9.trans ((hvis.done hz hkeys).map _), hs9⟩, hb9⟩
 ·skip
  show CW _ _ _ _ _ _ _ [(3, sl), (9, .pointer (some ⟨gI, 0, none⟩)), (2, .slice none 0 0), (0, .pointer (some ⟨g, 0, none⟩))] _
  refine Zac ?_
  refine Zaa ?_
  refine rw_v 10 (.tuple #[.bool true, e.key, e.val]) (fun _ => by kernel_rfl) (fun _ => Xba _ _ _ _ rfl (by kernel_rfl) hrun) ?_
  obtain ⟨d, hdu, hkd⟩ := hkeys.key (Xa3 hel)
  have hd := hkeys.2 d hdu
  obtain ⟨t, hf⟩ := hall d hdu
  obtain ⟨x9, hx9, ht9⟩ := Zdx hf
  have hnd : t.isNd = true := by rw [← ht9]; exact (hP.ok x9 hx9).2
  have ht2 : Touch gI v (setBlock w1 gI (.mapIter (some gU) clock (seen.push e.born) clock)) := by
   rcases hw1 with rfl | rfl
   ·exact Zbk _ _ _
   ·exact (Touch.drew gI v).trans (Zbk _ _ _)
  have hI2 : (setBlock w1 gI (.mapIter (some gU) clock (seen.push e.born) clock)).heap[gI]? = some (.mapIter (some gU) clock (seen.push e.born) clock) := by
   rcases hw1 with rfl | rfl
   ·exact Zcj hI
   ·exact Zcj (w := v.drew) hI
  obtain ⟨w3, hw3⟩ : ∃ q, (setBlock w1 gI (.mapIter (some gU) clock (seen.push e.born) clock)) = q := ⟨_, rfl⟩
  rw [hw3] at hI2 ht2 ⊢
  have hnt2 : Nt v w3 := Nt.touch ht2 (fun o9 h9 => by rw [hI] at h9; cases h9; exact fun q9 => q9.elim)
  replace hU := hU.keep hnt2 (fun k9 hk9 => ht2.block k9 (hU.own k9 hk9).2 (by have := (hU.own k9 hk9).1; omega))
  replace hB := hB.tou ht2 (by omega)
  replace hgv : gB ≤ w3.heap.size := Nat.le_trans hgv ht2.size
  replace humv := (hB.block gU hgU).trans hum
  replace hPv := hP.go hB
  clear hI
  have hI := hI2
  clear hI2
  rw [hkd]
  refine rp 11 (.bool true) ?_
  refine Zad ?_
  refine Zab ?_
  refine Zac ?_
  refine Zai (fun _ => by kernel_rfl) ?_
  refine Zam ?_
  refine Zab ?_
  refine Zan ?_
  refine Zac ?_
  refine Zaa ?_
  refine rw_v 12 (.tuple #[.agg (B8 d), e.val]) (fun _ => by kernel_rfl) (fun _ => Xbi _ _ _ rfl (by kernel_rfl) (by rw [← hkd]; exact run_entry_at (P := Tryz.prog) w3 gI gU clock seen es clock e hI humv (Xa3 hel) hsta.2)) ?_
  refine rp 13 (.agg (B8 d)) ?_
  refine Zar 4 (B8 z32) 23 (fun _ => by kernel_rfl) (fun _ => by kernel_rfl) ?_
  intro w2 g3 hn4
  have hr5 : Rw g3 w2 (B8 z32) 23 := hn4.row
  refine Zav g3 (B8 d) (fun _ => by kernel_rfl) (fun _ => Zao 23 _ _ _ _ _ 23 rfl (by kernel_rfl) (by kernel_rfl) hr5 (Zbm hd) ((B8_size _).trans ((show z32.length = 32 from rfl).trans (hd.symm.trans (B8_size _).symm))) (B8_one _)) ?_
  intro w6 hp7
  replace hn4 := hn4.put hp7
  clear hr5
  have hown4 : ∀ k, sl.ownBlock = some k → k < g3 := fun k9 q9 => by have := (hU.own k9 q9).2; have := hn4.hg; omega
  have hzg3 : w.heap.size ≤ g3 := by have := hB.size; have := hn4.hg; omega
  replace hB := hB.go hn4.below
  replace hI := (hn4.below.block _ (lt_of_get hI)).trans hI
  replace hgv := Nat.le_trans hgv (Bl.size hn4.below)
  replace hU := hU.go hn4.below
  have hr9 : Rw g3 w6 (B8 d) 23 := hn4.row
  refine Zad ?_
  refine Zab ?_
  replace hPv := hP.go hB
  obtain ⟨vt2, hrt2, htt2⟩ := hPv.row
  obtain ⟨lv, hlk, hth⟩ := Zsu hPv.km hd hf
  have hSS : (fun v => v.heap[gK]? = (w6).heap[gK]? ∧ Rw g v #[vt2, .map (some gK), .map (some gU)] 49 ∧ Rw g3 v (B8 d) 23) w6 := ⟨rfl, hrt2, hr9⟩
  have hgo : ∀ {v v' : World}, Below v.heap.size v v' → (fun v => v.heap[gK]? = (w6).heap[gK]? ∧ Rw g v #[vt2, .map (some gK), .map (some gU)] 49 ∧ Rw g3 v (B8 d) 23) v → gK < v.heap.size → (fun v => v.heap[gK]? = (w6).heap[gK]? ∧ Rw g v #[vt2, .map (some gK), .map (some gU)] 49 ∧ Rw g3 v (B8 d) 23) v' := fun hb h hk => ⟨(hb.block _ hk).trans h.1, h.2.1.go hb, h.2.2.go hb⟩
  refine Zbd (fun v => v.heap[gK]? = (w6).heap[gK]? ∧ Rw g v #[vt2, .map (some gK), .map (some gU)] 49 ∧ Rw g3 v (B8 d) 23) (by kernel_rfl) (hSS) ?_
  replace hSS := hgo (Below.refl _ _).drew hSS (by have := hB.size; omega)
  replace hB := hB.go (Below.refl _ _).drew
  replace hI := ((Below.refl _ _).drew.block _ (lt_of_get hI)).trans hI
  replace hgv := Nat.le_trans hgv (Bl.size (Below.refl _ _).drew)
  replace hU := hU.go (Below.refl _ _).drew
  replace hr9 := hr9.go (Below.refl _ _).drew
  replace hth := hth.go (Below.refl _ _).drew
  refine dt 0 14 (sl) (fun v hv _ => by kernel_rfl) hSS ?_
  refine dt 1 15 (.pointer (some ⟨g, 0, none⟩)) (fun v hv _ => by kernel_rfl) hSS ?_
  refine dt 2 16 (.pointer (some ⟨g, 0, none⟩)) (fun v hv _ => by kernel_rfl) hSS ?_
  refine dt 3 17 (.pointer (some ⟨g, 1, none⟩)) (fun v hv _ => by kernel_rfl) hSS ?_
  refine dt 4 18 (.map (some gK)) (fun v hv _ => Zag 44 _ ⟨g, 1, none⟩ _ _ rfl (by kernel_rfl) (by rw [cell_of_row _ _ _ _ _ _ hv.2.1]; rfl) Tryz.underlying44 rfl) hSS ?_
  refine dt 5 19 (.agg (B8 d)) (fun v hv _ => Za2 23 _ _ _ _ _ _ rfl (by kernel_rfl) hv.2.2 Tryz.underlying23 rfl (Zbm hd)) hSS ?_
  refine dt 6 20 (lv) (fun v hv _ => hlk v hv.1 _ _ _ _ rfl (by kernel_rfl) (by kernel_rfl)) hSS ?_
  refine Zas [7] (by kernel_rfl) (by simp) ?_
  refine Za5 7 21 22 #[lv] rfl (fun _ => by kernel_rfl) (fun _ => by kernel_rfl) (R := REn w6.drew (encN (ndT t))) (Zyi hnd hth) (fun u w' h9 => hgo h9.2 hSS (by have := hB.size; omega)) ?_ Zaz
  rintro _ w13 ⟨⟨a10, n11, c12, rfl, ha14, hn15⟩, hb16⟩
  replace hSS := hgo hb16 hSS (by have := hB.size; omega)
  replace hB := hB.go hb16
  replace hI := (hb16.block _ (lt_of_get hI)).trans hI
  replace hgv := Nat.le_trans hgv (Bl.size hb16)
  replace hU := hU.go hb16
  replace hr9 := hr9.go hb16
  replace hth := hth.go hb16
  refine Zas [8] (by kernel_rfl) (by simp) ?_
  refine Zlc 8 22 #[.slice a10 n11 c12] 29 1 rfl (fun _ => by kernel_rfl) (fun _ => by kernel_rfl) (fun w' g h9 => hgo h9.below hSS (by have := hB.size; omega)) ?_ Zaz
  intro w17 g18 hn19
  replace hSS := hgo hn19.below hSS (by have := hB.size; omega)
  replace hB := hB.go hn19.below
  replace hI := (hn19.below.block _ (lt_of_get hI)).trans hI
  replace hgv := Nat.le_trans hgv (Bl.size hn19.below)
  replace hU := hU.go hn19.below
  replace hr9 := hr9.go hn19.below
  replace hth := hth.go hn19.below
  replace ha14 := ha14.go hn19.below
  have hrow : Rw g18 w17 #[.slice a10 n11 c12] 29 := hn19.row
  refine Zas [9] (by kernel_rfl) (by simp) ?_
  obtain ⟨vA, wA, hAr, hAu, hAg, hAn⟩ := app_u hgv hU hrow ha14 (by omega) (by rw [List.length_map]; omega)
  have hAo := hU.own
  have hSSA : (fun v => v.heap[gK]? = (w6).heap[gK]? ∧ Rw g v #[vt2, .map (some gK), .map (some gU)] 49 ∧ Rw g3 v (B8 d) 23) wA := ⟨(hAg.block gK (by have := hB.size; omega) (fun q9 => by have := (hAo gK q9.symm).1; omega)).trans hSS.1, hSS.2.1.gr hAg (fun k9 q9 => by have := (hAo k9 q9).1; omega), hSS.2.2.gr hAg (fun k9 q9 => by have := hown4 k9 q9; omega)⟩
  refine ar_v 9 23 vA rfl (fun _ => by kernel_rfl) (fun _ => Zvj hAr _ _ rfl (by kernel_rfl) (by kernel_rfl)) hSSA ?_ Zaz
  have hIA := (hAg.block gI (lt_of_get hI) (fun q9 => by have := (hAo gI q9.symm).1; omega)).trans hI
  replace hB := hB.grown hAg hB.size (fun k9 q9 => by have := (hAo k9 q9).1; omega)
  replace hgv := Nat.le_trans hgv hAg.size
  refine dt 10 3 (vA) (fun v hv _ => by kernel_rfl) hSSA ?_
  refine Za6 (by kernel_rfl) ?_
  refine Zau ?_
  have hus : usB kn d = encN (ndT t) := by unfold usB; rw [hf]
  have hvp := hvis.push hsta.2 hel hkd
  have hvq := hvp.len
  have hvl9 := hvis.len
  exact Za7 (E := fun x => [(3, x.2.2), (9, .pointer (some ⟨gI, 0, none⟩)), (2, .slice none 0 0), (0, .pointer (some ⟨g, 0, none⟩))]) (R := fun x v => Bl w v ∧ gB ≤ v.heap.size ∧ v.heap[gI]? = some (.mapIter (some gU) clock x.1 clock) ∧ Vis es x.1 x.2.1 ∧ URw v gB x.2.2 (x.2.1.map (usB kn)) ∧ (x.2.1 = [] → x.2.2 = .slice none 0 0)) (μ := fun x => (leftOf es x.1).size) (x := (seen, ss, sl)) (seen.push e.born, ss ++ [d], vA) (by exact ⟨fun _ => by kernel_rfl, ⟨fun _ => by kernel_rfl, ⟨fun _ => by kernel_rfl, ⟨fun _ => by kernel_rfl, trivial⟩⟩⟩⟩) ⟨hB, hgv, hIA, hvp, by simp only [List.map_append, List.map_cons, List.map_nil, hus]; exact hAu, fun h9 => by simp at h9⟩ (by simp only [List.length_append, List.length_cons, List.length_nil] at hvq ⊢; omega)
end Go.Proofs.YtchgejomcgoaeaaGreat
