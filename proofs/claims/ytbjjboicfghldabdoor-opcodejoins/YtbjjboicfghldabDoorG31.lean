/- Two texts with a line's end between: plain. -/
import Derived.Test.YtbjjboicfghldabDoorG30
namespace Go.Proofs.YtbjjboicfghldabDoor
open Go.RowKit
open Wo
set_option linter.unusedVariables false
set_option maxRecDepth 100000
/-- What begins with a blank. -/
def Bv (v : List Int) : Prop := ∃ x u, v = x :: u ∧ bl x = true
theorem rn_true_app : ∀ {t v : List Int}, nx1 t ≠ [] → rn (t ++ v) true = rn t true
  | [], v, h => absurd rfl h
  | x :: t, v, h => by
    rw [List.cons_append, rn_cons, rn_cons]
    by_cases hx : bl x = true
    · rw [if_pos hx, if_pos hx]
      have : nx1 t ≠ [] := by
        intro e
        apply h
        unfold nx1 at e ⊢
        rw [rn_cons, if_pos hx, List.drop_succ_cons]
        exact e
      rw [rn_true_app this]
    · rw [if_neg hx, if_neg hx]
theorem rn_false_app : ∀ {t v : List Int}, Bv v → rn (t ++ v) false = rn t false
  | [], v, h => by
    obtain ⟨x, u, rfl, hx⟩ := h
    rw [List.nil_append, rn_cons, if_neg (by rw [hx]; decide), rn_nil]
  | x :: t, v, h => by
    rw [List.cons_append, rn_cons, rn_cons, rn_false_app h]
theorem nxW_ne {t : List Int} : nxW t ≠ [] ↔ nx1 t ≠ [] := by
  constructor
  · intro h e
    apply h
    unfold nxW
    rw [e]
    rfl
  · intro h e
    have hl : rn t true < t.length := by
      have h1 := rn_le t true
      have h2 : 0 < (nx1 t).length := List.length_pos_iff.2 h
      unfold nx1 at h2
      rw [List.length_drop] at h2
      omega
    have hs := rn_stop hl
    unfold nxW at e
    have h3 := congrArg List.length e
    rw [List.length_take, List.length_nil] at h3
    have h4 : 0 < (nx1 t).length := List.length_pos_iff.2 h
    have h5 : rn (nx1 t) false = 0 := by omega
    obtain ⟨y, r, hy⟩ : ∃ y r, nx1 t = y :: r := by
      cases hq : nx1 t with
      | nil => exact absurd hq h
      | cons y r => exact ⟨y, r, rfl⟩
    have hyv : y = t.getD (rn t true) 0 := by
      unfold nx1 at hy
      obtain ⟨r2, h6⟩ := drop_cons (b := t) (p := rn t true) hl
      rw [h6] at hy
      exact (List.cons.inj hy).1.symm
    rw [hy, rn_cons, if_pos (by rw [hyv, hs]; rfl)] at h5
    omega
theorem nx_app {t v : List Int} (h : nxW t ≠ []) (hv : Bv v) : nxW (t ++ v) = nxW t ∧ nxR (t ++ v) = nxR t ++ v ∧ rn (t ++ v) true = rn t true := by
  have h1 := rn_true_app (v := v) (nxW_ne.1 h)
  have hle := rn_le t true
  have h2 : nx1 (t ++ v) = nx1 t ++ v := by
    unfold nx1
    rw [h1, List.drop_append_of_le_length hle]
  have h3 := rn_false_app (t := nx1 t) hv
  have h4 := rn_le (nx1 t) false
  unfold nxW nxR
  rw [h2, h3]
  exact ⟨List.take_append_of_le_length h4, List.drop_append_of_le_length h4, h1⟩
theorem nx_skip {x : Int} {u : List Int} (hx : bl x = true) : nxW (x :: u) = nxW u ∧ nxR (x :: u) = nxR u ∧ rn (x :: u) true = rn u true + 1 := by
  have h1 : rn (x :: u) true = rn u true + 1 := by rw [rn_cons, if_pos hx]
  have h2 : nx1 (x :: u) = nx1 u := by unfold nx1; rw [h1, List.drop_succ_cons]
  unfold nxW nxR
  rw [h2]
  exact ⟨rfl, rfl, h1⟩
theorem s1_skip {x : Int} {u : List Int} {p : Nat} (hx : bl x = true) : s1 (x :: u) p = s1 u (p + 1) := by
  obtain ⟨h1, h2, h3⟩ := nx_skip (u := u) hx
  unfold s1
  rw [h1, h2, h3, show p + (rn u true + 1) = p + 1 + rn u true by omega]
theorem as_skip {code u : List Int} {x : Int} {p : Nat} (hx : bl x = true) : asF code (x :: u) p = asF code u (p + 1) := by
  obtain ⟨h1, h2, h3⟩ := nx_skip (u := u) hx
  have h4 := s1_skip (u := u) (p := p) hx
  by_cases h0 : nxW u = []
  · rw [as_end h0, as_end (h1.trans h0)]
  · have h0' : nxW (x :: u) ≠ [] := by rw [h1]; exact h0
    by_cases he : (s1 u (p + 1)).1.2.2 = 0
    · by_cases hl : 256 < code.length + (s1 u (p + 1)).1.1.length
      · rw [as_long h0 he hl, as_long h0' (by rw [h4]; exact he) (by rw [h4]; exact hl), h3]
        congr 2
        omega
      · rw [as_go h0 he hl, as_go h0' (by rw [h4]; exact he) (by rw [h4]; exact hl), h4]
    · rw [as_err h0 he, as_err h0' (by rw [h4]; exact he), h4]
theorem as_blanks : ∀ {s : List Int} (code u : List Int) (p : Nat), nxW s = [] → asF code (s ++ u) p = asF code u (p + s.length)
  | [], code, u, p, _ => rfl
  | x :: s, code, u, p, h => by
    have hx : bl x = true := by
      cases hq : bl x with
      | true => rfl
      | false =>
        exfalso
        refine (nxW_ne (t := x :: s)).2 ?_ h
        unfold nx1
        rw [rn_cons, if_neg (by rw [hq]; decide)]
        exact fun e => by cases e
    rw [List.cons_append, as_skip hx, as_blanks code u (p + 1) (by rw [← (nx_skip (u := s) hx).1]; exact h), List.length_cons]
    congr 1
    omega
theorem ps_nil : ps [] = (0, false) := ps_no fun h => h.1.1 rfl
/-- A statement, with a blank and what follows behind it. -/
theorem st_app {W r v : List Int} {p pl K : Nat} (hv : Bv v) (he : (stP W r p pl).1.2.2 = 0) : (stP W (r ++ v) (p + K) (pl + K)).1 = (stP W r p pl).1 ∧ (stP W (r ++ v) (p + K) (pl + K)).2.1 = (stP W r p pl).2.1 ++ v ∧ (stP W (r ++ v) (p + K) (pl + K)).2.2 = (stP W r p pl).2.2 + K := by
  cases hbg : bgP W with
  | none => rw [st_no hbg] at he; exact absurd he (by simp)
  | some o =>
    obtain ⟨hd, sz⟩ := o
    by_cases h0 : sz = 0
    · rw [st_0 hbg h0, st_0 hbg h0]; exact ⟨rfl, rfl, rfl⟩
    · by_cases hb : (ps (nxW r)).2 = false ∨ sz < szo (ps (nxW r)).1
      · rw [st_bad hbg h0 hb] at he; exact absurd he (by simp)
      · have hne : nxW r ≠ [] := fun e => hb (.inl (by rw [e, ps_nil]))
        obtain ⟨h1, h2, h3⟩ := nx_app hne hv
        obtain ⟨m, ok, hps⟩ : ∃ m ok, ps (nxW r) = (m, ok) := ⟨_, _, rfl⟩
        rw [hps] at hb
        simp only [not_or] at hb
        obtain ⟨hb1, hb2⟩ := hb
        have hok : ok = true := by cases ok with | true => rfl | false => exact absurd rfl hb1
        subst hok
        by_cases hp : W = pushW
        · rw [st_push hbg h0 hps hb2 hp, st_push hbg h0 (by rw [h1]; exact hps) hb2 hp, h1, h2, h3]
          exact ⟨rfl, rfl, by simp only; omega⟩
        · rw [st_ok hbg h0 hps hb2 hp, st_ok hbg h0 (by rw [h1]; exact hps) hb2 hp, h1, h2, h3]
          exact ⟨rfl, rfl, by simp only; omega⟩
theorem nxW_blank {r : List Int} (h : nxW r = []) : nxW (r ++ [32]) = [] := by
  cases hq : nxW (r ++ [32]) with
  | nil => rfl
  | cons y z =>
    exfalso
    have hn1 : nx1 r = [] := by
      cases h2 : nx1 r with
      | nil => rfl
      | cons a b => exact absurd h (nxW_ne.2 (by rw [h2]; exact fun e => by cases e))
    have hl : r.length ≤ rn r true := by unfold nx1 at hn1; exact List.drop_eq_nil_iff.1 hn1
    have hall : ∀ j, j < r.length → bl (r.getD j 0) = true := fun j hj => rn_all (by omega)
    have hrn : rn (r ++ [32]) true = (r ++ [32]).length := by
      refine rn_eq _ _ _ (Nat.le_refl _) (fun j hj => ?_) (.inl rfl)
      rw [List.length_append, List.length_singleton] at hj
      by_cases hjl : j < r.length
      · rw [List.getD, List.getElem?_append_left hjl]; exact hall j hjl
      · rw [List.getD, List.getElem?_append_right (by omega), show j - r.length = 0 by omega]; rfl
    have : nx1 (r ++ [32]) = [] := by unfold nx1; rw [hrn, List.drop_length]
    exact nxW_ne.1 (by rw [hq]; exact fun e => by cases e) this
/-- A statement's error stays, with a blank behind the text. -/
theorem st_err {W r : List Int} {p pl K : Nat} (he : (stP W r p pl).1.2.2 ≠ 0) : (stP W (r ++ [32]) (p + K) (pl + K)).1.2.2 = (stP W r p pl).1.2.2 ∧ ((stP W r p pl).1.2.2 = 140 → (stP W (r ++ [32]) (p + K) (pl + K)).1.2.1 = (stP W r p pl).1.2.1 + K) := by
  cases hbg : bgP W with
  | none => rw [st_no hbg, st_no hbg]; exact ⟨rfl, fun _ => rfl⟩
  | some o =>
    obtain ⟨hd, sz⟩ := o
    by_cases h0 : sz = 0
    · rw [st_0 hbg h0] at he; exact absurd rfl he
    · by_cases hb : (ps (nxW r)).2 = false ∨ sz < szo (ps (nxW r)).1
      · have hw : nxW (r ++ [32]) = nxW r := by
          by_cases hne : nxW r = []
          · rw [hne, nxW_blank hne]
          · exact (nx_app hne ⟨32, [], rfl, rfl⟩).1
        rw [st_bad hbg h0 hb, st_bad hbg h0 (by rw [hw]; exact hb)]
        exact ⟨rfl, fun e => absurd e (by simp)⟩
      · exfalso
        apply he
        obtain ⟨m, ok, hps⟩ : ∃ m ok, ps (nxW r) = (m, ok) := ⟨_, _, rfl⟩
        rw [hps] at hb
        simp only [not_or] at hb
        have hok : ok = true := by cases ok with | true => rfl | false => exact absurd rfl hb.1
        subst hok
        by_cases hp : W = pushW
        · rw [st_push hbg h0 hps hb.2 hp]
        · rw [st_ok hbg h0 hps hb.2 hp]
theorem s1_app {t v : List Int} {p K : Nat} (h0 : nxW t ≠ []) (hv : Bv v) (he : (s1 t p).1.2.2 = 0) : (s1 (t ++ v) (p + K)).1 = (s1 t p).1 ∧ (s1 (t ++ v) (p + K)).2.1 = (s1 t p).2.1 ++ v ∧ (s1 (t ++ v) (p + K)).2.2 = (s1 t p).2.2 + K := by
  obtain ⟨h1, h2, h3⟩ := nx_app h0 hv
  have := st_app (K := K) hv (show (stP (nxW t) (nxR t) (p + rn t true + (nxW t).length) (p + rn t true)).1.2.2 = 0 from he)
  unfold s1
  rw [h1, h2, h3, show p + K + rn t true = p + rn t true + K by omega, show p + rn t true + K + (nxW t).length = p + rn t true + (nxW t).length + K by omega]
  exact this
theorem s1_err {t : List Int} {p K : Nat} (h0 : nxW t ≠ []) (he : (s1 t p).1.2.2 ≠ 0) : (s1 (t ++ [32]) (p + K)).1.2.2 = (s1 t p).1.2.2 ∧ ((s1 t p).1.2.2 = 140 → (s1 (t ++ [32]) (p + K)).1.2.1 = (s1 t p).1.2.1 + K) := by
  obtain ⟨h1, h2, h3⟩ := nx_app (v := [32]) h0 ⟨32, [], rfl, rfl⟩
  have := st_err (K := K) (show (stP (nxW t) (nxR t) (p + rn t true + (nxW t).length) (p + rn t true)).1.2.2 ≠ 0 from he)
  unfold s1
  rw [h1, h2, h3, show p + K + rn t true = p + rn t true + K by omega, show p + rn t true + K + (nxW t).length = p + rn t true + (nxW t).length + K by omega]
  exact this
/-- A text that is read, and what follows it. -/
theorem as_then : ∀ (n : Nat) (code s v C : List Int) (p pl : Nat), s.length ≤ n → Bv v → asF code s p = (C, pl, 0) → pl = 0 ∧ ∃ s' p', nxW s' = [] ∧ p' + s'.length = p + s.length ∧ asF code (s ++ v) p = asF C (s' ++ v) p'
  | n, code, s, v, C, p, pl, hn, hv, h => by
    by_cases h0 : nxW s = []
    · rw [as_end h0] at h
      cases h
      exact ⟨rfl, s, p, h0, rfl, rfl⟩
    · by_cases he : (s1 s p).1.2.2 = 0
      · by_cases hl : 256 < code.length + (s1 s p).1.1.length
        · rw [as_long h0 he hl] at h; cases h
        · rw [as_go h0 he hl] at h
          have hs := s1_len (p := p) h0
          obtain ⟨h1, h2, h3⟩ := nx_app h0 hv
          obtain ⟨k1, k2, k3⟩ := s1_app (K := 0) h0 hv he
          rw [Nat.add_zero] at k1 k2 k3
          rw [Nat.add_zero] at k3
          match n, hn with
          | 0, hn => omega
          | n + 1, hn =>
            obtain ⟨hp, s', p', ha, hb, hc⟩ := as_then n _ _ v C _ pl (by omega) hv h
            refine ⟨hp, s', p', ha, by omega, ?_⟩
            rw [as_go (by rw [h1]; exact h0) (by rw [k1]; exact he) (by rw [k1]; exact hl), k1, k2, k3]
            exact hc
      · rw [as_err h0 he] at h
        simp at h
        exact absurd h.2.2 he
theorem as_mono : ∀ (n : Nat) (code s C : List Int) (p pl : Nat), s.length ≤ n → asF code s p = (C, pl, 0) → code.length ≤ C.length
  | n, code, s, C, p, pl, hn, h => by
    by_cases h0 : nxW s = []
    · rw [as_end h0] at h; cases h; exact Nat.le_refl _
    · by_cases he : (s1 s p).1.2.2 = 0
      · by_cases hl : 256 < code.length + (s1 s p).1.1.length
        · rw [as_long h0 he hl] at h; cases h
        · rw [as_go h0 he hl] at h
          have hs := s1_len (p := p) h0
          match n, hn with
          | 0, hn => omega
          | n + 1, hn =>
            have := as_mono n _ _ C _ pl (by omega) h
            rw [List.length_append] at this
            omega
      · rw [as_err h0 he] at h
        simp at h
        exact absurd h.2.2 he
/-- What is read behind a code, a blank at the end. -/
theorem as_behind : ∀ (n : Nat) (a code t : List Int) (p K : Nat), t.length ≤ n → a.length + code.length ≤ 256 →
    ((asF code t p).2.2 = 0 → (256 < a.length + (asF code t p).1.length → (asF (a ++ code) (t ++ [32]) (p + K)).2.2 = 142) ∧ (¬ 256 < a.length + (asF code t p).1.length → asF (a ++ code) (t ++ [32]) (p + K) = (a ++ (asF code t p).1, 0, 0))) ∧
    ((asF code t p).2.2 ≠ 0 → (asF (a ++ code) (t ++ [32]) (p + K)).2.2 ≠ 0) ∧
    ((asF code t p).2.2 = 140 → (asF (a ++ code) (t ++ [32]) (p + K)).2.2 ≠ 140 ∨ (asF (a ++ code) (t ++ [32]) (p + K)).2.1 = (asF code t p).2.1 + K)
  | n, a, code, t, p, K, hn, hl => by
    by_cases h0 : nxW t = []
    · rw [as_end h0, as_end (nxW_blank h0)]
      exact ⟨fun _ => ⟨fun h => by simp only at h; omega, fun _ => rfl⟩, fun h => absurd rfl h, fun h => absurd h (by simp)⟩
    · obtain ⟨h1, h2, h3⟩ := nx_app (v := [32]) h0 ⟨32, [], rfl, rfl⟩
      have h0' : nxW (t ++ [32]) ≠ [] := by rw [h1]; exact h0
      by_cases he : (s1 t p).1.2.2 = 0
      · obtain ⟨k1, k2, k3⟩ := s1_app (K := K) (v := [32]) h0 ⟨32, [], rfl, rfl⟩ he
        by_cases hlg : 256 < code.length + (s1 t p).1.1.length
        · rw [as_long h0 he hlg, as_long h0' (by rw [k1]; exact he) (by rw [k1, List.length_append]; omega)]
          exact ⟨fun h => absurd h (by simp), fun _ => by simp, fun h => absurd h (by simp)⟩
        · rw [as_go h0 he hlg]
          have hs := s1_len (p := p) h0
          by_cases hlg2 : 256 < (a ++ code).length + (s1 t p).1.1.length
          · rw [as_long h0' (by rw [k1]; exact he) (by rw [k1]; exact hlg2)]
            rw [List.length_append] at hlg2
            refine ⟨fun hz => ⟨fun _ => rfl, fun hle => ?_⟩, fun _ => by simp, fun _ => .inl (by simp)⟩
            exfalso
            have := as_mono _ _ _ (asF (code ++ (s1 t p).1.1) (s1 t p).2.1 (s1 t p).2.2).1 _ (asF (code ++ (s1 t p).1.1) (s1 t p).2.1 (s1 t p).2.2).2.1 (Nat.le_refl _) (show asF (code ++ (s1 t p).1.1) (s1 t p).2.1 (s1 t p).2.2 = (_, _, 0) from Prod.ext rfl (Prod.ext rfl hz))
            rw [List.length_append] at this
            omega
          · rw [as_go h0' (by rw [k1]; exact he) (by rw [k1]; exact hlg2), k1, k2, k3, List.append_assoc]
            rw [List.length_append] at hlg2
            match n, hn with
            | 0, hn => omega
            | n + 1, hn => exact as_behind n a _ _ _ K (by omega) (by rw [List.length_append]; omega)
      · obtain ⟨k1, k2⟩ := s1_err (K := K) h0 he
        rw [as_err h0 he, as_err h0' (by rw [k1]; exact he)]
        exact ⟨fun h => absurd h he, fun _ => by rw [k1]; exact he, fun h => .inr (k2 h)⟩
theorem joined {s t A : List Int} {pa : Nat} (hA : asF [] s 0 = (A, pa, 0)) (hAl : A.length ≤ 256) :
    ((asF [] t 0).2.2 = 0 → (256 < A.length + (asF [] t 0).1.length → (asF [] (((s ++ [10]) ++ t) ++ [32]) 0).2.2 = 142) ∧ (¬ 256 < A.length + (asF [] t 0).1.length → asF [] (((s ++ [10]) ++ t) ++ [32]) 0 = (A ++ (asF [] t 0).1, 0, 0))) ∧
    ((asF [] t 0).2.2 ≠ 0 → (asF [] (((s ++ [10]) ++ t) ++ [32]) 0).2.2 ≠ 0) ∧
    ((asF [] t 0).2.2 = 140 → (asF [] (((s ++ [10]) ++ t) ++ [32]) 0).2.2 ≠ 140 ∨ (asF [] (((s ++ [10]) ++ t) ++ [32]) 0).2.1 = s.length + 1 + (asF [] t 0).2.1) := by
  obtain ⟨_, s', p', h1, h2, h3⟩ := as_then s.length [] s (10 :: (t ++ [32])) A 0 pa (Nat.le_refl _) ⟨10, _, rfl, rfl⟩ hA
  have e : ((s ++ [10]) ++ t) ++ [32] = s ++ 10 :: (t ++ [32]) := by simp
  rw [e, h3, as_blanks A (10 :: (t ++ [32])) p' h1, as_skip (by rfl), show p' + s'.length + 1 = 0 + (s.length + 1) by omega]
  have := as_behind t.length A [] t 0 (s.length + 1) (Nat.le_refl _) (by simpa using hAl)
  rw [List.append_nil] at this
  rw [Nat.add_comm (asF [] t 0).2.1] at this
  exact this
end Go.Proofs.YtbjjboicfghldabDoor
