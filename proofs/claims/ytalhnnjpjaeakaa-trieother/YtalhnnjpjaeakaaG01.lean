/- What a tree has behind a Put. -/
import Derived.Test.YtalhnnjpjaeakaaG00
namespace Go.Proofs.Ytalhnnjpjaeakaa
set_option linter.unusedVariables false
namespace Tr
/-- Two paths that part at once. -/
def Hd (a b : List Int) : Prop := a = [] ∨ b = [] ∨ ∃ i a' j b', a = i :: a' ∧ b = j :: b' ∧ i ≠ j
theorem com_split (p q : List Int) : ∃ Q a b, p = Q ++ a ∧ q = Q ++ b ∧ Ni.com p q = Q.length ∧ Hd a b := by
  obtain ⟨h1, h2⟩ := Ni.com_le p q
  refine ⟨p.take (Ni.com p q), p.drop (Ni.com p q), q.drop (Ni.com p q), (List.take_append_drop _ _).symm, ?_, ?_, ?_⟩
  · rw [Ni.com_take, List.take_append_drop]
  · rw [List.length_take]; omega
  · by_cases hp : Ni.com p q < p.length
    · by_cases hq : Ni.com p q < q.length
      · have hs := Ni.com_stop p q hp hq
        right; right
        refine ⟨p.getD (Ni.com p q) 0, p.drop (Ni.com p q + 1), q.getD (Ni.com p q) 0, q.drop (Ni.com p q + 1), ?_, ?_, hs⟩
        · rw [List.drop_eq_getElem_cons hp]; simp [List.getD, List.getElem?_eq_getElem hp]
        · rw [List.drop_eq_getElem_cons hq]; simp [List.getD, List.getElem?_eq_getElem hq]
      · right; left; exact List.drop_eq_nil_of_le (by omega)
    · left; exact List.drop_eq_nil_of_le (by omega)
theorem pre_iff (Q q' : List Int) : q'.take Q.length = Q ↔ ∃ s, q' = Q ++ s := by
  constructor
  · intro h
    exact ⟨q'.drop Q.length, by conv => lhs; rw [← List.take_append_drop Q.length q', h]⟩
  · rintro ⟨s, rfl⟩; simp
theorem get_ext (p : List Int) (c : Tr) (s : List Int) : get (ext p c) (p ++ s) = get c s := by simp [get]
theorem get_ext_no (p : List Int) (c : Tr) (q : List Int) (h : ¬ ∃ s, q = p ++ s) : get (ext p c) q = [] := by
  rw [get, if_neg (fun e => h ((pre_iff p q).1 e))]
theorem get_und_app (p : List Int) (t : Tr) (s : List Int) : get (und p t) (p ++ s) = get t s := by rw [get_und]; simp
theorem get_und_no (p : List Int) (t : Tr) (q : List Int) (h : ¬ ∃ s, q = p ++ s) : get (und p t) q = [] := by
  rw [get_und, if_neg (fun e => h ((pre_iff p q).1 e))]
theorem toNat_inj {i j : Int} (h1 : 0 ≤ i) (h2 : 0 ≤ j) : i.toNat = j.toNat ↔ i = j := by omega
/-- Two things in an empty branch. -/
theorem get_two {a b x v : List Int} (hab : Hd a b) (hne : a ≠ b) (ha : Nb a) (hb : Nb b) (s : List Int) (hs : Nb s) : get (addT (add nk [] a x) b v) s = if s = b then v else if s = a then x else [] := by
  cases a with
  | nil =>
    cases b with
    | nil => exact absurd rfl hne
    | cons j b' =>
      simp only [add, addT]
      cases s with
      | nil => simp [get]
      | cons i s' =>
        simp only [get]
        by_cases hij : i = j
        · subst hij; rw [upd_same]; simp [get]
        · rw [upd_other _ _ (by have := hs.head; have := hb.head; omega)]; simp [nk, get, hij]
  | cons i a' =>
    cases b with
    | nil =>
      simp only [add, addT]
      cases s with
      | nil => simp [get]
      | cons h s' =>
        simp only [get]
        by_cases hij : h = i
        · subst hij; rw [upd_same]; simp [get]
        · rw [upd_other _ _ (by have := hs.head; have := ha.head; omega)]; simp [nk, get, hij]
    | cons j b' =>
      have hij : i ≠ j := by
        rcases hab with h | h | ⟨_, _, _, _, h1, h2, h3⟩
        · cases h
        · cases h
        · cases h1; cases h2; exact h3
      simp only [add, addT]
      cases s with
      | nil => simp [get]
      | cons h s' =>
        simp only [get]
        have b1 := hs.head; have b2 := ha.head; have b3 := hb.head
        by_cases h1 : h = j
        · subst h1; rw [upd_same]; simp [get, Ne.symm hij]
        · rw [upd_other _ _ (by omega)]
          by_cases h2 : h = i
          · subst h2; rw [upd_same]; simp [get, h1]
          · rw [upd_other _ _ (by omega)]; simp [nk, get, h1, h2]
/-- A tree and a key in a branch that has nothing else. -/
theorem get_fork {i : Int} {b v : List Int} {U : Tr} (hi : 0 ≤ i) (hab : Hd [i] b) (hb : Nb b) (s : List Int) (hs : Nb s) : get (add (upd nk i.toNat U) [] b v) s = if s = b then v else match s with | [] => [] | h :: r => if h = i then get U r else [] := by
  cases b with
  | nil =>
    simp only [add]
    cases s with
    | nil => simp [get]
    | cons h s' =>
      simp only [get]
      have b1 := hs.head
      by_cases hij : h = i
      · subst hij; rw [upd_same]; simp
      · rw [upd_other _ _ (by omega)]; simp [nk, get, hij]
  | cons j b' =>
    have hij : i ≠ j := by
      rcases hab with h | h | ⟨_, _, _, _, h1, h2, h3⟩
      · cases h
      · cases h
      · cases h1; cases h2; exact h3
    simp only [add]
    cases s with
    | nil => simp [get]
    | cons h s' =>
      simp only [get]
      have b1 := hs.head; have b3 := hb.head
      by_cases h1 : h = j
      · subst h1; rw [upd_same]; simp [get, Ne.symm hij]
      · rw [upd_other _ _ (by omega)]
        by_cases h2 : h = i
        · subst h2; rw [upd_same]; simp [h1]
        · rw [upd_other _ _ (by omega)]; simp [nk, get, h1, h2]
theorem Nb.of_app {p q : List Int} (h : Nb (p ++ q)) : Nb p ∧ Nb q := ⟨fun i hi => h i (List.mem_append_left _ hi), fun i hi => h i (List.mem_append_right _ hi)⟩
theorem app_inj {Q a b : List Int} : Q ++ a = Q ++ b ↔ a = b := ⟨List.append_cancel_left, fun h => by rw [h]⟩
theorem get_put : ∀ (t : Tr) (B : Nat) (q v q' : List Int), (t = no ∨ Ok B t) → Nb q → Nb q' → get (put t q v) q' = if q' = q then v else get t q' := by
  intro t
  induction t with
  | no => intro B q v q' _ _ _; simp [put, get]
  | leaf p x =>
    intro B q v q' h hq hq'
    have hp : Nb p := by
      rcases h with h | h
      · cases h
      · exact h.1
    simp only [put]
    by_cases e : q = p
    · rw [if_pos e, get, get]
      by_cases h2 : q' = q
      · rw [if_pos h2, if_pos h2]
      · rw [if_neg h2, if_neg h2, if_neg (by rw [← e]; exact h2)]
    · rw [if_neg e]
      obtain ⟨Q, a, b, rfl, rfl, hc, hab⟩ := com_split p q
      rw [hc]
      simp only [List.take_left, List.drop_left]
      have hne : a ≠ b := fun q => e (by rw [q])
      obtain ⟨hQ, ha⟩ := hp.of_app
      obtain ⟨_, hb⟩ := hq.of_app
      by_cases hs : ∃ s, q' = Q ++ s
      · obtain ⟨s, rfl⟩ := hs
        rw [get_und_app, get_two hab hne ha hb s hq'.of_app.2, get]
        simp only [app_inj]
      · rw [get_und_no _ _ _ hs, if_neg (fun e => hs ⟨b, e⟩), get, if_neg (fun e => hs ⟨a, e⟩)]
  | ext p c ih =>
    intro B q v q' h hq hq'
    have hok : Ok B (ext p c) := by
      rcases h with h | h
      · cases h
      · exact h
    obtain ⟨h1, h2, h3, h4, h5⟩ := hok
    obtain ⟨Q, a, b, rfl, rfl, hc, hab⟩ := com_split p q
    simp only [put]
    rw [hc]
    obtain ⟨hQ, ha⟩ := h1.of_app
    obtain ⟨_, hb⟩ := hq.of_app
    by_cases ea : a = []
    · subst ea
      simp only [List.append_nil] at h2 h3 h5 ⊢
      rw [if_pos trivial]
      simp only [List.drop_left]
      by_cases hs : ∃ s, q' = Q ++ s
      · obtain ⟨s, rfl⟩ := hs
        rw [get_ext, get_ext, ih _ b v s (.inr h5) hb hq'.of_app.2]
        simp only [app_inj]
      · rw [get_ext_no _ _ _ hs, get_ext_no _ _ _ hs, if_neg (fun e => hs ⟨b, e⟩)]
    · obtain ⟨i, a', rfl⟩ : ∃ i a', a = i :: a' := by
        cases a with
        | nil => exact absurd rfl ea
        | cons i a' => exact ⟨i, a', rfl⟩
      rw [if_neg (by simp)]
      have e1 : (Q ++ i :: a').getD Q.length 0 = i := by simp [List.getD]
      have e2 : (Q ++ i :: a').drop (Q.length + 1) = a' := by
        rw [show Q ++ i :: a' = (Q ++ [i]) ++ a' from by simp, show Q.length + 1 = (Q ++ [i]).length from by simp, List.drop_left]
      have hi := ha.head
      have hh : Hd [i] b := by
        rcases hab with h | h | ⟨_, _, j, b', h6, h7, h8⟩
        · cases h
        · exact .inr (.inl h)
        · cases h6; exact .inr (.inr ⟨i, [], j, b', rfl, h7, h8⟩)
      rw [e1, e2]
      simp only [List.take_left, List.drop_left]
      by_cases hs : ∃ s, q' = Q ++ s
      · obtain ⟨s, rfl⟩ := hs
        rw [get_und_app, get_fork hi.1 hh hb s hq'.of_app.2]
        simp only [app_inj]
        by_cases hsb : s = b
        · rw [if_pos hsb, if_pos hsb]
        · rw [if_neg hsb, if_neg hsb]
          cases s with
          | nil =>
            rw [get_ext_no]
            rintro ⟨r, hr⟩
            have := congrArg List.length hr
            simp at this
          | cons g r =>
            simp only
            by_cases hhi : g = i
            · subst hhi
              rw [if_pos rfl]
              by_cases hr : ∃ u, r = a' ++ u
              · obtain ⟨u, rfl⟩ := hr
                rw [get_und_app, show Q ++ g :: (a' ++ u) = (Q ++ g :: a') ++ u from by simp, get_ext]
              · rw [get_und_no _ _ _ hr, get_ext_no]
                rintro ⟨u, hu⟩
                exact hr ⟨u, by simpa using hu⟩
            · rw [if_neg hhi, get_ext_no]
              rintro ⟨u, hu⟩
              simp at hu
              exact hhi hu.1
      · rw [get_und_no _ _ _ hs, if_neg (fun e => hs ⟨b, e⟩), get_ext_no]
        rintro ⟨u, rfl⟩
        exact hs ⟨i :: a' ++ u, by simp⟩
  | br k x ih =>
    intro B q v q' h hq hq'
    have hok : Ok B (br k x) := by
      rcases h with h | h
      · cases h
      · exact h
    cases q with
    | nil =>
      simp only [put]
      cases q' with
      | nil => simp [get]
      | cons h r => simp [get]
    | cons i r =>
      simp only [put]
      cases q' with
      | nil => simp [get]
      | cons h s =>
        simp only [get]
        have b1 := hq.head; have b2 := hq'.head
        by_cases hi : h = i
        · subst hi
          rw [upd_same, ih _ (B - 1) r v s (by
            rcases hok.1 h.toNat with h0 | ⟨_, _, h3⟩
            · exact .inl h0
            · exact .inr h3) hq.tail hq'.tail]
          simp
        · rw [upd_other _ _ (by omega)]
          simp [hi]
/-- How long a path may be where a tree hangs. -/
theorem two_upd {k : Nat → Tr} {x : List Int} (h : two k x) (i : Nat) {t : Tr} (ht : t ≠ no) : two (upd k i t) x := by
  have hk : ∀ j, k j ≠ no → upd k i t j ≠ no := fun j hj => by
    unfold upd
    by_cases e : j = i
    · rw [if_pos e]; exact ht
    · rw [if_neg e]; exact hj
  rcases h with ⟨a, b, h1, h2, h3⟩ | ⟨h1, a, h2⟩
  · exact .inl ⟨a, b, h1, hk a h2, hk b h3⟩
  · exact .inr ⟨h1, a, hk a h2⟩
theorem two_val {k : Nat → Tr} {x v : List Int} (h : two k x) (hv : v ≠ []) : two k v := by
  rcases h with ⟨a, b, h1, h2, h3⟩ | ⟨h1, a, h2⟩
  · exact .inr ⟨hv, a, h2⟩
  · exact .inr ⟨hv, a, h2⟩
theorem Ok.mono {B : Nat} : ∀ {t : Tr} {C : Nat}, Ok B t → B ≤ C → Ok C t := by
  intro t
  induction t generalizing B with
  | no => intro C h _; exact h
  | leaf p v => intro C h hc; exact ⟨h.1, by have := h.2.1; omega, h.2.2⟩
  | ext p c ih => intro C h hc; exact ⟨h.1, h.2.1, by have := h.2.2.1; omega, h.2.2.2.1, ih h.2.2.2.2 (by omega)⟩
  | br k x ih =>
    intro C h hc
    refine ⟨fun i => ?_, h.2⟩
    rcases h.1 i with h0 | ⟨h1, h2, h3⟩
    · exact .inl h0
    · exact .inr ⟨h1, by omega, ih i h3 (by omega)⟩
theorem leaf_ok {B : Nat} {r v : List Int} (hr : Nb r) (hl : r.length ≤ B) (hv : v ≠ []) : Ok B (leaf r v) := ⟨hr, hl, hv⟩
theorem put_ok : ∀ (t : Tr) (B : Nat) (q v : List Int), (t = no ∨ Ok B t) → Nb q → q.length ≤ B → v ≠ [] → Ok B (put t q v) := by
  intro t
  induction t with
  | no => intro B q v _ hq hl hv; exact ⟨hq, hl, hv⟩
  | leaf p x =>
    intro B q v h hq hl hv
    have hok : Ok B (leaf p x) := by
      rcases h with h | h
      · cases h
      · exact h
    obtain ⟨hp, hpl, hx⟩ := hok
    simp only [put]
    by_cases e : q = p
    · rw [if_pos e]; exact ⟨hq, hl, hv⟩
    · rw [if_neg e]
      obtain ⟨Q, a, b, rfl, rfl, hc, hab⟩ := com_split p q
      rw [hc]
      simp only [List.take_left, List.drop_left]
      have hne : a ≠ b := fun q => e (by rw [q])
      obtain ⟨hQ, ha⟩ := hp.of_app
      obtain ⟨_, hb⟩ := hq.of_app
      simp only [List.length_append] at hl hpl
      refine Ok.mono (und_ok (B := B - Q.length) hQ ?_) (by omega)
      cases a with
      | nil =>
        cases b with
        | nil => exact absurd rfl hne
        | cons j b' =>
          simp only [add, addT]
          have b3 := hb.head
          refine ⟨fun i => ?_, .inr ⟨hx, j.toNat, by rw [upd_same]; simp⟩⟩
          by_cases hi : i = j.toNat
          · subst hi; rw [upd_same]; simp at hl; exact .inr ⟨by omega, by omega, hb.tail, by omega, hv⟩
          · rw [upd_other _ _ hi]; exact .inl rfl
      | cons i a' =>
        have b2 := ha.head
        cases b with
        | nil =>
          simp only [add, addT]
          refine ⟨fun j => ?_, .inr ⟨hv, i.toNat, by rw [upd_same]; simp⟩⟩
          by_cases hi : j = i.toNat
          · subst hi; rw [upd_same]; simp at hpl; exact .inr ⟨by omega, by omega, ha.tail, by omega, hx⟩
          · rw [upd_other _ _ hi]; exact .inl rfl
        | cons j b' =>
          have hij : i ≠ j := by
            rcases hab with h | h | ⟨_, _, _, _, h1, h2, h3⟩
            · cases h
            · cases h
            · cases h1; cases h2; exact h3
          have b3 := hb.head
          simp at hpl hl
          simp only [add, addT]
          refine ⟨fun h => ?_, .inl ⟨i.toNat, j.toNat, by omega, ?_, ?_⟩⟩
          · by_cases h1 : h = j.toNat
            · subst h1; rw [upd_same]; exact .inr ⟨by omega, by omega, hb.tail, by omega, hv⟩
            · rw [upd_other _ _ h1]
              by_cases h2 : h = i.toNat
              · subst h2; rw [upd_same]; exact .inr ⟨by omega, by omega, ha.tail, by omega, hx⟩
              · rw [upd_other _ _ h2]; exact .inl rfl
          · rw [upd_other _ _ (by omega), upd_same]; simp
          · rw [upd_same]; simp
  | ext p c ih =>
    intro B q v h hq hl hv
    have hok : Ok B (ext p c) := by
      rcases h with h | h
      · cases h
      · exact h
    obtain ⟨h1, h2, h3, h4, h5⟩ := hok
    obtain ⟨Q, a, b, rfl, rfl, hc, hab⟩ := com_split p q
    simp only [put]
    rw [hc]
    obtain ⟨hQ, ha⟩ := h1.of_app
    obtain ⟨_, hb⟩ := hq.of_app
    simp only [List.length_append] at hl h3 h5
    by_cases ea : a = []
    · subst ea
      simp only [List.append_nil] at h2 h3 h5 ⊢
      rw [if_pos trivial]
      simp only [List.drop_left]
      refine ⟨hQ, h2, by omega, ?_, ?_⟩
      · cases c with
        | br k x => cases b <;> simp [put, isBr]
        | no => simp [isBr] at h4
        | leaf _ _ => simp [isBr] at h4
        | ext _ _ => simp [isBr] at h4
      · exact ih (B - Q.length) b v (.inr (by simpa using h5)) hb (by omega) hv
    · obtain ⟨i, a', rfl⟩ : ∃ i a', a = i :: a' := by
        cases a with
        | nil => exact absurd rfl ea
        | cons i a' => exact ⟨i, a', rfl⟩
      rw [if_neg (by simp)]
      have e1 : (Q ++ i :: a').getD Q.length 0 = i := by simp [List.getD]
      have e2 : (Q ++ i :: a').drop (Q.length + 1) = a' := by
        rw [show Q ++ i :: a' = (Q ++ [i]) ++ a' from by simp, show Q.length + 1 = (Q ++ [i]).length from by simp, List.drop_left]
      rw [e1, e2]
      simp only [List.take_left, List.drop_left]
      have b2 := ha.head
      simp at h3 h5
      refine Ok.mono (und_ok (B := B - Q.length) hQ ?_) (by omega)
      have hU : Ok (B - Q.length - 1) (und a' c) := Ok.mono (und_ok ha.tail h5) (by omega)
      cases b with
      | nil =>
        simp only [add]
        refine ⟨fun j => ?_, .inr ⟨hv, i.toNat, by rw [upd_same]; exact hU.ne⟩⟩
        by_cases hi : j = i.toNat
        · subst hi; rw [upd_same]; exact .inr ⟨by omega, by omega, hU⟩
        · rw [upd_other _ _ hi]; exact .inl rfl
      | cons j b' =>
        have hij : i ≠ j := by
          rcases hab with h | h | ⟨_, _, _, _, h6, h7, h8⟩
          · cases h
          · cases h
          · cases h6; cases h7; exact h8
        have b3 := hb.head
        simp at hl
        simp only [add]
        refine ⟨fun h => ?_, .inl ⟨i.toNat, j.toNat, by omega, ?_, ?_⟩⟩
        · by_cases h6 : h = j.toNat
          · subst h6; rw [upd_same]; exact .inr ⟨by omega, by omega, hb.tail, by omega, hv⟩
          · rw [upd_other _ _ h6]
            by_cases h7 : h = i.toNat
            · subst h7; rw [upd_same]; exact .inr ⟨by omega, by omega, hU⟩
            · rw [upd_other _ _ h7]; exact .inl rfl
        · rw [upd_other _ _ (by omega), upd_same]; exact hU.ne
        · rw [upd_same]; simp
  | br k x ih =>
    intro B q v h hq hl hv
    have hok : Ok B (br k x) := by
      rcases h with h | h
      · cases h
      · exact h
    cases q with
    | nil => exact ⟨hok.1, two_val hok.2 hv⟩
    | cons i r =>
      simp only [put]
      have b1 := hq.head
      simp at hl
      have hs : Ok (B - 1) (put (k i.toNat) r v) := ih i.toNat (B - 1) r v (by
        rcases hok.1 i.toNat with h0 | ⟨_, _, h3⟩
        · exact .inl h0
        · exact .inr h3) hq.tail (by omega) hv
      refine ⟨fun j => ?_, two_upd hok.2 _ hs.ne⟩
      by_cases hj : j = i.toNat
      · subst hj; rw [upd_same]; exact .inr ⟨by omega, by omega, hs⟩
      · rw [upd_other _ _ hj]; exact hok.1 j
end Tr
end Go.Proofs.Ytalhnnjpjaeakaa
/- What a tree has behind a Delete. -/
namespace Go.Proofs.Ytalhnnjpjaeakaa
set_option linter.unusedVariables false
namespace Tr
theorem isNo_false {t : Tr} (h : t ≠ no) : t.isNo = false := by
  cases hq : t.isNo with
  | false => rfl
  | true => exact absurd (isNo_iff.1 hq) h
theorem kids0 {k : Nat → Tr} : ∀ {n : Nat}, kidsN k n = 0 → ∀ i, i < n → k i = no
  | 0, _, i, h => by omega
  | n + 1, h, i, hi => by
    simp only [kidsN] at h
    by_cases e : i = n
    · subst e
      by_cases hq : (k i).isNo = true
      · exact isNo_iff.1 hq
      · rw [if_neg hq] at h; omega
    · exact kids0 (n := n) (by omega) i (by omega)
theorem kids1 {k : Nat → Tr} : ∀ {n : Nat}, kidsN k n = 1 → lastN k n < n ∧ k (lastN k n) ≠ no ∧ ∀ j, j < n → j ≠ lastN k n → k j = no
  | 0, h => by simp [kidsN] at h
  | n + 1, h => by
    simp only [kidsN] at h
    by_cases hq : (k n).isNo = true
    · rw [if_pos hq] at h
      obtain ⟨h1, h2, h3⟩ := kids1 (n := n) (by omega)
      simp only [lastN]
      rw [if_pos hq]
      refine ⟨by omega, h2, fun j hj hne => ?_⟩
      by_cases e : j = n
      · subst e; exact isNo_iff.1 hq
      · exact h3 j (by omega) hne
    · rw [if_neg hq] at h
      simp only [lastN]
      rw [if_neg hq]
      refine ⟨by omega, fun e => hq (isNo_iff.2 e), fun j hj hne => kids0 (n := n) (by omega) j (by omega)⟩
theorem kids2 {k : Nat → Tr} : ∀ {n : Nat}, 2 ≤ kidsN k n → ∃ i j, i ≠ j ∧ k i ≠ no ∧ k j ≠ no
  | 0, h => by simp [kidsN] at h
  | n + 1, h => by
    simp only [kidsN] at h
    by_cases hq : (k n).isNo = true
    · rw [if_pos hq] at h
      exact kids2 (n := n) (by omega)
    · rw [if_neg hq] at h
      by_cases h1 : kidsN k n = 1
      · obtain ⟨a1, a2, _⟩ := kids1 h1
        exact ⟨lastN k n, n, by omega, a2, fun e => hq (isNo_iff.2 e)⟩
      · exact kids2 (n := n) (by omega)
theorem kids_some {k : Nat → Tr} : ∀ {n : Nat}, 0 < kidsN k n → ∃ i, i < n ∧ k i ≠ no
  | 0, h => by simp [kidsN] at h
  | n + 1, h => by
    simp only [kidsN] at h
    by_cases hq : (k n).isNo = true
    · rw [if_pos hq] at h
      obtain ⟨i, h1, h2⟩ := kids_some (n := n) (by omega)
      exact ⟨i, by omega, h2⟩
    · exact ⟨n, by omega, fun e => hq (isNo_iff.2 e)⟩
theorem nrm_get {k : Nat → Tr} {x q : List Int} (hk : ∀ i, k i = no ∨ i < 16) (hq : Nb q) : get (nrm k x) q = get (br k x) q := by
  unfold nrm
  by_cases h0 : kidsN k 16 = 0
  · rw [if_pos h0]
    have ha : ∀ i, k i = no := fun i => by
      rcases hk i with h | h
      · exact h
      · exact kids0 h0 i h
    cases q with
    | nil => simp [get]
    | cons i r => simp [get, ha]
  · rw [if_neg h0]
    by_cases h1 : kidsN k 16 = 1 ∧ x = []
    · rw [if_pos h1]
      obtain ⟨h1, rfl⟩ := h1
      obtain ⟨a1, a2, a3⟩ := kids1 h1
      cases q with
      | nil => rw [get_und]; simp [get]
      | cons i r =>
        have b := hq.head
        rw [get_und]
        simp only [List.length_cons, List.length_nil, Nat.zero_add, List.take_succ_cons, List.take_zero, List.drop_succ_cons, List.drop_zero, get]
        by_cases e : i = (lastN k 16 : Int)
        · rw [if_pos (by rw [e]), e]; simp
        · rw [if_neg (by simpa using e), a3 i.toNat (by omega) (by omega)]; simp [get]
    · rw [if_neg h1]
theorem nrm_ok {B : Nat} {k : Nat → Tr} {x : List Int} (hk : ∀ i, k i = no ∨ (i < 16 ∧ 1 ≤ B ∧ Ok (B - 1) (k i))) (hs : x ≠ [] ∨ ∃ i, k i ≠ no) : Ok B (nrm k x) := by
  unfold nrm
  by_cases h0 : kidsN k 16 = 0
  · rw [if_pos h0]
    refine ⟨(fun i hi => by cases hi), Nat.zero_le _, ?_⟩
    rcases hs with h | ⟨i, h⟩
    · exact h
    · rcases hk i with h1 | ⟨h1, _⟩
      · exact absurd h1 h
      · exact absurd (kids0 h0 i h1) h
  · rw [if_neg h0]
    by_cases h1 : kidsN k 16 = 1 ∧ x = []
    · rw [if_pos h1]
      obtain ⟨a1, a2, _⟩ := kids1 h1.1
      rcases hk (lastN k 16) with h2 | ⟨h2, h3, h4⟩
      · exact absurd h2 a2
      · exact Ok.mono (und_ok (p := [(lastN k 16 : Int)]) (fun i hi => by simp at hi; omega) h4) (by simp; omega)
    · rw [if_neg h1]
      refine ⟨hk, ?_⟩
      by_cases h2 : 2 ≤ kidsN k 16
      · exact .inl (kids2 h2)
      · have h3 : kidsN k 16 = 1 := by omega
        obtain ⟨a1, a2, _⟩ := kids1 h3
        exact .inr ⟨fun e => h1 ⟨h3, e⟩, _, a2⟩
/-- Behind a Delete of a key that is there: the tree's form, and that of a branch something is left. -/
theorem del_ok : ∀ (t : Tr) (B : Nat) (q : List Int), Ok B t → Nb q → get t q ≠ [] → (del t q = no ∨ Ok B (del t q)) ∧ (t.isBr = true → Ok B (del t q)) := by
  intro t
  induction t with
  | no => intro B q h; exact h.elim
  | leaf p v => intro B q _ _ _; exact ⟨.inl rfl, fun h => by simp [isBr] at h⟩
  | ext p c ih =>
    intro B q h hq hg
    obtain ⟨h1, h2, h3, h4, h5⟩ := h
    have hp : ∃ s, q = p ++ s := Classical.byContradiction fun hn => hg (get_ext_no p c q hn)
    obtain ⟨s, rfl⟩ := hp
    rw [get_ext] at hg
    have := (ih (B - p.length) s h5 hq.of_app.2 hg).2 h4
    refine ⟨.inr ?_, fun h => by simp [isBr] at h⟩
    simp only [del, List.drop_left]
    exact Ok.mono (und_ok h1 this) (by omega)
  | br k x ih =>
    intro B q h hq hg
    have hall : Ok B (del (br k x) q) := by
      cases q with
      | nil =>
        simp only [del]
        refine nrm_ok h.1 (.inr ?_)
        rcases h.2 with ⟨i, _, _, h, _⟩ | ⟨_, i, h⟩ <;> exact ⟨i, h⟩
      | cons i r =>
        simp only [del]
        have b := hq.head
        simp only [get] at hg
        have hki : k i.toNat ≠ no := fun e => hg (by rw [e]; rfl)
        rcases h.1 i.toNat with h0 | ⟨h1, h2, h3⟩
        · exact absurd h0 hki
        · have hd := (ih i.toNat (B - 1) r h3 hq.tail hg).1
          refine nrm_ok (fun j => ?_) ?_
          · by_cases hj : j = i.toNat
            · subst hj
              rw [upd_same]
              rcases hd with hd | hd
              · exact .inl hd
              · exact .inr ⟨h1, h2, hd⟩
            · rw [upd_other _ _ hj]; exact h.1 j
          · rcases h.2 with ⟨a, c, hne, ha, hc⟩ | ⟨hx, _⟩
            · by_cases e : a = i.toNat
              · exact .inr ⟨c, by rw [upd_other _ _ (by omega)]; exact hc⟩
              · exact .inr ⟨a, by rw [upd_other _ _ e]; exact ha⟩
            · exact .inl hx
    exact ⟨.inr hall, fun _ => hall⟩
theorem get_del : ∀ (t : Tr) (B : Nat) (q q' : List Int), Ok B t → Nb q → Nb q' → get t q ≠ [] → get (del t q) q' = if q' = q then [] else get t q' := by
  intro t
  induction t with
  | no => intro B q q' h; exact h.elim
  | leaf p v =>
    intro B q q' _ _ _ hg
    simp only [get] at hg ⊢
    by_cases e : q = p
    · subst e
      simp only [del, get]
      by_cases h : q' = q
      · rw [if_pos h]
      · rw [if_neg h, if_neg h]
    · rw [if_neg e] at hg; exact absurd rfl hg
  | ext p c ih =>
    intro B q q' h hq hq' hg
    obtain ⟨h1, h2, h3, h4, h5⟩ := h
    have hp : ∃ s, q = p ++ s := Classical.byContradiction fun hn => hg (get_ext_no p c q hn)
    obtain ⟨s, rfl⟩ := hp
    rw [get_ext] at hg
    simp only [del, List.drop_left]
    by_cases hs : ∃ u, q' = p ++ u
    · obtain ⟨u, rfl⟩ := hs
      rw [get_und_app, get_ext, ih _ s u h5 hq.of_app.2 hq'.of_app.2 hg]
      simp only [app_inj]
    · rw [get_und_no _ _ _ hs, get_ext_no _ _ _ hs]
      simp
  | br k x ih =>
    intro B q q' h hq hq' hg
    have hk : ∀ i, k i = no ∨ i < 16 := fun i => (h.1 i).imp id (·.1)
    cases q with
    | nil =>
      simp only [del]
      rw [nrm_get hk hq']
      cases q' with
      | nil => simp [get]
      | cons j s => simp [get]
    | cons i r =>
      have b := hq.head
      simp only [del]
      simp only [get] at hg
      rw [nrm_get (fun j => by
        by_cases hj : j = i.toNat
        · right; omega
        · rw [upd_other _ _ hj]; exact hk j) hq']
      cases q' with
      | nil => simp [get]
      | cons j s =>
        have b2 := hq'.head
        simp only [get]
        by_cases e : j = i
        · subst e
          rcases h.1 j.toNat with h0 | ⟨_, _, h3⟩
          · rw [h0] at hg; exact absurd rfl hg
          · rw [upd_same, ih _ (B - 1) r s h3 hq.tail hq'.tail hg]
            simp
        · rw [upd_other _ _ (by omega)]
          simp [e]
end Tr
end Go.Proofs.Ytalhnnjpjaeakaa
