/- What a tree has behind a Put. -/
import Derived.Test.YtefhepcplempkaaGreatG01
import Derived.Test.YtefhepcplempkaaGreatG00
import Derived.Lib.Bytes
import Derived.Deep.OwnRows
set_option linter.unusedVariables false
namespace Go.Proofs.YtefhepcplempkaaGreat
namespace Tr
def Hd (a b : List Int) : Prop := a = [] \/ b = [] \/ ∃ i a' j b', a = i :: a' /\ b = j :: b' /\ i ≠ j
theorem Zd0 (p q : List Int) : ∃ Q a b, p = Q ++ a /\ q = Q ++ b /\ Ni.com p q = Q.length /\ Hd a b := by
 obtain ⟨h1, h2⟩ := Ni.com_le p q
 refine ⟨p.take (Ni.com p q), p.drop (Ni.com p q), q.drop (Ni.com p q), (List.take_append_drop _ _).symm, ?_, ?_, ?_⟩
 ·rw [Ni.com_take, List.take_append_drop]
 ·rw [List.length_take]; omega
 ·by_cases hp : Ni.com p q < p.length
  ·by_cases hq : Ni.com p q < q.length
   ·have hs := Ni.com_stop p q hp hq
    right; right
    refine ⟨p.getD (Ni.com p q) 0, p.drop (Ni.com p q + 1), q.getD (Ni.com p q) 0, q.drop (Ni.com p q + 1), ?_, ?_, hs⟩
    ·rw [List.drop_eq_getElem_cons hp]; simp [List.getD, List.getElem?_eq_getElem hp]
    ·rw [List.drop_eq_getElem_cons hq]; simp [List.getD, List.getElem?_eq_getElem hq]
   ·right; left; exact List.drop_eq_nil_of_le (by omega)
  ·left; exact List.drop_eq_nil_of_le (by omega)
theorem Zqf (Q q' : List Int) : q'.take Q.length = Q ↔ ∃ s, q' = Q ++ s := by
 constructor
 ·intro h
  exact ⟨q'.drop Q.length, by conv => lhs; rw [<- List.take_append_drop Q.length q', h]⟩
 ·rintro ⟨s, rfl⟩; simp
theorem Zl8 (p : List Int) (c : Tr) (s : List Int) : get (ext p c) (p ++ s) = get c s := by simp [get]
theorem Zci (p : List Int) (c : Tr) (q : List Int) (h : ¬ ∃ s, q = p ++ s) : get (ext p c) q = [] := by
 rw [get, if_neg (fun e => h ((Zqf p q).1 e))]
theorem Zem (p : List Int) (t : Tr) (s : List Int) : get (und p t) (p ++ s) = get t s := by rw [Zrs]; simp
theorem Zfl (p : List Int) (t : Tr) (q : List Int) (h : ¬ ∃ s, q = p ++ s) : get (und p t) q = [] := by
 rw [Zrs, if_neg (fun e => h ((Zqf p q).1 e))]
theorem Zxp {a b x v : List Int} (hab : Hd a b) (hne : a ≠ b) (ha : Nb a) (hb : Nb b) (s : List Int) (hs : Nb s) : get (addT (add nk [] a x) b v) s = if s = b then v else if s = a then x else [] := by
 cases a with
 | nil =>
  cases b with
  | nil => exact absurd rfl hne
  | cons j b' =>
   simp only [add, addT]
   cases s with
   | nil => simp [get]
   | cons i s' =>
    simp only [get]
    by_cases hij : i = j
    ·subst hij; rw [Za8]; simp [get]
    ·rw [Za6 _ _ (by have := hs.head; have := hb.head; omega)]; simp [nk, get, hij]
 | cons i a' =>
  cases b with
  | nil =>
   simp only [add, addT]
   cases s with
   | nil => simp [get]
   | cons h s' =>
    simp only [get]
    by_cases hij : h = i
    ·subst hij; rw [Za8]; simp [get]
    ·rw [Za6 _ _ (by have := hs.head; have := ha.head; omega)]; simp [nk, get, hij]
  | cons j b' =>
   have hij : i ≠ j := by
    rcases hab with h | h | ⟨_, _, _, _, h1, h2, h3⟩
    ·cases h
    ·cases h
    ·cases h1; cases h2; exact h3
   simp only [add, addT]
   cases s with
   | nil => simp [get]
   | cons h s' =>
    simp only [get]
    have b1 := hs.head; have b2 := ha.head; have b3 := hb.head
    by_cases h1 : h = j
    ·subst h1; rw [Za8]; simp [get, Ne.symm hij]
    ·rw [Za6 _ _ (by omega)]
     by_cases h2 : h = i
     ·subst h2; rw [Za8]; simp [get, h1]
     ·rw [Za6 _ _ (by omega)]; simp [nk, get, h1, h2]
theorem Zug {i : Int} {b v : List Int} {U : Tr} (hi : 0 <= i) (hab : Hd [i] b) (hb : Nb b) (s : List Int) (hs : Nb s) : get (add (upd nk i.toNat U) [] b v) s = if s = b then v else match s with | [] => [] | h :: r => if h = i then get U r else [] := by
 cases b with
 | nil =>
  simp only [add]
  cases s with
  | nil => simp [get]
  | cons h s' =>
   simp only [get]
   have b1 := hs.head
   by_cases hij : h = i
   ·subst hij; rw [Za8]; simp
   ·rw [Za6 _ _ (by omega)]; simp [nk, get, hij]
 | cons j b' =>
  have hij : i ≠ j := by
   rcases hab with h | h | ⟨_, _, _, _, h1, h2, h3⟩
   ·cases h
   ·cases h
   ·cases h1; cases h2; exact h3
  simp only [add]
  cases s with
  | nil => simp [get]
  | cons h s' =>
   simp only [get]
   have b1 := hs.head; have b3 := hb.head
   by_cases h1 : h = j
   ·subst h1; rw [Za8]; simp [get, Ne.symm hij]
   ·rw [Za6 _ _ (by omega)]
    by_cases h2 : h = i
    ·subst h2; rw [Za8]; simp [h1]
    ·rw [Za6 _ _ (by omega)]; simp [nk, get, h1, h2]
theorem Nb.of_app {p q : List Int} (h : Nb (p ++ q)) : Nb p /\ Nb q := ⟨fun i hi => h i (List.mem_append_left _ hi), fun i hi => h i (List.mem_append_right _ hi)⟩
theorem Zmh {Q a b : List Int} : Q ++ a = Q ++ b ↔ a = b := ⟨List.append_cancel_left, fun h => by rw [h]⟩
theorem Zxq : ∀ (t : Tr) (B : Nat) (q v q' : List Int), (t = no \/ Ok B t) -> Nb q -> Nb q' -> get (put t q v) q' = if q' = q then v else get t q' := by
 intro t
 induction t with
 | no => intro B q v q' _ _ _; simp [put, get]
 | leaf p x =>
  intro B q v q' h hq hq'
  have hp : Nb p := by
   rcases h with h | h
   ·cases h
   ·exact h.1
  simp only [put]
  by_cases e : q = p
  ·rw [if_pos e, get, get]
   by_cases h2 : q' = q
   ·rw [if_pos h2, if_pos h2]
   ·rw [if_neg h2, if_neg h2, if_neg (by rw [<- e]; exact h2)]
  ·rw [if_neg e]
   obtain ⟨Q, a, b, rfl, rfl, hc, hab⟩ := Zd0 p q
   rw [hc]
   simp only [List.take_left, List.drop_left]
   have hne : a ≠ b := fun q => e (by rw [q])
   obtain ⟨hQ, ha⟩ := hp.of_app
   obtain ⟨_, hb⟩ := hq.of_app
   by_cases hs : ∃ s, q' = Q ++ s
   ·obtain ⟨s, rfl⟩ := hs
    rw [Zem, Zxp hab hne ha hb s hq'.of_app.2, get]
    simp only [Zmh]
   ·rw [Zfl _ _ _ hs, if_neg (fun e => hs ⟨b, e⟩), get, if_neg (fun e => hs ⟨a, e⟩)]
 | ext p c ih =>
  intro B q v q' h hq hq'
  have hok : Ok B (ext p c) := by
   rcases h with h | h
   ·cases h
   ·exact h
  obtain ⟨h1, h2, h3, h4, h5⟩ := hok
  obtain ⟨Q, a, b, rfl, rfl, hc, hab⟩ := Zd0 p q
  simp only [put]
  rw [hc]
  obtain ⟨hQ, ha⟩ := h1.of_app
  obtain ⟨_, hb⟩ := hq.of_app
  by_cases ea : a = []
  ·subst ea
   simp only [List.append_nil] at h2 h3 h5 ⊢
   rw [if_pos trivial]
   simp only [List.drop_left]
   by_cases hs : ∃ s, q' = Q ++ s
   ·obtain ⟨s, rfl⟩ := hs
    rw [Zl8, Zl8, ih _ b v s (.inr h5) hb hq'.of_app.2]
    simp only [Zmh]
   ·rw [Zci _ _ _ hs, Zci _ _ _ hs, if_neg (fun e => hs ⟨b, e⟩)]
  ·obtain ⟨i, a', rfl⟩ : ∃ i a', a = i :: a' := by
    cases a with
    | nil => exact absurd rfl ea
    | cons i a' => exact ⟨i, a', rfl⟩
   rw [if_neg (by simp)]
   have e1 : (Q ++ i :: a').getD Q.length 0 = i := by simp [List.getD]
   have e2 : (Q ++ i :: a').drop (Q.length + 1) = a' := by
    rw [show Q ++ i :: a' = (Q ++ [i]) ++ a' from by simp, show Q.length + 1 = (Q ++ [i]).length from by simp, List.drop_left]
   have hi := ha.head
   have hh : Hd [i] b := by
    rcases hab with h | h | ⟨_, _, j, b', h6, h7, h8⟩
    ·cases h
    ·exact .inr (.inl h)
    ·cases h6; exact .inr (.inr ⟨i, [], j, b', rfl, h7, h8⟩)
   rw [e1, e2]
   simp only [List.take_left, List.drop_left]
   by_cases hs : ∃ s, q' = Q ++ s
   ·obtain ⟨s, rfl⟩ := hs
    rw [Zem, Zug hi.1 hh hb s hq'.of_app.2]
    simp only [Zmh]
    by_cases hsb : s = b
    ·rw [if_pos hsb, if_pos hsb]
    ·rw [if_neg hsb, if_neg hsb]
     cases s with
     | nil =>
      rw [Zci]
      rintro ⟨r, hr⟩
      have := congrArg List.length hr
      simp at this
     | cons g r =>
      simp only
      by_cases hhi : g = i
      ·subst hhi
       rw [if_pos rfl]
       by_cases hr : ∃ u, r = a' ++ u
       ·obtain ⟨u, rfl⟩ := hr
        rw [Zem, show Q ++ g :: (a' ++ u) = (Q ++ g :: a') ++ u from by simp, Zl8]
       ·rw [Zfl _ _ _ hr, Zci]
        rintro ⟨u, hu⟩
        exact hr ⟨u, by simpa using hu⟩
      ·rw [if_neg hhi, Zci]
       rintro ⟨u, hu⟩
       simp at hu
       exact hhi hu.1
   ·rw [Zfl _ _ _ hs, if_neg (fun e => hs ⟨b, e⟩), Zci]
    rintro ⟨u, rfl⟩
    exact hs ⟨i :: a' ++ u, by simp⟩
 | br k x ih =>
  intro B q v q' h hq hq'
  have hok : Ok B (br k x) := by
   rcases h with h | h
   ·cases h
   ·exact h
  cases q with
  | nil =>
   simp only [put]
   cases q' with
   | nil => simp [get]
   | cons h r => simp [get]
  | cons i r =>
   simp only [put]
   cases q' with
   | nil => simp [get]
   | cons h s =>
    simp only [get]
    have b1 := hq.head; have b2 := hq'.head
    by_cases hi : h = i
    ·subst hi
     rw [Za8, ih _ (B - 1) r v s (by
      rcases hok.1 h.toNat with h0 | ⟨_, _, h3⟩
      ·exact .inl h0
      ·exact .inr h3) hq.tail hq'.tail]
     simp
    ·rw [Za6 _ _ (by omega)]
     simp [hi]
theorem Zwb {k : Nat -> Tr} {x : List Int} (h : two k x) (i : Nat) {t : Tr} (ht : t ≠ no) : two (upd k i t) x := by
 have hk : ∀ j, k j ≠ no -> upd k i t j ≠ no := fun j hj => by
  unfold upd
  by_cases e : j = i
  ·rw [if_pos e]; exact ht
  ·rw [if_neg e]; exact hj
 rcases h with ⟨a, b, h1, h2, h3⟩ | ⟨h1, a, h2⟩
 ·exact .inl ⟨a, b, h1, hk a h2, hk b h3⟩
 ·exact .inr ⟨h1, a, hk a h2⟩
theorem Zwa {k : Nat -> Tr} {x v : List Int} (h : two k x) (hv : v ≠ []) : two k v := by
 rcases h with ⟨a, b, h1, h2, h3⟩ | ⟨h1, a, h2⟩
 ·exact .inr ⟨hv, a, h2⟩
 ·exact .inr ⟨hv, a, h2⟩
theorem Ok.mono {B : Nat} : ∀ {t : Tr} {C : Nat}, Ok B t -> B <= C -> Ok C t := by
 intro t
 induction t generalizing B with
 | no => intro C h _; exact h
 | leaf p v => intro C h hc; exact ⟨h.1, by have := h.2.1; omega, h.2.2⟩
 | ext p c ih => intro C h hc; exact ⟨h.1, h.2.1, by have := h.2.2.1; omega, h.2.2.2.1, ih h.2.2.2.2 (by omega)⟩
 | br k x ih =>
  intro C h hc
  refine ⟨fun i => ?_, h.2⟩
  rcases h.1 i with h0 | ⟨h1, h2, h3⟩
  ·exact .inl h0
  ·exact .inr ⟨h1, by omega, ih i h3 (by omega)⟩
theorem Zm2 : ∀ (t : Tr) (B : Nat) (q v : List Int), (t = no \/ Ok B t) -> Nb q -> q.length <= B -> v ≠ [] -> Ok B (put t q v) := by
 intro t
 induction t with
 | no => intro B q v _ hq hl hv; exact ⟨hq, hl, hv⟩
 | leaf p x =>
  intro B q v h hq hl hv
  have hok : Ok B (leaf p x) := by
   rcases h with h | h
   ·cases h
   ·exact h
  obtain ⟨hp, hpl, hx⟩ := hok
  simp only [put]
  by_cases e : q = p
  ·rw [if_pos e]; exact ⟨hq, hl, hv⟩
  ·rw [if_neg e]
   obtain ⟨Q, a, b, rfl, rfl, hc, hab⟩ := Zd0 p q
   rw [hc]
   simp only [List.take_left, List.drop_left]
   have hne : a ≠ b := fun q => e (by rw [q])
   obtain ⟨hQ, ha⟩ := hp.of_app
   obtain ⟨_, hb⟩ := hq.of_app
   simp only [List.length_append] at hl hpl
   refine Ok.mono (Zpq (B := B - Q.length) hQ ?_) (by omega)
   cases a with
   | nil =>
    cases b with
    | nil => exact absurd rfl hne
    | cons j b' =>
     simp only [add, addT]
     have b3 := hb.head
     refine ⟨fun i => ?_, .inr ⟨hx, j.toNat, by rw [Za8]; simp⟩⟩
     by_cases hi : i = j.toNat
     ·subst hi; rw [Za8]; simp at hl; exact .inr ⟨by omega, by omega, hb.tail, by omega, hv⟩
     ·rw [Za6 _ _ hi]; exact .inl rfl
   | cons i a' =>
    have b2 := ha.head
    cases b with
    | nil =>
     simp only [add, addT]
     refine ⟨fun j => ?_, .inr ⟨hv, i.toNat, by rw [Za8]; simp⟩⟩
     by_cases hi : j = i.toNat
     ·subst hi; rw [Za8]; simp at hpl; exact .inr ⟨by omega, by omega, ha.tail, by omega, hx⟩
     ·rw [Za6 _ _ hi]; exact .inl rfl
    | cons j b' =>
     have hij : i ≠ j := by
      rcases hab with h | h | ⟨_, _, _, _, h1, h2, h3⟩
      ·cases h
      ·cases h
      ·cases h1; cases h2; exact h3
     have b3 := hb.head
     simp at hpl hl
     simp only [add, addT]
     refine ⟨fun h => ?_, .inl ⟨i.toNat, j.toNat, by omega, ?_, ?_⟩⟩
     ·by_cases h1 : h = j.toNat
      ·subst h1; rw [Za8]; exact .inr ⟨by omega, by omega, hb.tail, by omega, hv⟩
      ·rw [Za6 _ _ h1]
       by_cases h2 : h = i.toNat
       ·subst h2; rw [Za8]; exact .inr ⟨by omega, by omega, ha.tail, by omega, hx⟩
       ·rw [Za6 _ _ h2]; exact .inl rfl
     ·rw [Za6 _ _ (by omega), Za8]; simp
     ·rw [Za8]; simp
 | ext p c ih =>
  intro B q v h hq hl hv
  have hok : Ok B (ext p c) := by
   rcases h with h | h
   ·cases h
   ·exact h
  obtain ⟨h1, h2, h3, h4, h5⟩ := hok
  obtain ⟨Q, a, b, rfl, rfl, hc, hab⟩ := Zd0 p q
  simp only [put]
  rw [hc]
  obtain ⟨hQ, ha⟩ := h1.of_app
  obtain ⟨_, hb⟩ := hq.of_app
  simp only [List.length_append] at hl h3 h5
  by_cases ea : a = []
  ·subst ea
   simp only [List.append_nil] at h2 h3 h5 ⊢
   rw [if_pos trivial]
   simp only [List.drop_left]
   refine ⟨hQ, h2, by omega, ?_, ?_⟩
   ·cases c with
    | br k x => cases b <;> simp [put, isBr]
    | no => simp [isBr] at h4
    | leaf _ _ => simp [isBr] at h4
    | ext _ _ => simp [isBr] at h4
   ·exact ih (B - Q.length) b v (.inr (by simpa using h5)) hb (by omega) hv
  ·obtain ⟨i, a', rfl⟩ : ∃ i a', a = i :: a' := by
    cases a with
    | nil => exact absurd rfl ea
    | cons i a' => exact ⟨i, a', rfl⟩
   rw [if_neg (by simp)]
   have e1 : (Q ++ i :: a').getD Q.length 0 = i := by simp [List.getD]
   have e2 : (Q ++ i :: a').drop (Q.length + 1) = a' := by
    rw [show Q ++ i :: a' = (Q ++ [i]) ++ a' from by simp, show Q.length + 1 = (Q ++ [i]).length from by simp, List.drop_left]
   rw [e1, e2]
   simp only [List.take_left, List.drop_left]
   have b2 := ha.head
   simp at h3 h5
   refine Ok.mono (Zpq (B := B - Q.length) hQ ?_) (by omega)
   have hU : Ok (B - Q.length - 1) (und a' c) := Ok.mono (Zpq ha.tail h5) (by omega)
   cases b with
   | nil =>
    simp only [add]
    refine ⟨fun j => ?_, .inr ⟨hv, i.toNat, by rw [Za8]; exact hU.ne⟩⟩
    by_cases hi : j = i.toNat
    ·subst hi; rw [Za8]; exact .inr ⟨by omega, by omega, hU⟩
    ·rw [Za6 _ _ hi]; exact .inl rfl
   | cons j b' =>
    have hij : i ≠ j := by
     rcases hab with h | h | ⟨_, _, _, _, h6, h7, h8⟩
     ·cases h
     ·cases h
     ·cases h6; cases h7; exact h8
    have b3 := hb.head
    simp at hl
    simp only [add]
    refine ⟨fun h => ?_, .inl ⟨i.toNat, j.toNat, by omega, ?_, ?_⟩⟩
    ·by_cases h6 : h = j.toNat
     ·subst h6; rw [Za8]; exact .inr ⟨by omega, by omega, hb.tail, by omega, hv⟩
     ·rw [Za6 _ _ h6]
      by_cases h7 : h = i.toNat
      ·subst h7; rw [Za8]; exact .inr ⟨by omega, by omega, hU⟩
      ·rw [Za6 _ _ h7]; exact .inl rfl
    ·rw [Za6 _ _ (by omega), Za8]; exact hU.ne
    ·rw [Za8]; simp
 | br k x ih =>
  intro B q v h hq hl hv
  have hok : Ok B (br k x) := by
   rcases h with h | h
   ·cases h
   ·exact h
  cases q with
  | nil => exact ⟨hok.1, Zwa hok.2 hv⟩
  | cons i r =>
   simp only [put]
   have b1 := hq.head
   simp at hl
   have hs : Ok (B - 1) (put (k i.toNat) r v) := ih i.toNat (B - 1) r v (by
    rcases hok.1 i.toNat with h0 | ⟨_, _, h3⟩
    ·exact .inl h0
    ·exact .inr h3) hq.tail (by omega) hv
   refine ⟨fun j => ?_, Zwb hok.2 _ hs.ne⟩
   by_cases hj : j = i.toNat
   ·subst hj; rw [Za8]; exact .inr ⟨by omega, by omega, hs⟩
   ·rw [Za6 _ _ hj]; exact hok.1 j
end Tr
namespace Tr
end Tr
end Go.Proofs.YtefhepcplempkaaGreat
namespace Go.Proofs.YtefhepcplempkaaGreat.Ni
open Go.RowKit
def Row (g : Nat) (w : World) (R : List Int) : Prop := w.heap[g]? = some (.cells (R.map (Value.int .u8)).toArray 5)
theorem Row.set {g : Nat} {w : World} {R : List Int} (h : Row g w R) (i : Nat) (x : Int) : Row g (w.setCell ⟨g, i, none⟩ (.int .u8 x)) (R.set i x) := by
 have := heap_setCell_same w g i _ 5 (.int .u8 x) h
 unfold Row
 rw [this]
 congr 2
 rw [List.setIfInBounds_toArray, List.map_set]
theorem Row.cell {g : Nat} {w : World} {R : List Int} (h : Row g w R) {i : Nat} (hi : i < R.length) : w.cell? ⟨g, i, none⟩ = some (.int .u8 (R.getD i 0)) := by
 rw [cell_of_row _ _ _ _ _ _ h]
 simp [List.getElem?_eq_getElem hi]
theorem Row.frozen {g : Nat} {w : World} {R : List Int} (h : Row g w R) (i : Nat) : w.frozen? ⟨g, i, none⟩ = false := frozen_of_row _ _ _ _ _ h
theorem made_bytes (n : Nat) : madeCells #[Value.int .u8 0] n = ((List.replicate n (0 : Int)).map (Value.int .u8)).toArray := by
 apply Array.ext'
 rw [toList_madeCells_one]
 simp
theorem row_ag {w : World} {g n : Nat} {bs : List Int} (h : Row g w bs) (hl : bs.length = n) (hb : ∀ x ∈ bs, 0 <= x /\ x < 256) (hn : n <= 9223372036854775807) : Ag w (some ⟨g, 0, none⟩) n n bs := by
 refine ⟨?_, (fun h => by cases h), hl, hb⟩
 by_cases h0 : n = 0
 ·exact .inl ⟨h0, List.eq_nil_of_length_eq_zero (by omega)⟩
 ·exact .inr ⟨g, 0, rfl, hl, by omega, Nat.le_refl _, by unfold maxLen; omega, fun j hj => by rw [Nat.zero_add]; exact h.cell hj⟩
theorem info5b : (Tryz.prog.info? 5).map (fun i => (i.zero, i.size, i.bytes)) = some (some (.int .u8 0), 1, 1) := by kernel_rfl
theorem ag_head {w : World} {a : Option Addr} {n c : Nat} {bs : List Int} (h : Ag w a n c bs) (h1 : 0 < n) : ∃ g off, a = some ⟨g, off, none⟩ /\ n <= c /\ c <= maxLen /\ ∀ j, j < n -> w.cell? ⟨g, off + j, none⟩ = some (.int .u8 (bs.getD j 0)) := by
 rcases h.i with ⟨h0, _⟩ | ⟨g, off, h2, h3, h4, h5, h6, h7⟩
 ·omega
 ·exact ⟨g, off, h2, h5, h6, fun j hj => h7 j (by omega)⟩
theorem cell_alloc {w : World} {g off : Nat} {v : Value} (h : w.cell? ⟨g, off, none⟩ = some v) : ∀ o, (w.alloc o).cell? ⟨g, off, none⟩ = some v := fun o => (World.cell?_of_block (w := w) (Below.heap_alloc w _ _ (block_lt_of_cell h))).trans h
theorem Zyp {x y : Int} (hx : 0 <= x /\ x < 256) (hy : 0 <= y /\ y < 256) (h : UInt8.ofNat x.toNat = UInt8.ofNat y.toNat) : x = y := by
 have e := congrArg UInt8.toNat h
 rw [UInt8.toNat_ofNat', UInt8.toNat_ofNat', Nat.mod_eq_of_lt (by omega), Nat.mod_eq_of_lt (by omega)] at e
 omega
theorem Zq5 : ∀ {a b : List Int}, (∀ x ∈ a, 0 <= x /\ x < 256) -> (∀ x ∈ b, 0 <= x /\ x < 256) -> (a.map fun n => UInt8.ofNat n.toNat) = (b.map fun n => UInt8.ofNat n.toNat) -> a = b
 | [], [], _, _, _ => rfl
 | [], _ :: _, _, _, h => by simp at h
 | _ :: _, [], _, _, h => by simp at h
 | x :: a, y :: b, ha, hb, h => by
  rw [List.map_cons, List.map_cons] at h
  injection h with h1 h2
  rw [Zyp (ha x (by simp)) (hb y (by simp)) h1, Zq5 (fun z hz => ha z (List.mem_cons_of_mem _ hz)) (fun z hz => hb z (List.mem_cons_of_mem _ hz)) h2]
theorem Ztc {a b : List Int} (ha : ∀ x ∈ a, 0 <= x /\ x < 256) (hb : ∀ x ∈ b, 0 <= x /\ x < 256) : (strOfNums a).toList = (strOfNums b).toList ↔ a = b := by
 rw [Go.Lib.strOfNums_toList, Go.Lib.strOfNums_toList]
 exact ⟨Zq5 ha hb, fun h => by rw [h]⟩
theorem str_beq {a b : List Int} (ha : ∀ x ∈ a, 0 <= x /\ x < 256) (hb : ∀ x ∈ b, 0 <= x /\ x < 256) : ((strOfNums a).toList == (strOfNums b).toList) = decide (a = b) := by
 by_cases h : a = b
 ·simp [h]
 ·have : ¬ (strOfNums a).toList = (strOfNums b).toList := fun e => h ((Ztc ha hb).1 e)
  simp [h, this]
theorem gen_w {W : World} {p q : World -> Prop} (F : q W) (h : ∀ v, q v -> p v) : p W := h W F
end Go.Proofs.YtefhepcplempkaaGreat.Ni
namespace Go.Proofs.YtefhepcplempkaaGreat.Ni
open Go.RowKit
theorem Zso : ∀ x : Fin 256, bits BinOp.and IntKind.u8 (x.val : Int) 15 = (x.val : Int) % 16 := by decide +kernel
theorem Zy6 : ∀ x y : Fin 16, bits BinOp.or IntKind.u8 ((x.val : Int) * 16) (y.val : Int) = 16 * (x.val : Int) + (y.val : Int) := by decide +kernel
theorem Z0a {x : Int} (h0 : 0 <= x) (h1 : x < 256) : bits BinOp.and IntKind.u8 x 15 = x % 16 := by
 have := Zso ⟨x.toNat, by omega⟩
 rwa [show ((x.toNat : Nat) : Int) = x from by omega] at this
theorem or16 {x y : Int} (h0 : 0 <= x) (h1 : x <= 15) (h2 : 0 <= y) (h3 : y <= 15) : bits BinOp.or IntKind.u8 (x * 16) y = 16 * x + y := by
 have := Zy6 ⟨x.toNat, by omega⟩ ⟨y.toNat, by omega⟩
 rwa [show ((x.toNat : Nat) : Int) = x from by omega, show ((y.toNat : Nat) : Int) = y from by omega] at this
theorem Ztr (w : World) (base : Nat) : OwnB w base (.slice none 0 0) [] := ⟨rfl, .inl ⟨rfl, rfl⟩⟩
theorem ag_nil (w : World) : Ag w none 0 0 [] := ⟨.inl ⟨rfl, rfl⟩, fun _ => ⟨rfl, rfl⟩, rfl, fun x hx => by cases hx⟩
theorem Zyc (w : World) (a : Option Addr) : Ag w a 0 0 [] := ⟨.inl ⟨rfl, rfl⟩, fun _ => ⟨rfl, rfl⟩, rfl, fun x hx => by cases hx⟩
theorem Zxn (w : World) (x y : Int) : In0 (w.alloc (.cells #[.int .u8 x, .int .u8 y] 5)) (some ⟨w.heap.size, 0, none⟩) 2 2 [x, y] :=
 .inr ⟨w.heap.size, 0, rfl, rfl, by omega, Nat.le_refl _, by unfold maxLen; omega, fun j hj => by
  have : j = 0 \/ j = 1 := by simp at hj; omega
  rcases this with rfl | rfl <;> (rw [cell_of_row _ _ _ _ _ _ (heap_alloc_new _ _)]; rfl)⟩
theorem below_go {w0 w w' : World} (h : Below w0.heap.size w0 w) (hb : Below w.heap.size w w') : Below w0.heap.size w0 w' := h.trans (hb.mono h.size)
theorem below_new (w : World) (o : Obj) : Below w.heap.size w (w.alloc o) := (Below.refl _ _).alloc (Nat.le_refl _) _
end Go.Proofs.YtefhepcplempkaaGreat.Ni
