/- What is old; what a block that is written over leaves alone. -/
import Derived.Test.YtdkpilgelgjieaaGreatG15
import Derived.Test.YtdkpilgelgjieaaGreatG16
import Derived.Test.YtdkpilgelgjieaaGreatG01
set_option linter.unusedVariables false
set_option maxRecDepth 100000
namespace Go.Proofs.YtdkpilgelgjieaaGreat
open Go.RowKit
open Tr
def KpR (U : Nat -> Prop) (A B : World) : Prop := KpU U A.heap.size A B
def Cnt (w : World) (gN : Nat) (xs : List (Value × Value)) (W : World) : Prop := Rw gN W #[.int .i64 ((xs.length : Nat) : Int)] 3 /\ Bl w W
end Go.Proofs.YtdkpilgelgjieaaGreat
namespace Go.Proofs.YtdkpilgelgjieaaGreat
namespace Tr
theorem Ok.kid {B : Nat} {k : Nat -> Tr} {x : List Int} (h : Ok B (br k x)) {i : Nat} (hi : k i ≠ no) : ∃ q, Nb (((i : Nat) : Int) :: q) /\ get (br k x) (((i : Nat) : Int) :: q) ≠ [] := by
 rcases h.1 i with h0 | ⟨h1, _, h3⟩
 ·exact absurd h0 hi
 ·obtain ⟨q, k1, _, k3⟩ := h3.some
  refine ⟨q, fun j hj => ?_, k3⟩
  rcases List.mem_cons.1 hj with rfl | hj
  ·omega
  ·exact k1 j hj
theorem Ok.spread {B : Nat} {k : Nat -> Tr} {x : List Int} (h : Ok B (br k x)) (i : Int) : ∃ q, Nb q /\ get (br k x) q ≠ [] /\ ∀ r, q ≠ i :: r := by
 rcases h.2 with ⟨a, b, hab, ha, hb⟩ | ⟨hx, _⟩
 ·by_cases e : ((a : Nat) : Int) = i
  ·obtain ⟨q, h1, h2⟩ := h.kid hb
   exact ⟨_, h1, h2, fun r er => by injection er with er _; omega⟩
  ·obtain ⟨q, h1, h2⟩ := h.kid ha
   exact ⟨_, h1, h2, fun r er => by injection er with er _; exact e er⟩
 ·exact ⟨[], (fun j hj => by cases hj), hx, (fun r er => by cases er)⟩
theorem Ok.another {B : Nat} {k : Nat -> Tr} {x : List Int} (h : Ok B (br k x)) (p : List Int) : ∃ q, Nb q /\ q ≠ p /\ get (br k x) q ≠ [] := by
 cases p with
 | nil =>
  have : ∃ i, k i ≠ no := by
   rcases h.2 with ⟨i, _, _, h, _⟩ | ⟨_, i, h⟩ <;> exact ⟨i, h⟩
  obtain ⟨i, hi⟩ := this
  obtain ⟨q, h1, h2⟩ := h.kid hi
  exact ⟨_, h1, by simp, h2⟩
 | cons i r =>
  obtain ⟨q, h1, h2, h3⟩ := h.spread i
  exact ⟨q, h1, h3 r, h2⟩
theorem Zk6 {t : Tr} (h : t.isBr = true) : ∃ k x, t = br k x := by
 cases t with
 | br k x => exact ⟨k, x, rfl⟩
 | no => simp [isBr] at h
 | leaf p v => simp [isBr] at h
 | ext p c => simp [isBr] at h
theorem Zo8 {B C : Nat} {p p' : List Int} {k k' : Nat -> Tr} {x x' : List Int} (hp : Nb p) (hp' : Nb p') (h : Ok B (br k x)) (h' : Ok C (br k' x')) (hg : ∀ q, Nb q -> get (ext p (br k x)) q = get (ext p' (br k' x')) q) (hl : p.length <= p'.length) : p = p' := by
 have key : ∀ q, Nb q -> get (br k x) q ≠ [] -> ∃ s, p ++ q = p' ++ s := by
  intro q hq hne
  have e := hg (p ++ q) (hp.app hq)
  rw [Zeg] at e
  by_cases hs : ∃ s, p ++ q = p' ++ s
  ·exact hs
  ·rw [Zb4 p' _ _ hs] at e
   exact absurd e hne
 obtain ⟨q0, h1, h2⟩ : ∃ q, Nb q /\ get (br k x) q ≠ [] := by obtain ⟨q, h1, _, h2⟩ := h.another []; exact ⟨q, h1, h2⟩
 obtain ⟨s0, e0⟩ := key q0 h1 h2
 have ep : p = p'.take p.length := by
  have := congrArg (List.take p.length) e0
  rw [List.take_left, List.take_append_of_le_length hl] at this
  exact this
 rcases Nat.lt_or_ge p.length p'.length with hlt | hge
 ·exfalso
  obtain ⟨i, r, er⟩ : ∃ i r, p'.drop p.length = i :: r := by
   cases hd : p'.drop p.length with
   | nil => have := congrArg List.length hd; simp at this; omega
   | cons i r => exact ⟨i, r, rfl⟩
  have e' : p' = p ++ (i :: r) := by
   conv => lhs; rw [<- List.take_append_drop p.length p', <- ep, er]
  obtain ⟨q, g1, g2, g3⟩ := h.spread i
  obtain ⟨s, es⟩ := key q g1 g2
  rw [e', List.append_assoc] at es
  have := List.append_cancel_left es
  exact g3 _ this
 ·rw [ep, List.take_of_length_le hge]
theorem Ok.uniq : ∀ {t s : Tr} {B C : Nat}, Ok B t -> Ok C s -> (∀ q, Nb q -> get t q = get s q) -> t = s := by
 intro t
 induction t with
 | no => intro s B C h; exact h.elim
 | leaf p v =>
  intro s B C h h' hg
  cases s with
  | no => exact h'.elim
  | leaf p' v' =>
   have e := hg p h.1
   simp only [get] at e
   by_cases hp : p = p'
   ·subst hp
    simp at e
    rw [e]
   ·rw [if_neg hp] at e
    simp at e
    exact absurd e h.2.2
  | ext p' c =>
   exfalso
   obtain ⟨k, x, rfl⟩ := Zk6 h'.2.2.2.1
   obtain ⟨q, h1, h2, h3⟩ := h'.2.2.2.2.another (p.drop p'.length)
   have e := hg (p' ++ q) (h'.1.app h1)
   rw [Zeg] at e
   simp only [get] at e
   by_cases hp : p' ++ q = p
   ·exact h2 (by rw [<- hp]; simp)
   ·rw [if_neg hp] at e
    exact h3 e.symm
  | br k x =>
   exfalso
   obtain ⟨q, h1, h2, h3⟩ := Ok.another h' p
   have e := hg q h1
   simp only [get] at e
   rw [if_neg h2] at e
   exact h3 e.symm
 | ext p c ih =>
  intro s B C h h' hg
  obtain ⟨k, x, rfl⟩ := Zk6 h.2.2.2.1
  cases s with
  | no => exact h'.elim
  | leaf p' v' =>
   exfalso
   obtain ⟨q, h1, h2, h3⟩ := h.2.2.2.2.another (p'.drop p.length)
   have e := hg (p ++ q) (h.1.app h1)
   rw [Zeg] at e
   simp only [get] at e
   by_cases hp : p ++ q = p'
   ·exact h2 (by rw [<- hp]; simp)
   ·rw [if_neg hp] at e
    exact h3 e
  | ext p' c' =>
   obtain ⟨k', x', rfl⟩ := Zk6 h'.2.2.2.1
   have ep : p = p' := by
    rcases Nat.le_total p.length p'.length with hl | hl
    ·exact Zo8 h.1 h'.1 h.2.2.2.2 h'.2.2.2.2 hg hl
    ·exact (Zo8 h'.1 h.1 h'.2.2.2.2 h.2.2.2.2 (fun q hq => (hg q hq).symm) hl).symm
   subst ep
   congr 1
   exact ih h.2.2.2.2 h'.2.2.2.2 (fun q hq => by
    have e := hg (p ++ q) (h.1.app hq)
    rw [Zeg, Zeg] at e
    exact e)
  | br k' x' =>
   exfalso
   cases p with
   | nil => exact h.2.1 rfl
   | cons i r =>
    obtain ⟨q, h1, h2, h3⟩ := Ok.spread h' i
    have e := hg q h1
    rw [Zb4 _ _ _ (fun ⟨s, es⟩ => h3 _ es)] at e
    exact h2 e.symm
 | br k x ih =>
  intro s B C h h' hg
  cases s with
  | no => exact h'.elim
  | leaf p' v' =>
   exfalso
   obtain ⟨q, h1, h2, h3⟩ := Ok.another h p'
   have e := hg q h1
   rw [show get (leaf p' v') q = [] from by simp only [get]; rw [if_neg h2]] at e
   exact h3 e
  | ext p' c' =>
   exfalso
   cases p' with
   | nil => exact h'.2.1 rfl
   | cons i r =>
    obtain ⟨q, h1, h2, h3⟩ := Ok.spread h i
    have e := hg q h1
    rw [Zb4 _ _ _ (fun ⟨s, es⟩ => h3 _ es)] at e
    exact h2 e
  | br k' x' =>
   have ex : x = x' := hg [] (fun j hj => by cases hj)
   have ek : k = k' := by
    funext i
    have hgi : i < 16 -> ∀ r, Nb r -> get (k i) r = get (k' i) r := fun hi r hr => hg (((i : Nat) : Int) :: r) (fun j hj => by
     rcases List.mem_cons.1 hj with rfl | hj
     ·omega
     ·exact hr j hj)
    rcases h.1 i with h0 | ⟨h1, _, h3⟩
    ·rcases h'.1 i with g0 | ⟨g1, _, g3⟩
     ·rw [h0, g0]
     ·obtain ⟨q, q1, _, q3⟩ := g3.some
      have := hgi g1 q q1
      rw [h0] at this
      exact absurd this.symm q3
    ·rcases h'.1 i with g0 | ⟨g1, _, g3⟩
     ·obtain ⟨q, q1, _, q3⟩ := h3.some
      have := hgi h1 q q1
      rw [g0] at this
      exact absurd this q3
     ·exact ih i h3 g3 (hgi h1)
   rw [ex, ek]
end Tr
namespace Tr
end Tr
end Go.Proofs.YtdkpilgelgjieaaGreat
namespace Go.Proofs.YtdkpilgelgjieaaGreat
open Ni (lessP Zk4)
theorem Zdc : ∀ a : List Int, lessP a a = false
 | [] => rfl
 | x :: r => by simp [lessP, Zdc r]
theorem Zds : ∀ a b c : List Int, lessP a b = true -> lessP b c = true -> lessP a c = true
 | [], [], _, h, _ => by simp [lessP] at h
 | [], _ :: _, [], _, h => by simp [lessP] at h
 | [], _ :: _, _ :: _, _, _ => rfl
 | _ :: _, [], _, h, _ => by simp [lessP] at h
 | _ :: _, _ :: _, [], _, h => by simp [lessP] at h
 | x :: a, y :: b, z :: c, h, k => by
  simp only [lessP] at h k ⊢
  by_cases h1 : x = y
  ·subst h1
   rw [if_pos rfl] at h
   by_cases h2 : x = z
   ·subst h2
    rw [if_pos rfl] at k ⊢
    exact Zds a b c h k
   ·rw [if_neg h2] at k ⊢
    exact k
  ·rw [if_neg h1] at h
   by_cases h2 : y = z
   ·subst h2
    rw [if_neg h1]
    exact h
   ·rw [if_neg h2] at k
    have h3 := of_decide_eq_true h
    have h4 := of_decide_eq_true k
    rw [if_neg (by omega)]
    exact decide_eq_true (by omega)
theorem Zov (a b : List Int) (h : a ≠ b) (k : lessP a b = false) : lessP b a = true := by
 have := Zk4 a b
 simpa [h, k] using this
def cmpP (a b : List Int) : Int := if a = b then 0 else if lessP a b then -1 else 1
def SrtB (M : List (List Int)) : Prop := M.Pairwise fun a b => lessP a b = true
def ddg (p : List Int) : List (List Int) -> List (List Int)
 | [] => []
 | y :: r => if y = p then ddg p r else y :: ddg y r
def dd : List (List Int) -> List (List Int)
 | [] => []
 | x :: r => x :: ddg x r
end Go.Proofs.YtdkpilgelgjieaaGreat
