/- Paths of nibbles: plain functions on rows of numbers. -/

set_option linter.unusedVariables false
namespace Go.Proofs.YtefhepcplempkaaGreat.Ni
def isB (b : List Int) : Prop := ∀ x ∈ b, 0 <= x /\ x < 256
theorem Znz {x : Int} {r : List Int} (h : isB (x :: r)) : (0 <= x /\ x < 256) /\ isB r := ⟨h x (by simp), fun y hy => h y (by simp [hy])⟩
def nib : List Int -> List Int
 | [] => []
 | b :: r => b / 16 :: b % 16 :: nib r
theorem nib_len : ∀ k : List Int, (nib k).length = 2 * k.length
 | [] => rfl
 | b :: r => by simp only [nib, List.length_cons, nib_len r]; omega
theorem Zrb : ∀ a b : List Int, nib (a ++ b) = nib a ++ nib b
 | [], _ => rfl
 | x :: a, b => by simp only [List.cons_append, nib, Zrb a b]
theorem nib_bd : ∀ k : List Int, isB k -> ∀ x ∈ nib k, 0 <= x /\ x <= 15
 | [], _, x, h => by cases h
 | b :: r, hb, x, h => by
  obtain ⟨h1, h2⟩ := Znz hb
  rcases List.mem_cons.1 h with rfl | h
  ·omega
  rcases List.mem_cons.1 h with rfl | h
  ·omega
  ·exact nib_bd r h2 x h
theorem Zq9 {k : List Int} (h : isB k) : isB (nib k) := fun x hx => by have := nib_bd k h x hx; omega
theorem getD_mem {l : List Int} {i : Nat} (h : i < l.length) : l.getD i 0 ∈ l := by
 rw [List.getD, List.getElem?_eq_getElem h]; exact List.getElem_mem _
theorem Zny {b : List Int} (h : isB b) (i : Nat) : isB (b.drop i) := fun x hx => h x (List.mem_of_mem_drop hx)
theorem take_snoc {b : List Int} {i : Nat} (hi : i < b.length) : b.take (i + 1) = b.take i ++ [b.getD i 0] := by
 rw [List.take_add_one, List.getElem?_eq_getElem hi]; simp [List.getD, List.getElem?_eq_getElem hi]
theorem Znq {b : List Int} {i : Nat} (hi : i < b.length) : nib (b.take (i + 1)) = nib (b.take i) ++ [b.getD i 0 / 16, b.getD i 0 % 16] := by
 rw [take_snoc hi, Zrb]; rfl
def rightP (p : List Int) : Bool := p.all fun x => decide (x <= 15)
theorem rightP_iff {p : List Int} : rightP p = true ↔ ∀ x ∈ p, x <= 15 := by simp [rightP]
theorem Zk6 {k : List Int} (h : isB k) : rightP (nib k) = true := rightP_iff.2 fun x hx => (nib_bd k h x hx).2
theorem Znd {p : List Int} {j : Nat} (h : j < p.length) (hx : p.getD j 0 > 15) : rightP p = false := by
 cases e : rightP p with
 | false => rfl
 | true => have := rightP_iff.1 e _ (getD_mem h); omega
theorem Zk5 {p : List Int} (h : ∀ i, i < p.length -> p.getD i 0 <= 15) : rightP p = true := rightP_iff.2 fun x hx => by
 obtain ⟨i, hi, rfl⟩ := List.getElem_of_mem hx
 have := h i hi
 rwa [List.getD, List.getElem?_eq_getElem hi] at this
theorem Zeh {p : List Int} (h : rightP p = true) {i : Nat} (hi : i < p.length) : p.getD i 0 <= 15 := rightP_iff.1 h _ (getD_mem hi)
theorem Zk7 {p q : List Int} : rightP (p ++ q) = (rightP p && rightP q) := by simp [rightP]
def kk : List Int -> List Int
 | a :: b :: r => (16 * a + b) :: kk r
 | _ => []
theorem Zrj : ∀ k : List Int, kk (nib k) = k
 | [] => rfl
 | b :: r => by simp only [nib, kk, Zrj r]; congr 1; omega
theorem Zlo : ∀ p : List Int, (kk p).length = p.length / 2
 | [] => rfl
 | [_] => by simp [kk]
 | a :: b :: r => by simp only [kk, List.length_cons, Zlo r]; omega
theorem Znw : ∀ (p : List Int) (i : Nat), 2 * i + 1 < p.length -> (kk p).getD i 0 = 16 * p.getD (2 * i) 0 + p.getD (2 * i + 1) 0
 | [], i, h => by simp at h
 | [_], i, h => by simp at h
 | a :: b :: r, 0, h => rfl
 | a :: b :: r, i + 1, h => by
  have h2 : 2 * i + 1 < r.length := by simp at h; omega
  have := Znw r i h2
  simp only [kk]
  rw [show 2 * (i + 1) = 2 * i + 1 + 1 from by omega]
  simpa using this
theorem Zu2 : ∀ p : List Int, isB p -> rightP p = true -> p.length % 2 = 0 -> nib (kk p) = p
 | [], _, _, _ => rfl
 | [_], _, _, h => by simp at h
 | a :: b :: r, hb, hr, hl => by
  have h0 := hb a (by simp)
  have h1 := rightP_iff.1 hr b (by simp)
  have h2 := hb b (by simp)
  have h3 : isB r := fun x hx => hb x (by simp [hx])
  have h4 : rightP r = true := rightP_iff.2 fun x hx => rightP_iff.1 hr x (by simp [hx])
  simp only [kk, nib, Zu2 r h3 h4 (by simp at hl; omega)]
  rw [show (16 * a + b) / 16 = a from by omega, show (16 * a + b) % 16 = b from by omega]
theorem Znv : ∀ p : List Int, isB p -> rightP p = true -> isB (kk p)
 | [], _, _ => fun x hx => by cases hx
 | [_], _, _ => fun x hx => by simp [kk] at hx
 | a :: b :: r, hb, hr => by
  have h0 := hb a (by simp)
  have h5 := rightP_iff.1 hr a (by simp)
  have h1 := rightP_iff.1 hr b (by simp)
  have h2 := hb b (by simp)
  have ih := Znv r (fun x hx => hb x (by simp [hx])) (rightP_iff.2 fun x hx => rightP_iff.1 hr x (by simp [hx]))
  intro x hx
  simp only [kk] at hx
  rcases List.mem_cons.1 hx with rfl | hx
  ·omega
  ·exact ih x hx
def keyP (p : List Int) : List Int × Bool := if rightP p = true /\ p.length % 2 = 0 then (kk p, true) else ([], false)
theorem Zg0 {p : List Int} (h : rightP p = true) (h2 : p.length % 2 = 0) : keyP p = (kk p, true) := if_pos ⟨h, h2⟩
theorem Ze4 {p : List Int} (h : ¬ (rightP p = true /\ p.length % 2 = 0)) : keyP p = ([], false) := if_neg h
def hdP (n : Nat) (leaf : Bool) : List Int := if n % 2 = 0 then [if leaf then 2 else 0, 0] else [(if leaf then 2 else 0) + 1]
theorem hd_len (n : Nat) (leaf : Bool) : (hdP n leaf).length = 2 - n % 2 := by
 unfold hdP
 split
 ·rename_i h; rw [h]; rfl
 ·rename_i h; rw [show n % 2 = 1 from by omega]; rfl
theorem Zx7 (n : Nat) (leaf : Bool) : isB (hdP n leaf) := by
 unfold hdP
 cases leaf <;> split <;> (intro x hx; simp at hx; omega)
theorem Zn1 (n : Nat) (leaf : Bool) : rightP (hdP n leaf) = true := by
 refine rightP_iff.2 ?_
 unfold hdP
 cases leaf <;> split <;> (intro x hx; simp at hx; omega)
def packP (p : List Int) (leaf : Bool) : List Int × Nat := if rightP p = true then (kk (hdP p.length leaf ++ p), 0) else ([], 40)
theorem packP_yes {p : List Int} {leaf : Bool} (h : rightP p = true) : packP p leaf = (kk (hdP p.length leaf ++ p), 0) := if_pos h
theorem Zti {p : List Int} {leaf : Bool} (h : ¬ rightP p = true) : packP p leaf = ([], 40) := if_neg h
theorem Zjj {p : List Int} {leaf : Bool} (h : rightP p = true) : rightP (hdP p.length leaf ++ p) = true := by rw [Zk7, Zn1, h]; rfl
theorem Zlv (p : List Int) (leaf : Bool) : (hdP p.length leaf ++ p).length % 2 = 0 := by rw [List.length_append, hd_len]; omega
theorem Zkh {p : List Int} {leaf : Bool} (h : isB p) : isB (hdP p.length leaf ++ p) := by
 intro x hx
 rcases List.mem_append.1 hx with hx | hx
 ·exact Zx7 _ _ x hx
 ·exact h x hx
theorem Znl {p : List Int} {leaf : Bool} : keyP (hdP p.length leaf ++ p) = if rightP p = true then (kk (hdP p.length leaf ++ p), true) else ([], false) := by
 by_cases h : rightP p = true
 ·rw [if_pos h, Zg0 (Zjj h) (Zlv _ _)]
 ·rw [if_neg h, Ze4]
  rintro ⟨h1, _⟩
  rw [Zk7, Zn1] at h1
  exact h (by simpa using h1)
theorem pack_len {p : List Int} {leaf : Bool} : (kk (hdP p.length leaf ++ p)).length = p.length / 2 + 1 := by rw [Zlo, List.length_append, hd_len]; omega
abbrev badU (c : Int) : Prop := c / 16 > 3 \/ (c / 16 % 2 = 0 /\ c % 16 ≠ 0)
def unpP : List Int -> List Int × Bool × Nat
 | [] => ([], false, 40)
 | c :: r => if badU c then ([], false, 40) else ((nib (c :: r)).drop (if c / 16 % 2 = 0 then 2 else 1), decide (c / 16 ≥ 2), 0)
theorem Zp6 : unpP [] = ([], false, 40) := rfl
theorem Zgr (c : Int) (r : List Int) : unpP (c :: r) = if badU c then ([], false, 40) else ((nib (c :: r)).drop (if c / 16 % 2 = 0 then 2 else 1), decide (c / 16 ≥ 2), 0) := rfl
theorem Zp7 {b : List Int} (h : 0 < b.length) (hb : badU (b.getD 0 0)) : unpP b = ([], false, 40) := by
 cases b with
 | nil => simp at h
 | cons c r => exact if_pos hb
theorem Zm5 {b : List Int} (h : 0 < b.length) (hb : ¬ badU (b.getD 0 0)) : unpP b = ((nib b).drop (if b.getD 0 0 / 16 % 2 = 0 then 2 else 1), decide (b.getD 0 0 / 16 ≥ 2), 0) := by
 cases b with
 | nil => simp at h
 | cons c r => exact if_neg hb
theorem unp_le (b : List Int) : (unpP b).1.length <= 2 * b.length := by
 cases b with
 | nil => exact Nat.zero_le _
 | cons c r =>
  rw [Zgr]
  split
  ·exact Nat.zero_le _
  ·rw [List.length_drop, nib_len]; omega
theorem unp_pack {p : List Int} {leaf : Bool} (hb : isB p) (h : rightP p = true) : unpP (kk (hdP p.length leaf ++ p)) = (p, leaf, 0) := by
 have e := Zu2 _ (Zkh (leaf := leaf) hb) (Zjj (leaf := leaf) h) (Zlv p leaf)
 by_cases hp : p.length % 2 = 0
 ·have e1 : hdP p.length leaf = [if leaf then 2 else 0, 0] := if_pos hp
  rw [e1] at e ⊢
  simp only [List.cons_append, List.nil_append, kk] at e ⊢
  rw [Zgr]
  have e2 : ¬ badU (16 * (if leaf = true then 2 else 0) + 0) := by unfold badU; cases leaf <;> simp
  rw [if_neg e2, e]
  cases leaf <;> simp
 ·have e1 : hdP p.length leaf = [(if leaf then 2 else 0) + 1] := if_neg hp
  rw [e1] at e ⊢
  cases p with
  | nil => simp at hp
  | cons y r =>
   have hy := rightP_iff.1 h y (by simp)
   have hy0 := hb y (by simp)
   simp only [List.cons_append, List.nil_append, kk] at e ⊢
   rw [Zgr]
   have q1 : (16 * ((if leaf = true then 2 else 0) + 1) + y) / 16 = (if leaf = true then 2 else 0) + 1 := by cases leaf <;> simp <;> omega
   have e2 : ¬ badU (16 * ((if leaf = true then 2 else 0) + 1) + y) := by unfold badU; rw [q1]; cases leaf <;> simp
   rw [if_neg e2, e, q1]
   cases leaf <;> simp
theorem pack_unp {b : List Int} (hb : isB b) (h : (unpP b).2.2 = 0) : packP (unpP b).1 (unpP b).2.1 = (b, 0) := by
 cases b with
 | nil => simp [unpP] at h
 | cons c r =>
  obtain ⟨hc, hr⟩ := Znz hb
  rw [Zgr] at h ⊢
  by_cases hbad : badU c
  ·rw [if_pos hbad] at h; simp at h
  ·rw [if_neg hbad] at h ⊢
   simp only
   have hrn := Zk6 hb
   by_cases h2 : c / 16 % 2 = 0
   ·have hz : c % 16 = 0 := Classical.byContradiction fun hn => hbad (.inr ⟨h2, hn⟩)
    have h3 : ¬ c / 16 > 3 := fun hn => hbad (.inl hn)
    rw [if_pos h2]
    have e : (nib (c :: r)).drop 2 = nib r := rfl
    rw [e, packP_yes (Zk6 hr)]
    congr 1
    have e1 : hdP (nib r).length (decide (c / 16 ≥ 2)) = [c / 16, c % 16] := by
     unfold hdP
     rw [if_pos (by rw [nib_len]; omega), hz]
     by_cases hge : c / 16 ≥ 2
     ·rw [decide_eq_true hge]; simp; omega
     ·rw [decide_eq_false hge]; simp; omega
    rw [e1]
    exact Zrj (c :: r)
   ·have h3 : ¬ c / 16 > 3 := fun hn => hbad (.inl hn)
    rw [if_neg h2]
    have e : (nib (c :: r)).drop 1 = c % 16 :: nib r := rfl
    have hrr : rightP (c % 16 :: nib r) = true := rightP_iff.2 fun x hx => rightP_iff.1 hrn x (by simp only [nib]; exact List.mem_cons_of_mem _ hx)
    rw [e, packP_yes hrr]
    congr 1
    have e1 : hdP (c % 16 :: nib r).length (decide (c / 16 ≥ 2)) = [c / 16] := by
     unfold hdP
     rw [if_neg (by rw [List.length_cons, nib_len]; omega)]
     by_cases hge : c / 16 ≥ 2
     ·rw [decide_eq_true hge]; simp; omega
     ·rw [decide_eq_false hge]; simp; omega
    rw [e1]
    exact Zrj (c :: r)
def com : List Int -> List Int -> Nat
 | x :: p, y :: q => if x = y then com p q + 1 else 0
 | _, _ => 0
theorem Zob : ∀ (p q : List Int) (n : Nat), n <= p.length -> n <= q.length -> p.take n = q.take n -> (n = p.length \/ n = q.length \/ p.getD n 0 ≠ q.getD n 0) -> com p q = n
 | [], q, n, h1, h2, h3, h4 => by simp at h1; simp [com, h1]
 | x :: p, [], n, h1, h2, h3, h4 => by simp at h2; simp [com, h2]
 | x :: p, y :: q, 0, h1, h2, h3, h4 => by
  simp only [com]
  rw [if_neg]
  rcases h4 with h | h | h
  ·simp at h
  ·simp at h
  ·exact h
 | x :: p, y :: q, n + 1, h1, h2, h3, h4 => by
  simp only [List.take_succ_cons, List.cons.injEq] at h3
  simp only [com]
  rw [if_pos h3.1, Zob p q n (by simpa using h1) (by simpa using h2) h3.2 (by simpa using h4)]
theorem Zt7 : ∀ p q : List Int, com p q = com q p
 | [], [] => rfl
 | [], _ :: _ => rfl
 | _ :: _, [] => rfl
 | x :: p, y :: q => by
  simp only [com, Zt7 p q]
  by_cases h : x = y
  ·rw [if_pos h, if_pos h.symm]
  ·rw [if_neg h, if_neg (fun e => h e.symm)]
def lessP : List Int -> List Int -> Bool
 | _, [] => false
 | [], _ :: _ => true
 | x :: p, y :: q => if x = y then lessP p q else decide (x < y)
theorem Zkf : ∀ p q : List Int, (lessP p q || lessP q p) = !decide (p = q)
 | [], [] => rfl
 | [], y :: q => by simp [lessP]
 | x :: p, [] => by simp [lessP]
 | x :: p, y :: q => by
  simp only [lessP]
  by_cases h : x = y
  ·subst h
   rw [if_pos rfl, if_pos rfl, Zkf p q]
   simp
  ·rw [if_neg h, if_neg (fun e => h e.symm)]
   have : x < y \/ y < x := by omega
   rcases this with h1 | h1
   ·simp [h, h1]
   ·simp [h, h1]
end Go.Proofs.YtefhepcplempkaaGreat.Ni
namespace Go.Proofs.YtefhepcplempkaaGreat
inductive Tr where
 | no : Tr
 | leaf (p v : List Int) : Tr
 | ext (p : List Int) (c : Tr) : Tr
 | br (k : Nat -> Tr) (v : List Int) : Tr
namespace Tr
def isNo : Tr -> Bool
 | no => true
 | _ => false
def isBr : Tr -> Bool
 | br _ _ => true
 | _ => false
def upd (k : Nat -> Tr) (i : Nat) (t : Tr) : Nat -> Tr := fun j => if j = i then t else k j
def nk : Nat -> Tr := fun _ => no
def get : Tr -> List Int -> List Int
 | no, _ => []
 | leaf p v, q => if q = p then v else []
 | ext p c, q => if q.take p.length = p then get c (q.drop p.length) else []
 | br k v, [] => v
 | br k v, i :: r => get (k i.toNat) r
def und (p : List Int) : Tr -> Tr
 | no => no
 | leaf q v => leaf (p ++ q) v
 | ext q c => ext (p ++ q) c
 | br k v => if p = [] then br k v else ext p (br k v)
def add (k : Nat -> Tr) (x : List Int) (q v : List Int) : Tr := match q with
 | [] => br k v
 | i :: r => br (upd k i.toNat (leaf r v)) x
def addT (t : Tr) (q v : List Int) : Tr := match t with
 | br k x => add k x q v
 | t => t
def put : Tr -> List Int -> List Int -> Tr
 | no, q, v => leaf q v
 | leaf p x, q, v => if q = p then leaf q v else und (q.take (Ni.com p q)) (addT (add nk [] (p.drop (Ni.com p q)) x) (q.drop (Ni.com p q)) v)
 | ext p c, q, v => if Ni.com p q = p.length then ext p (put c (q.drop p.length) v) else und (q.take (Ni.com p q)) (add (upd nk (p.getD (Ni.com p q) 0).toNat (und (p.drop (Ni.com p q + 1)) c)) [] (q.drop (Ni.com p q)) v)
 | br k x, [], v => br k v
 | br k x, i :: r, v => br (upd k i.toNat (put (k i.toNat) r v)) x
def kidsN (k : Nat -> Tr) : Nat -> Nat
 | 0 => 0
 | n + 1 => kidsN k n + if (k n).isNo then 0 else 1
def lastN (k : Nat -> Tr) : Nat -> Nat
 | 0 => 0
 | n + 1 => if (k n).isNo then lastN k n else n
def nrm (k : Nat -> Tr) (x : List Int) : Tr :=
 if kidsN k 16 = 0 then leaf [] x else if kidsN k 16 = 1 /\ x = [] then und [(lastN k 16 : Int)] (k (lastN k 16)) else br k x
def del : Tr -> List Int -> Tr
 | no, _ => no
 | leaf _ _, _ => no
 | ext p c, q => und p (del c (q.drop p.length))
 | br k x, [] => nrm k []
 | br k x, i :: r => nrm (upd k i.toNat (del (k i.toNat) r)) x
def Nb (p : List Int) : Prop := ∀ i ∈ p, 0 <= i /\ i < 16
theorem Nb.drop {p : List Int} (h : Nb p) (n : Nat) : Nb (p.drop n) := fun i hi => h i (List.mem_of_mem_drop hi)
def two (k : Nat -> Tr) (x : List Int) : Prop := (∃ i j, i ≠ j /\ k i ≠ no /\ k j ≠ no) \/ (x ≠ [] /\ ∃ i, k i ≠ no)
def Ok : Nat -> Tr -> Prop
 | _, no => False
 | B, leaf p v => Nb p /\ p.length <= B /\ v ≠ []
 | B, ext p c => Nb p /\ p ≠ [] /\ p.length <= B /\ c.isBr = true /\ Ok (B - p.length) c
 | B, br k x => (∀ i, k i = no \/ (i < 16 /\ 1 <= B /\ Ok (B - 1) (k i))) /\ two k x
theorem Ok.ne {B : Nat} {t : Tr} (h : Ok B t) : t ≠ no := fun e => by rw [e] at h; exact h
end Tr
namespace Tr
def Hd (a b : List Int) : Prop := a = [] \/ b = [] \/ ∃ i a' j b', a = i :: a' /\ b = j :: b' /\ i ≠ j
theorem Ok.mono {B : Nat} : ∀ {t : Tr} {C : Nat}, Ok B t -> B <= C -> Ok C t := by
 intro t
 induction t generalizing B with
 | no => intro C h _; exact h
 | leaf p v => intro C h hc; exact ⟨h.1, by have := h.2.1; omega, h.2.2⟩
 | ext p c ih => intro C h hc; exact ⟨h.1, h.2.1, by have := h.2.2.1; omega, h.2.2.2.1, ih h.2.2.2.2 (by omega)⟩
 | br k x ih =>
  intro C h hc
  refine ⟨fun i => ?_, h.2⟩
  rcases h.1 i with h0 | ⟨h1, h2, h3⟩
  ·exact .inl h0
  ·exact .inr ⟨h1, by omega, ih i h3 (by omega)⟩
end Tr
namespace Tr
end Tr
namespace Tr
end Tr
end Go.Proofs.YtefhepcplempkaaGreat
