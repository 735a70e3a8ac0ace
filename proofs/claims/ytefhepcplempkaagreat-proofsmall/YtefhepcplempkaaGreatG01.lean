/- A region that draws its order and in which a loop's round is called. -/
import Derived.Test.YtefhepcplempkaaGreatG00
import Derived.OrdersIn
set_option linter.unusedVariables false
set_option maxRecDepth 100000
namespace Go.Proofs.YtefhepcplempkaaGreat
open Go.RowKit
def DI (m : Nat) (P : Program) (ds : List Deferred) (n : Nat) (Q : Exit -> Act -> World -> Prop) (ops : Array Oper) (fuel : Nat) (listed : Array Bool) (env : Env) (w : World) : Prop := ∀ a, Frm ds n env a -> wpAnyIn Fence.wide m P .any ops Q fuel listed a w
def AI (m : Nat) (P : Program) (ds : List Deferred) (n : Nat) (Q : Exit -> Act -> World -> Prop) (ops : Array Oper) (fuel : Nat) (listed : Array Bool) (env : Env) (w : World) (rs : List Nat) : Prop := ∀ a, Frm ds n env a -> AllReadyIn Fence.wide m P .any ops Q fuel listed a w rs
section
variable {m : Nat} {P : Program} {ds : List Deferred} {n : Nat} {Q : Exit → Act → World → Prop} {env : Env} {w w' : World} {ops : Array Oper} {o : Oper} {fuel : Nat} {listed : Array Bool} {rs : List Nat}
theorem Zyl {id : Nat} (hm : P.follows .mixedOrders = true) (h : DI m P ds n Q ops ops.size (Array.replicate ops.size false) env w.drew) : CW none m P ds n Q (.region id ops true) env w := fun a ha => wpIn_region_any (F := Fence.wide) hm (h a ha)
theorem Zjr (hr : Region.ready .any ops listed = []) (h : NW ds n Q .normal env w) : DI m P ds n Q ops fuel listed env w := fun a ha => wpAnyIn_done hr (h a ha) fuel
theorem Zcd (rs : List Nat) (hr : Region.ready .any ops listed = rs) (hne : rs ≠ []) (h : AI m P ds n Q ops fuel listed env w rs) : DI m P ds n Q ops (fuel + 1) listed env w := fun a ha => wpAnyIn_ready hr hne (h a ha)
theorem Zsc (i d : Nat) (v : Value) (ho : ops[i]? = some o) (hk : tkOk ops listed i = true) (hQ : ∀ c a w, Q (.panic c) (a.put (some d) v) w -> Q (.panic c) a w) (hc : ∀ fb, chk n ops env fb o d = true)
  (hr : ∀ w fb, (execOp (ev env fb) o).run P w = .ok (.value v) w) (hb : ∀ w fb, o.about P w (ev env fb) = none) (h : DI m P ds n Q ops fuel (listed.setIfInBounds i true) ((d, v) :: env) w) : DI m P ds n Q ops (fuel + 1) listed env w := fun a ha => by
 obtain ⟨h1, h2, h3, _⟩ := Zce (hc (fun t => a.tmps.getD t undef))
 unfold tkOk at hk
 simp only [Bool.and_eq_true] at hk
 refine wpAnyIn_take (v := v) rfl ho hk.1.1 hk.1.2 hk.2 (by rw [h1]; exact hQ) ⟨Or.inl ⟨by rw [ha.want]; exact h3, fun w => by rw [ha.ev]; exact hr w _⟩, fun w => by rw [ha.ev]; exact hb w _⟩ ?_
 rw [h1]
 exact h _ (Zc2 ha h2 v)
theorem Zfd : AI m P ds n Q ops fuel listed env w [] := fun a ha => AllReadyIn.nil
theorem ai_v (i d : Nat) (v : Value) (ho : ops[i]? = some o) (hc : ∀ fb, chk n ops env fb o d = true) (hr : ∀ fb, (execOp (ev env fb) o).run P w = .ok (.value v) w')
  (h : DI m P ds n Q ops fuel (listed.setIfInBounds i true) ((d, v) :: env) w') (hs : AI m P ds n Q ops fuel listed env w rs) : AI m P ds n Q ops fuel listed env w (i :: rs) := fun a ha => by
 obtain ⟨h1, h2, h3, hnd⟩ := Zce (hc (fun t => a.tmps.getD t undef))
 refine AllReadyIn.cons ho (fun K hK => ?_) (hs a ha)
 rw [ha.want, if_pos h3]
 refine ⟨fun f _ => trivial, ?_⟩
 rw [Oper.semAt_eq _ _ _ hnd, ha.ev, hr, Oper.uponIn_value, h1]
 exact hK _ _ (h _ (Zc2 ha h2 v))
theorem Zs2 (i d : Nat) (f : FuncId) (args : Array Value) (ho : ops[i]? = some o) (hc : ∀ fb, chk n ops env fb o d = true) (hr : ∀ fb, (execOp (ev env fb) o).run P w = .ok (.enter f args) w) {R : Value -> World -> Prop}
  (hcall : Calls P f args w fun e w' => ∃ v, e = .returned v /\ R v w') (h : ∀ v w', R v w' -> DI m P ds n Q ops fuel (listed.setIfInBounds i true) ((d, v) :: env) w')
  (hs : AI m P ds n Q ops fuel listed env w rs) : AI m P ds n Q ops fuel listed env w (i :: rs) := fun a ha => by
 obtain ⟨h1, h2, h3, hnd⟩ := Zce (hc (fun t => a.tmps.getD t undef))
 refine AllReadyIn.cons ho (fun K hK => ?_) (hs a ha)
 rw [ha.want, if_pos h3]
 refine ⟨fun f _ => trivial, ?_⟩
 rw [Oper.semAt_eq _ _ _ hnd, ha.ev, hr, Oper.uponIn_enter]
 refine ⟨fun h => absurd h Bool.false_ne_true, ?_⟩
 refine CallsIn.mono' (F := Fence.wide) (callsIn_wide.2 hcall) ?_
 rintro e w' ⟨v, rfl, hR⟩
 rw [h1]
 exact hK _ _ (h v w' hR _ (Zc2 ha h2 v))
theorem Zj1 {m m' lp : Nat} {args : Array Value} {W : World} {R : Ending -> World -> Prop} (h : YieldAt Fence.wide m P lp args W R) : YieldAt Fence.wide m' P lp args W R := by
 obtain ⟨fn, tmps, assign, body, hy, hR⟩ := h
 exact ⟨fn, tmps, assign, body, hy, hR.1, fun c cs _ => hR.2 c cs (room_wide _)⟩
theorem Zn2 (i d : Nat) (lp : Nat) (args : Array Value) (ho : ops[i]? = some o) (hc : ∀ fb, chk n ops env fb o d = true) (hr : ∀ fb, (execOp (ev env fb) o).run P w = (Instr.yield lp args).run P w) {R : Ending -> World -> Prop}
  (hY : YieldAt Fence.wide 0 P lp args w R) (h : ∀ e w', R e w' -> ∃ v, e = .returned v /\ DI m P ds n Q ops fuel (listed.setIfInBounds i true) ((d, v) :: env) w')
  (hs : AI m P ds n Q ops fuel listed env w rs) : AI m P ds n Q ops fuel listed env w (i :: rs) := fun a ha => by
 obtain ⟨h1, h2, h3, hnd⟩ := Zce (hc (fun t => a.tmps.getD t undef))
 obtain ⟨fn, tmps, assign, body, hy, hR⟩ := Zj1 (m' := m - 1) hY
 refine AllReadyIn.cons ho (fun K hK => ?_) (hs a ha)
 rw [ha.want, if_pos h3]
 refine ⟨fun f _ => trivial, ?_⟩
 rw [Oper.semAt_eq _ _ _ hnd, ha.ev, hr, hy, Oper.uponIn_round]
 refine ⟨fun h => absurd h Bool.false_ne_true, ?_⟩
 refine RoundIn.mono (F := Fence.wide) hR ?_
 intro e w' hq
 obtain ⟨v, rfl, hw⟩ := h e w' hq
 show K (a.put o.dst v) w'
 rw [h1]
 exact hK _ _ (hw _ (Zc2 ha h2 v))
end
end Go.Proofs.YtefhepcplempkaaGreat
namespace Go.Proofs.YtefhepcplempkaaGreat.Ni
def isB (b : List Int) : Prop := ∀ x ∈ b, 0 <= x /\ x < 256
theorem Zuj {x : Int} {r : List Int} (h : isB (x :: r)) : (0 <= x /\ x < 256) /\ isB r := ⟨h x (by simp), fun y hy => h y (by simp [hy])⟩
def nib : List Int -> List Int
 | [] => []
 | b :: r => b / 16 :: b % 16 :: nib r
theorem nib_len : ∀ k : List Int, (nib k).length = 2 * k.length
 | [] => rfl
 | b :: r => by simp only [nib, List.length_cons, nib_len r]; omega
theorem Zq1 : ∀ a b : List Int, nib (a ++ b) = nib a ++ nib b
 | [], _ => rfl
 | x :: a, b => by simp only [List.cons_append, nib, Zq1 a b]
theorem nib_bd : ∀ k : List Int, isB k -> ∀ x ∈ nib k, 0 <= x /\ x <= 15
 | [], _, x, h => by cases h
 | b :: r, hb, x, h => by
  obtain ⟨h1, h2⟩ := Zuj hb
  rcases List.mem_cons.1 h with rfl | h
  ·omega
  rcases List.mem_cons.1 h with rfl | h
  ·omega
  ·exact nib_bd r h2 x h
theorem Zxx {k : List Int} (h : isB k) : isB (nib k) := fun x hx => by have := nib_bd k h x hx; omega
theorem getD_mem {l : List Int} {i : Nat} (h : i < l.length) : l.getD i 0 ∈ l := by
 rw [List.getD, List.getElem?_eq_getElem h]; exact List.getElem_mem _
theorem Zui {b : List Int} (h : isB b) (i : Nat) : isB (b.drop i) := fun x hx => h x (List.mem_of_mem_drop hx)
theorem Zeq {b : List Int} {i : Nat} (hi : i < b.length) : b.take (i + 1) = b.take i ++ [b.getD i 0] := by
 rw [List.take_add_one, List.getElem?_eq_getElem hi]; simp [List.getD, List.getElem?_eq_getElem hi]
theorem Zt9 {b : List Int} {i : Nat} (hi : i < b.length) : nib (b.take (i + 1)) = nib (b.take i) ++ [b.getD i 0 / 16, b.getD i 0 % 16] := by
 rw [Zeq hi, Zq1]; rfl
def rightP (p : List Int) : Bool := p.all fun x => decide (x <= 15)
theorem rightP_iff {p : List Int} : rightP p = true ↔ ∀ x ∈ p, x <= 15 := by simp [rightP]
theorem Zqd {k : List Int} (h : isB k) : rightP (nib k) = true := rightP_iff.2 fun x hx => (nib_bd k h x hx).2
theorem Zts {p : List Int} {j : Nat} (h : j < p.length) (hx : p.getD j 0 > 15) : rightP p = false := by
 cases e : rightP p with
 | false => rfl
 | true => have := rightP_iff.1 e _ (getD_mem h); omega
theorem Zqc {p : List Int} (h : ∀ i, i < p.length -> p.getD i 0 <= 15) : rightP p = true := rightP_iff.2 fun x hx => by
 obtain ⟨i, hi, rfl⟩ := List.getElem_of_mem hx
 have := h i hi
 rwa [List.getD, List.getElem?_eq_getElem hi] at this
theorem Zgb {p : List Int} (h : rightP p = true) {i : Nat} (hi : i < p.length) : p.getD i 0 <= 15 := rightP_iff.1 h _ (getD_mem hi)
theorem Zkf {p q : List Int} : rightP (p ++ q) = (rightP p && rightP q) := by simp [rightP]
def kk : List Int -> List Int
 | a :: b :: r => (16 * a + b) :: kk r
 | _ => []
theorem kk_nib : ∀ k : List Int, kk (nib k) = k
 | [] => rfl
 | b :: r => by simp only [nib, kk, kk_nib r]; congr 1; omega
theorem Zng : ∀ p : List Int, (kk p).length = p.length / 2
 | [] => rfl
 | [_] => by simp [kk]
 | a :: b :: r => by simp only [kk, List.length_cons, Zng r]; omega
theorem Zrk : ∀ (p : List Int) (i : Nat), 2 * i + 1 < p.length -> (kk p).getD i 0 = 16 * p.getD (2 * i) 0 + p.getD (2 * i + 1) 0
 | [], i, h => by simp at h
 | [_], i, h => by simp at h
 | a :: b :: r, 0, h => rfl
 | a :: b :: r, i + 1, h => by
  have h2 : 2 * i + 1 < r.length := by simp at h; omega
  have := Zrk r i h2
  simp only [kk]
  rw [show 2 * (i + 1) = 2 * i + 1 + 1 from by omega]
  simpa using this
theorem Zv2 : ∀ p : List Int, isB p -> rightP p = true -> p.length % 2 = 0 -> nib (kk p) = p
 | [], _, _, _ => rfl
 | [_], _, _, h => by simp at h
 | a :: b :: r, hb, hr, hl => by
  have h0 := hb a (by simp)
  have h1 := rightP_iff.1 hr b (by simp)
  have h2 := hb b (by simp)
  have h3 : isB r := fun x hx => hb x (by simp [hx])
  have h4 : rightP r = true := rightP_iff.2 fun x hx => rightP_iff.1 hr x (by simp [hx])
  simp only [kk, nib, Zv2 r h3 h4 (by simp at hl; omega)]
  rw [show (16 * a + b) / 16 = a from by omega, show (16 * a + b) % 16 = b from by omega]
theorem Zrj : ∀ p : List Int, isB p -> rightP p = true -> isB (kk p)
 | [], _, _ => fun x hx => by cases hx
 | [_], _, _ => fun x hx => by simp [kk] at hx
 | a :: b :: r, hb, hr => by
  have h0 := hb a (by simp)
  have h5 := rightP_iff.1 hr a (by simp)
  have h1 := rightP_iff.1 hr b (by simp)
  have h2 := hb b (by simp)
  have ih := Zrj r (fun x hx => hb x (by simp [hx])) (rightP_iff.2 fun x hx => rightP_iff.1 hr x (by simp [hx]))
  intro x hx
  simp only [kk] at hx
  rcases List.mem_cons.1 hx with rfl | hx
  ·omega
  ·exact ih x hx
def keyP (p : List Int) : List Int × Bool := if rightP p = true /\ p.length % 2 = 0 then (kk p, true) else ([], false)
theorem Zgj {p : List Int} (h : rightP p = true) (h2 : p.length % 2 = 0) : keyP p = (kk p, true) := if_pos ⟨h, h2⟩
theorem Zhl {p : List Int} (h : ¬ (rightP p = true /\ p.length % 2 = 0)) : keyP p = ([], false) := if_neg h
theorem key_nib {k : List Int} (h : isB k) : keyP (nib k) = (k, true) := by
 rw [Zgj (Zqd h) (by rw [nib_len]; omega), kk_nib]
def hdP (n : Nat) (leaf : Bool) : List Int := if n % 2 = 0 then [if leaf then 2 else 0, 0] else [(if leaf then 2 else 0) + 1]
theorem hd_len (n : Nat) (leaf : Bool) : (hdP n leaf).length = 2 - n % 2 := by
 unfold hdP
 split
 ·rename_i h; rw [h]; rfl
 ·rename_i h; rw [show n % 2 = 1 from by omega]; rfl
theorem Z0e (n : Nat) (leaf : Bool) : isB (hdP n leaf) := by
 unfold hdP
 cases leaf <;> split <;> (intro x hx; simp at hx; omega)
theorem Znk (n : Nat) (leaf : Bool) : rightP (hdP n leaf) = true := by
 refine rightP_iff.2 ?_
 unfold hdP
 cases leaf <;> split <;> (intro x hx; simp at hx; omega)
def packP (p : List Int) (leaf : Bool) : List Int × Nat := if rightP p = true then (kk (hdP p.length leaf ++ p), 0) else ([], 40)
theorem packP_yes {p : List Int} {leaf : Bool} (h : rightP p = true) : packP p leaf = (kk (hdP p.length leaf ++ p), 0) := if_pos h
theorem Zij {p : List Int} {leaf : Bool} (h : rightP p = true) : rightP (hdP p.length leaf ++ p) = true := by rw [Zkf, Znk, h]; rfl
theorem Zk8 (p : List Int) (leaf : Bool) : (hdP p.length leaf ++ p).length % 2 = 0 := by rw [List.length_append, hd_len]; omega
theorem Znm {p : List Int} {leaf : Bool} (h : isB p) : isB (hdP p.length leaf ++ p) := by
 intro x hx
 rcases List.mem_append.1 hx with hx | hx
 ·exact Z0e _ _ x hx
 ·exact h x hx
theorem Zt3 {p : List Int} {leaf : Bool} : keyP (hdP p.length leaf ++ p) = if rightP p = true then (kk (hdP p.length leaf ++ p), true) else ([], false) := by
 by_cases h : rightP p = true
 ·rw [if_pos h, Zgj (Zij h) (Zk8 _ _)]
 ·rw [if_neg h, Zhl]
  rintro ⟨h1, _⟩
  rw [Zkf, Znk] at h1
  exact h (by simpa using h1)
theorem pack_len {p : List Int} {leaf : Bool} : (kk (hdP p.length leaf ++ p)).length = p.length / 2 + 1 := by rw [Zng, List.length_append, hd_len]; omega
abbrev badU (c : Int) : Prop := c / 16 > 3 \/ (c / 16 % 2 = 0 /\ c % 16 ≠ 0)
def unpP : List Int -> List Int × Bool × Nat
 | [] => ([], false, 40)
 | c :: r => if badU c then ([], false, 40) else ((nib (c :: r)).drop (if c / 16 % 2 = 0 then 2 else 1), decide (c / 16 ≥ 2), 0)
theorem Zwo : unpP [] = ([], false, 40) := rfl
theorem Zix (c : Int) (r : List Int) : unpP (c :: r) = if badU c then ([], false, 40) else ((nib (c :: r)).drop (if c / 16 % 2 = 0 then 2 else 1), decide (c / 16 ≥ 2), 0) := rfl
theorem Zwp {b : List Int} (h : 0 < b.length) (hb : badU (b.getD 0 0)) : unpP b = ([], false, 40) := by
 cases b with
 | nil => simp at h
 | cons c r => exact if_pos hb
theorem Ztg {b : List Int} (h : 0 < b.length) (hb : ¬ badU (b.getD 0 0)) : unpP b = ((nib b).drop (if b.getD 0 0 / 16 % 2 = 0 then 2 else 1), decide (b.getD 0 0 / 16 ≥ 2), 0) := by
 cases b with
 | nil => simp at h
 | cons c r => exact if_neg hb
theorem unp_le (b : List Int) : (unpP b).1.length <= 2 * b.length := by
 cases b with
 | nil => exact Nat.zero_le _
 | cons c r =>
  rw [Zix]
  split
  ·exact Nat.zero_le _
  ·rw [List.length_drop, nib_len]; omega
theorem unp_pack {p : List Int} {leaf : Bool} (hb : isB p) (h : rightP p = true) : unpP (kk (hdP p.length leaf ++ p)) = (p, leaf, 0) := by
 have e := Zv2 _ (Znm (leaf := leaf) hb) (Zij (leaf := leaf) h) (Zk8 p leaf)
 by_cases hp : p.length % 2 = 0
 ·have e1 : hdP p.length leaf = [if leaf then 2 else 0, 0] := if_pos hp
  rw [e1] at e ⊢
  simp only [List.cons_append, List.nil_append, kk] at e ⊢
  rw [Zix]
  have e2 : ¬ badU (16 * (if leaf = true then 2 else 0) + 0) := by unfold badU; cases leaf <;> simp
  rw [if_neg e2, e]
  cases leaf <;> simp
 ·have e1 : hdP p.length leaf = [(if leaf then 2 else 0) + 1] := if_neg hp
  rw [e1] at e ⊢
  cases p with
  | nil => simp at hp
  | cons y r =>
   have hy := rightP_iff.1 h y (by simp)
   have hy0 := hb y (by simp)
   simp only [List.cons_append, List.nil_append, kk] at e ⊢
   rw [Zix]
   have q1 : (16 * ((if leaf = true then 2 else 0) + 1) + y) / 16 = (if leaf = true then 2 else 0) + 1 := by cases leaf <;> simp <;> omega
   have e2 : ¬ badU (16 * ((if leaf = true then 2 else 0) + 1) + y) := by unfold badU; rw [q1]; cases leaf <;> simp
   rw [if_neg e2, e, q1]
   cases leaf <;> simp
def com : List Int -> List Int -> Nat
 | x :: p, y :: q => if x = y then com p q + 1 else 0
 | _, _ => 0
theorem com_le : ∀ p q : List Int, com p q <= p.length /\ com p q <= q.length
 | [], _ => by simp [com]
 | _ :: _, [] => by simp [com]
 | x :: p, y :: q => by
  have := com_le p q
  simp only [com]
  split
  ·simp; omega
  ·simp
theorem com_take : ∀ p q : List Int, p.take (com p q) = q.take (com p q)
 | [], _ => by simp [com]
 | _ :: _, [] => by simp [com]
 | x :: p, y :: q => by
  simp only [com]
  split
  ·rename_i h; subst h; simp [com_take p q]
  ·simp
theorem com_stop : ∀ p q : List Int, com p q < p.length -> com p q < q.length -> p.getD (com p q) 0 ≠ q.getD (com p q) 0
 | [], _, h, _ => by simp at h
 | _ :: _, [], _, h => by simp at h
 | x :: p, y :: q, h1, h2 => by
  simp only [com] at h1 h2 ⊢
  split at h1
  ·rename_i e
   rw [if_pos e] at h2 ⊢
   simp only [List.getD_cons_succ]
   exact com_stop p q (by simp at h1; omega) (by simp at h2; omega)
  ·rename_i e
   rw [if_neg e]
   exact e
theorem Znw : ∀ (p q : List Int) (n : Nat), n <= p.length -> n <= q.length -> p.take n = q.take n -> (n = p.length \/ n = q.length \/ p.getD n 0 ≠ q.getD n 0) -> com p q = n
 | [], q, n, h1, h2, h3, h4 => by simp at h1; simp [com, h1]
 | x :: p, [], n, h1, h2, h3, h4 => by simp at h2; simp [com, h2]
 | x :: p, y :: q, 0, h1, h2, h3, h4 => by
  simp only [com]
  rw [if_neg]
  rcases h4 with h | h | h
  ·simp at h
  ·simp at h
  ·exact h
 | x :: p, y :: q, n + 1, h1, h2, h3, h4 => by
  simp only [List.take_succ_cons, List.cons.injEq] at h3
  simp only [com]
  rw [if_pos h3.1, Znw p q n (by simpa using h1) (by simpa using h2) h3.2 (by simpa using h4)]
theorem Zu2 : ∀ p q : List Int, com p q = com q p
 | [], [] => rfl
 | [], _ :: _ => rfl
 | _ :: _, [] => rfl
 | x :: p, y :: q => by
  simp only [com, Zu2 p q]
  by_cases h : x = y
  ·rw [if_pos h, if_pos h.symm]
  ·rw [if_neg h, if_neg (fun e => h e.symm)]
def lessP : List Int -> List Int -> Bool
 | _, [] => false
 | [], _ :: _ => true
 | x :: p, y :: q => if x = y then lessP p q else decide (x < y)
theorem Zez : ∀ p q : List Int, (lessP p q || lessP q p) = !decide (p = q)
 | [], [] => rfl
 | [], y :: q => by simp [lessP]
 | x :: p, [] => by simp [lessP]
 | x :: p, y :: q => by
  simp only [lessP]
  by_cases h : x = y
  ·subst h
   rw [if_pos rfl, if_pos rfl, Zez p q]
   simp
  ·rw [if_neg h, if_neg (fun e => h e.symm)]
   have : x < y \/ y < x := by omega
   rcases this with h1 | h1
   ·simp [h, h1]
   ·simp [h, h1]
theorem less_nib : ∀ a b : List Int, lessP (nib a) (nib b) = lessP a b
 | [], [] => rfl
 | [], y :: b => by simp [nib, lessP]
 | _ :: _, [] => by simp [nib, lessP]
 | x :: a, y :: b => by
  have ih := less_nib a b
  simp only [nib, lessP]
  by_cases h : x = y
  ·subst h
   rw [if_pos rfl, if_pos rfl, if_pos rfl, ih]
  ·rw [if_neg h]
   by_cases h1 : x / 16 = y / 16
   ·rw [if_pos h1, if_neg (by omega), decide_eq_decide]
    omega
   ·rw [if_neg h1, decide_eq_decide]
    omega
end Go.Proofs.YtefhepcplempkaaGreat.Ni
namespace Go.Proofs.YtefhepcplempkaaGreat
inductive Tr where
 | no : Tr
 | leaf (p v : List Int) : Tr
 | ext (p : List Int) (c : Tr) : Tr
 | br (k : Nat -> Tr) (v : List Int) : Tr
namespace Tr
def isNo : Tr -> Bool
 | no => true
 | _ => false
def isBr : Tr -> Bool
 | br _ _ => true
 | _ => false
def upd (k : Nat -> Tr) (i : Nat) (t : Tr) : Nat -> Tr := fun j => if j = i then t else k j
theorem Za7 (k : Nat -> Tr) (i : Nat) (t : Tr) : upd k i t i = t := by simp [upd]
theorem Za4 (k : Nat -> Tr) {i j : Nat} (t : Tr) (h : j ≠ i) : upd k i t j = k j := by simp [upd, h]
def nk : Nat -> Tr := fun _ => no
def get : Tr -> List Int -> List Int
 | no, _ => []
 | leaf p v, q => if q = p then v else []
 | ext p c, q => if q.take p.length = p then get c (q.drop p.length) else []
 | br k v, [] => v
 | br k v, i :: r => get (k i.toNat) r
def und (p : List Int) : Tr -> Tr
 | no => no
 | leaf q v => leaf (p ++ q) v
 | ext q c => ext (p ++ q) c
 | br k v => if p = [] then br k v else ext p (br k v)
def add (k : Nat -> Tr) (x : List Int) (q v : List Int) : Tr := match q with
 | [] => br k v
 | i :: r => br (upd k i.toNat (leaf r v)) x
def addT (t : Tr) (q v : List Int) : Tr := match t with
 | br k x => add k x q v
 | t => t
def put : Tr -> List Int -> List Int -> Tr
 | no, q, v => leaf q v
 | leaf p x, q, v => if q = p then leaf q v else und (q.take (Ni.com p q)) (addT (add nk [] (p.drop (Ni.com p q)) x) (q.drop (Ni.com p q)) v)
 | ext p c, q, v => if Ni.com p q = p.length then ext p (put c (q.drop p.length) v) else und (q.take (Ni.com p q)) (add (upd nk (p.getD (Ni.com p q) 0).toNat (und (p.drop (Ni.com p q + 1)) c)) [] (q.drop (Ni.com p q)) v)
 | br k x, [], v => br k v
 | br k x, i :: r, v => br (upd k i.toNat (put (k i.toNat) r v)) x
def kidsN (k : Nat -> Tr) : Nat -> Nat
 | 0 => 0
 | n + 1 => kidsN k n + if (k n).isNo then 0 else 1
def lastN (k : Nat -> Tr) : Nat -> Nat
 | 0 => 0
 | n + 1 => if (k n).isNo then lastN k n else n
def nrm (k : Nat -> Tr) (x : List Int) : Tr :=
 if kidsN k 16 = 0 then leaf [] x else if kidsN k 16 = 1 /\ x = [] then und [(lastN k 16 : Int)] (k (lastN k 16)) else br k x
def del : Tr -> List Int -> Tr
 | no, _ => no
 | leaf _ _, _ => no
 | ext p c, q => und p (del c (q.drop p.length))
 | br k x, [] => nrm k []
 | br k x, i :: r => nrm (upd k i.toNat (del (k i.toNat) r)) x
def Nb (p : List Int) : Prop := ∀ i ∈ p, 0 <= i /\ i < 16
theorem Nb.drop {p : List Int} (h : Nb p) (n : Nat) : Nb (p.drop n) := fun i hi => h i (List.mem_of_mem_drop hi)
theorem Nb.app {p q : List Int} (h : Nb p) (k : Nb q) : Nb (p ++ q) := fun i hi => by
 rcases List.mem_append.1 hi with hi | hi
 ·exact h i hi
 ·exact k i hi
theorem Nb.head {i : Int} {r : List Int} (h : Nb (i :: r)) : 0 <= i /\ i < 16 := h i (by simp)
theorem Nb.tail {i : Int} {r : List Int} (h : Nb (i :: r)) : Nb r := fun j hj => h j (List.mem_cons_of_mem _ hj)
def two (k : Nat -> Tr) (x : List Int) : Prop := (∃ i j, i ≠ j /\ k i ≠ no /\ k j ≠ no) \/ (x ≠ [] /\ ∃ i, k i ≠ no)
def Ok : Nat -> Tr -> Prop
 | _, no => False
 | B, leaf p v => Nb p /\ p.length <= B /\ v ≠ []
 | B, ext p c => Nb p /\ p ≠ [] /\ p.length <= B /\ c.isBr = true /\ Ok (B - p.length) c
 | B, br k x => (∀ i, k i = no \/ (i < 16 /\ 1 <= B /\ Ok (B - 1) (k i))) /\ two k x
theorem Zr1 (p : List Int) (t : Tr) (q : List Int) : get (und p t) q = if q.take p.length = p then get t (q.drop p.length) else [] := by
 cases t with
 | no => simp [und, get]
 | leaf r v =>
  simp only [und, get]
  by_cases h : q.take p.length = p
  ·rw [if_pos h]
   have e : q = p ++ q.drop p.length := by conv => lhs; rw [<- List.take_append_drop p.length q, h]
   by_cases h2 : q.drop p.length = r
   ·rw [if_pos h2, if_pos (by rw [e, h2])]
   ·rw [if_neg h2, if_neg (fun e2 => h2 (by rw [e2]; simp))]
  ·rw [if_neg h, if_neg (fun e => h (by rw [e]; simp))]
 | ext r c =>
  simp only [und, get, List.length_append]
  by_cases h : q.take p.length = p
  ·rw [if_pos h]
   have e : q.take (p.length + r.length) = p ++ (q.drop p.length).take r.length := by
    rw [List.take_add, h]
   rw [e, List.drop_drop]
   by_cases h2 : (q.drop p.length).take r.length = r
   ·rw [if_pos h2, if_pos (by rw [h2])]
   ·rw [if_neg h2, if_neg (fun e2 => h2 (List.append_cancel_left e2))]
  ·rw [if_neg h, if_neg (fun e => h (by
    have := congrArg (List.take p.length) e
    rw [List.take_take, Nat.min_eq_left (by omega)] at this
    simpa using this))]
 | br k v =>
  simp only [und]
  by_cases h : p = []
  ·subst h; simp
  ·rw [if_neg h]; simp only [get]
theorem Zpu {B : Nat} {p : List Int} {t : Tr} (hp : Nb p) (h : Ok B t) : Ok (B + p.length) (und p t) := by
 cases t with
 | no => exact h
 | leaf q v => exact ⟨hp.app h.1, by simp; have := h.2.1; omega, h.2.2⟩
 | ext q c =>
  obtain ⟨h1, h2, h3, h4, h5⟩ := h
  refine ⟨hp.app h1, by simp [h2], by simp; omega, h4, ?_⟩
  rw [show B + p.length - (p ++ q).length = B - q.length from by simp; omega]
  exact h5
 | br k v =>
  simp only [und]
  by_cases hq : p = []
  ·rw [if_pos hq, hq]; exact h
  ·rw [if_neg hq]
   refine ⟨hp, hq, by omega, rfl, ?_⟩
   rw [show B + p.length - p.length = B from by omega]
   exact h
theorem Ok.ne {B : Nat} {t : Tr} (h : Ok B t) : t ≠ no := fun e => by rw [e] at h; exact h
theorem isNo_iff {t : Tr} : t.isNo = true ↔ t = no := by cases t <;> simp [isNo]
theorem Ok.some {B : Nat} : ∀ {t : Tr}, Ok B t -> ∃ q, Nb q /\ q.length <= B /\ get t q ≠ [] := by
 intro t
 induction t generalizing B with
 | no => intro h; exact h.elim
 | leaf p v => intro h; exact ⟨p, h.1, h.2.1, by simp [get, h.2.2]⟩
 | ext p c ih =>
  intro h
  obtain ⟨h1, h2, h3, h4, h5⟩ := h
  obtain ⟨q, k1, k2, k3⟩ := ih h5
  exact ⟨p ++ q, h1.app k1, by simp; omega, by simp [get, k3]⟩
 | br k x ih =>
  intro h
  have : ∃ i, k i ≠ no := by
   rcases h.2 with ⟨i, _, _, h, _⟩ | ⟨_, i, h⟩ <;> exact ⟨i, h⟩
  obtain ⟨i, hi⟩ := this
  rcases h.1 i with h0 | ⟨h1, h2, h3⟩
  ·exact absurd h0 hi
  ·obtain ⟨q, k1, k2, k3⟩ := ih i h3
   refine ⟨(i : Int) :: q, fun j hj => ?_, by simp; omega, by simpa [get] using k3⟩
   rcases List.mem_cons.1 hj with rfl | hj
   ·omega
   ·exact k1 j hj
end Tr
end Go.Proofs.YtefhepcplempkaaGreat
namespace Go.Proofs.YtefhepcplempkaaGreat
namespace Tr
def Hd (a b : List Int) : Prop := a = [] \/ b = [] \/ ∃ i a' j b', a = i :: a' /\ b = j :: b' /\ i ≠ j
theorem Zdx (p q : List Int) : ∃ Q a b, p = Q ++ a /\ q = Q ++ b /\ Ni.com p q = Q.length /\ Hd a b := by
 obtain ⟨h1, h2⟩ := Ni.com_le p q
 refine ⟨p.take (Ni.com p q), p.drop (Ni.com p q), q.drop (Ni.com p q), (List.take_append_drop _ _).symm, ?_, ?_, ?_⟩
 ·rw [Ni.com_take, List.take_append_drop]
 ·rw [List.length_take]; omega
 ·by_cases hp : Ni.com p q < p.length
  ·by_cases hq : Ni.com p q < q.length
   ·have hs := Ni.com_stop p q hp hq
    right; right
    refine ⟨p.getD (Ni.com p q) 0, p.drop (Ni.com p q + 1), q.getD (Ni.com p q) 0, q.drop (Ni.com p q + 1), ?_, ?_, hs⟩
    ·rw [List.drop_eq_getElem_cons hp]; simp [List.getD, List.getElem?_eq_getElem hp]
    ·rw [List.drop_eq_getElem_cons hq]; simp [List.getD, List.getElem?_eq_getElem hq]
   ·right; left; exact List.drop_eq_nil_of_le (by omega)
  ·left; exact List.drop_eq_nil_of_le (by omega)
theorem Zql (Q q' : List Int) : q'.take Q.length = Q ↔ ∃ s, q' = Q ++ s := by
 constructor
 ·intro h
  exact ⟨q'.drop Q.length, by conv => lhs; rw [<- List.take_append_drop Q.length q', h]⟩
 ·rintro ⟨s, rfl⟩; simp
theorem Zdu (p : List Int) (c : Tr) (s : List Int) : get (ext p c) (p ++ s) = get c s := by simp [get]
theorem Zbs (p : List Int) (c : Tr) (q : List Int) (h : ¬ ∃ s, q = p ++ s) : get (ext p c) q = [] := by
 rw [get, if_neg (fun e => h ((Zql p q).1 e))]
theorem Zek (p : List Int) (t : Tr) (s : List Int) : get (und p t) (p ++ s) = get t s := by rw [Zr1]; simp
theorem Zfo (p : List Int) (t : Tr) (q : List Int) (h : ¬ ∃ s, q = p ++ s) : get (und p t) q = [] := by
 rw [Zr1, if_neg (fun e => h ((Zql p q).1 e))]
theorem Zyb {a b x v : List Int} (hab : Hd a b) (hne : a ≠ b) (ha : Nb a) (hb : Nb b) (s : List Int) (hs : Nb s) : get (addT (add nk [] a x) b v) s = if s = b then v else if s = a then x else [] := by
 cases a with
 | nil =>
  cases b with
  | nil => exact absurd rfl hne
  | cons j b' =>
   simp only [add, addT]
   cases s with
   | nil => simp [get]
   | cons i s' =>
    simp only [get]
    by_cases hij : i = j
    ·subst hij; rw [Za7]; simp [get]
    ·rw [Za4 _ _ (by have := hs.head; have := hb.head; omega)]; simp [nk, get, hij]
 | cons i a' =>
  cases b with
  | nil =>
   simp only [add, addT]
   cases s with
   | nil => simp [get]
   | cons h s' =>
    simp only [get]
    by_cases hij : h = i
    ·subst hij; rw [Za7]; simp [get]
    ·rw [Za4 _ _ (by have := hs.head; have := ha.head; omega)]; simp [nk, get, hij]
  | cons j b' =>
   have hij : i ≠ j := by
    rcases hab with h | h | ⟨_, _, _, _, h1, h2, h3⟩
    ·cases h
    ·cases h
    ·cases h1; cases h2; exact h3
   simp only [add, addT]
   cases s with
   | nil => simp [get]
   | cons h s' =>
    simp only [get]
    have b1 := hs.head; have b2 := ha.head; have b3 := hb.head
    by_cases h1 : h = j
    ·subst h1; rw [Za7]; simp [get, Ne.symm hij]
    ·rw [Za4 _ _ (by omega)]
     by_cases h2 : h = i
     ·subst h2; rw [Za7]; simp [get, h1]
     ·rw [Za4 _ _ (by omega)]; simp [nk, get, h1, h2]
theorem Zus {i : Int} {b v : List Int} {U : Tr} (hi : 0 <= i) (hab : Hd [i] b) (hb : Nb b) (s : List Int) (hs : Nb s) : get (add (upd nk i.toNat U) [] b v) s = if s = b then v else match s with | [] => [] | h :: r => if h = i then get U r else [] := by
 cases b with
 | nil =>
  simp only [add]
  cases s with
  | nil => simp [get]
  | cons h s' =>
   simp only [get]
   have b1 := hs.head
   by_cases hij : h = i
   ·subst hij; rw [Za7]; simp
   ·rw [Za4 _ _ (by omega)]; simp [nk, get, hij]
 | cons j b' =>
  have hij : i ≠ j := by
   rcases hab with h | h | ⟨_, _, _, _, h1, h2, h3⟩
   ·cases h
   ·cases h
   ·cases h1; cases h2; exact h3
  simp only [add]
  cases s with
  | nil => simp [get]
  | cons h s' =>
   simp only [get]
   have b1 := hs.head; have b3 := hb.head
   by_cases h1 : h = j
   ·subst h1; rw [Za7]; simp [get, Ne.symm hij]
   ·rw [Za4 _ _ (by omega)]
    by_cases h2 : h = i
    ·subst h2; rw [Za7]; simp [h1]
    ·rw [Za4 _ _ (by omega)]; simp [nk, get, h1, h2]
theorem Nb.of_app {p q : List Int} (h : Nb (p ++ q)) : Nb p /\ Nb q := ⟨fun i hi => h i (List.mem_append_left _ hi), fun i hi => h i (List.mem_append_right _ hi)⟩
theorem Zmg {Q a b : List Int} : Q ++ a = Q ++ b ↔ a = b := ⟨List.append_cancel_left, fun h => by rw [h]⟩
theorem Zyc : ∀ (t : Tr) (B : Nat) (q v q' : List Int), (t = no \/ Ok B t) -> Nb q -> Nb q' -> get (put t q v) q' = if q' = q then v else get t q' := by
 intro t
 induction t with
 | no => intro B q v q' _ _ _; simp [put, get]
 | leaf p x =>
  intro B q v q' h hq hq'
  have hp : Nb p := by
   rcases h with h | h
   ·cases h
   ·exact h.1
  simp only [put]
  by_cases e : q = p
  ·rw [if_pos e, get, get]
   by_cases h2 : q' = q
   ·rw [if_pos h2, if_pos h2]
   ·rw [if_neg h2, if_neg h2, if_neg (by rw [<- e]; exact h2)]
  ·rw [if_neg e]
   obtain ⟨Q, a, b, rfl, rfl, hc, hab⟩ := Zdx p q
   rw [hc]
   simp only [List.take_left, List.drop_left]
   have hne : a ≠ b := fun q => e (by rw [q])
   obtain ⟨hQ, ha⟩ := hp.of_app
   obtain ⟨_, hb⟩ := hq.of_app
   by_cases hs : ∃ s, q' = Q ++ s
   ·obtain ⟨s, rfl⟩ := hs
    rw [Zek, Zyb hab hne ha hb s hq'.of_app.2, get]
    simp only [Zmg]
   ·rw [Zfo _ _ _ hs, if_neg (fun e => hs ⟨b, e⟩), get, if_neg (fun e => hs ⟨a, e⟩)]
 | ext p c ih =>
  intro B q v q' h hq hq'
  have hok : Ok B (ext p c) := by
   rcases h with h | h
   ·cases h
   ·exact h
  obtain ⟨h1, h2, h3, h4, h5⟩ := hok
  obtain ⟨Q, a, b, rfl, rfl, hc, hab⟩ := Zdx p q
  simp only [put]
  rw [hc]
  obtain ⟨hQ, ha⟩ := h1.of_app
  obtain ⟨_, hb⟩ := hq.of_app
  by_cases ea : a = []
  ·subst ea
   simp only [List.append_nil] at h2 h3 h5 ⊢
   rw [if_pos trivial]
   simp only [List.drop_left]
   by_cases hs : ∃ s, q' = Q ++ s
   ·obtain ⟨s, rfl⟩ := hs
    rw [Zdu, Zdu, ih _ b v s (.inr h5) hb hq'.of_app.2]
    simp only [Zmg]
   ·rw [Zbs _ _ _ hs, Zbs _ _ _ hs, if_neg (fun e => hs ⟨b, e⟩)]
  ·obtain ⟨i, a', rfl⟩ : ∃ i a', a = i :: a' := by
    cases a with
    | nil => exact absurd rfl ea
    | cons i a' => exact ⟨i, a', rfl⟩
   rw [if_neg (by simp)]
   have e1 : (Q ++ i :: a').getD Q.length 0 = i := by simp [List.getD]
   have e2 : (Q ++ i :: a').drop (Q.length + 1) = a' := by
    rw [show Q ++ i :: a' = (Q ++ [i]) ++ a' from by simp, show Q.length + 1 = (Q ++ [i]).length from by simp, List.drop_left]
   have hi := ha.head
   have hh : Hd [i] b := by
    rcases hab with h | h | ⟨_, _, j, b', h6, h7, h8⟩
    ·cases h
    ·exact .inr (.inl h)
    ·cases h6; exact .inr (.inr ⟨i, [], j, b', rfl, h7, h8⟩)
   rw [e1, e2]
   simp only [List.take_left, List.drop_left]
   by_cases hs : ∃ s, q' = Q ++ s
   ·obtain ⟨s, rfl⟩ := hs
    rw [Zek, Zus hi.1 hh hb s hq'.of_app.2]
    simp only [Zmg]
    by_cases hsb : s = b
    ·rw [if_pos hsb, if_pos hsb]
    ·rw [if_neg hsb, if_neg hsb]
     cases s with
     | nil =>
      rw [Zbs]
      rintro ⟨r, hr⟩
      have := congrArg List.length hr
      simp at this
     | cons g r =>
      simp only
      by_cases hhi : g = i
      ·subst hhi
       rw [if_pos rfl]
       by_cases hr : ∃ u, r = a' ++ u
       ·obtain ⟨u, rfl⟩ := hr
        rw [Zek, show Q ++ g :: (a' ++ u) = (Q ++ g :: a') ++ u from by simp, Zdu]
       ·rw [Zfo _ _ _ hr, Zbs]
        rintro ⟨u, hu⟩
        exact hr ⟨u, by simpa using hu⟩
      ·rw [if_neg hhi, Zbs]
       rintro ⟨u, hu⟩
       simp at hu
       exact hhi hu.1
   ·rw [Zfo _ _ _ hs, if_neg (fun e => hs ⟨b, e⟩), Zbs]
    rintro ⟨u, rfl⟩
    exact hs ⟨i :: a' ++ u, by simp⟩
 | br k x ih =>
  intro B q v q' h hq hq'
  have hok : Ok B (br k x) := by
   rcases h with h | h
   ·cases h
   ·exact h
  cases q with
  | nil =>
   simp only [put]
   cases q' with
   | nil => simp [get]
   | cons h r => simp [get]
  | cons i r =>
   simp only [put]
   cases q' with
   | nil => simp [get]
   | cons h s =>
    simp only [get]
    have b1 := hq.head; have b2 := hq'.head
    by_cases hi : h = i
    ·subst hi
     rw [Za7, ih _ (B - 1) r v s (by
      rcases hok.1 h.toNat with h0 | ⟨_, _, h3⟩
      ·exact .inl h0
      ·exact .inr h3) hq.tail hq'.tail]
     simp
    ·rw [Za4 _ _ (by omega)]
     simp [hi]
theorem Zwr {k : Nat -> Tr} {x : List Int} (h : two k x) (i : Nat) {t : Tr} (ht : t ≠ no) : two (upd k i t) x := by
 have hk : ∀ j, k j ≠ no -> upd k i t j ≠ no := fun j hj => by
  unfold upd
  by_cases e : j = i
  ·rw [if_pos e]; exact ht
  ·rw [if_neg e]; exact hj
 rcases h with ⟨a, b, h1, h2, h3⟩ | ⟨h1, a, h2⟩
 ·exact .inl ⟨a, b, h1, hk a h2, hk b h3⟩
 ·exact .inr ⟨h1, a, hk a h2⟩
theorem Zwq {k : Nat -> Tr} {x v : List Int} (h : two k x) (hv : v ≠ []) : two k v := by
 rcases h with ⟨a, b, h1, h2, h3⟩ | ⟨h1, a, h2⟩
 ·exact .inr ⟨hv, a, h2⟩
 ·exact .inr ⟨hv, a, h2⟩
theorem Ok.mono {B : Nat} : ∀ {t : Tr} {C : Nat}, Ok B t -> B <= C -> Ok C t := by
 intro t
 induction t generalizing B with
 | no => intro C h _; exact h
 | leaf p v => intro C h hc; exact ⟨h.1, by have := h.2.1; omega, h.2.2⟩
 | ext p c ih => intro C h hc; exact ⟨h.1, h.2.1, by have := h.2.2.1; omega, h.2.2.2.1, ih h.2.2.2.2 (by omega)⟩
 | br k x ih =>
  intro C h hc
  refine ⟨fun i => ?_, h.2⟩
  rcases h.1 i with h0 | ⟨h1, h2, h3⟩
  ·exact .inl h0
  ·exact .inr ⟨h1, by omega, ih i h3 (by omega)⟩
theorem Zm3 : ∀ (t : Tr) (B : Nat) (q v : List Int), (t = no \/ Ok B t) -> Nb q -> q.length <= B -> v ≠ [] -> Ok B (put t q v) := by
 intro t
 induction t with
 | no => intro B q v _ hq hl hv; exact ⟨hq, hl, hv⟩
 | leaf p x =>
  intro B q v h hq hl hv
  have hok : Ok B (leaf p x) := by
   rcases h with h | h
   ·cases h
   ·exact h
  obtain ⟨hp, hpl, hx⟩ := hok
  simp only [put]
  by_cases e : q = p
  ·rw [if_pos e]; exact ⟨hq, hl, hv⟩
  ·rw [if_neg e]
   obtain ⟨Q, a, b, rfl, rfl, hc, hab⟩ := Zdx p q
   rw [hc]
   simp only [List.take_left, List.drop_left]
   have hne : a ≠ b := fun q => e (by rw [q])
   obtain ⟨hQ, ha⟩ := hp.of_app
   obtain ⟨_, hb⟩ := hq.of_app
   simp only [List.length_append] at hl hpl
   refine Ok.mono (Zpu (B := B - Q.length) hQ ?_) (by omega)
   cases a with
   | nil =>
    cases b with
    | nil => exact absurd rfl hne
    | cons j b' =>
     simp only [add, addT]
     have b3 := hb.head
     refine ⟨fun i => ?_, .inr ⟨hx, j.toNat, by rw [Za7]; simp⟩⟩
     by_cases hi : i = j.toNat
     ·subst hi; rw [Za7]; simp at hl; exact .inr ⟨by omega, by omega, hb.tail, by omega, hv⟩
     ·rw [Za4 _ _ hi]; exact .inl rfl
   | cons i a' =>
    have b2 := ha.head
    cases b with
    | nil =>
     simp only [add, addT]
     refine ⟨fun j => ?_, .inr ⟨hv, i.toNat, by rw [Za7]; simp⟩⟩
     by_cases hi : j = i.toNat
     ·subst hi; rw [Za7]; simp at hpl; exact .inr ⟨by omega, by omega, ha.tail, by omega, hx⟩
     ·rw [Za4 _ _ hi]; exact .inl rfl
    | cons j b' =>
     have hij : i ≠ j := by
      rcases hab with h | h | ⟨_, _, _, _, h1, h2, h3⟩
      ·cases h
      ·cases h
      ·cases h1; cases h2; exact h3
     have b3 := hb.head
     simp at hpl hl
     simp only [add, addT]
     refine ⟨fun h => ?_, .inl ⟨i.toNat, j.toNat, by omega, ?_, ?_⟩⟩
     ·by_cases h1 : h = j.toNat
      ·subst h1; rw [Za7]; exact .inr ⟨by omega, by omega, hb.tail, by omega, hv⟩
      ·rw [Za4 _ _ h1]
       by_cases h2 : h = i.toNat
       ·subst h2; rw [Za7]; exact .inr ⟨by omega, by omega, ha.tail, by omega, hx⟩
       ·rw [Za4 _ _ h2]; exact .inl rfl
     ·rw [Za4 _ _ (by omega), Za7]; simp
     ·rw [Za7]; simp
 | ext p c ih =>
  intro B q v h hq hl hv
  have hok : Ok B (ext p c) := by
   rcases h with h | h
   ·cases h
   ·exact h
  obtain ⟨h1, h2, h3, h4, h5⟩ := hok
  obtain ⟨Q, a, b, rfl, rfl, hc, hab⟩ := Zdx p q
  simp only [put]
  rw [hc]
  obtain ⟨hQ, ha⟩ := h1.of_app
  obtain ⟨_, hb⟩ := hq.of_app
  simp only [List.length_append] at hl h3 h5
  by_cases ea : a = []
  ·subst ea
   simp only [List.append_nil] at h2 h3 h5 ⊢
   rw [if_pos trivial]
   simp only [List.drop_left]
   refine ⟨hQ, h2, by omega, ?_, ?_⟩
   ·cases c with
    | br k x => cases b <;> simp [put, isBr]
    | no => simp [isBr] at h4
    | leaf _ _ => simp [isBr] at h4
    | ext _ _ => simp [isBr] at h4
   ·exact ih (B - Q.length) b v (.inr (by simpa using h5)) hb (by omega) hv
  ·obtain ⟨i, a', rfl⟩ : ∃ i a', a = i :: a' := by
    cases a with
    | nil => exact absurd rfl ea
    | cons i a' => exact ⟨i, a', rfl⟩
   rw [if_neg (by simp)]
   have e1 : (Q ++ i :: a').getD Q.length 0 = i := by simp [List.getD]
   have e2 : (Q ++ i :: a').drop (Q.length + 1) = a' := by
    rw [show Q ++ i :: a' = (Q ++ [i]) ++ a' from by simp, show Q.length + 1 = (Q ++ [i]).length from by simp, List.drop_left]
   rw [e1, e2]
   simp only [List.take_left, List.drop_left]
   have b2 := ha.head
   simp at h3 h5
   refine Ok.mono (Zpu (B := B - Q.length) hQ ?_) (by omega)
   have hU : Ok (B - Q.length - 1) (und a' c) := Ok.mono (Zpu ha.tail h5) (by omega)
   cases b with
   | nil =>
    simp only [add]
    refine ⟨fun j => ?_, .inr ⟨hv, i.toNat, by rw [Za7]; exact hU.ne⟩⟩
    by_cases hi : j = i.toNat
    ·subst hi; rw [Za7]; exact .inr ⟨by omega, by omega, hU⟩
    ·rw [Za4 _ _ hi]; exact .inl rfl
   | cons j b' =>
    have hij : i ≠ j := by
     rcases hab with h | h | ⟨_, _, _, _, h6, h7, h8⟩
     ·cases h
     ·cases h
     ·cases h6; cases h7; exact h8
    have b3 := hb.head
    simp at hl
    simp only [add]
    refine ⟨fun h => ?_, .inl ⟨i.toNat, j.toNat, by omega, ?_, ?_⟩⟩
    ·by_cases h6 : h = j.toNat
     ·subst h6; rw [Za7]; exact .inr ⟨by omega, by omega, hb.tail, by omega, hv⟩
     ·rw [Za4 _ _ h6]
      by_cases h7 : h = i.toNat
      ·subst h7; rw [Za7]; exact .inr ⟨by omega, by omega, hU⟩
      ·rw [Za4 _ _ h7]; exact .inl rfl
    ·rw [Za4 _ _ (by omega), Za7]; exact hU.ne
    ·rw [Za7]; simp
 | br k x ih =>
  intro B q v h hq hl hv
  have hok : Ok B (br k x) := by
   rcases h with h | h
   ·cases h
   ·exact h
  cases q with
  | nil => exact ⟨hok.1, Zwq hok.2 hv⟩
  | cons i r =>
   simp only [put]
   have b1 := hq.head
   simp at hl
   have hs : Ok (B - 1) (put (k i.toNat) r v) := ih i.toNat (B - 1) r v (by
    rcases hok.1 i.toNat with h0 | ⟨_, _, h3⟩
    ·exact .inl h0
    ·exact .inr h3) hq.tail (by omega) hv
   refine ⟨fun j => ?_, Zwr hok.2 _ hs.ne⟩
   by_cases hj : j = i.toNat
   ·subst hj; rw [Za7]; exact .inr ⟨by omega, by omega, hs⟩
   ·rw [Za4 _ _ hj]; exact hok.1 j
end Tr
namespace Tr
end Tr
end Go.Proofs.YtefhepcplempkaaGreat
