/- Ranges over functions, yields, walks over maps, for the walk by environments. -/
import Derived.Test.YtefhepcplempkaaGreatG00
import Derived.RangeFuncNested
import Derived.Maps.RangeRun
import Derived.Deep.WholeRow
import Derived.OrdersIn
set_option linter.unusedVariables false
set_option maxRecDepth 100000
namespace Go.Proofs.YtefhepcplempkaaGreat
open Go.RowKit
open Go.ChangeMaps (setBlock)
section
variable {r : Option Nat} {m : Nat} {P : Program} {ds : List Deferred} {n : Nat} {Q : Exit → Act → World → Prop} {env : Env} {w w' : World} {ops : Array Oper} {l : List Oper} {o : Oper}
theorem Zqo {α : Type} {B : Nat} {Kp : World -> World -> Prop} {I : List α -> World -> Prop} {Ix : Code -> List α -> World -> Prop} {xs : List α} {W : World} (h1 : KeepsFrom B W w) (h2 : Kp W w) (h3 : I xs w) : NW ds n (ownPostG B Kp I Ix xs W) .normal env w := fun a ha => ⟨h1, h2, h3⟩
theorem Zks {fn : Func} {R : Ending -> World -> Prop} {D : Nat} (hK : w.heap[D]? = some (.deferred (some []))) (v : Value) (hr : ∀ fb, (resF (lkF env fb) fn.results).run P (w.putObj D (.deferred none)) = .ok v (w.putObj D (.deferred none))) (hR : R (.returned v) (w.putObj D (.deferred none))) :
  NW [{ target := .collected D, args := #[] }] n (bodyPostM Fence.wide m P fn R) .ret env w := fun a ha => by
 show LeavesInM Fence.wide m P fn a.tmps R a.defers .returning w
 rw [ha.df]
 refine ⟨by simp, .inl ⟨_, _, rfl, run_takeDeferred hK, ?_⟩⟩
 refine ⟨v, ?_, hR⟩
 rw [Zdq, show (fun t => a.tmps.getD t undef) = lkF env (fun t => a.tmps.getD t undef) from funext ha.get]
 exact hr _
end
section
variable {P : Program} {ρ : Operand → Value} {w w' : World} {o : Oper}
end
theorem New.put {w w1 w2 : World} {g : Nat} {z cells : Array Value} {T : TypeId} (h : New w w1 g z T) (hp : Put w1 w2 g cells) : New w w2 g cells T := ⟨h.hg, by rw [hp.hw, h.hw, h.hg]; exact World.setRow_alloc_new _ _ _ _⟩
end Go.Proofs.YtefhepcplempkaaGreat
namespace Go.Proofs.YtefhepcplempkaaGreat
open Go.RowKit
def DI (m : Nat) (P : Program) (ds : List Deferred) (n : Nat) (Q : Exit -> Act -> World -> Prop) (ops : Array Oper) (fuel : Nat) (listed : Array Bool) (env : Env) (w : World) : Prop := ∀ a, Frm ds n env a -> wpAnyIn Fence.wide m P .any ops Q fuel listed a w
def AI (m : Nat) (P : Program) (ds : List Deferred) (n : Nat) (Q : Exit -> Act -> World -> Prop) (ops : Array Oper) (fuel : Nat) (listed : Array Bool) (env : Env) (w : World) (rs : List Nat) : Prop := ∀ a, Frm ds n env a -> AllReadyIn Fence.wide m P .any ops Q fuel listed a w rs
section
variable {m : Nat} {P : Program} {ds : List Deferred} {n : Nat} {Q : Exit → Act → World → Prop} {env : Env} {w w' : World} {ops : Array Oper} {o : Oper} {fuel : Nat} {listed : Array Bool} {rs : List Nat}
theorem Zxy {id : Nat} (hm : P.follows .mixedOrders = true) (h : DI m P ds n Q ops ops.size (Array.replicate ops.size false) env w.drew) : CW none m P ds n Q (.region id ops true) env w := fun a ha => wpIn_region_any (F := Fence.wide) hm (h a ha)
theorem Zjr (hr : Region.ready .any ops listed = []) (h : NW ds n Q .normal env w) : DI m P ds n Q ops fuel listed env w := fun a ha => wpAnyIn_done hr (h a ha) fuel
theorem Zce (rs : List Nat) (hr : Region.ready .any ops listed = rs) (hne : rs ≠ []) (h : AI m P ds n Q ops fuel listed env w rs) : DI m P ds n Q ops (fuel + 1) listed env w := fun a ha => wpAnyIn_ready hr hne (h a ha)
theorem Zr1 (i d : Nat) (v : Value) (ho : ops[i]? = some o) (hk : tkOk ops listed i = true) (hQ : ∀ c a w, Q (.panic c) (a.put (some d) v) w -> Q (.panic c) a w) (hc : ∀ fb, chk n ops env fb o d = true)
  (hr : ∀ w fb, (execOp (ev env fb) o).run P w = .ok (.value v) w) (hb : ∀ w fb, o.about P w (ev env fb) = none) (h : DI m P ds n Q ops fuel (listed.setIfInBounds i true) ((d, v) :: env) w) : DI m P ds n Q ops (fuel + 1) listed env w := fun a ha => by
 obtain ⟨h1, h2, h3, _⟩ := Zcf (hc (fun t => a.tmps.getD t undef))
 unfold tkOk at hk
 simp only [Bool.and_eq_true] at hk
 refine wpAnyIn_take (v := v) rfl ho hk.1.1 hk.1.2 hk.2 (by rw [h1]; exact hQ) ⟨Or.inl ⟨by rw [ha.want]; exact h3, fun w => by rw [ha.ev]; exact hr w _⟩, fun w => by rw [ha.ev]; exact hb w _⟩ ?_
 rw [h1]
 exact h _ (Zc5 ha h2 v)
theorem Zfa : AI m P ds n Q ops fuel listed env w [] := fun a ha => AllReadyIn.nil
theorem ai_v (i d : Nat) (v : Value) (ho : ops[i]? = some o) (hc : ∀ fb, chk n ops env fb o d = true) (hr : ∀ fb, (execOp (ev env fb) o).run P w = .ok (.value v) w')
  (h : DI m P ds n Q ops fuel (listed.setIfInBounds i true) ((d, v) :: env) w') (hs : AI m P ds n Q ops fuel listed env w rs) : AI m P ds n Q ops fuel listed env w (i :: rs) := fun a ha => by
 obtain ⟨h1, h2, h3, hnd⟩ := Zcf (hc (fun t => a.tmps.getD t undef))
 refine AllReadyIn.cons ho (fun K hK => ?_) (hs a ha)
 rw [ha.want, if_pos h3]
 refine ⟨fun f _ => trivial, ?_⟩
 rw [Oper.semAt_eq _ _ _ hnd, ha.ev, hr, Oper.uponIn_value, h1]
 exact hK _ _ (h _ (Zc5 ha h2 v))
theorem Zsq (i d : Nat) (f : FuncId) (args : Array Value) (ho : ops[i]? = some o) (hc : ∀ fb, chk n ops env fb o d = true) (hr : ∀ fb, (execOp (ev env fb) o).run P w = .ok (.enter f args) w) {R : Value -> World -> Prop}
  (hcall : Calls P f args w fun e w' => ∃ v, e = .returned v /\ R v w') (h : ∀ v w', R v w' -> DI m P ds n Q ops fuel (listed.setIfInBounds i true) ((d, v) :: env) w')
  (hs : AI m P ds n Q ops fuel listed env w rs) : AI m P ds n Q ops fuel listed env w (i :: rs) := fun a ha => by
 obtain ⟨h1, h2, h3, hnd⟩ := Zcf (hc (fun t => a.tmps.getD t undef))
 refine AllReadyIn.cons ho (fun K hK => ?_) (hs a ha)
 rw [ha.want, if_pos h3]
 refine ⟨fun f _ => trivial, ?_⟩
 rw [Oper.semAt_eq _ _ _ hnd, ha.ev, hr, Oper.uponIn_enter]
 refine ⟨fun h => absurd h Bool.false_ne_true, ?_⟩
 refine CallsIn.mono' (F := Fence.wide) (callsIn_wide.2 hcall) ?_
 rintro e w' ⟨v, rfl, hR⟩
 rw [h1]
 exact hK _ _ (h v w' hR _ (Zc5 ha h2 v))
theorem Zj3 {m m' lp : Nat} {args : Array Value} {W : World} {R : Ending -> World -> Prop} (h : YieldAt Fence.wide m P lp args W R) : YieldAt Fence.wide m' P lp args W R := by
 obtain ⟨fn, tmps, assign, body, hy, hR⟩ := h
 exact ⟨fn, tmps, assign, body, hy, hR.1, fun c cs _ => hR.2 c cs (room_wide _)⟩
theorem Zn3 (i d : Nat) (lp : Nat) (args : Array Value) (ho : ops[i]? = some o) (hc : ∀ fb, chk n ops env fb o d = true) (hr : ∀ fb, (execOp (ev env fb) o).run P w = (Instr.yield lp args).run P w) {R : Ending -> World -> Prop}
  (hY : YieldAt Fence.wide 0 P lp args w R) (h : ∀ e w', R e w' -> ∃ v, e = .returned v /\ DI m P ds n Q ops fuel (listed.setIfInBounds i true) ((d, v) :: env) w')
  (hs : AI m P ds n Q ops fuel listed env w rs) : AI m P ds n Q ops fuel listed env w (i :: rs) := fun a ha => by
 obtain ⟨h1, h2, h3, hnd⟩ := Zcf (hc (fun t => a.tmps.getD t undef))
 obtain ⟨fn, tmps, assign, body, hy, hR⟩ := Zj3 (m' := m - 1) hY
 refine AllReadyIn.cons ho (fun K hK => ?_) (hs a ha)
 rw [ha.want, if_pos h3]
 refine ⟨fun f _ => trivial, ?_⟩
 rw [Oper.semAt_eq _ _ _ hnd, ha.ev, hr, hy, Oper.uponIn_round]
 refine ⟨fun h => absurd h Bool.false_ne_true, ?_⟩
 refine RoundIn.mono (F := Fence.wide) hR ?_
 intro e w' hq
 obtain ⟨v, rfl, hw⟩ := h e w' hq
 show K (a.put o.dst v) w'
 rw [h1]
 exact hK _ _ (hw _ (Zc5 ha h2 v))
end
end Go.Proofs.YtefhepcplempkaaGreat
namespace Go.Proofs.YtefhepcplempkaaGreat.Ni
def isB (b : List Int) : Prop := ∀ x ∈ b, 0 <= x /\ x < 256
theorem Zt7 {x : Int} {r : List Int} (h : isB (x :: r)) : (0 <= x /\ x < 256) /\ isB r := ⟨h x (by simp), fun y hy => h y (by simp [hy])⟩
def nib : List Int -> List Int
 | [] => []
 | b :: r => b / 16 :: b % 16 :: nib r
theorem nib_len : ∀ k : List Int, (nib k).length = 2 * k.length
 | [] => rfl
 | b :: r => by simp only [nib, List.length_cons, nib_len r]; omega
theorem Zqw : ∀ a b : List Int, nib (a ++ b) = nib a ++ nib b
 | [], _ => rfl
 | x :: a, b => by simp only [List.cons_append, nib, Zqw a b]
theorem nib_bd : ∀ k : List Int, isB k -> ∀ x ∈ nib k, 0 <= x /\ x <= 15
 | [], _, x, h => by cases h
 | b :: r, hb, x, h => by
  obtain ⟨h1, h2⟩ := Zt7 hb
  rcases List.mem_cons.1 h with rfl | h
  ·omega
  rcases List.mem_cons.1 h with rfl | h
  ·omega
  ·exact nib_bd r h2 x h
theorem Zxa {k : List Int} (h : isB k) : isB (nib k) := fun x hx => by have := nib_bd k h x hx; omega
theorem getD_mem {l : List Int} {i : Nat} (h : i < l.length) : l.getD i 0 ∈ l := by
 rw [List.getD, List.getElem?_eq_getElem h]; exact List.getElem_mem _
theorem Zt6 {b : List Int} (h : isB b) (i : Nat) : isB (b.drop i) := fun x hx => h x (List.mem_of_mem_drop hx)
theorem Zep {b : List Int} {i : Nat} (hi : i < b.length) : b.take (i + 1) = b.take i ++ [b.getD i 0] := by
 rw [List.take_add_one, List.getElem?_eq_getElem hi]; simp [List.getD, List.getElem?_eq_getElem hi]
theorem Zty {b : List Int} {i : Nat} (hi : i < b.length) : nib (b.take (i + 1)) = nib (b.take i) ++ [b.getD i 0 / 16, b.getD i 0 % 16] := by
 rw [Zep hi, Zqw]; rfl
def rightP (p : List Int) : Bool := p.all fun x => decide (x <= 15)
theorem rightP_iff {p : List Int} : rightP p = true ↔ ∀ x ∈ p, x <= 15 := by simp [rightP]
theorem Zti {p : List Int} {j : Nat} (h : j < p.length) (hx : p.getD j 0 > 15) : rightP p = false := by
 cases e : rightP p with
 | false => rfl
 | true => have := rightP_iff.1 e _ (getD_mem h); omega
theorem Zp6 {p : List Int} (h : ∀ i, i < p.length -> p.getD i 0 <= 15) : rightP p = true := rightP_iff.2 fun x hx => by
 obtain ⟨i, hi, rfl⟩ := List.getElem_of_mem hx
 have := h i hi
 rwa [List.getD, List.getElem?_eq_getElem hi] at this
theorem Zgb {p : List Int} (h : rightP p = true) {i : Nat} (hi : i < p.length) : p.getD i 0 <= 15 := rightP_iff.1 h _ (getD_mem hi)
theorem Zke {p q : List Int} : rightP (p ++ q) = (rightP p && rightP q) := by simp [rightP]
def kk : List Int -> List Int
 | a :: b :: r => (16 * a + b) :: kk r
 | _ => []
theorem kk_nib : ∀ k : List Int, kk (nib k) = k
 | [] => rfl
 | b :: r => by simp only [nib, kk, kk_nib r]; congr 1; omega
theorem Znh : ∀ p : List Int, (kk p).length = p.length / 2
 | [] => rfl
 | [_] => by simp [kk]
 | a :: b :: r => by simp only [kk, List.length_cons, Znh r]; omega
theorem Zrb : ∀ (p : List Int) (i : Nat), 2 * i + 1 < p.length -> (kk p).getD i 0 = 16 * p.getD (2 * i) 0 + p.getD (2 * i + 1) 0
 | [], i, h => by simp at h
 | [_], i, h => by simp at h
 | a :: b :: r, 0, h => rfl
 | a :: b :: r, i + 1, h => by
  have h2 : 2 * i + 1 < r.length := by simp at h; omega
  have := Zrb r i h2
  simp only [kk]
  rw [show 2 * (i + 1) = 2 * i + 1 + 1 from by omega]
  simpa using this
theorem Zvr : ∀ p : List Int, isB p -> rightP p = true -> p.length % 2 = 0 -> nib (kk p) = p
 | [], _, _, _ => rfl
 | [_], _, _, h => by simp at h
 | a :: b :: r, hb, hr, hl => by
  have h0 := hb a (by simp)
  have h1 := rightP_iff.1 hr b (by simp)
  have h2 := hb b (by simp)
  have h3 : isB r := fun x hx => hb x (by simp [hx])
  have h4 : rightP r = true := rightP_iff.2 fun x hx => rightP_iff.1 hr x (by simp [hx])
  simp only [kk, nib, Zvr r h3 h4 (by simp at hl; omega)]
  rw [show (16 * a + b) / 16 = a from by omega, show (16 * a + b) % 16 = b from by omega]
theorem Zni : ∀ p : List Int, isB p -> rightP p = true -> isB (kk p)
 | [], _, _ => fun x hx => by cases hx
 | [_], _, _ => fun x hx => by simp [kk] at hx
 | a :: b :: r, hb, hr => by
  have h0 := hb a (by simp)
  have h5 := rightP_iff.1 hr a (by simp)
  have h1 := rightP_iff.1 hr b (by simp)
  have h2 := hb b (by simp)
  have ih := Zni r (fun x hx => hb x (by simp [hx])) (rightP_iff.2 fun x hx => rightP_iff.1 hr x (by simp [hx]))
  intro x hx
  simp only [kk] at hx
  rcases List.mem_cons.1 hx with rfl | hx
  ·omega
  ·exact ih x hx
def keyP (p : List Int) : List Int × Bool := if rightP p = true /\ p.length % 2 = 0 then (kk p, true) else ([], false)
theorem Zjj {p : List Int} (h : rightP p = true) (h2 : p.length % 2 = 0) : keyP p = (kk p, true) := if_pos ⟨h, h2⟩
theorem Zhi {p : List Int} (h : ¬ (rightP p = true /\ p.length % 2 = 0)) : keyP p = ([], false) := if_neg h
def hdP (n : Nat) (leaf : Bool) : List Int := if n % 2 = 0 then [if leaf then 2 else 0, 0] else [(if leaf then 2 else 0) + 1]
theorem hd_len (n : Nat) (leaf : Bool) : (hdP n leaf).length = 2 - n % 2 := by
 unfold hdP
 split
 ·rename_i h; rw [h]; rfl
 ·rename_i h; rw [show n % 2 = 1 from by omega]; rfl
theorem Zzq (n : Nat) (leaf : Bool) : isB (hdP n leaf) := by
 unfold hdP
 cases leaf <;> split <;> (intro x hx; simp at hx; omega)
theorem Znm (n : Nat) (leaf : Bool) : rightP (hdP n leaf) = true := by
 refine rightP_iff.2 ?_
 unfold hdP
 cases leaf <;> split <;> (intro x hx; simp at hx; omega)
def packP (p : List Int) (leaf : Bool) : List Int × Nat := if rightP p = true then (kk (hdP p.length leaf ++ p), 0) else ([], 40)
theorem packP_yes {p : List Int} {leaf : Bool} (h : rightP p = true) : packP p leaf = (kk (hdP p.length leaf ++ p), 0) := if_pos h
theorem Zfn {p : List Int} {leaf : Bool} (h : rightP p = true) : rightP (hdP p.length leaf ++ p) = true := by rw [Zke, Znm, h]; rfl
theorem Zk7 (p : List Int) (leaf : Bool) : (hdP p.length leaf ++ p).length % 2 = 0 := by rw [List.length_append, hd_len]; omega
theorem Zjn {p : List Int} {leaf : Bool} (h : isB p) : isB (hdP p.length leaf ++ p) := by
 intro x hx
 rcases List.mem_append.1 hx with hx | hx
 ·exact Zzq _ _ x hx
 ·exact h x hx
theorem Ztq {p : List Int} {leaf : Bool} : keyP (hdP p.length leaf ++ p) = if rightP p = true then (kk (hdP p.length leaf ++ p), true) else ([], false) := by
 by_cases h : rightP p = true
 ·rw [if_pos h, Zjj (Zfn h) (Zk7 _ _)]
 ·rw [if_neg h, Zhi]
  rintro ⟨h1, _⟩
  rw [Zke, Znm] at h1
  exact h (by simpa using h1)
theorem packP_isB {p : List Int} {leaf : Bool} (h : isB p) : isB (packP p leaf).1 := by
 unfold packP
 split
 ·rename_i hc; exact Zni _ (Zjn h) (Zfn hc)
 ·intro x hx; cases hx
theorem pack_len {p : List Int} {leaf : Bool} : (kk (hdP p.length leaf ++ p)).length = p.length / 2 + 1 := by rw [Znh, List.length_append, hd_len]; omega
abbrev badU (c : Int) : Prop := c / 16 > 3 \/ (c / 16 % 2 = 0 /\ c % 16 ≠ 0)
def unpP : List Int -> List Int × Bool × Nat
 | [] => ([], false, 40)
 | c :: r => if badU c then ([], false, 40) else ((nib (c :: r)).drop (if c / 16 % 2 = 0 then 2 else 1), decide (c / 16 ≥ 2), 0)
theorem Zv8 : unpP [] = ([], false, 40) := rfl
theorem Ziy (c : Int) (r : List Int) : unpP (c :: r) = if badU c then ([], false, 40) else ((nib (c :: r)).drop (if c / 16 % 2 = 0 then 2 else 1), decide (c / 16 ≥ 2), 0) := rfl
theorem Zv9 {b : List Int} (h : 0 < b.length) (hb : badU (b.getD 0 0)) : unpP b = ([], false, 40) := by
 cases b with
 | nil => simp at h
 | cons c r => exact if_pos hb
theorem Zs8 {b : List Int} (h : 0 < b.length) (hb : ¬ badU (b.getD 0 0)) : unpP b = ((nib b).drop (if b.getD 0 0 / 16 % 2 = 0 then 2 else 1), decide (b.getD 0 0 / 16 ≥ 2), 0) := by
 cases b with
 | nil => simp at h
 | cons c r => exact if_neg hb
theorem unp_le (b : List Int) : (unpP b).1.length <= 2 * b.length := by
 cases b with
 | nil => exact Nat.zero_le _
 | cons c r =>
  rw [Ziy]
  split
  ·exact Nat.zero_le _
  ·rw [List.length_drop, nib_len]; omega
theorem unp_pack {p : List Int} {leaf : Bool} (hb : isB p) (h : rightP p = true) : unpP (kk (hdP p.length leaf ++ p)) = (p, leaf, 0) := by
 have e := Zvr _ (Zjn (leaf := leaf) hb) (Zfn (leaf := leaf) h) (Zk7 p leaf)
 by_cases hp : p.length % 2 = 0
 ·have e1 : hdP p.length leaf = [if leaf then 2 else 0, 0] := if_pos hp
  rw [e1] at e ⊢
  simp only [List.cons_append, List.nil_append, kk] at e ⊢
  rw [Ziy]
  have e2 : ¬ badU (16 * (if leaf = true then 2 else 0) + 0) := by unfold badU; cases leaf <;> simp
  rw [if_neg e2, e]
  cases leaf <;> simp
 ·have e1 : hdP p.length leaf = [(if leaf then 2 else 0) + 1] := if_neg hp
  rw [e1] at e ⊢
  cases p with
  | nil => simp at hp
  | cons y r =>
   have hy := rightP_iff.1 h y (by simp)
   have hy0 := hb y (by simp)
   simp only [List.cons_append, List.nil_append, kk] at e ⊢
   rw [Ziy]
   have q1 : (16 * ((if leaf = true then 2 else 0) + 1) + y) / 16 = (if leaf = true then 2 else 0) + 1 := by cases leaf <;> simp <;> omega
   have e2 : ¬ badU (16 * ((if leaf = true then 2 else 0) + 1) + y) := by unfold badU; rw [q1]; cases leaf <;> simp
   rw [if_neg e2, e, q1]
   cases leaf <;> simp
def com : List Int -> List Int -> Nat
 | x :: p, y :: q => if x = y then com p q + 1 else 0
 | _, _ => 0
theorem com_le : ∀ p q : List Int, com p q <= p.length /\ com p q <= q.length
 | [], _ => by simp [com]
 | _ :: _, [] => by simp [com]
 | x :: p, y :: q => by
  have := com_le p q
  simp only [com]
  split
  ·simp; omega
  ·simp
theorem com_take : ∀ p q : List Int, p.take (com p q) = q.take (com p q)
 | [], _ => by simp [com]
 | _ :: _, [] => by simp [com]
 | x :: p, y :: q => by
  simp only [com]
  split
  ·rename_i h; subst h; simp [com_take p q]
  ·simp
theorem com_stop : ∀ p q : List Int, com p q < p.length -> com p q < q.length -> p.getD (com p q) 0 ≠ q.getD (com p q) 0
 | [], _, h, _ => by simp at h
 | _ :: _, [], _, h => by simp at h
 | x :: p, y :: q, h1, h2 => by
  simp only [com] at h1 h2 ⊢
  split at h1
  ·rename_i e
   rw [if_pos e] at h2 ⊢
   simp only [List.getD_cons_succ]
   exact com_stop p q (by simp at h1; omega) (by simp at h2; omega)
  ·rename_i e
   rw [if_neg e]
   exact e
theorem Znv : ∀ (p q : List Int) (n : Nat), n <= p.length -> n <= q.length -> p.take n = q.take n -> (n = p.length \/ n = q.length \/ p.getD n 0 ≠ q.getD n 0) -> com p q = n
 | [], q, n, h1, h2, h3, h4 => by simp at h1; simp [com, h1]
 | x :: p, [], n, h1, h2, h3, h4 => by simp at h2; simp [com, h2]
 | x :: p, y :: q, 0, h1, h2, h3, h4 => by
  simp only [com]
  rw [if_neg]
  rcases h4 with h | h | h
  ·simp at h
  ·simp at h
  ·exact h
 | x :: p, y :: q, n + 1, h1, h2, h3, h4 => by
  simp only [List.take_succ_cons, List.cons.injEq] at h3
  simp only [com]
  rw [if_pos h3.1, Znv p q n (by simpa using h1) (by simpa using h2) h3.2 (by simpa using h4)]
theorem Zuq : ∀ p q : List Int, com p q = com q p
 | [], [] => rfl
 | [], _ :: _ => rfl
 | _ :: _, [] => rfl
 | x :: p, y :: q => by
  simp only [com, Zuq p q]
  by_cases h : x = y
  ·rw [if_pos h, if_pos h.symm]
  ·rw [if_neg h, if_neg (fun e => h e.symm)]
def lessP : List Int -> List Int -> Bool
 | _, [] => false
 | [], _ :: _ => true
 | x :: p, y :: q => if x = y then lessP p q else decide (x < y)
theorem Zey : ∀ p q : List Int, (lessP p q || lessP q p) = !decide (p = q)
 | [], [] => rfl
 | [], y :: q => by simp [lessP]
 | x :: p, [] => by simp [lessP]
 | x :: p, y :: q => by
  simp only [lessP]
  by_cases h : x = y
  ·subst h
   rw [if_pos rfl, if_pos rfl, Zey p q]
   simp
  ·rw [if_neg h, if_neg (fun e => h e.symm)]
   have : x < y \/ y < x := by omega
   rcases this with h1 | h1
   ·simp [h, h1]
   ·simp [h, h1]
end Go.Proofs.YtefhepcplempkaaGreat.Ni
namespace Go.Proofs.YtefhepcplempkaaGreat
inductive Tr where
 | no : Tr
 | leaf (p v : List Int) : Tr
 | ext (p : List Int) (c : Tr) : Tr
 | br (k : Nat -> Tr) (v : List Int) : Tr
namespace Tr
def isNo : Tr -> Bool
 | no => true
 | _ => false
def isBr : Tr -> Bool
 | br _ _ => true
 | _ => false
def upd (k : Nat -> Tr) (i : Nat) (t : Tr) : Nat -> Tr := fun j => if j = i then t else k j
theorem Za8 (k : Nat -> Tr) (i : Nat) (t : Tr) : upd k i t i = t := by simp [upd]
theorem Za6 (k : Nat -> Tr) {i j : Nat} (t : Tr) (h : j ≠ i) : upd k i t j = k j := by simp [upd, h]
def nk : Nat -> Tr := fun _ => no
def get : Tr -> List Int -> List Int
 | no, _ => []
 | leaf p v, q => if q = p then v else []
 | ext p c, q => if q.take p.length = p then get c (q.drop p.length) else []
 | br k v, [] => v
 | br k v, i :: r => get (k i.toNat) r
def und (p : List Int) : Tr -> Tr
 | no => no
 | leaf q v => leaf (p ++ q) v
 | ext q c => ext (p ++ q) c
 | br k v => if p = [] then br k v else ext p (br k v)
def add (k : Nat -> Tr) (x : List Int) (q v : List Int) : Tr := match q with
 | [] => br k v
 | i :: r => br (upd k i.toNat (leaf r v)) x
def addT (t : Tr) (q v : List Int) : Tr := match t with
 | br k x => add k x q v
 | t => t
def put : Tr -> List Int -> List Int -> Tr
 | no, q, v => leaf q v
 | leaf p x, q, v => if q = p then leaf q v else und (q.take (Ni.com p q)) (addT (add nk [] (p.drop (Ni.com p q)) x) (q.drop (Ni.com p q)) v)
 | ext p c, q, v => if Ni.com p q = p.length then ext p (put c (q.drop p.length) v) else und (q.take (Ni.com p q)) (add (upd nk (p.getD (Ni.com p q) 0).toNat (und (p.drop (Ni.com p q + 1)) c)) [] (q.drop (Ni.com p q)) v)
 | br k x, [], v => br k v
 | br k x, i :: r, v => br (upd k i.toNat (put (k i.toNat) r v)) x
def kidsN (k : Nat -> Tr) : Nat -> Nat
 | 0 => 0
 | n + 1 => kidsN k n + if (k n).isNo then 0 else 1
def lastN (k : Nat -> Tr) : Nat -> Nat
 | 0 => 0
 | n + 1 => if (k n).isNo then lastN k n else n
def nrm (k : Nat -> Tr) (x : List Int) : Tr :=
 if kidsN k 16 = 0 then leaf [] x else if kidsN k 16 = 1 /\ x = [] then und [(lastN k 16 : Int)] (k (lastN k 16)) else br k x
def del : Tr -> List Int -> Tr
 | no, _ => no
 | leaf _ _, _ => no
 | ext p c, q => und p (del c (q.drop p.length))
 | br k x, [] => nrm k []
 | br k x, i :: r => nrm (upd k i.toNat (del (k i.toNat) r)) x
def Nb (p : List Int) : Prop := ∀ i ∈ p, 0 <= i /\ i < 16
theorem Nb.drop {p : List Int} (h : Nb p) (n : Nat) : Nb (p.drop n) := fun i hi => h i (List.mem_of_mem_drop hi)
theorem Nb.app {p q : List Int} (h : Nb p) (k : Nb q) : Nb (p ++ q) := fun i hi => by
 rcases List.mem_append.1 hi with hi | hi
 ·exact h i hi
 ·exact k i hi
theorem Nb.head {i : Int} {r : List Int} (h : Nb (i :: r)) : 0 <= i /\ i < 16 := h i (by simp)
theorem Nb.tail {i : Int} {r : List Int} (h : Nb (i :: r)) : Nb r := fun j hj => h j (List.mem_cons_of_mem _ hj)
def two (k : Nat -> Tr) (x : List Int) : Prop := (∃ i j, i ≠ j /\ k i ≠ no /\ k j ≠ no) \/ (x ≠ [] /\ ∃ i, k i ≠ no)
def Ok : Nat -> Tr -> Prop
 | _, no => False
 | B, leaf p v => Nb p /\ p.length <= B /\ v ≠ []
 | B, ext p c => Nb p /\ p ≠ [] /\ p.length <= B /\ c.isBr = true /\ Ok (B - p.length) c
 | B, br k x => (∀ i, k i = no \/ (i < 16 /\ 1 <= B /\ Ok (B - 1) (k i))) /\ two k x
theorem Zrs (p : List Int) (t : Tr) (q : List Int) : get (und p t) q = if q.take p.length = p then get t (q.drop p.length) else [] := by
 cases t with
 | no => simp [und, get]
 | leaf r v =>
  simp only [und, get]
  by_cases h : q.take p.length = p
  ·rw [if_pos h]
   have e : q = p ++ q.drop p.length := by conv => lhs; rw [<- List.take_append_drop p.length q, h]
   by_cases h2 : q.drop p.length = r
   ·rw [if_pos h2, if_pos (by rw [e, h2])]
   ·rw [if_neg h2, if_neg (fun e2 => h2 (by rw [e2]; simp))]
  ·rw [if_neg h, if_neg (fun e => h (by rw [e]; simp))]
 | ext r c =>
  simp only [und, get, List.length_append]
  by_cases h : q.take p.length = p
  ·rw [if_pos h]
   have e : q.take (p.length + r.length) = p ++ (q.drop p.length).take r.length := by
    rw [List.take_add, h]
   rw [e, List.drop_drop]
   by_cases h2 : (q.drop p.length).take r.length = r
   ·rw [if_pos h2, if_pos (by rw [h2])]
   ·rw [if_neg h2, if_neg (fun e2 => h2 (List.append_cancel_left e2))]
  ·rw [if_neg h, if_neg (fun e => h (by
    have := congrArg (List.take p.length) e
    rw [List.take_take, Nat.min_eq_left (by omega)] at this
    simpa using this))]
 | br k v =>
  simp only [und]
  by_cases h : p = []
  ·subst h; simp
  ·rw [if_neg h]; simp only [get]
theorem Zpq {B : Nat} {p : List Int} {t : Tr} (hp : Nb p) (h : Ok B t) : Ok (B + p.length) (und p t) := by
 cases t with
 | no => exact h
 | leaf q v => exact ⟨hp.app h.1, by simp; have := h.2.1; omega, h.2.2⟩
 | ext q c =>
  obtain ⟨h1, h2, h3, h4, h5⟩ := h
  refine ⟨hp.app h1, by simp [h2], by simp; omega, h4, ?_⟩
  rw [show B + p.length - (p ++ q).length = B - q.length from by simp; omega]
  exact h5
 | br k v =>
  simp only [und]
  by_cases hq : p = []
  ·rw [if_pos hq, hq]; exact h
  ·rw [if_neg hq]
   refine ⟨hp, hq, by omega, rfl, ?_⟩
   rw [show B + p.length - p.length = B from by omega]
   exact h
theorem Ok.ne {B : Nat} {t : Tr} (h : Ok B t) : t ≠ no := fun e => by rw [e] at h; exact h
theorem isNo_iff {t : Tr} : t.isNo = true ↔ t = no := by cases t <;> simp [isNo]
end Tr
end Go.Proofs.YtefhepcplempkaaGreat
