/- Tries in memory: slices of bytes in blocks of which something is said, trees of them; slices cut, texts of bytes, appends, calls by an interface. -/
import Derived.Test.YtefhepcplempkaaGreatG00
import Derived.Test.YtefhepcplempkaaGreatG02
import Derived.Lib.AppendZeros
import Derived.RangeFuncNested
import Derived.Maps.RangeRun
import Derived.Deep.WholeRow
import Derived.Test.YtefhepcplempkaaGreatG01
import Derived.Lib.Bytealg
import Derived.Laws.Externs
import Derived.Lib.Bytes
set_option linter.unusedVariables false
set_option maxRecDepth 100000
namespace Go.Proofs.YtefhepcplempkaaGreat
open Go.RowKit
structure Sk (K : Nat -> Prop) (w : World) (a : Option Addr) (n c : Nat) (bs : List Int) : Prop where
 ag : Ag w a n c bs
 k : ∀ x, a = some x -> 0 < n -> K x.block
section
variable {K : Nat → Prop} {w w' : World} {a : Option Addr} {n c : Nat} {bs : List Int}
theorem Sk.go (h : Sk K w a n c bs) (hb : Below w.heap.size w w') : Sk K w' a n c bs := ⟨h.ag.at hb, h.k⟩
theorem Sk.drew (h : Sk K w a n c bs) : Sk K w.drew a n c bs := h.go (Below.refl _ _).drew
theorem Sk.nil (K : Nat -> Prop) (w : World) : Sk K w none 0 0 [] := ⟨⟨.inl ⟨rfl, rfl⟩, fun _ => ⟨rfl, rfl⟩, rfl, fun x hx => by cases hx⟩, fun x h => by cases h⟩
theorem Sk.len (h : Sk K w a n c bs) : bs.length = n := h.ag.l
theorem Sk.from (h : Sk K w a n c bs) (f : Nat) (hf : f <= n) : Sk K w (if c = f then a else a.map (·.add (f * 1))) (n - f) (c - f) (bs.drop f) := by
 have hl := h.len
 refine ⟨⟨?_, ?_, by simp [hl], fun x hx => h.ag.b x (List.mem_of_mem_drop hx)⟩, ?_⟩
 ·rcases h.ag.i with ⟨h1, h2⟩ | ⟨gb, off, h1, h2, h3, h4, h5, h7⟩
  ·exact .inl ⟨by omega, by simp [h2]⟩
  ·by_cases hn : n - f = 0
   ·exact .inl ⟨hn, List.drop_eq_nil_of_le (by omega)⟩
   ·refine .inr ⟨gb, off + f, ?_, by simp [hl], by omega, by omega, by omega, fun j hj => ?_⟩
    ·rw [if_neg (by omega), h1, Option.map_some, Zaz, Nat.mul_one]
    ·rw [List.length_drop] at hj
     rw [show off + f + j = off + (f + j) from by omega, h7 (f + j) (by omega)]
     simp [List.getD_eq_getElem?_getD, List.getElem?_drop]
 ·intro e
  have : a = none := by
   by_cases hc : c = f
   ·rw [if_pos hc] at e; exact e
   ·rw [if_neg hc] at e; simpa using e
  have := h.ag.nil this
  omega
 ·intro x hx hn
  rcases h.ag.i with ⟨h1, h2⟩ | ⟨gb, off, h1, h2, h3, h4, h5, h7⟩
  ·omega
  ·have hk := h.k _ h1 (by omega)
   by_cases hc : c = f
   ·omega
   ·rw [if_neg hc, h1, Option.map_some, Zaz] at hx
    cases hx
    exact hk
theorem Sk.upto (h : Sk K w a n c bs) (f : Nat) (hf : f <= n) : Sk K w (if c = 0 then a else a.map (·.add (0 * 1))) f c (bs.take f) := by
 have hl := h.len
 have ha : ∀ gb off, a = some ⟨gb, off, none⟩ -> (if c = 0 then a else a.map (·.add (0 * 1))) = some ⟨gb, off, none⟩ := by
  intro gb off e
  split
  ·exact e
  ·rw [e, Option.map_some, Zaz, Nat.mul_one, Nat.add_zero]
 refine ⟨⟨?_, ?_, by simp; omega, fun x hx => h.ag.b x (List.mem_of_mem_take hx)⟩, ?_⟩
 ·rcases h.ag.i with ⟨h1, h2⟩ | ⟨gb, off, h1, h2, h3, h4, h5, h7⟩
  ·exact .inl ⟨by omega, by simp [h2]⟩
  ·by_cases hn : f = 0
   ·exact .inl ⟨hn, by simp [hn]⟩
   ·refine .inr ⟨gb, off, ha gb off h1, by simp; omega, by omega, by omega, h5, fun j hj => ?_⟩
    rw [List.length_take] at hj
    rw [h7 j (by omega)]
    simp [List.getD_eq_getElem?_getD, List.getElem?_take_of_lt (show j < f by omega)]
 ·intro e
  have : a = none := by
   by_cases hc : c = 0
   ·rw [if_pos hc] at e; exact e
   ·rw [if_neg hc] at e; simpa using e
  have := h.ag.nil this
  omega
 ·intro x hx hn
  rcases h.ag.i with ⟨h1, h2⟩ | ⟨gb, off, h1, h2, h3, h4, h5, h7⟩
  ·omega
  ·rw [ha gb off h1] at hx
   cases hx
   exact h.k _ h1 (by omega)
theorem Sk.cap (h : Sk K w a n c bs) (hn : 0 < n) : n <= c := by
 rcases h.ag.i with ⟨h1, h2⟩ | ⟨gb, off, h1, h2, h3, h4, h5, h7⟩ <;> omega
theorem Sk.run_from (h : Sk K w a n c bs) (f : Nat) (hf : f <= n) (v : World) (ρ : Operand -> Value) (o : Oper) (x y : Operand) (i : Int) (ho : o.op = .slice 23 x (some y) none none) (hx : ρ x = .slice a n c) (hy : ρ y = .int .i64 i) (hi : i = f) :
  (execOp ρ o).run Tryz.prog v = .ok (.value (.slice (if c = f then a else a.map (·.add (f * 1))) (n - f) (c - f))) v := by
 subst hi
 unfold execOp
 rw [ho]
 simp [hx, hy, Instr.sliceAt, run_underlying Tryz.underlying23, Instr.slice, Instr.sliceBounds, Instr.sliceBound, asIntOf, hf, Result.andThen]
theorem Sk.run_upto (h : Sk K w a n c bs) (f : Nat) (hf : f <= n) (v : World) (ρ : Operand -> Value) (o : Oper) (x y : Operand) (i : Int) (ho : o.op = .slice 23 x none (some y) none) (hx : ρ x = .slice a n c) (hy : ρ y = .int .i64 i) (hi : i = f) :
  (execOp ρ o).run Tryz.prog v = .ok (.value (.slice (if c = 0 then a else a.map (·.add (0 * 1))) f c)) v := by
 subst hi
 unfold execOp
 rw [ho]
 have h2 : f <= c := by
  by_cases hn : 0 < n
  ·have := h.cap hn; omega
  ·omega
 simp [hx, hy, Instr.sliceAt, run_underlying Tryz.underlying23, Instr.slice, Instr.sliceBounds, Instr.sliceBound, asIntOf, h2, Result.andThen]
theorem Sk.run_str (h : Sk K w a n c bs) (ρ : Operand -> Value) (o : Oper) (x : Operand) (ho : o.op = .convert 23 9 x) (hx : ρ x = .slice a n c) : (execOp ρ o).run Tryz.prog w = .ok (.value (.string (strOfNums bs))) w := by
 unfold execOp
 simp only [ho, hx, Sem.run_bind, Zd0 h.ag.i, Result.andThen_ok, Sem.run_pure]
end
theorem Zhi {xs ys : List Int} (hx : ∀ x ∈ xs, 0 <= x /\ x < 256) (hy : ∀ x ∈ ys, 0 <= x /\ x < 256) : ((strOfNums xs).toList == (strOfNums ys).toList) = decide (xs = ys) := by
 exact Ni.str_beq hx hy
theorem Zkp {w : World} {base : Nat} {v : Value} {bs : List Int} (hown : OwnB w base v bs) {a : Option Addr} {m c : Nat} {news : List Int} (h : Ag w a m c news) (hb : bs.length + m <= 140737488355328) (hbase : base <= w.heap.size) :
  ∃ v' w', (∀ ty, (Builtin.append_ #[23, 23] ty #[v, .slice a m c]).run Tryz.prog w = .ok v' w') /\ OwnB w' base v' (bs ++ news) /\ Below base w w' := by
 obtain ⟨i, hi, hz, hsz, hby⟩ := info5
 cases a with
 | none =>
  obtain ⟨rfl, rfl⟩ := h.nil rfl
  have hn0 : news = [] := List.eq_nil_of_length_eq_zero h.l
  subst hn0
  exact ⟨v, w, fun ty => run_append_owned_none w base 23 ty 5 i 1 Tryz.underlying23 hi v _ _ hown, by rw [List.append_nil]; exact hown, Below.refl _ _⟩
 | some ad =>
  have hc : ∀ j u, (news.map (Value.int .u8))[j]? = some u -> w.cell? (ad.add j) = some u := by
   rcases h.i.inB h.nil with ⟨h, _⟩ | ⟨ad', h1, _, h3⟩
   ·cases h
   ·cases h1; exact h3
  obtain ⟨v', w', h1, h2, h3, _⟩ := run_append_own w base 23 0 5 i (.int .u8 0) 1 1 Tryz.underlying23 hi hz hsz hby rfl (by decide) v bs.length (bs.map (Value.int .u8)) hown ad m c (news.map (Value.int .u8)) (by simpa using h.l) hc (B8_one2 _) (by unfold maxLen; omega) (by omega) hbase
  refine ⟨v', w', fun ty => h1, ?_, (Below.refl _ _).grown h3 hbase hown.lt⟩
  unfold OwnB
  rw [List.length_append, h.l, List.map_append]
  exact h2
theorem Znn {w w' : World} {v u r : Value} {ρ : Operand -> Value} {o : Oper} (hr : ∀ ty, (Builtin.append_ #[23, 23] ty #[v, u]).run Tryz.prog w = .ok r w') (x y : Operand) (ho : o.op = .call { callee := .builtin .append, args := #[x, y], argTypes := #[23, 23] }) (hx : ρ x = v) (hy : ρ y = u) : (execOp ρ o).run Tryz.prog w = .ok (.value r) w' := by
 unfold execOp
 simp only [ho, resolve, invoke, builtin, Sem.run_bind, Sem.run_pure, Result.andThen_ok, List.map_toArray, List.map_cons, List.map_nil, hx, hy, hr]
theorem OwnB.sk {K : Nat -> Prop} {w : World} {base : Nat} {v : Value} {bs : List Int} (h : OwnB w base v bs) (hb : ∀ x ∈ bs, 0 <= x /\ x < 256) (hK : ∀ b, base <= b -> K b) : ∃ a c, v = .slice a bs.length c /\ Sk K w a bs.length c bs := by
 obtain ⟨a, c, hv, hag⟩ := h.ag hb
 refine ⟨a, c, hv, hag, fun x hx hn => hK _ ?_⟩
 exact h.lt x.block (by rw [hv, hx]; rfl)
def brc (vs : Nat -> Value) (s : Value) : Array Value := #[vs 0, vs 1, vs 2, vs 3, vs 4, vs 5, vs 6, vs 7, vs 8, vs 9, vs 10, vs 11, vs 12, vs 13, vs 14, vs 15, s]
def updv (vs : Nat -> Value) (i : Nat) (v : Value) : Nat -> Value := fun j => if j = i then v else vs j
open Tr in
def TA (K : Nat -> Prop) (w : World) : Tr -> Value -> Prop
 | no, v => v = .nilIface
 | leaf p x, v => ∃ a n c a' n' c', v = .iface 131 (.agg #[.slice a n c, .slice a' n' c']) /\ Sk K w a n c p /\ Sk K w a' n' c' x /\ n' <= 256
 | ext p t, v => ∃ a n c u, v = .iface 226 (.agg #[.slice a n c, u]) /\ Sk K w a n c p /\ TA K w t u
 | br k x, v => ∃ vs a n c, v = .iface 221 (.agg (brc vs (.slice a n c))) /\ (∀ i, i < 16 -> TA K w (k i) (vs i)) /\ Sk K w a n c x /\ n <= 256
theorem TA.go {K : Nat -> Prop} {w w' : World} (hb : Below w.heap.size w w') : ∀ {t : Tr} {v : Value}, TA K w t v -> TA K w' t v := by
 intro t
 induction t with
 | no => intro v h; exact h
 | leaf p x => rintro v ⟨a, n, c, a', n', c', h1, h2, h3, h4⟩; exact ⟨a, n, c, a', n', c', h1, h2.go hb, h3.go hb, h4⟩
 | ext p t ih => rintro v ⟨a, n, c, u, h1, h2, h3⟩; exact ⟨a, n, c, u, h1, h2.go hb, ih h3⟩
 | br k x ih => rintro v ⟨vs, a, n, c, h1, h2, h3, h4⟩; exact ⟨vs, a, n, c, h1, fun i hi => ih i (h2 i hi), h3.go hb, h4⟩
theorem TA.drew {K : Nat -> Prop} {w : World} {t : Tr} {v : Value} (h : TA K w t v) : TA K w.drew t v := h.go (Below.refl _ _).drew
theorem TA.one {K : Nat -> Prop} {w : World} {t : Tr} {v : Value} (h : TA K w t v) : v.oneCell' = true := by
 cases t with
 | no => rw [show v = .nilIface from h]; rfl
 | leaf p x => obtain ⟨a, n, c, a', n', c', rfl, _⟩ := h; rfl
 | ext p t => obtain ⟨a, n, c, u, rfl, _⟩ := h; rfl
 | br k x => obtain ⟨vs, a, n, c, rfl, _⟩ := h; rfl
def Iv (name : String) (v : Value) (f : FuncId) (x : Value) : Prop := ∀ (w : World) (ρ : Operand -> Value) (o : Oper) (r : Operand) (xs : Array Operand) (tys : Array TypeId) (vs : Array Value), o.op = .call { callee := .invoke r name, args := xs, argTypes := tys } -> ρ r = v -> xs.map ρ = vs -> (execOp ρ o).run Tryz.prog w = .ok (.enter f (#[x] ++ vs)) w
theorem Zx3 {name : String} {T : TypeId} {f : FuncId} {x : Value} (h : ∀ (w : World) (vs : Array Value), (callMethod (.iface T x) name vs).run Tryz.prog w = .ok (.enter f (#[x] ++ vs)) w) : Iv name (.iface T x) f x := by
 intro w ρ o r xs tys vs ho hr ha
 unfold execOp
 simp [ho, resolve, invoke, hr, ha]
 rw [show (#[Value.iface T x] ++ vs)[0]? = some (.iface T x) from by rw [Array.getElem?_append_left (by simp)]; rfl]
 exact h w vs
def meth (a b c : FuncId) (T : TypeId) : FuncId := if T = 131 then a else if T = 226 then b else c
def MC (name : String) (v : Value) (vs : Array Value) (w : World) (R : Value -> World -> Prop) : Prop := ∃ T x f, v = .iface T x /\ Iv name v f x /\ Calls Tryz.prog f (#[x] ++ vs) w fun e w' => ∃ u, e = .returned u /\ R u w'
end Go.Proofs.YtefhepcplempkaaGreat
namespace Go.Proofs.YtefhepcplempkaaGreat
open Go.RowKit
open Go.ChangeMaps (setBlock)
section
variable {r : Option Nat} {m : Nat} {P : Program} {ds : List Deferred} {n : Nat} {Q : Exit → Act → World → Prop} {env : Env} {w w' : World} {ops : Array Oper} {l : List Oper} {o : Oper}
theorem Zq5 {α : Type} {B : Nat} {Kp : World -> World -> Prop} {I : List α -> World -> Prop} {Ix : Code -> List α -> World -> Prop} {xs : List α} {W : World} (h1 : KeepsFrom B W w) (h2 : Kp W w) (h3 : I xs w) : NW ds n (ownPostG B Kp I Ix xs W) .normal env w := fun a ha => ⟨h1, h2, h3⟩
theorem Zli {fn : Func} {R : Ending -> World -> Prop} {D : Nat} (hK : w.heap[D]? = some (.deferred (some []))) (v : Value) (hr : ∀ fb, (resF (lkF env fb) fn.results).run P (w.putObj D (.deferred none)) = .ok v (w.putObj D (.deferred none))) (hR : R (.returned v) (w.putObj D (.deferred none))) :
  NW [{ target := .collected D, args := #[] }] n (bodyPostM Fence.wide m P fn R) .ret env w := fun a ha => by
 show LeavesInM Fence.wide m P fn a.tmps R a.defers .returning w
 rw [ha.df]
 refine ⟨by simp, .inl ⟨_, _, rfl, run_takeDeferred hK, ?_⟩⟩
 refine ⟨v, ?_, hR⟩
 rw [Zd6, show (fun t => a.tmps.getD t undef) = lkF env (fun t => a.tmps.getD t undef) from funext ha.get]
 exact hr _
end
section
variable {P : Program} {ρ : Operand → Value} {w w' : World} {o : Oper}
end
theorem New.put {w w1 w2 : World} {g : Nat} {z cells : Array Value} {T : TypeId} (h : New w w1 g z T) (hp : Put w1 w2 g cells) : New w w2 g cells T := ⟨h.hg, by rw [hp.hw, h.hw, h.hg]; exact World.setRow_alloc_new _ _ _ _⟩
end Go.Proofs.YtefhepcplempkaaGreat
namespace Go.Proofs.YtefhepcplempkaaGreat
open Go.RowKit
theorem Sk.cutFrom {K : Nat -> Prop} {w : World} {a : Option Addr} {n c : Nat} {bs : List Int} (h : Sk K w a n c bs) (f : Nat) (hf : f <= n) :
  ∃ a' n' c', (∀ (v : World) (ρ : Operand -> Value) (o : Oper) (x y : Operand) (i : Int), o.op = .slice 23 x (some y) none none -> ρ x = .slice a n c -> ρ y = .int .i64 i -> i = f -> (execOp ρ o).run Tryz.prog v = .ok (.value (.slice a' n' c')) v) /\ Sk K w a' n' c' (bs.drop f) :=
 ⟨_, _, _, h.run_from f hf, h.from f hf⟩
theorem Sk.cutTo {K : Nat -> Prop} {w : World} {a : Option Addr} {n c : Nat} {bs : List Int} (h : Sk K w a n c bs) (f : Nat) (hf : f <= n) :
  ∃ a' n' c', (∀ (v : World) (ρ : Operand -> Value) (o : Oper) (x y : Operand) (i : Int), o.op = .slice 23 x none (some y) none -> ρ x = .slice a n c -> ρ y = .int .i64 i -> i = f -> (execOp ρ o).run Tryz.prog v = .ok (.value (.slice a' n' c')) v) /\ Sk K w a' n' c' (bs.take f) :=
 ⟨_, _, _, h.run_upto f hf, h.upto f hf⟩
def Rw (g : Nat) (w : World) (cells : Array Value) (T : TypeId) : Prop := w.heap[g]? = some (.cells cells T (0, 0))
theorem Rw.go {g : Nat} {w w' : World} {cells : Array Value} {T : TypeId} (h : Rw g w cells T) (hb : Below w.heap.size w w') : Rw g w' cells T := Below.row hb h
theorem Rw.drew {g : Nat} {w : World} {cells : Array Value} {T : TypeId} (h : Rw g w cells T) : Rw g w.drew cells T := h
def Bl (w0 w : World) : Prop := Below w0.heap.size w0 w
theorem Bl.refl (w : World) : Bl w w := Below.refl _ _
theorem Bl.go {w0 w w' : World} (h : Bl w0 w) (hb : Below w.heap.size w w') : Bl w0 w' := h.trans (hb.mono h.size)
theorem Bl.drew {w0 w : World} (h : Bl w0 w) : Bl w0 w.drew := h.go (Below.refl _ _).drew
theorem Bl.size {w0 w : World} (h : Bl w0 w) : w0.heap.size <= w.heap.size := Below.size h
section
variable {r : Option Nat} {m : Nat} {P : Program} {ds : List Deferred} {n : Nat} {Q : Exit → Act → World → Prop} {env : Env} {w : World} {ops : Array Oper} {l : List Oper} {o : Oper} {S : World → Prop} {fuel : Nat} {listed : Array Bool} {rs : List Nat}
theorem Zdr (d : Nat) (cells : Array Value) (T : TypeId) (k : Nat) (hc : ∀ fb, chk n ops env fb o d = true) (hr : ∀ fb, (execOp (ev env fb) o).run P w = .ok (.value (.slice (some ⟨w.heap.size, 0, none⟩) k k)) (w.alloc (.cells cells T)))
  (h : ∀ w' g, New w w' g cells T -> RW r m P ds n Q ops l ((d, .slice (some ⟨g, 0, none⟩) k k) :: env) w') : RW r m P ds n Q ops (o :: l) env w := rw_v d _ hc hr (h _ _ ⟨rfl, rfl⟩)
theorem Zgd (i d : Nat) (cells : Array Value) (T : TypeId) (k : Nat) (ho : ops[i]? = some o) (hc : ∀ fb, chk n ops env fb o d = true) (hr : ∀ fb, (execOp (ev env fb) o).run P w = .ok (.value (.slice (some ⟨w.heap.size, 0, none⟩) k k)) (w.alloc (.cells cells T))) (hS : ∀ w' g, New w w' g cells T -> S w')
  (h : ∀ w' g, New w w' g cells T -> DW P ds n Q ops S fuel (listed.setIfInBounds i true) ((d, .slice (some ⟨g, 0, none⟩) k k) :: env) w') (hs : AR P ds n Q ops S fuel listed env w rs) : AR P ds n Q ops S fuel listed env w (i :: rs) :=
 ar_v i d _ ho hc hr (hS _ _ ⟨rfl, rfl⟩) (h _ _ ⟨rfl, rfl⟩) hs
end
theorem Zqt {p q : List Int} (h : ¬ q.length <= p.length) : decide (p.take q.length = q) = false := by
 rw [decide_eq_false]
 intro e
 have := congrArg List.length e
 rw [List.length_take] at this
 omega
theorem Zxw {K : Nat -> Prop} {w w' : World} {g : Nat} {x : Int} (hx : 0 <= x /\ x < 256) (h : New w w' g #[.int .u8 x] 5) (hK : ∀ b, w.heap.size <= b -> K b) : Sk K w' (some ⟨g, 0, none⟩) 1 1 [x] := by
 refine ⟨⟨.inr ⟨g, 0, rfl, rfl, by omega, by omega, by unfold maxLen; omega, fun j hj => ?_⟩, (fun e => by cases e), rfl, fun y hy => by rw [List.mem_singleton.1 hy]; exact hx⟩, fun y hy _ => ?_⟩
 ·have : j = 0 := by simpa using hj
  subst this
  rw [cell_of_row _ _ _ _ _ _ h.row]; rfl
 ·cases hy
  exact hK _ (by rw [h.hg]; exact Nat.le_refl _)
set_option maxHeartbeats 1000000 in
theorem Zlx {K K' : Nat -> Prop} {w : World} {a a' : Option Addr} {n c n' c' : Nat} {p q : List Int} (h1 : Sk K w a n c p) (h2 : Sk K' w a' n' c' q) :
  Calls Tryz.prog 48 #[.slice a n c, .slice a' n' c'] w fun e w' => ∃ u, e = .returned u /\ u = .bool (decide (p = q)) /\ Bl w w' := by
 have hB := Bl.refl w
 refine Zat Tryz.func48 rfl 10 rfl ?_
 show CW _ _ _ _ _ _ _ [(0, .slice a n c), (1, .slice a' n' c')] _
 refine Zac <| Zaa <| rp 4 (.bool false) <| Zad <| Zab <| Zac <| Zaa <| rp 5 (.slice a n c) <| rv 6 (.string (strOfNums p)) (fun _ => h1.run_str _ _ _ rfl (by kernel_rfl)) <| rp 7 (.slice a' n' c') <| rv 8 (.string (strOfNums q)) (fun _ => h2.run_str _ _ _ rfl (by kernel_rfl)) <| rv 9 (.bool (decide (p = q))) (fun _ => Zq1 9 _ _ _ _ _ rfl (by kernel_rfl) (by kernel_rfl) (Zhi h1.ag.b h2.ag.b)) ?_
 refine rp 4 (.bool (decide (p = q))) <| Zad <| Zab <| Zao ?_
 exact Zae (.bool (decide (p = q))) (fun _ => by kernel_rfl) ⟨_, rfl, rfl, hB⟩
set_option maxHeartbeats 1000000 in
theorem Zkg {K K' : Nat -> Prop} {w : World} {a a' : Option Addr} {n c n' c' : Nat} {p q : List Int} (h1 : Sk K w a n c p) (h2 : Sk K' w a' n' c' q) :
  Calls Tryz.prog 95 #[.slice a n c, .slice a' n' c'] w fun e w' => ∃ u, e = .returned u /\ u = .bool (decide (p.take q.length = q)) /\ Bl w w' := by
 have hB := Bl.refl w
 have l1 := h1.len
 have l2 := h2.len
 refine Zat Tryz.func95 rfl 18 rfl ?_
 show CW _ _ _ _ _ _ _ [(0, .slice a n c), (1, .slice a' n' c')] _
 refine Zac <| Zaa <| rp 4 (.bool false) <| Zad <| Zab <| Zac <| Zaa <| rp 5 (.slice a n c) <| rp 6 (.int .i64 n) <| rp 7 (.slice a' n' c') <| rp 8 (.int .i64 n') <| rp 9 (.bool (decide ((n : Int) ≥ (n' : Int)))) ?_
 refine rp 10 (.bool (decide ((n : Int) ≥ (n' : Int)))) ?_
 cases hq1 : (decide ((n : Int) ≥ (n' : Int))) with
 | true =>
  refine rp 11 (.slice a n c) <| rp 12 (.slice a' n' c') <| rp 13 (.int .i64 n') ?_
  obtain ⟨a2, n3, c4, hr5, hs6⟩ := h1.cutTo n' (by simp only [decide_eq_true_eq, ge_iff_le] at *; omega)
  refine rv 14 (.slice a2 n3 c4) (fun _ => hr5 _ _ _ _ _ _ rfl (by kernel_rfl) (by kernel_rfl) rfl) <| rp 15 (.slice a' n' c') <| Zav 16 48 #[.slice a2 n3 c4, .slice a' n' c'] (fun _ => by kernel_rfl) (fun _ => by kernel_rfl) (R := fun u w' => u = .bool (decide (p.take n' = q)) /\ Bl (w) w') ((Zlx hs6 h2)) ?_
  rintro _ u7 ⟨rfl, hb8⟩
  replace h1 := h1.go hb8
  replace h2 := h2.go hb8
  replace hB := hB.go hb8
  replace hs6 := hs6.go hb8
  refine rp 17 (.bool (decide (p.take n' = q))) <| rp 4 (.bool (decide (p.take n' = q))) <| Zad <| Zab <| Zao ?_
  exact Zae (.bool (decide (p.take n' = q))) (fun _ => by kernel_rfl) ⟨_, rfl, by rw [l2], hB⟩
 | false =>
  refine Zan 11 (fun _ => by kernel_rfl) <| Zan 12 (fun _ => by kernel_rfl) <| Zan 13 (fun _ => by kernel_rfl) <| Zan 14 (fun _ => by kernel_rfl) <| Zan 15 (fun _ => by kernel_rfl) <| Zan 16 (fun _ => by kernel_rfl) <| rp 17 (.bool false) <| rp 4 (.bool false) <| Zad <| Zab <| Zao ?_
  exact Zae (.bool false) (fun _ => by kernel_rfl) ⟨_, rfl, by rw [Zqt (by simp only [decide_eq_false_iff_not, ge_iff_le] at *; omega)], hB⟩
set_option maxHeartbeats 1000000 in
theorem Zpn {K : Nat -> Prop} {w : World} {p : List Int} (h1 : Sk K w none 0 0 p) :
  Calls Tryz.prog 52 #[.slice none 0 0] w fun e w' => ∃ u, e = .returned u /\ ∃ a2 n2 c2, u = .slice a2 n2 c2 /\ Sk (fun b => w.heap.size <= b) w' a2 n2 c2 p /\ Bl w w' := by
 have hB := Bl.refl w
 refine Zat Tryz.func52 rfl 8 rfl ?_
 show CW _ _ _ _ _ _ _ [(0, .slice none 0 0)] _
 refine Zac <| Zaa <| rp 2 (.slice none 0 0) <| Zad <| Zab <| Zac <| Zac <| Zaa <| rp 3 (.slice none 0 0) <| rp 4 (.bool true) <| Zad <| Zab ?_
 refine Zam (fun _ => by kernel_rfl) <| Zac <| Zaa <| rp 2 (.slice none 0 0) <| Zad <| Zab <| Zao <| Zah ?_
 exact Zae (.slice none 0 0) (fun _ => by kernel_rfl) ⟨_, rfl, none, 0, 0, rfl, by have e : p = [] := List.eq_nil_of_length_eq_zero h1.len; subst e; exact Sk.nil _ _, hB⟩
set_option maxHeartbeats 1000000 in
theorem Zpm {K : Nat -> Prop} {w : World} {ad : Addr} {n c : Nat} {p : List Int} (h1 : Sk K w (some ad) n c p) (hn : n <= 1000000) :
  Calls Tryz.prog 52 #[.slice (some ad) n c] w fun e w' => ∃ u, e = .returned u /\ ∃ a2 n2 c2, u = .slice a2 n2 c2 /\ Sk (fun b => w.heap.size <= b) w' a2 n2 c2 p /\ Bl w w' := by
 have hB := Bl.refl w
 refine Zat Tryz.func52 rfl 8 rfl ?_
 show CW _ _ _ _ _ _ _ [(0, .slice (some ad) n c)] _
 refine Zac <| Zaa <| rp 2 (.slice none 0 0) <| Zad <| Zab <| Zac <| Zac <| Zaa <| rp 3 (.slice (some ad) n c) <| rp 4 (.bool false) <| Zad <| Zab ?_
 refine Zag (fun _ => by kernel_rfl) <| Zar <| Zab <| Zac <| Zaa <| Zdr 5 #[] 5 0 (fun _ => by kernel_rfl) (fun _ => by kernel_rfl) ?_
 intro w1 g2 hn3
 have hzhn3 := hB.size
 replace h1 := h1.go hn3.below
 replace hB := hB.go hn3.below
 have hO : OwnB w1 g2 (.slice (some ⟨g2, 0, none⟩) 0 0) [] := by rw [hn3.hw, hn3.hg]; exact OwnB.new _
 have hsz := hn3.size
 have hgs := hn3.hg
 refine rp 6 (.slice (some ad) n c) ?_
 obtain ⟨v1, w9, hr9, ho9, hb9⟩ := Zkp hO h1.ag (by simp; omega) (by omega)
 refine rw_v 7 v1 (fun _ => by kernel_rfl) (fun _ => Znn hr9 _ _ rfl (by kernel_rfl) (by kernel_rfl)) ?_
 obtain ⟨a9, c9, rfl, hs9⟩ := ho9.sk (K := fun b => w.heap.size <= b) (by simpa using h1.ag.b) (fun b hb => by omega)
 refine rp 2 (.slice a9 ([] ++ p).length c9) <| Zad <| Zab <| Zao ?_
 exact Zae (.slice a9 ([] ++ p).length c9) (fun _ => by kernel_rfl) ⟨_, rfl, _, _, _, rfl, hs9, hB.trans (hb9.mono (by omega))⟩
theorem Zed {K : Nat -> Prop} {w : World} {a : Option Addr} {n c : Nat} {p : List Int} (h1 : Sk K w a n c p) (hn : n <= 1000000) :
  Calls Tryz.prog 52 #[.slice a n c] w fun e w' => ∃ u, e = .returned u /\ ∃ a2 n2 c2, u = .slice a2 n2 c2 /\ Sk (fun b => w.heap.size <= b) w' a2 n2 c2 p /\ Bl w w' := by
 cases a with
 | none => obtain ⟨rfl, rfl⟩ := h1.ag.nil rfl; exact Zpn h1
 | some ad => exact Zpm h1 hn
end Go.Proofs.YtefhepcplempkaaGreat
namespace Go.Proofs.YtefhepcplempkaaGreat
open Go.RowKit
open Ni (lessP Zkf)
end Go.Proofs.YtefhepcplempkaaGreat
namespace Go.Proofs.YtefhepcplempkaaGreat
open Go.RowKit
open Tr
structure Bt (K : Nat -> Prop) (w : World) (a : Option Addr) (n : Nat) (M : List (List Int)) : Prop where
 len : M.length = n
 row : ∀ j, j < n -> ∃ g off a' n' c', a = some ⟨g, off, none⟩ /\ w.cell? ⟨g, off + j * 1, none⟩ = some (.slice a' n' c') /\ Sk K w a' n' c' (M.getD j [])
theorem Bt.go {K : Nat -> Prop} {w w' : World} {a : Option Addr} {n : Nat} {M : List (List Int)} (h : Bt K w a n M) (hb : Below w.heap.size w w') : Bt K w' a n M := ⟨h.len, fun j hj => by
 obtain ⟨g, off, a', n', c', h1, h2, h3⟩ := h.row j hj
 exact ⟨g, off, a', n', c', h1, (hb.cell (p := ⟨g, off + j * 1, none⟩) (block_lt_of_cell h2)).trans h2, h3.go hb⟩⟩
theorem Bt.drew {K : Nat -> Prop} {w : World} {a : Option Addr} {n : Nat} {M : List (List Int)} (h : Bt K w a n M) : Bt K w.drew a n M := h.go (Below.refl _ _).drew
structure Two (K K' : Nat -> Prop) (w : World) (p p' : Addr) (a a' : Option Addr) (n c n' c' : Nat) (x y : List Int) : Prop where
 cc : w.cell? p = some (.slice a n c)
 sk : Sk K w a n c x
 cc' : w.cell? p' = some (.slice a' n' c')
 sk' : Sk K' w a' n' c' y
theorem Two.drew {K K' : Nat -> Prop} {w : World} {p p' : Addr} {a a' : Option Addr} {n c n' c' : Nat} {x y : List Int} (h : Two K K' w p p' a a' n c n' c' x y) : Two K K' w.drew p p' a a' n c n' c' x y := ⟨h.cc, h.sk.drew, h.cc', h.sk'.drew⟩
theorem Ztz {M N : List (List Int)} {n : Nat} (h1 : M.length = n) (h2 : N.length = n) (h : ∀ i, i < n -> M.getD i [] = N.getD i []) : M = N := by
 refine List.ext_getElem (by omega) fun i hi hj => ?_
 have := h i (by omega)
 simpa [List.getD, hi, hj] using this
set_option maxHeartbeats 1000000 in
theorem Zvu {K K' : Nat -> Prop} {w : World} {a a' : Option Addr} {n c n' c' : Nat} {M M' : List (List Int)} (hX : Bt K w a n M) (hY : Bt K' w a' n' M') (hne : n ≠ n') :
  Calls Tryz.prog 13 #[.slice a n c, .slice a' n' c'] w fun e w' => ∃ u, e = .returned u /\ (fun u w' => u = .bool (decide (M = M')) /\ Bl w w') u w' := by
 have hB := Bl.refl w
 refine Zat Tryz.func13 rfl 28 rfl ?_
 show CW _ _ _ _ _ _ _ [(0, .slice a n c), (1, .slice a' n' c')] _
 refine Zac <| Zaa <| rp 4 (.bool false) <| Zad <| Zab <| Zac <| Zac <| Zaa <| rp 6 (.slice a n c) <| rp 7 (.int .i64 n) <| rp 8 (.slice a' n' c') <| rp 9 (.int .i64 n') ?_
 refine rv 10 (.bool true) (fun _ => Zaq (v := .bool (!((n : Int) == (n' : Int)))) (by kernel_rfl) (congrArg Value.bool (by simp; omega))) <| Zad <| Zab <| Zam (fun _ => by kernel_rfl) <| Zac <| Zaa <| rp 4 (.bool false) <| Zad <| Zab <| Zao <| Zah ?_
 exact Zae (.bool false) (fun _ => by kernel_rfl) ⟨_, rfl, by rw [decide_eq_false (fun e => hne (by rw [<- hX.len, <- hY.len, e]))], hB⟩
set_option maxHeartbeats 1000000 in
theorem Zvv {K K' : Nat -> Prop} {w : World} {a a' : Option Addr} {n c c' : Nat} {M M' : List (List Int)} (hX : Bt K w a n M) (hY : Bt K' w a' n M') (hn : n <= 7600000000002) :
  Calls Tryz.prog 13 #[.slice a n c, .slice a' n c'] w fun e w' => ∃ u, e = .returned u /\ (fun u w' => u = .bool (decide (M = M')) /\ Bl w w') u w' := by
 have hB := Bl.refl w
 refine Zat Tryz.func13 rfl 28 rfl ?_
 show CW _ _ _ _ _ _ _ [(0, .slice a n c), (1, .slice a' n c')] _
 refine Zac <| Zaa <| rp 4 (.bool false) <| Zad <| Zab <| Zac <| Zac <| Zaa <| rp 6 (.slice a n c) <| rp 7 (.int .i64 n) <| rp 8 (.slice a' n c') <| rp 9 (.int .i64 n) ?_
 refine rv 10 (.bool false) (fun _ => Zaq (v := .bool (!((n : Int) == (n : Int)))) (by kernel_rfl) (congrArg Value.bool (by simp))) <| Zad <| Zab <| Zag (fun _ => by kernel_rfl) <| Zar <| Zab <| Zac <| Zac <| Zaa <| rp 5 (.int .i64 0) <| Zad <| Zab ?_
 refine Zbc ?_
 refine Ze6 (X := Nat) (fun j => [(5, .int .i64 ((j : Nat) : Int)), (0, .slice a n c), (1, .slice a' n c')]) (fun j v => Bl w v /\ j <= n /\ ∀ i, i < j -> M.getD i [] = M'.getD i []) (fun j => n - j) 0 (by exact ⟨fun _ => by kernel_rfl, ⟨fun _ => by kernel_rfl, ⟨fun _ => by kernel_rfl, trivial⟩⟩⟩) ⟨hB, Nat.zero_le _, fun i hi => by omega⟩ ?_
 clear hB
 rintro j v ⟨hB, hj, hI⟩
 by_cases hlt : j < n
 ·skip
  obtain ⟨g1, o1, a1, n1, c1, e1, hc1, hs1⟩ := (hX.go hB).row j hlt
  obtain ⟨g2, o2, a2, n2, c2, e2, hc2, hs2⟩ := (hY.go hB).row j hlt
  subst e1
  subst e2
  obtain ⟨x, ex⟩ : ∃ x, M.getD j [] = x := ⟨_, rfl⟩
  obtain ⟨y, ey⟩ : ∃ y, M'.getD j [] = y := ⟨_, rfl⟩
  rw [ex] at hs1
  rw [ey] at hs2
  have hS : Two K K' v ⟨g1, o1 + j * 1, none⟩ ⟨g2, o2 + j * 1, none⟩ a1 a2 n1 c1 n2 c2 x y := ⟨hc1, hs1, hc2, hs2⟩
  refine Zac <| Zac <| Zaa <| rp 11 (.int .i64 ((j : Nat) : Int)) <| rp 12 (.slice (some ⟨g1, o1, none⟩) n c) <| rp 13 (.int .i64 n) <| rv 14 (.bool true) (fun _ => Zaq (v := .bool (decide (((j : Nat) : Int) < (n : Int)))) (by kernel_rfl) (congrArg Value.bool (decide_eq_true (by omega)))) <| Zad <| Zab <| Zam (fun _ => by kernel_rfl) <| Zar <| Zab ?_
  refine Zac <| Zbc <| Zac <| Za7 (fun v => Two K K' v ⟨g1, o1 + j * 1, none⟩ ⟨g2, o2 + j * 1, none⟩ a1 a2 n1 c1 n2 c2 x y) (by kernel_rfl) (hS.drew) ?_
  replace hB := hB.drew
  replace hS := hS.drew
  refine dt 0 17 (.slice (some ⟨g1, o1, none⟩) n c) (fun v hv _ => by kernel_rfl) hS <| dt 1 18 (.int .i64 ((j : Nat) : Int)) (fun v hv _ => by kernel_rfl) hS <| dt 2 19 (.pointer (some ⟨g1, o1 + j * 1, none⟩)) (fun v hv _ => Zbt 28 _ _ g1 o1 j n c 1 23 rfl (by kernel_rfl) (by kernel_rfl) hlt Tryz.underlying28 (by kernel_rfl)) hS <| dt 3 20 (.slice a1 n1 c1) (fun v hv _ => Zai 23 _ _ _ _ rfl (by kernel_rfl) hv.cc Tryz.underlying23 rfl) hS <| dt 4 21 (.string (strOfNums x)) (fun v hv _ => hv.sk.run_str _ _ _ rfl (by kernel_rfl)) hS <| dt 5 22 (.slice (some ⟨g2, o2, none⟩) n c') (fun v hv _ => by kernel_rfl) hS <| dt 6 23 (.int .i64 ((j : Nat) : Int)) (fun v hv _ => by kernel_rfl) hS <| dt 7 24 (.pointer (some ⟨g2, o2 + j * 1, none⟩)) (fun v hv _ => Zbt 28 _ _ g2 o2 j n c' 1 23 rfl (by kernel_rfl) (by kernel_rfl) hlt Tryz.underlying28 (by kernel_rfl)) hS <| dt 8 25 (.slice a2 n2 c2) (fun v hv _ => Zai 23 _ _ _ _ rfl (by kernel_rfl) hv.cc' Tryz.underlying23 rfl) hS <| dt 9 26 (.string (strOfNums y)) (fun v hv _ => hv.sk'.run_str _ _ _ rfl (by kernel_rfl)) hS <| dt 10 27 (.bool (!decide (x = y))) (fun v hv _ => Zuz 9 _ _ _ _ _ rfl (by kernel_rfl) (by kernel_rfl) (congrArg Bool.not (Zhi hS.sk.ag.b hS.sk'.ag.b))) hS <| Zax (by kernel_rfl) ?_
  refine Zab ?_
  by_cases hpq : x = y
  ·skip
   rw [show (!decide (x = y)) = false from by simp [hpq]]
   refine Zag (fun _ => by kernel_rfl) <| Zar <| Zbf <| Zab <| Zaa <| rp 15 (.int .i64 ((j : Nat) : Int)) <| rv 16 (.int .i64 (((j : Nat) : Int) + 1)) (fun _ => Zaq (v := .int .i64 (IntKind.i64.wrap (((j : Nat) : Int) + 1))) (by kernel_rfl) (congrArg (Value.int .i64) (Ziv (by omega) (by omega)))) <| rp 5 (.int .i64 (((j : Nat) : Int) + 1)) <| Zad ?_
   exact Zdv (E := fun j => [(5, .int .i64 ((j : Nat) : Int)), (0, .slice (some ⟨g1, o1, none⟩) n c), (1, .slice (some ⟨g2, o2, none⟩) n c')]) (R := fun j v => Bl w v /\ j <= n /\ ∀ i, i < j -> M.getD i [] = M'.getD i []) (μ := fun j => n - j) (x := j) (j + 1) (by exact ⟨fun _ => by kernel_rfl, ⟨fun _ => by kernel_rfl, ⟨fun _ => by kernel_rfl, trivial⟩⟩⟩) ⟨hB, by omega, fun i hi => (Nat.lt_succ_iff_lt_or_eq.1 hi).elim (fun h => hI i h) (fun h => by rw [h, ex, ey, hpq])⟩ (by show n - (j + 1) < n - j; omega)
  ·skip
   rw [show (!decide (x = y)) = true from by simp [hpq]]
   refine Zam (fun _ => by kernel_rfl) <| Zac <| Zaa <| rp 4 (.bool false) <| Zad <| Zab <| Zao <| Zbv <| Zah <| Zah <| Zbv <| Zah ?_
   exact Zae (.bool false) (fun _ => by kernel_rfl) ⟨_, rfl, by rw [decide_eq_false (fun e => hpq (by rw [<- ex, <- ey, e]))], hB⟩
 obtain rfl : j = n := by omega
 refine Zac <| Zac <| Zaa <| rp 11 (.int .i64 ((j : Nat) : Int)) <| rp 12 (.slice a j c) <| rp 13 (.int .i64 j) <| rv 14 (.bool false) (fun _ => Zaq (v := .bool (decide (((j : Nat) : Int) < (j : Int)))) (by kernel_rfl) (congrArg Value.bool (decide_eq_false (by omega)))) <| Zad <| Zab <| Zag (fun _ => by kernel_rfl) <| Ze7 <| Za1 ?_
 refine Za1 <| Zbw <| Zab <| Zac <| Zaa <| rp 4 (.bool true) <| Zad <| Zab <| Zao ?_
 exact Zae (.bool true) (fun _ => by kernel_rfl) ⟨_, rfl, by rw [decide_eq_true (Ztz hX.len hY.len hI)], hB⟩
theorem Zhj {K K' : Nat -> Prop} {w : World} {a a' : Option Addr} {n c n' c' : Nat} {M M' : List (List Int)} (hX : Bt K w a n M) (hY : Bt K' w a' n' M') (hn : n <= 7600000000002) :
  Calls Tryz.prog 13 #[.slice a n c, .slice a' n' c'] w fun e w' => ∃ u, e = .returned u /\ u = .bool (decide (M = M')) /\ Bl w w' := by
 by_cases h : n = n'
 ·subst h; exact Zvv hX hY hn
 ·exact Zvu hX hY h
end Go.Proofs.YtefhepcplempkaaGreat
