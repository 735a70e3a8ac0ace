/- Tries in memory: slices of bytes in blocks of which something is said, trees of them; slices cut, texts of bytes, appends, calls by an interface. -/
import Derived.Test.YtdkpilgelgjieaaG00
import Derived.Test.YtdkpilgelgjieaaG01
import Derived.Test.YtdkpilgelgjieaaG02
import Derived.Lib.AppendZeros
import Derived.RangeFuncNested
import Derived.Maps.RangeRun
import Derived.Deep.WholeRow
namespace Go.Proofs.Ytdkpilgelgjieaa
open Go.RowKit
set_option linter.unusedVariables false
set_option maxRecDepth 100000
/-- A slice of bytes in a block of which K is said. -/
structure Sk (K : Nat → Prop) (w : World) (a : Option Addr) (n c : Nat) (bs : List Int) : Prop where
  ag : Ag w a n c bs
  k : ∀ x, a = some x → 0 < n → K x.block
section
variable {K : Nat → Prop} {w w' : World} {a : Option Addr} {n c : Nat} {bs : List Int}
theorem Sk.go (h : Sk K w a n c bs) (hb : Below w.heap.size w w') : Sk K w' a n c bs := ⟨h.ag.at hb, h.k⟩
theorem Sk.drew (h : Sk K w a n c bs) : Sk K w.drew a n c bs := h.go (Below.refl _ _).drew
theorem Sk.len (h : Sk K w a n c bs) : bs.length = n := h.ag.l
theorem Sk.from (h : Sk K w a n c bs) (f : Nat) (hf : f ≤ n) : Sk K w (if c = f then a else a.map (·.add (f * 1))) (n - f) (c - f) (bs.drop f) := by
  have hl := h.len
  refine ⟨⟨?_, ?_, by simp [hl], fun x hx => h.ag.b x (List.mem_of_mem_drop hx)⟩, ?_⟩
  · rcases h.ag.i with ⟨h1, h2⟩ | ⟨gb, off, h1, h2, h3, h4, h5, h7⟩
    · exact .inl ⟨by omega, by simp [h2]⟩
    · by_cases hn : n - f = 0
      · exact .inl ⟨hn, List.drop_eq_nil_of_le (by omega)⟩
      · refine .inr ⟨gb, off + f, ?_, by simp [hl], by omega, by omega, by omega, fun j hj => ?_⟩
        · rw [if_neg (by omega), h1, Option.map_some, addr_add, Nat.mul_one]
        · rw [List.length_drop] at hj
          rw [show off + f + j = off + (f + j) from by omega, h7 (f + j) (by omega)]
          simp [List.getD_eq_getElem?_getD, List.getElem?_drop]
  · intro e
    have : a = none := by
      by_cases hc : c = f
      · rw [if_pos hc] at e; exact e
      · rw [if_neg hc] at e; simpa using e
    have := h.ag.nil this
    omega
  · intro x hx hn
    rcases h.ag.i with ⟨h1, h2⟩ | ⟨gb, off, h1, h2, h3, h4, h5, h7⟩
    · omega
    · have hk := h.k _ h1 (by omega)
      by_cases hc : c = f
      · omega
      · rw [if_neg hc, h1, Option.map_some, addr_add] at hx
        cases hx
        exact hk
theorem Sk.upto (h : Sk K w a n c bs) (f : Nat) (hf : f ≤ n) : Sk K w (if c = 0 then a else a.map (·.add (0 * 1))) f c (bs.take f) := by
  have hl := h.len
  have ha : ∀ gb off, a = some ⟨gb, off, none⟩ → (if c = 0 then a else a.map (·.add (0 * 1))) = some ⟨gb, off, none⟩ := by
    intro gb off e
    split
    · exact e
    · rw [e, Option.map_some, addr_add, Nat.mul_one, Nat.add_zero]
  refine ⟨⟨?_, ?_, by simp; omega, fun x hx => h.ag.b x (List.mem_of_mem_take hx)⟩, ?_⟩
  · rcases h.ag.i with ⟨h1, h2⟩ | ⟨gb, off, h1, h2, h3, h4, h5, h7⟩
    · exact .inl ⟨by omega, by simp [h2]⟩
    · by_cases hn : f = 0
      · exact .inl ⟨hn, by simp [hn]⟩
      · refine .inr ⟨gb, off, ha gb off h1, by simp; omega, by omega, by omega, h5, fun j hj => ?_⟩
        rw [List.length_take] at hj
        rw [h7 j (by omega)]
        simp [List.getD_eq_getElem?_getD, List.getElem?_take_of_lt (show j < f by omega)]
  · intro e
    have : a = none := by
      by_cases hc : c = 0
      · rw [if_pos hc] at e; exact e
      · rw [if_neg hc] at e; simpa using e
    have := h.ag.nil this
    omega
  · intro x hx hn
    rcases h.ag.i with ⟨h1, h2⟩ | ⟨gb, off, h1, h2, h3, h4, h5, h7⟩
    · omega
    · rw [ha gb off h1] at hx
      cases hx
      exact h.k _ h1 (by omega)
theorem Sk.cap (h : Sk K w a n c bs) (hn : 0 < n) : n ≤ c := by
  rcases h.ag.i with ⟨h1, h2⟩ | ⟨gb, off, h1, h2, h3, h4, h5, h7⟩ <;> omega
/-- x[:f] -/
theorem Sk.run_upto (h : Sk K w a n c bs) (f : Nat) (hf : f ≤ n) (v : World) (ρ : Operand → Value) (o : Oper) (x y : Operand) (i : Int) (ho : o.op = .slice 29 x none (some y) none) (hx : ρ x = .slice a n c) (hy : ρ y = .int .i64 i) (hi : i = f) :
    (execOp ρ o).run Try.prog v = .ok (.value (.slice (if c = 0 then a else a.map (·.add (0 * 1))) f c)) v := by
  subst hi
  unfold execOp
  rw [ho]
  have h2 : f ≤ c := by
    by_cases hn : 0 < n
    · have := h.cap hn; omega
    · omega
  simp [hx, hy, Instr.sliceAt, run_underlying Try.underlying29, Instr.slice, Instr.sliceBounds, Instr.sliceBound, asIntOf, h2, Result.andThen]
end
/-- Sixteen values and one more. -/
def brc (vs : Nat → Value) (s : Value) : Array Value := #[vs 0, vs 1, vs 2, vs 3, vs 4, vs 5, vs 6, vs 7, vs 8, vs 9, vs 10, vs 11, vs 12, vs 13, vs 14, vs 15, s]
open Tr in
/-- A tree that is there, is called by its type's own function. -/
def Iv (name : String) (v : Value) (f : FuncId) (x : Value) : Prop := ∀ (w : World) (ρ : Operand → Value) (o : Oper) (r : Operand) (xs : Array Operand) (tys : Array TypeId) (vs : Array Value), o.op = .call { callee := .invoke r name, args := xs, argTypes := tys } → ρ r = v → xs.map ρ = vs → (execOp ρ o).run Try.prog w = .ok (.enter f (#[x] ++ vs)) w
/-- What a call by an interface leaves. -/
def MC (name : String) (v : Value) (vs : Array Value) (w : World) (R : Value → World → Prop) : Prop := ∃ T x f, v = .iface T x ∧ Iv name v f x ∧ Calls Try.prog f (#[x] ++ vs) w fun e w' => ∃ u, e = .returned u ∧ R u w'
end Go.Proofs.Ytdkpilgelgjieaa
/- Ranges over functions, yields, walks over maps, for the walk by environments. -/
namespace Go.Proofs.Ytdkpilgelgjieaa
open Go.RowKit
open Go.ChangeMaps (setBlock)
set_option linter.unusedVariables false
set_option maxRecDepth 100000
section
variable {r : Option Nat} {m : Nat} {P : Program} {ds : List Deferred} {n : Nat} {Q : Exit → Act → World → Prop} {env : Env} {w w' : World} {ops : Array Oper} {l : List Oper} {o : Oper}
end
section
variable {P : Program} {ρ : Operand → Value} {w w' : World} {o : Oper}
end
/-- A new block that is filled at once. -/
theorem New.put {w w1 w2 : World} {g : Nat} {z cells : Array Value} {T : TypeId} (h : New w w1 g z T) (hp : Put w1 w2 g cells) : New w w2 g cells T := ⟨h.hg, by rw [hp.hw, h.hw, h.hg]; exact World.setRow_alloc_new _ _ _ _⟩
end Go.Proofs.Ytdkpilgelgjieaa
/- Slices of bytes: compared, their beginnings, copied, joined. -/
namespace Go.Proofs.Ytdkpilgelgjieaa
open Go.RowKit
set_option linter.unusedVariables false
set_option maxRecDepth 100000
theorem Sk.cutTo {K : Nat → Prop} {w : World} {a : Option Addr} {n c : Nat} {bs : List Int} (h : Sk K w a n c bs) (f : Nat) (hf : f ≤ n) :
    ∃ a' n' c', (∀ (v : World) (ρ : Operand → Value) (o : Oper) (x y : Operand) (i : Int), o.op = .slice 29 x none (some y) none → ρ x = .slice a n c → ρ y = .int .i64 i → i = f → (execOp ρ o).run Try.prog v = .ok (.value (.slice a' n' c')) v) ∧ Sk K w a' n' c' (bs.take f) :=
  ⟨_, _, _, h.run_upto f hf, h.upto f hf⟩
/-- A block and its row. -/
def Rw (g : Nat) (w : World) (cells : Array Value) (T : TypeId) : Prop := w.heap[g]? = some (.cells cells T (0, 0))
theorem Rw.go {g : Nat} {w w' : World} {cells : Array Value} {T : TypeId} (h : Rw g w cells T) (hb : Below w.heap.size w w') : Rw g w' cells T := Below.row hb h
theorem Rw.drew {g : Nat} {w : World} {cells : Array Value} {T : TypeId} (h : Rw g w cells T) : Rw g w.drew cells T := h
/-- How far the world has gone. -/
def Bl (w0 w : World) : Prop := Below w0.heap.size w0 w
theorem Bl.refl (w : World) : Bl w w := Below.refl _ _
theorem Bl.go {w0 w w' : World} (h : Bl w0 w) (hb : Below w.heap.size w w') : Bl w0 w' := h.trans (hb.mono h.size)
theorem Bl.drew {w0 w : World} (h : Bl w0 w) : Bl w0 w.drew := h.go (Below.refl _ _).drew
theorem Bl.size {w0 w : World} (h : Bl w0 w) : w0.heap.size ≤ w.heap.size := Below.size h
section
variable {r : Option Nat} {m : Nat} {P : Program} {ds : List Deferred} {n : Nat} {Q : Exit → Act → World → Prop} {env : Env} {w : World} {ops : Array Oper} {l : List Oper} {o : Oper} {S : World → Prop} {fuel : Nat} {listed : Array Bool} {rs : List Nat}
theorem rw_newS (d : Nat) (cells : Array Value) (T : TypeId) (k : Nat) (hc : ∀ fb, chk n ops env fb o d = true) (hr : ∀ fb, (execOp (ev env fb) o).run P w = .ok (.value (.slice (some ⟨w.heap.size, 0, none⟩) k k)) (w.alloc (.cells cells T)))
    (h : ∀ w' g, New w w' g cells T → RW r m P ds n Q ops l ((d, .slice (some ⟨g, 0, none⟩) k k) :: env) w') : RW r m P ds n Q ops (o :: l) env w := rw_v d _ hc hr (h _ _ ⟨rfl, rfl⟩)
theorem ar_newS (i d : Nat) (cells : Array Value) (T : TypeId) (k : Nat) (ho : ops[i]? = some o) (hc : ∀ fb, chk n ops env fb o d = true) (hr : ∀ fb, (execOp (ev env fb) o).run P w = .ok (.value (.slice (some ⟨w.heap.size, 0, none⟩) k k)) (w.alloc (.cells cells T))) (hS : ∀ w' g, New w w' g cells T → S w')
    (h : ∀ w' g, New w w' g cells T → DW P ds n Q ops S fuel (listed.setIfInBounds i true) ((d, .slice (some ⟨g, 0, none⟩) k k) :: env) w') (hs : AR P ds n Q ops S fuel listed env w rs) : AR P ds n Q ops S fuel listed env w (i :: rs) :=
  ar_v i d _ ho hc hr (hS _ _ ⟨rfl, rfl⟩) (h _ _ ⟨rfl, rfl⟩) hs
end
theorem one_sk {K : Nat → Prop} {w w' : World} {g : Nat} {x : Int} (hx : 0 ≤ x ∧ x < 256) (h : New w w' g #[.int .u8 x] 5) (hK : ∀ b, w.heap.size ≤ b → K b) : Sk K w' (some ⟨g, 0, none⟩) 1 1 [x] := by
  refine ⟨⟨.inr ⟨g, 0, rfl, rfl, by omega, by omega, by unfold maxLen; omega, fun j hj => ?_⟩, (fun e => by cases e), rfl, fun y hy => by rw [List.mem_singleton.1 hy]; exact hx⟩, fun y hy _ => ?_⟩
  · have : j = 0 := by simpa using hj
    subst this
    rw [cell_of_row _ _ _ _ _ _ h.row]; rfl
  · cases hy
    exact hK _ (by rw [h.hg]; exact Nat.le_refl _)
end Go.Proofs.Ytdkpilgelgjieaa
/- Slices of bytes joined. -/
namespace Go.Proofs.Ytdkpilgelgjieaa
open Go.RowKit
set_option linter.unusedVariables false
set_option maxRecDepth 100000
theorem ol_app2 {w w' : World} {v u r : Value} {t1 t2 : TypeId} {ρ : Operand → Value} {o : Oper} (hr : ∀ ty, (Builtin.append_ #[t1, t2] ty #[v, u]).run Try.prog w = .ok r w') (x y : Operand) (ho : o.op = .call { callee := .builtin .append, args := #[x, y], argTypes := #[t1, t2] }) (hx : ρ x = v) (hy : ρ y = u) : (execOp ρ o).run Try.prog w = .ok (.value r) w' := by
  unfold execOp
  simp only [ho, resolve, invoke, builtin, Sem.run_bind, Sem.run_pure, Result.andThen_ok, List.map_toArray, List.map_cons, List.map_nil, hx, hy, hr]
theorem Sk.old {K : Nat → Prop} {w : World} {a : Option Addr} {n c : Nat} {bs : List Int} (h : Sk K w a n c bs) {x : Addr} (hx : a = some x) (hn : 0 < n) : x.block < w.heap.size := by
  rcases h.ag.i with ⟨h1, h2⟩ | ⟨gb, off, h1, h2, h3, h4, h5, h7⟩
  · omega
  · rw [hx] at h1
    cases h1
    have := block_lt_of_cell (h7 0 (by omega))
    exact this
end Go.Proofs.Ytdkpilgelgjieaa
