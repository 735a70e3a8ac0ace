/- A store's map: look up, store, delete. -/
import Derived.Test.YtjpcfdhkgfaeeaaG12
import Derived.Maps.Keyed
namespace Go.Proofs.Ytjpcfdhkgfaeeaa
open Go.RowKit
open Go.ChangeMaps (setBlock)
set_option linter.unusedVariables false
set_option maxRecDepth 100000
/-- One thing of a store: its digest, its text, how many references there are. -/
structure Th where
  d : List Int
  s : ByteArray
  r : Int
def Th.key (x : Th) : Value := .agg (B8 x.d)
def Th.val (x : Th) : Value := .agg #[.string x.s, .int .i64 x.r]
def thz : Value := .agg #[.string ByteArray.empty, .int .i64 0]
/-- The entries of a map are these things, in this order. -/
def Ents (es : List MapEntry) (L : List Th) : Prop := es.map (fun e => (e.key, e.val)) = L.map fun x => (x.key, x.val)
def Lens (L : List Th) : Prop := ∀ x ∈ L, x.d.length = 32
def findT (d : List Int) : List Th → Option (Nat × Th)
  | [] => none
  | x :: r => if x.d = d then some (0, x) else match findT d r with
    | none => none
    | some (j, y) => some (j + 1, y)
theorem check_loop (xs : List Int) (hx : xs.length = 32) (em : Bool) (m : Nat) (w : World) : ∀ (n k : Nat), k + n = 32 →
    (forIn (m := Sem) (List.range' k n) PUnit.unit fun i __s => do
            let __do_lift ← sizeOf 5
            let __do_lift ← part 5 (B8 xs) (i * __do_lift)
            Instr.checkKey em (m + 1) 5 __do_lift
            pure (ForInStep.yield PUnit.unit)).run Try.prog w = .ok PUnit.unit w
  | 0, k, hk => by simp
  | n + 1, k, hk => by
    have ih := check_loop xs hx em m w n (k + 1) (by omega)
    have hs : (Try.prog.info? 5).map (·.size) = some 1 := by kernel_rfl
    cases hq : Try.prog.info? 5 with
    | none => simp [hq] at hs
    | some y =>
      have hy1 : y.size = 1 := by simpa [hq] using hs
      have hlx : k < xs.length := by omega
      have px : (part 5 (B8 xs) (k * 1)).run Try.prog w = .ok (.int .u8 (xs.getD k 0)) w := by
        simp only [part, Sem.run_bind, isAgg, run_underlying Try.underlying5, Result.andThen_ok, Sem.run_pure, Bool.false_eq_true, if_false, Nat.mul_one, B8_get xs k hlx]
      have pc : (Instr.checkKey em (m + 1) 5 (.int .u8 (xs.getD k 0))).run Try.prog w = .ok () w := by
        rw [Instr.checkKey]
        simp only [Sem.run_bind, run_underlying Try.underlying5, Result.andThen_ok, Sem.run_pure]
      rw [List.range'_succ, List.forIn_cons]
      simp only [Sem.run_bind, sizeOf, typeInfo, run_program, hq, hy1, Sem.run_pure, Result.andThen_ok, px, pc]
      simp only [sizeOf, typeInfo] at ih
      exact ih
theorem check_digest (xs : List Int) (hx : xs.length = 32) (em : Bool) (w : World) : (Instr.checkKey em 10000 30 (.agg (B8 xs))).run Try.prog w = .ok () w := by
  rw [show (10000 : Nat) = 9998 + 1 + 1 from rfl, Instr.checkKey]
  simp only [Sem.run_bind, run_underlying Try.underlying30, Result.andThen_ok]
  rw [Std.Legacy.Range.forIn_eq_forIn_range']
  simp only [Std.Legacy.Range.size]
  rw [show (32 - 0 + 1 - 1) / 1 = 32 from rfl, check_loop xs hx em 9998 w 32 0 (by omega)]
  simp
theorem bits_all : ∀ (l : List Int) (n : Nat), ((l.map (Value.int .u8)).zip (l.map (Value.int .u8))).all (fun x => match x with | (x, y) => Instr.sameBits n x y) = true
  | [], n => rfl
  | x :: r, n => by
    have ih := bits_all r n
    simp only [List.map_cons, List.zip_cons_cons, List.all_cons, ih, Bool.and_true]
    cases n <;> simp [Instr.sameBits]
theorem same_bits (xs : List Int) : Instr.sameBits 10000 (.agg (B8 xs)) (.agg (B8 xs)) = true := by
  rw [show (10000 : Nat) = 9999 + 1 from rfl, Instr.sameBits]
  simp only [B8, beq_self_eq_true, Bool.true_and]
  exact bits_all xs 9999
theorem stays (xs : List Int) (w : World) : (Instr.keyThatStays (.agg (B8 xs)) (.agg (B8 xs))).run Try.prog w = .ok (.agg (B8 xs)) w := by
  unfold Instr.keyThatStays
  rw [if_pos (same_bits xs), Sem.run_pure]
theorem ask_run (d : List Int) (hd : d.length = 32) (w : World) : ∀ (L : List Th) (es : List MapEntry) (i : Nat), Lens L → Ents es L →
    (Instr.findAsking 30 (.agg (B8 d)) es i).run Try.prog w = .ok (match findT d L with | none => none | some (j, y) => some (i + j, y.val)) w
  | [], [], i, _, _ => by simp [Instr.findAsking, findT]
  | [], e :: es, i, _, h => by simp [Ents] at h
  | x :: L, [], i, _, h => by simp [Ents] at h
  | x :: L, e :: es, i, hl, h => by
    obtain ⟨⟨hk, hv⟩, hr⟩ : (e.key = x.key ∧ e.val = x.val) ∧ Ents es L := by
      unfold Ents at h
      simp only [List.map_cons, List.cons.injEq, Prod.mk.injEq] at h
      exact h
    have ih := ask_run d hd w L es (i + 1) (fun y hy => hl y (List.mem_cons_of_mem _ hy)) hr
    have hq : (Op.equalIn Op.maxDepth 30 (.agg (B8 d)) (.agg (B8 x.d))).run Try.prog w = .ok (d == x.d) w := eqD d x.d hd (hl x (by simp)) w
    rw [Instr.findAsking]
    simp only [Sem.run_bind, hk, Th.key, Op.equal, hq, Result.andThen_ok]
    unfold findT
    by_cases hx : x.d = d
    · rw [if_pos hx, show (d == x.d) = true from by rw [hx]; simp]
      simp [hv]
    · rw [if_neg hx, show (d == x.d) = false from by rw [beq_eq_false_iff_ne]; exact fun e => hx e.symm]
      simp only [Bool.false_eq_true, if_false]
      rw [ih]
      cases findT d L with
      | none => rfl
      | some p => simp only; rw [show i + 1 + p.1 = i + (p.1 + 1) from by omega]
theorem find_run (d : List Int) (hd : d.length = 32) (w : World) (L : List Th) (es : List MapEntry) (hl : Lens L) (h : Ents es L) :
    (Instr.findKey 30 (.agg (B8 d)) es).run Try.prog w = .ok (match findT d L with | none => none | some (j, y) => some (j, y.val)) w := by
  have hn : Instr.findNow (.array 32 5) (.agg (B8 d)) es 0 = none ∨ es = [] := by
    cases es with
    | nil => exact .inr rfl
    | cons e r => left; rw [Instr.findNow]; rfl
  unfold Instr.findKey
  simp only [Sem.run_bind, run_underlying Try.underlying30, Result.andThen_ok]
  have ha := ask_run d hd w L es 0 hl h
  rcases hn with hn | rfl
  · rw [hn]
    simp only
    rw [ha]
    cases findT d L with
    | none => rfl
    | some p => simp
  · have : L = [] := by
      cases L with
      | nil => rfl
      | cons x r => simp [Ents] at h
    subst this
    rw [Instr.findNow]
    simp [findT]
theorem zero_entry (w : World) : (zeroValue 72).run Try.prog w = .ok thz w := by
  have hs : (Try.prog.info? 72).map (·.zero) = some (some thz) := by kernel_rfl
  cases hq : Try.prog.info? 72 with
  | none => simp [hq] at hs
  | some y =>
    have hy1 : y.zero = some thz := by simpa [hq] using hs
    simp [zeroValue, typeInfo, hq, hy1, Result.andThen]
/-- The store's map, in its block. -/
def MapAt (w : World) (m : Nat) (L : List Th) : Prop := Lens L ∧ ∃ es clock, w.heap[m]? = some (.map es clock) ∧ Ents es.toList L
theorem look_run {w : World} {m : Nat} {L : List Th} (h : MapAt w m L) (d : List Int) (hd : d.length = 32) :
    (Instr.lookup 67 (.map (some m)) (.agg (B8 d)) true).run Try.prog w = .ok (match findT d L with | none => .tuple #[thz, .bool false] | some (_, y) => .tuple #[y.val, .bool true]) w := by
  obtain ⟨hl, es, clock, hm, he⟩ := h
  have hf := find_run d hd w L es.toList hl he
  cases hq : findT d L with
  | none =>
    rw [hq] at hf
    simp [Instr.lookup, run_underlying Try.underlying67, MapKept.run_getObj_map hm, check_digest d hd, hf, Result.andThen]
    rfl
  | some p =>
    rw [hq] at hf
    simp [Instr.lookup, run_underlying Try.underlying67, MapKept.run_getObj_map hm, check_digest d hd, hf, Result.andThen]
end Go.Proofs.Ytjpcfdhkgfaeeaa
