/- What digest.wordsOf answers: the four words of every piece of 32 bytes. -/
import Derived.Test.YtmofehloiiopfaaG11
import Derived.Laws.CopyOwn
import Derived.Deep.RegionLaw
import Derived.Deep.RegionHeld3
import Derived.Deep.DrawnRows
namespace Go.Proofs.Ytmofehloiiopfaa.Di
set_option maxRecDepth 100000
open Go.RowKit
/-- A row of bytes, as values. -/
def B8 (bs : List Int) : Array Value := (bs.map (Value.int .u8)).toArray
theorem B8_size (bs : List Int) : (B8 bs).size = bs.length := by simp [B8]
theorem B8_get (bs : List Int) (k : Nat) (h : k < bs.length) : (B8 bs)[k]? = some (.int .u8 (bs.getD k 0)) := by simp [B8, h]
def or8 (m b : Int) : Int := wr (m * 256 + b)
def wstep (m : S4) (k : Nat) (b : Int) : S4 :=
  if k < 8 then { m with a := or8 m.a b } else if k < 16 then { m with b := or8 m.b b } else if k < 24 then { m with c := or8 m.c b } else { m with d := or8 m.d b }
def wfold (bs : List Int) : Nat → S4
  | 0 => ⟨0, 0, 0, 0⟩
  | k + 1 => wstep (wfold bs k) k (bs.getD k 0)
def words (bs : List Int) : S4 := wfold bs 32
def V4 (s : S4) : Array Value := #[.int .u64 s.a, .int .u64 s.b, .int .u64 s.c, .int .u64 s.d]
/-- Two new blocks of four words each, behind block n. -/
structure Rows2 (n : Nat) (w0 w : World) (r3 r4 : Array Value) : Prop where
  h3 : w.heap[n + 1]? = some (.cells r3 75)
  h4 : w.heap[n + 1 + 1]? = some (.cells r4 75)
  bel : Below n w0 w
end Go.Proofs.Ytmofehloiiopfaa.Di
/- What digest.bytesOf answers: the 32 bytes of every four words. -/
namespace Go.Proofs.Ytmofehloiiopfaa.Di
set_option maxRecDepth 100000
open Go.RowKit
/-- Three blocks, from block n on; what was there ahead of them is as it was. -/
structure Tri (n : Nat) (w0 w : World) (A B C : Obj) : Prop where
  hA : w.heap[n]? = some A
  hB : w.heap[n + 1]? = some B
  hC : w.heap[n + 1 + 1]? = some C
  bel : Below n w0 w
theorem tri_new (w : World) (A B C : Obj) : Tri w.heap.size w (((w.alloc A).alloc B).alloc C) A B C := by
  have s1 : (w.alloc A).heap.size = w.heap.size + 1 := by simp
  have s2 : ((w.alloc A).alloc B).heap.size = w.heap.size + 1 + 1 := by simp
  have h1 := heap_alloc_new w A
  have h2 := heap_alloc_new (w.alloc A) B
  have h3 := heap_alloc_new ((w.alloc A).alloc B) C
  rw [s1] at h2
  rw [s2] at h3
  exact ⟨by rw [Below.heap_alloc _ _ _ (by omega), Below.heap_alloc _ _ _ (by omega)]; exact h1, by rw [Below.heap_alloc _ _ _ (by omega)]; exact h2, h3,
   (((Below.refl _ _).alloc (Nat.le_refl _) _).alloc (by omega) _).alloc (by omega) _⟩
theorem B8_set (ds : List Int) (k : Nat) (x : Int) : (B8 ds).setIfInBounds k (.int .u8 x) = B8 (ds.set k x) := by
  unfold B8
  simp [List.map_set]
theorem Tri.setC {n : Nat} {w0 w : World} {A B : Obj} {ds : List Int} {t : Nat} (h : Tri n w0 w A B (.cells (B8 ds) t)) (k : Nat) (x : Int) : Tri n w0 (w.setCell ⟨n + 1 + 1, k, none⟩ (.int .u8 x)) A B (.cells (B8 (ds.set k x)) t) :=
  ⟨(heap_setCell_other _ _ _ _ (by simp; omega)).trans h.hA, (heap_setCell_other _ _ _ _ (by simp)).trans h.hB, by rw [heap_setCell_same w (n + 1 + 1) k _ t _ h.hC, B8_set], h.bel.setCell (by simp; omega) _⟩
theorem B8_cell {w : World} {g t : Nat} {ds : List Int} (h : w.heap[g]? = some (.cells (B8 ds) t)) (k : Nat) (hk : k < ds.length) : w.cell? ⟨g, k, none⟩ = some (.int .u8 (ds.getD k 0)) := by
  rw [cell_of_row w g k _ _ _ h, B8_get ds k hk]
def sel (s : S4) (k : Nat) : Int := if k < 8 then s.a else if k < 16 then s.b else if k < 24 then s.c else s.d
def bt (x : Int) (k : Nat) : Int := x / 2 ^ (56 - 8 * (k % 8)) % 256
def digk (s : S4) (k : Nat) : List Int := (List.range 32).map (fun i => if i < k then bt (sel s i) i else 0)
def dig (s : S4) : List Int := (List.range 32).map (fun i => bt (sel s i) i)
theorem digk_all (s : S4) : digk s 32 = dig s := by
  unfold digk dig
  refine List.map_congr_left fun i hi => ?_
  rw [if_pos (by simpa using hi)]
theorem digk_length (s : S4) (k : Nat) : (digk s k).length = 32 := by simp [digk]
theorem digk_succ (s : S4) (k : Nat) : (digk s k).set k (bt (sel s k) k) = digk s (k + 1) := by
  apply List.ext_getElem
  · simp [digk]
  · intro i h1 h2
    simp [digk, List.getElem_set]
    by_cases e : k = i
    · subst e; simp
    · simp [e]
      by_cases e2 : i < k
      · simp [e2, Nat.lt_succ_of_lt e2]
      · rw [if_neg e2, if_neg (by omega)]
theorem B8_one (bs : List Int) : (B8 bs).all (·.oneCell') = true := by
  simp [B8, Value.oneCell']
theorem Below.setRow {B : Nat} {w0 w : World} {g : Nat} (h : Below B w0 w) (hg : B ≤ g) (cs : Array Value) : Below B w0 (w.setRow g cs) :=
  h.trans ⟨rfl, rfl, rfl, by simp, fun k hk => setRow_other w g k cs (by omega)⟩
set_option maxHeartbeats 1000000 in
theorem bytes_any (a b c d : Int) (w : World) :
    Calls Try.prog 73 #[.agg #[.int .u64 a, .int .u64 b, .int .u64 c, .int .u64 d]] w fun e w' => e = .returned (.agg (B8 (dig ⟨a, b, c, d⟩))) ∧ Below w.heap.size w w' := by
  go_enter Try.func73, Try.ntmps73
  go_wp2_with fail
  go_loopw [5] (fun i v => ∃ k : Nat, k ≤ 32 ∧ i = .int .i64 k ∧ Tri w.heap.size w v (.cells #[.int .u64 a, .int .u64 b, .int .u64 c, .int .u64 d] 75) (.cells (B8 (List.replicate 32 0)) 56) (.cells (B8 (digk ⟨a, b, c, d⟩ k)) 56)) (fun i _ => 32 - (intOf i).toNat)
  case atStart =>
    exact ⟨0, by omega, rfl, tri_new w _ _ _⟩
  case round =>
    obtain ⟨k, hk, rfl, R⟩ := hrel
    by_cases hlt : k < 32
    · obtain ⟨p, q, r, s, f⟩ := cells4 R.hA
      have hcell := B8_cell R.hC k (by rw [digk_length]; omega)
      have hfr := frozen_of_row _ _ k _ _ R.hC
      have hc : k < 8 ∨ (8 ≤ k ∧ k < 16) ∨ (16 ≤ k ∧ k < 24) ∨ 24 ≤ k := by omega
      generalize (digk ⟨a, b, c, d⟩ k).getD k 0 = y at hcell
      rcases hc with hc | hc | hc | hc
      · have hq : (k : Int) / 8 = 0 := by omega
        go_wp2
        refine ⟨⟨k + 1, by omega, by go_num, ?_⟩, by simp [intOf]; omega⟩
        have e : sel ⟨a, b, c, d⟩ k = a := by simp [sel, hc]
        have T := R.setC k (bt (sel ⟨a, b, c, d⟩ k) k)
        rw [digk_succ, e] at T
        exact T
      · have hq : (k : Int) / 8 = 1 := by omega
        go_wp2
        refine ⟨⟨k + 1, by omega, by go_num, ?_⟩, by simp [intOf]; omega⟩
        have e : sel ⟨a, b, c, d⟩ k = b := by simp [sel, show ¬ k < 8 from by omega, show k < 16 from by omega]
        have T := R.setC k (bt (sel ⟨a, b, c, d⟩ k) k)
        rw [digk_succ, e] at T
        exact T
      · have hq : (k : Int) / 8 = 2 := by omega
        go_wp2
        refine ⟨⟨k + 1, by omega, by go_num, ?_⟩, by simp [intOf]; omega⟩
        have e : sel ⟨a, b, c, d⟩ k = c := by simp [sel, show ¬ k < 8 from by omega, show ¬ k < 16 from by omega, show k < 24 from by omega]
        have T := R.setC k (bt (sel ⟨a, b, c, d⟩ k) k)
        rw [digk_succ, e] at T
        exact T
      · have hq : (k : Int) / 8 = 3 := by omega
        go_wp2
        refine ⟨⟨k + 1, by omega, by go_num, ?_⟩, by simp [intOf]; omega⟩
        have e : sel ⟨a, b, c, d⟩ k = d := by simp [sel, show ¬ k < 8 from by omega, show ¬ k < 16 from by omega, show ¬ k < 24 from by omega]
        have T := R.setC k (bt (sel ⟨a, b, c, d⟩ k) k)
        rw [digk_succ, e] at T
        exact T
    · have hk2 : k = 32 := by omega
      subst hk2
      rw [digk_all] at R
      have hin : (Try.prog.info? 56).map (·.size) = some (B8 (dig ⟨a, b, c, d⟩)).size := by rw [B8_size]; kernel_rfl
      have HI := Hid.mk hin
      clear hin
      have HC := Hid.mk R.hC
      have HBr := Hid.mk R.hB
      go_wp2_with (first | refine wpList_load_row rfl 56 _ rfl _ rfl 56 _ _ _ HC.out Try.underlying56 rfl HI.out ?_ | refine wpList_store_row rfl 56 _ _ rfl _ (B8 (dig ⟨a, b, c, d⟩)) rfl rfl 56 _ HBr.out HI.out (by simp [B8_size, dig]) (B8_one _) ?_)
      refine bodyPost_ret (results_cell_row Try.results73 _ _ (w.heap.size + 1) 56 (B8 (dig ⟨a, b, c, d⟩)) (0, 0) _ rfl (setRow_heap _ _ _ _ _ _ HBr.out) Try.underlying56 rfl HI.out) rfl ?_
      exact ⟨rfl, Below.setRow R.bel (by omega) _⟩
end Go.Proofs.Ytmofehloiiopfaa.Di
/- What the method Sum of digest.Hash answers, for every Hash that lies in memory: the last bytes, the mark, the length, mixed in; nothing that was there is changed. -/
namespace Go.Proofs.Ytmofehloiiopfaa.Di
set_option maxRecDepth 100000
open Go.RowKit
/-- The cells of a Hash: the state, the tail, how many were taken. -/
def HC (s : S4) (tl : List Int) (n : Nat) : Array Value := (#[Value.int .u64 s.a, Value.int .u64 s.b, Value.int .u64 s.c, Value.int .u64 s.d] ++ B8 tl).push (.int .i64 n)
theorem step_copy {P : Program} {ops : Array Oper} {o : Oper} {a : Act} {w : World} {K : Act → World → Prop} {Q : Exit → Act → World → Prop} {E : Prop}
    (hg : o.guard = none) (d x : Operand) (dT sT : TypeId) (hop : o.op = Op.call { callee := Callee.builtin Builtin.copy, args := #[d, x], argTypes := #[dT, sT] })
    (v u : Value) (hd : a.eval d = v) (hx : a.eval x = u) {v' : Value} {w' : World} (hr : (Builtin.copy_ #[dT, sT] o.type #[v, u]).run P w = .ok v' w') (hK : K (a.put o.dst v') w') :
    if Region.wanted o (yielded ops a.tmps) = true then Oper.wp P o a w K Q else E := by
  have hw : Region.wanted o (yielded ops a.tmps) = true := by simp [Region.wanted, hg]
  rw [if_pos hw]
  unfold Oper.wp
  simp [execOp, hop, resolve, invoke, builtin, hd, hx, hr, Result.andThen]
  exact hK
structure SW (g N : Nat) (w0 w : World) (H Z L : Obj) : Prop where
  hg : w.heap[g]? = some H
  h0 : w.heap[N]? = some Z
  h1 : w.heap[N + 1]? = some L
  bel : Below N w0 w
  sz : w.heap.size = N + 1 + 1
/-- The blocks of Sum: the Hash, the result, the last piece, the state. -/
structure S5 (g N : Nat) (w0 w : World) (H Z L S : Obj) : Prop where
  hg : w.heap[g]? = some H
  h0 : w.heap[N]? = some Z
  h1 : w.heap[N + 1]? = some L
  h2 : w.heap[N + 1 + 1]? = some S
  bel : Below N w0 w
  gN : g < N
/-- The load of a piece, kept whole. -/
def load23V (v : Value) : Sem Value := Instr.loadAt 55 v
theorem load23_fold (v : Value) : Instr.loadAt 55 v = load23V v := rfl
attribute [local go_sem ↓] load23_fold Go.wp_at_zero Go.wp_at_succ
/-- The last bytes, the mark behind them, noughts. -/
def lastOf (f : Nat) (tl : List Int) : List Int := (List.take f tl ++ List.replicate (32 - f) 0).set f 128
def finS (s : S4) (tl : List Int) (n : Nat) : S4 :=
  if n % 32 < 24 then mix s { words (lastOf (n % 32) tl) with d := n } else mix (mix s (words (lastOf (n % 32) tl))) { words (List.replicate 32 0) with d := n }
end Go.Proofs.Ytmofehloiiopfaa.Di
