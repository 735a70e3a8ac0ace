/- What digest.wordsOf answers: the four words of every piece of 32 bytes. -/
import Derived.Test.YtmofehloiiopfaaG11
import Derived.Laws.CopyOwn
import Derived.Deep.RegionLaw
import Derived.Deep.RegionHeld3
import Derived.Deep.DrawnRows
namespace Go.Proofs.Ytmofehloiiopfaa.Di
set_option maxRecDepth 100000
open Go.RowKit
/-- A row of bytes, as values. -/
def B8 (bs : List Int) : Array Value := (bs.map (Value.int .u8)).toArray
theorem B8_size (bs : List Int) : (B8 bs).size = bs.length := by simp [B8]
theorem B8_get (bs : List Int) (k : Nat) (h : k < bs.length) : (B8 bs)[k]? = some (.int .u8 (bs.getD k 0)) := by simp [B8, h]
theorem run_index_arr {P : Program} (t e n : Nat) (k : IntKind) (hu : P.underlying t = some (.array n e)) (hs : (P.info? e).map (·.size) = some 1) (ha : P.underlying e = some (.int k)) (cs : Array Value) (i : Int) (v : Value) (h0 : 0 ≤ i) (hn : i < n) (hv : cs[i.toNat]? = some v) (w : World) :
    (Instr.index t (.agg cs) (.int .i64 i)).run P w = .ok v w := by
  cases hq : P.info? e with
  | none => simp [hq] at hs
  | some y =>
    have hy : y.size = 1 := by simpa [hq] using hs
    simp [Instr.index, asIntOf, run_underlying hu, run_underlying ha, h0, hn, sizeOf, typeInfo, hq, hy, part, isAgg, hv]
def or8 (m b : Int) : Int := wr (m * 256 + b)
def wstep (m : S4) (k : Nat) (b : Int) : S4 :=
  if k < 8 then { m with a := or8 m.a b } else if k < 16 then { m with b := or8 m.b b } else if k < 24 then { m with c := or8 m.c b } else { m with d := or8 m.d b }
def wfold (bs : List Int) : Nat → S4
  | 0 => ⟨0, 0, 0, 0⟩
  | k + 1 => wstep (wfold bs k) k (bs.getD k 0)
def words (bs : List Int) : S4 := wfold bs 32
def V4 (s : S4) : Array Value := #[.int .u64 s.a, .int .u64 s.b, .int .u64 s.c, .int .u64 s.d]
theorem or_join (m b : Int) (h0 : 0 ≤ b) (h1 : b < 256) : bits BinOp.or IntKind.u64 (IntKind.u64.wrap (m * 256)) b = or8 m b := by
  have hw : ∀ n : Int, 0 ≤ n → n < 2 ^ 64 → IntKind.u64.wrap n = n := fun n a b => by rw [IntKind.wrap_u64]; omega
  rw [IntKind.wrap_u64]
  have e := bits_join .u64 64 (by decide) hw 8 (m * 256 % 18446744073709551616) b (by omega) (by omega) (by omega) h0 (by omega) (by omega)
  rw [e]
  unfold or8 wr
  rw [IntKind.wrap_u64]
  omega
/-- Two new blocks of four words each, behind block n. -/
structure Rows2 (n : Nat) (w0 w : World) (r3 r4 : Array Value) : Prop where
  h3 : w.heap[n + 1]? = some (.cells r3 75)
  h4 : w.heap[n + 1 + 1]? = some (.cells r4 75)
  bel : Below n w0 w
theorem Rows2.put0 {n : Nat} {w0 w : World} {x0 x1 x2 x3 : Value} {r3 : Array Value} (h : Rows2 n w0 w r3 #[x0, x1, x2, x3]) (v : Value) : Rows2 n w0 (w.setCell ⟨n + 1 + 1, 0, none⟩ v) r3 #[v, x1, x2, x3] :=
  ⟨(heap_setCell_other _ _ _ _ (by simp)).trans h.h3, by simpa using heap_setCell_same w (n + 1 + 1) 0 _ 75 v h.h4, h.bel.setCell (by simp; omega) _⟩
theorem Rows2.put1 {n : Nat} {w0 w : World} {x0 x1 x2 x3 : Value} {r3 : Array Value} (h : Rows2 n w0 w r3 #[x0, x1, x2, x3]) (v : Value) : Rows2 n w0 (w.setCell ⟨n + 1 + 1, 1, none⟩ v) r3 #[x0, v, x2, x3] :=
  ⟨(heap_setCell_other _ _ _ _ (by simp)).trans h.h3, by simpa using heap_setCell_same w (n + 1 + 1) 1 _ 75 v h.h4, h.bel.setCell (by simp; omega) _⟩
theorem Rows2.put2 {n : Nat} {w0 w : World} {x0 x1 x2 x3 : Value} {r3 : Array Value} (h : Rows2 n w0 w r3 #[x0, x1, x2, x3]) (v : Value) : Rows2 n w0 (w.setCell ⟨n + 1 + 1, 2, none⟩ v) r3 #[x0, x1, v, x3] :=
  ⟨(heap_setCell_other _ _ _ _ (by simp)).trans h.h3, by simpa using heap_setCell_same w (n + 1 + 1) 2 _ 75 v h.h4, h.bel.setCell (by simp; omega) _⟩
theorem Rows2.put3 {n : Nat} {w0 w : World} {x0 x1 x2 x3 : Value} {r3 : Array Value} (h : Rows2 n w0 w r3 #[x0, x1, x2, x3]) (v : Value) : Rows2 n w0 (w.setCell ⟨n + 1 + 1, 3, none⟩ v) r3 #[x0, x1, x2, v] :=
  ⟨(heap_setCell_other _ _ _ _ (by simp)).trans h.h3, by simpa using heap_setCell_same w (n + 1 + 1) 3 _ 75 v h.h4, h.bel.setCell (by simp; omega) _⟩
theorem rows2_new (w : World) (o : Obj) (B C : Array Value) : Rows2 w.heap.size w (((w.alloc o).alloc (.cells B 75)).alloc (.cells C 75)) B C := by
  have s1 : (w.alloc o).heap.size = w.heap.size + 1 := by simp
  have s2 : ((w.alloc o).alloc (.cells B 75)).heap.size = w.heap.size + 1 + 1 := by simp
  have h2 := heap_alloc_new (w.alloc o) (.cells B 75)
  have h3 := heap_alloc_new ((w.alloc o).alloc (.cells B 75)) (.cells C 75)
  rw [s1] at h2
  rw [s2] at h3
  exact ⟨by rw [Below.heap_alloc _ _ _ (by omega)]; exact h2, h3, (((Below.refl _ _).alloc (Nat.le_refl _) _).alloc (by omega) _).alloc (by omega) _⟩
theorem getD_mem (bs : List Int) (k : Nat) (h : k < bs.length) : bs.getD k 0 ∈ bs := by simp [List.getD, List.getElem?_eq_getElem h]
theorem wfold_succ (bs : List Int) (k : Nat) (m : S4) (b : Int) (h : wfold bs k = m) (hb : bs.getD k 0 = b) : wfold bs (k + 1) = wstep m k b := by rw [← h, ← hb]; rfl
set_option maxHeartbeats 1000000 in
theorem words_any (bs : List Int) (hn : bs.length = 32) (hb : ∀ b ∈ bs, 0 ≤ b ∧ b < 256) (w : World) :
    Calls Try.prog 72 #[.agg (B8 bs)] w fun e w' => (∃ a' b' c' d', e = .returned (.agg #[.int .u64 a', .int .u64 b', .int .u64 c', .int .u64 d']) ∧ Hid (S4.mk a' b' c' d' = words bs)) ∧ Below w.heap.size w w' := by
  have hrow : ((((w.alloc (.cells (B8 bs) 55)).alloc (.cells #[.int .u64 0, .int .u64 0, .int .u64 0, .int .u64 0] 75)).alloc (.cells #[.int .u64 0, .int .u64 0, .int .u64 0, .int .u64 0] 75)).heap[w.heap.size]?) = some (.cells (B8 bs) 55 (0, 0)) := by
    rw [Below.heap_alloc _ _ _ (by simp; omega), Below.heap_alloc _ _ _ (by simp)]; exact heap_alloc_new _ _
  have hin : (Try.prog.info? 55).map (·.size) = some (B8 bs).size := by rw [B8_size, hn]; kernel_rfl
  have HR := Hid.mk hrow
  clear hrow
  have HI := Hid.mk hin
  clear hin
  go_enter Try.func72, Try.ntmps72
  go_wp2_with (first | refine wpList_load_row rfl 55 _ rfl _ rfl 55 _ _ _ HR.out Try.underlying55 rfl HI.out ?_)
  go_loopw [7] (fun i v => ∃ k : Nat, k ≤ 32 ∧ i = .int .i64 k ∧ Rows2 w.heap.size w v #[.int .u64 0, .int .u64 0, .int .u64 0, .int .u64 0] (V4 (wfold bs k))) (fun i _ => 32 - (intOf i).toNat)
  case atStart =>
    exact ⟨0, by omega, rfl, rows2_new w _ _ _⟩
  case round =>
    obtain ⟨k, hk, rfl, R⟩ := hrel
    by_cases hlt : k < 32
    · obtain ⟨hb0, hb1⟩ : 0 ≤ bs.getD k 0 ∧ bs.getD k 0 < 256 := hb _ (getD_mem bs k (by omega))
      have hix := fun v => run_index_arr (P := Try.prog) 55 5 32 .u8 Try.underlying55 (by kernel_rfl) Try.underlying5 (B8 bs) (k : Int) _ (by omega) (by omega) (B8_get bs k (by omega)) v
      have HB : Hid (bs.getD k 0 = bs.getD k 0) := rfl
      generalize hbk : bs.getD k 0 = b at hb0 hb1 hix
      generalize hm : wfold bs k = m at R
      obtain ⟨ma, mb, mc, md⟩ := m
      have W1 := Hid.mk (wfold_succ bs k _ b hm hbk)
      clear hm hbk HB
      have R' : Rows2 w.heap.size w _ _ #[.int .u64 ma, .int .u64 mb, .int .u64 mc, .int .u64 md] := R
      obtain ⟨p, q, r, s, f⟩ := cells4 R'.h4
      have hc : k < 8 ∨ (8 ≤ k ∧ k < 16) ∨ (16 ≤ k ∧ k < 24) ∨ 24 ≤ k := by omega
      rcases hc with hc | hc | hc | hc
      · have hq : (k : Int) / 8 = 0 := by omega
        go_wp2
        refine ⟨⟨k + 1, by omega, by go_num, ?_⟩, by simp [intOf]; omega⟩
        rw [W1.out, or_join _ _ hb0 hb1]
        simpa [wstep, hc, V4] using R'.put0 (.int .u64 (or8 ma b))
      · have hq : (k : Int) / 8 = 1 := by omega
        go_wp2
        refine ⟨⟨k + 1, by omega, by go_num, ?_⟩, by simp [intOf]; omega⟩
        rw [W1.out, or_join _ _ hb0 hb1]
        simpa [wstep, show ¬ k < 8 from by omega, show k < 16 from by omega, V4] using R'.put1 (.int .u64 (or8 mb b))
      · have hq : (k : Int) / 8 = 2 := by omega
        go_wp2
        refine ⟨⟨k + 1, by omega, by go_num, ?_⟩, by simp [intOf]; omega⟩
        rw [W1.out, or_join _ _ hb0 hb1]
        simpa [wstep, show ¬ k < 8 from by omega, show ¬ k < 16 from by omega, show k < 24 from by omega, V4] using R'.put2 (.int .u64 (or8 mc b))
      · have hq : (k : Int) / 8 = 3 := by omega
        go_wp2
        refine ⟨⟨k + 1, by omega, by go_num, ?_⟩, by simp [intOf]; omega⟩
        rw [W1.out, or_join _ _ hb0 hb1]
        simpa [wstep, show ¬ k < 8 from by omega, show ¬ k < 16 from by omega, show ¬ k < 24 from by omega, V4] using R'.put3 (.int .u64 (or8 md b))
    · have hk2 : k = 32 := by omega
      subst hk2
      generalize hm : wfold bs 32 = m at R
      obtain ⟨ma, mb, mc, md⟩ := m
      have W1 := Hid.mk hm
      clear hm
      have R' : Rows2 w.heap.size w _ _ #[.int .u64 ma, .int .u64 mb, .int .u64 mc, .int .u64 md] := R
      obtain ⟨p, q, r, s, f⟩ := cells4 R'.h4
      obtain ⟨p3, q3, r3, s3, f3⟩ := cells4 R'.h3
      go_wp2
      have hrow := put4 R'.h3 (.int .u64 ma) (.int .u64 mb) (.int .u64 mc) (.int .u64 md)
      refine bodyPost_ret (results_cell_row Try.results72 _ _ (w.heap.size + 1) 75 #[.int .u64 ma, .int .u64 mb, .int .u64 mc, .int .u64 md] (0, 0) _ rfl hrow Try.underlying75 rfl (by kernel_rfl)) rfl ?_
      exact ⟨⟨_, _, _, _, rfl, W1.out.symm⟩, below4 R'.bel (by omega) _ _ _ _⟩
end Go.Proofs.Ytmofehloiiopfaa.Di
/- What digest.bytesOf answers: the 32 bytes of every four words. -/
namespace Go.Proofs.Ytmofehloiiopfaa.Di
set_option maxRecDepth 100000
open Go.RowKit
/-- Three blocks, from block n on; what was there ahead of them is as it was. -/
structure Tri (n : Nat) (w0 w : World) (A B C : Obj) : Prop where
  hA : w.heap[n]? = some A
  hB : w.heap[n + 1]? = some B
  hC : w.heap[n + 1 + 1]? = some C
  bel : Below n w0 w
theorem tri_new (w : World) (A B C : Obj) : Tri w.heap.size w (((w.alloc A).alloc B).alloc C) A B C := by
  have s1 : (w.alloc A).heap.size = w.heap.size + 1 := by simp
  have s2 : ((w.alloc A).alloc B).heap.size = w.heap.size + 1 + 1 := by simp
  have h1 := heap_alloc_new w A
  have h2 := heap_alloc_new (w.alloc A) B
  have h3 := heap_alloc_new ((w.alloc A).alloc B) C
  rw [s1] at h2
  rw [s2] at h3
  exact ⟨by rw [Below.heap_alloc _ _ _ (by omega), Below.heap_alloc _ _ _ (by omega)]; exact h1, by rw [Below.heap_alloc _ _ _ (by omega)]; exact h2, h3,
   (((Below.refl _ _).alloc (Nat.le_refl _) _).alloc (by omega) _).alloc (by omega) _⟩
theorem B8_set (ds : List Int) (k : Nat) (x : Int) : (B8 ds).setIfInBounds k (.int .u8 x) = B8 (ds.set k x) := by
  unfold B8
  simp [List.map_set]
theorem Tri.setC {n : Nat} {w0 w : World} {A B : Obj} {ds : List Int} {t : Nat} (h : Tri n w0 w A B (.cells (B8 ds) t)) (k : Nat) (x : Int) : Tri n w0 (w.setCell ⟨n + 1 + 1, k, none⟩ (.int .u8 x)) A B (.cells (B8 (ds.set k x)) t) :=
  ⟨(heap_setCell_other _ _ _ _ (by simp; omega)).trans h.hA, (heap_setCell_other _ _ _ _ (by simp)).trans h.hB, by rw [heap_setCell_same w (n + 1 + 1) k _ t _ h.hC, B8_set], h.bel.setCell (by simp; omega) _⟩
theorem B8_cell {w : World} {g t : Nat} {ds : List Int} (h : w.heap[g]? = some (.cells (B8 ds) t)) (k : Nat) (hk : k < ds.length) : w.cell? ⟨g, k, none⟩ = some (.int .u8 (ds.getD k 0)) := by
  rw [cell_of_row w g k _ _ _ h, B8_get ds k hk]
def sel (s : S4) (k : Nat) : Int := if k < 8 then s.a else if k < 16 then s.b else if k < 24 then s.c else s.d
def bt (x : Int) (k : Nat) : Int := x / 2 ^ (56 - 8 * (k % 8)) % 256
def digk (s : S4) (k : Nat) : List Int := (List.range 32).map (fun i => if i < k then bt (sel s i) i else 0)
def dig (s : S4) : List Int := (List.range 32).map (fun i => bt (sel s i) i)
theorem digk_all (s : S4) : digk s 32 = dig s := by
  unfold digk dig
  refine List.map_congr_left fun i hi => ?_
  rw [if_pos (by simpa using hi)]
theorem digk_length (s : S4) (k : Nat) : (digk s k).length = 32 := by simp [digk]
theorem digk_succ (s : S4) (k : Nat) : (digk s k).set k (bt (sel s k) k) = digk s (k + 1) := by
  apply List.ext_getElem
  · simp [digk]
  · intro i h1 h2
    simp [digk, List.getElem_set]
    by_cases e : k = i
    · subst e; simp
    · simp [e]
      by_cases e2 : i < k
      · simp [e2, Nat.lt_succ_of_lt e2]
      · rw [if_neg e2, if_neg (by omega)]
theorem B8_one (bs : List Int) : (B8 bs).all (·.oneCell') = true := by
  simp [B8, Value.oneCell']
theorem Below.setRow {B : Nat} {w0 w : World} {g : Nat} (h : Below B w0 w) (hg : B ≤ g) (cs : Array Value) : Below B w0 (w.setRow g cs) :=
  h.trans ⟨rfl, rfl, rfl, by simp, fun k hk => setRow_other w g k cs (by omega)⟩
set_option maxHeartbeats 1000000 in
theorem bytes_any (a b c d : Int) (w : World) :
    Calls Try.prog 73 #[.agg #[.int .u64 a, .int .u64 b, .int .u64 c, .int .u64 d]] w fun e w' => e = .returned (.agg (B8 (dig ⟨a, b, c, d⟩))) ∧ Below w.heap.size w w' := by
  go_enter Try.func73, Try.ntmps73
  go_wp2_with fail
  go_loopw [5] (fun i v => ∃ k : Nat, k ≤ 32 ∧ i = .int .i64 k ∧ Tri w.heap.size w v (.cells #[.int .u64 a, .int .u64 b, .int .u64 c, .int .u64 d] 75) (.cells (B8 (List.replicate 32 0)) 56) (.cells (B8 (digk ⟨a, b, c, d⟩ k)) 56)) (fun i _ => 32 - (intOf i).toNat)
  case atStart =>
    exact ⟨0, by omega, rfl, tri_new w _ _ _⟩
  case round =>
    obtain ⟨k, hk, rfl, R⟩ := hrel
    by_cases hlt : k < 32
    · obtain ⟨p, q, r, s, f⟩ := cells4 R.hA
      have hcell := B8_cell R.hC k (by rw [digk_length]; omega)
      have hfr := frozen_of_row _ _ k _ _ R.hC
      have hc : k < 8 ∨ (8 ≤ k ∧ k < 16) ∨ (16 ≤ k ∧ k < 24) ∨ 24 ≤ k := by omega
      generalize (digk ⟨a, b, c, d⟩ k).getD k 0 = y at hcell
      rcases hc with hc | hc | hc | hc
      · have hq : (k : Int) / 8 = 0 := by omega
        go_wp2
        refine ⟨⟨k + 1, by omega, by go_num, ?_⟩, by simp [intOf]; omega⟩
        have e : sel ⟨a, b, c, d⟩ k = a := by simp [sel, hc]
        have T := R.setC k (bt (sel ⟨a, b, c, d⟩ k) k)
        rw [digk_succ, e] at T
        exact T
      · have hq : (k : Int) / 8 = 1 := by omega
        go_wp2
        refine ⟨⟨k + 1, by omega, by go_num, ?_⟩, by simp [intOf]; omega⟩
        have e : sel ⟨a, b, c, d⟩ k = b := by simp [sel, show ¬ k < 8 from by omega, show k < 16 from by omega]
        have T := R.setC k (bt (sel ⟨a, b, c, d⟩ k) k)
        rw [digk_succ, e] at T
        exact T
      · have hq : (k : Int) / 8 = 2 := by omega
        go_wp2
        refine ⟨⟨k + 1, by omega, by go_num, ?_⟩, by simp [intOf]; omega⟩
        have e : sel ⟨a, b, c, d⟩ k = c := by simp [sel, show ¬ k < 8 from by omega, show ¬ k < 16 from by omega, show k < 24 from by omega]
        have T := R.setC k (bt (sel ⟨a, b, c, d⟩ k) k)
        rw [digk_succ, e] at T
        exact T
      · have hq : (k : Int) / 8 = 3 := by omega
        go_wp2
        refine ⟨⟨k + 1, by omega, by go_num, ?_⟩, by simp [intOf]; omega⟩
        have e : sel ⟨a, b, c, d⟩ k = d := by simp [sel, show ¬ k < 8 from by omega, show ¬ k < 16 from by omega, show ¬ k < 24 from by omega]
        have T := R.setC k (bt (sel ⟨a, b, c, d⟩ k) k)
        rw [digk_succ, e] at T
        exact T
    · have hk2 : k = 32 := by omega
      subst hk2
      rw [digk_all] at R
      have hin : (Try.prog.info? 56).map (·.size) = some (B8 (dig ⟨a, b, c, d⟩)).size := by rw [B8_size]; kernel_rfl
      have HI := Hid.mk hin
      clear hin
      have HC := Hid.mk R.hC
      have HBr := Hid.mk R.hB
      go_wp2_with (first | refine wpList_load_row rfl 56 _ rfl _ rfl 56 _ _ _ HC.out Try.underlying56 rfl HI.out ?_ | refine wpList_store_row rfl 56 _ _ rfl _ (B8 (dig ⟨a, b, c, d⟩)) rfl rfl 56 _ HBr.out HI.out (by simp [B8_size, dig]) (B8_one _) ?_)
      refine bodyPost_ret (results_cell_row Try.results73 _ _ (w.heap.size + 1) 56 (B8 (dig ⟨a, b, c, d⟩)) (0, 0) _ rfl (setRow_heap _ _ _ _ _ _ HBr.out) Try.underlying56 rfl HI.out) rfl ?_
      exact ⟨rfl, Below.setRow R.bel (by omega) _⟩
end Go.Proofs.Ytmofehloiiopfaa.Di
/- What the method Sum of digest.Hash answers, for every Hash that lies in memory: the last bytes, the mark, the length, mixed in; nothing that was there is changed. -/
namespace Go.Proofs.Ytmofehloiiopfaa.Di
set_option maxRecDepth 100000
open Go.RowKit
/-- The cells of a Hash: the state, the tail, how many were taken. -/
def HC (s : S4) (tl : List Int) (n : Nat) : Array Value := (#[Value.int .u64 s.a, Value.int .u64 s.b, Value.int .u64 s.c, Value.int .u64 s.d] ++ B8 tl).push (.int .i64 n)
theorem HC_size (s : S4) (tl : List Int) (n : Nat) : (HC s tl n).size = tl.length + 5 := by simp [HC, B8_size]; omega
theorem HC_tail (s : S4) (tl : List Int) (n : Nat) (k : Nat) (h : k < tl.length) : (HC s tl n)[4 + k]? = some (.int .u8 (tl.getD k 0)) := by
  unfold HC
  rw [Array.getElem?_push_lt (by simp [B8_size]; omega), Array.getElem_append_right (by simp)]
  have := B8_get tl k h
  simp [Array.getElem?_eq_some_iff] at this
  obtain ⟨_, e⟩ := this
  simp [e]
theorem HC_state (s : S4) (tl : List Int) (n : Nat) : (HC s tl n)[0]? = some (.int .u64 s.a) ∧ (HC s tl n)[1]? = some (.int .u64 s.b) ∧ (HC s tl n)[2]? = some (.int .u64 s.c) ∧ (HC s tl n)[3]? = some (.int .u64 s.d) := by
  unfold HC
  refine ⟨?_, ?_, ?_, ?_⟩ <;> (rw [Array.getElem?_push_lt (by simp [B8_size]; omega), Array.getElem_append_left (by simp)]; simp)
theorem HC_taken (s : S4) (tl : List Int) (n : Nat) (h : tl.length = 32) : (HC s tl n)[36]? = some (.int .i64 n) := by
  unfold HC
  rw [Array.getElem?_push, if_pos (by simp [B8_size, h])]
theorem cellsH {w : World} {g : Nat} {a b c d : Int} {tl : List Int} {n : Nat} (h : w.heap[g]? = some (.cells (HC ⟨a, b, c, d⟩ tl n) 78)) (hl : tl.length = 32) :
    w.cell? ⟨g, 0, none⟩ = some (.int .u64 a) ∧ w.cell? ⟨g, 1, none⟩ = some (.int .u64 b) ∧ w.cell? ⟨g, 2, none⟩ = some (.int .u64 c) ∧ w.cell? ⟨g, 3, none⟩ = some (.int .u64 d) ∧ w.cell? ⟨g, 36, none⟩ = some (.int .i64 n) ∧ (∀ o, w.frozen? ⟨g, o, none⟩ = false) := by
  obtain ⟨e0, e1, e2, e3⟩ := HC_state ⟨a, b, c, d⟩ tl n
  have e4 := HC_taken ⟨a, b, c, d⟩ tl n hl
  exact ⟨by rw [cell_of_row w g _ _ _ _ h, e0], by rw [cell_of_row w g _ _ _ _ h, e1], by rw [cell_of_row w g _ _ _ _ h, e2], by rw [cell_of_row w g _ _ _ _ h, e3], by rw [cell_of_row w g _ _ _ _ h, e4], fun o => frozen_of_row w g o _ _ h⟩
theorem tailH {w : World} {g : Nat} {s : S4} {tl : List Int} {n : Nat} (h : w.heap[g]? = some (.cells (HC s tl n) 78)) (f : Nat) (hf : f ≤ tl.length) :
    ∀ j v, ((tl.take f).map (Value.int .u8))[j]? = some v → w.cell? ((⟨g, 4, none⟩ : Addr).add j) = some v := by
  intro j v hv
  have hadd : (⟨g, 4, none⟩ : Addr).add j = ⟨g, 4 + j, none⟩ := by unfold Addr.add; split <;> simp_all
  have hj : j < f := by
    have := (List.getElem?_eq_some_iff.1 hv).1
    simp at this
    omega
  rw [hadd, cell_of_row w g _ _ _ _ h, HC_tail s tl n j (by omega), ← hv]
  simp [hj, List.getElem?_eq_getElem (show j < tl.length by omega)]
theorem gen_world {V : World} {p q : World → Prop} (F : q V) (h : ∀ v, q v → p v) : p V := h V F
theorem step_copy {P : Program} {ops : Array Oper} {o : Oper} {a : Act} {w : World} {K : Act → World → Prop} {Q : Exit → Act → World → Prop} {E : Prop}
    (hg : o.guard = none) (d x : Operand) (dT sT : TypeId) (hop : o.op = Op.call { callee := Callee.builtin Builtin.copy, args := #[d, x], argTypes := #[dT, sT] })
    (v u : Value) (hd : a.eval d = v) (hx : a.eval x = u) {v' : Value} {w' : World} (hr : (Builtin.copy_ #[dT, sT] o.type #[v, u]).run P w = .ok v' w') (hK : K (a.put o.dst v') w') :
    if Region.wanted o (yielded ops a.tmps) = true then Oper.wp P o a w K Q else E := by
  have hw : Region.wanted o (yielded ops a.tmps) = true := by simp [Region.wanted, hg]
  rw [if_pos hw]
  unfold Oper.wp
  simp [execOp, hop, resolve, invoke, builtin, hd, hx, hr, Result.andThen]
  exact hK
theorem B8_one' (bs : List Int) : ∀ v ∈ bs.map (Value.int .u8), v.oneCell' = true := by
  intro v hv
  obtain ⟨x, _, rfl⟩ := List.mem_map.1 hv
  rfl
theorem copy_B8 {w : World} {N t o dl dc sl sc : Nat} {ad : Addr} {ds xs : List Int} (hN : w.heap[N]? = some (.cells (B8 ds) t)) (hn : xs.length = Nat.min sl dl) (hfit : o + xs.length ≤ ds.length)
    (hsrc : ∀ j v, (xs.map (Value.int .u8))[j]? = some v → w.cell? (ad.add j) = some v) (ty : TypeId) :
    (Builtin.copy_ #[24, 24] ty #[.slice (some ⟨N, o, none⟩) dl dc, .slice (some ad) sl sc]).run Try.prog w = .ok (.int .i64 xs.length) (w.setRow N (B8 (ds.take o ++ xs ++ ds.drop (o + xs.length)))) := by
  have h := run_copy_row Try.prog w 24 24 ty 5 N o dl dc ad sl sc (B8 ds) t (xs.map (Value.int .u8)) Try.underlying24 (by kernel_rfl) hN (by simpa using hn) hsrc (by simpa [B8_size] using hfit) (B8_one' _)
  rw [h]
  simp [goInt, B8]
/-- Sum's copy of the tail's taken bytes to the head of a row of noughts. -/
theorem sum_copy {w : World} {g N : Nat} {s : S4} {tl : List Int} {n f : Nat} (hg : w.heap[g]? = some (.cells (HC s tl n) 78)) (hl : tl.length = 32) (hf : f ≤ 32) (hN : w.heap[N]? = some (.cells (B8 (List.replicate 32 0)) 55)) (ty : TypeId) :
    (Builtin.copy_ #[24, 24] ty #[.slice (some ⟨N, 0, none⟩) 32 32, .slice (some ⟨g, 4, none⟩) f 32]).run Try.prog w = .ok (.int .i64 f) (w.setRow N (B8 (tl.take f ++ List.replicate (32 - f) 0))) := by
  have e : (tl.take f).length = f := by rw [List.length_take]; omega
  have h := copy_B8 (o := 0) (dl := 32) (dc := 32) (sl := f) (sc := 32) (xs := tl.take f) hN (by rw [e]; exact (Nat.min_eq_left hf).symm) (by rw [e, List.length_replicate]; omega) (tailH hg f (by omega)) ty
  rw [h, e]
  simp only [List.take_zero, List.nil_append, Nat.zero_add, List.drop_replicate]
structure SW (g N : Nat) (w0 w : World) (H Z L : Obj) : Prop where
  hg : w.heap[g]? = some H
  h0 : w.heap[N]? = some Z
  h1 : w.heap[N + 1]? = some L
  bel : Below N w0 w
  sz : w.heap.size = N + 1 + 1
theorem sw_new {w : World} {g : Nat} {H : Obj} (hg : w.heap[g]? = some H) (Z L : Obj) : SW g w.heap.size w ((w.alloc Z).alloc L) H Z L := by
  have s1 : (w.alloc Z).heap.size = w.heap.size + 1 := by simp
  have h1 := heap_alloc_new w Z
  have h2 := heap_alloc_new (w.alloc Z) L
  rw [s1] at h2
  have l := lt_of_get hg
  exact ⟨by rw [Below.heap_alloc _ _ _ (by omega), Below.heap_alloc _ _ _ (by omega)]; exact hg, by rw [Below.heap_alloc _ _ _ (by omega)]; exact h1, h2, ((Below.refl _ _).alloc (Nat.le_refl _) _).alloc (by omega) _, by simp⟩
theorem SW.setL {g N : Nat} {w0 w : World} {H Z : Obj} {L L' : Array Value} {t : Nat} (h : SW g N w0 w H Z (.cells L t)) (hgN : g < N) : SW g N w0 (w.setRow (N + 1) L') H Z (.cells L' t) :=
  ⟨(setRow_other _ _ _ _ (by omega)).trans h.hg, (setRow_other _ _ _ _ (by omega)).trans h.h0, setRow_heap _ _ _ _ _ _ h.h1, Below.setRow h.bel (by omega) _, by simpa using h.sz⟩
theorem SW.drew {g N : Nat} {w0 w : World} {H Z L : Obj} (h : SW g N w0 w H Z L) : SW g N w0 w.drew H Z L := ⟨h.hg, h.h0, h.h1, h.bel.drew, h.sz⟩
/-- The blocks of Sum: the Hash, the result, the last piece, the state. -/
structure S5 (g N : Nat) (w0 w : World) (H Z L S : Obj) : Prop where
  hg : w.heap[g]? = some H
  h0 : w.heap[N]? = some Z
  h1 : w.heap[N + 1]? = some L
  h2 : w.heap[N + 1 + 1]? = some S
  bel : Below N w0 w
  gN : g < N
theorem SW.next {g N : Nat} {w0 w : World} {H Z : Obj} {ds : List Int} {t : Nat} (h : SW g N w0 w H Z (.cells (B8 ds) t)) (hgN : g < N) (f : Nat) (x : Int) (S : Obj) :
    S5 g N w0 ((w.setCell ⟨N + 1, f, none⟩ (.int .u8 x)).alloc S) H Z (.cells (B8 (ds.set f x)) t) S := by
  have sz : (w.setCell ⟨N + 1, f, none⟩ (.int .u8 x)).heap.size = N + 1 + 1 := by simpa using h.sz
  have h2 := heap_alloc_new (w.setCell ⟨N + 1, f, none⟩ (.int .u8 x)) S
  rw [sz] at h2
  refine ⟨?_, ?_, ?_, h2, (h.bel.setCell (by simp) _).alloc (by omega) _, hgN⟩
  · rw [Below.heap_alloc _ _ _ (by omega), heap_setCell_other _ _ _ _ (by simp; omega)]; exact h.hg
  · rw [Below.heap_alloc _ _ _ (by omega), heap_setCell_other _ _ _ _ (by simp)]; exact h.h0
  · rw [Below.heap_alloc _ _ _ (by omega), heap_setCell_same w (N + 1) f _ t _ h.h1, B8_set]
theorem S5.call {g N : Nat} {w0 v w1 : World} {H Z L S : Obj} (h : S5 g N w0 v H Z L S) (hb : Below v.heap.size v w1) : S5 g N w0 w1 H Z L S := by
  have l := lt_of_get h.h2
  have := h.gN
  exact ⟨(hb.block _ (by omega)).trans h.hg, (hb.block _ (by omega)).trans h.h0, (hb.block _ (by omega)).trans h.h1, (hb.block _ (by omega)).trans h.h2, h.bel.trans (hb.mono (by omega)), h.gN⟩
theorem S5.alloc {g N : Nat} {w0 v : World} {H Z L S : Obj} (h : S5 g N w0 v H Z L S) (o : Obj) : S5 g N w0 (v.alloc o) H Z L S := by
  have l := lt_of_get h.h2
  have := h.gN
  exact ⟨(Below.heap_alloc _ _ _ (by omega)).trans h.hg, (Below.heap_alloc _ _ _ (by omega)).trans h.h0, (Below.heap_alloc _ _ _ (by omega)).trans h.h1, (Below.heap_alloc _ _ _ (by omega)).trans h.h2, h.bel.alloc (by omega) _, h.gN⟩
theorem S5.sizes {g N : Nat} {w0 v : World} {H Z L S : Obj} (h : S5 g N w0 v H Z L S) : g < v.heap.size ∧ N < v.heap.size ∧ N + 1 < v.heap.size ∧ N + 1 + 1 < v.heap.size := by
  have l := lt_of_get h.h2
  have := h.gN
  omega
theorem S5.drew {g N : Nat} {w0 w : World} {H Z L S : Obj} (h : S5 g N w0 w H Z L S) : S5 g N w0 w.drew H Z L S := ⟨h.hg, h.h0, h.h1, h.h2, h.bel.drew, h.gN⟩
theorem S5.setS {g N : Nat} {w0 w : World} {H Z L : Obj} {x0 x1 x2 x3 : Value} (h : S5 g N w0 w H Z L (.cells #[x0, x1, x2, x3] 75)) (a b c d : Value) :
    S5 g N w0 ((((w.setCell ⟨N + 1 + 1, 0, none⟩ a).setCell ⟨N + 1 + 1, 1, none⟩ b).setCell ⟨N + 1 + 1, 2, none⟩ c).setCell ⟨N + 1 + 1, 3, none⟩ d) H Z L (.cells #[a, b, c, d] 75) := by
  have := h.gN
  exact ⟨(other4 (by omega) a b c d).trans h.hg, (other4 (by omega) a b c d).trans h.h0, (other4 (by omega) a b c d).trans h.h1, put4 h.h2 a b c d, below4 h.bel (by omega) a b c d, h.gN⟩
theorem S5.setL {g N : Nat} {w0 w : World} {H Z S : Obj} {L L' : Array Value} {t : Nat} (h : S5 g N w0 w H Z (.cells L t) S) : S5 g N w0 (w.setRow (N + 1) L') H Z (.cells L' t) S := by
  have := h.gN
  exact ⟨(setRow_other _ _ _ _ (by omega)).trans h.hg, (setRow_other _ _ _ _ (by omega)).trans h.h0, setRow_heap _ _ _ _ _ _ h.h1, (setRow_other _ _ _ _ (by omega)).trans h.h2, Below.setRow h.bel (by omega) _, h.gN⟩
/-- The load of a piece, kept whole. -/
def load23V (v : Value) : Sem Value := Instr.loadAt 55 v
theorem load23_fold (v : Value) : Instr.loadAt 55 v = load23V v := rfl
theorem load23_run {w : World} {N t : Nat} {ls : List Int} (h : w.heap[N]? = some (.cells (B8 ls) t)) (hl : ls.length = 32) : (load23V (.pointer (some ⟨N, 0, none⟩))).run Try.prog w = .ok (.agg (B8 ls)) w := by
  have hs : (Try.prog.info? 55).map (·.size) = some (B8 ls).size := by rw [B8_size, hl]; kernel_rfl
  simp only [load23V, Instr.loadAt, Instr.sureAddr, Sem.run_bind, Sem.run_pure, Result.andThen_ok, run_loadVar_row w N t 55 (B8 ls) (0, 0) _ h Try.underlying55 rfl hs]
attribute [local go_sem ↓] load23_fold Go.wp_at_zero Go.wp_at_succ
theorem zero_bounds : ∀ x ∈ List.replicate 32 (0 : Int), 0 ≤ x ∧ x < 256 := by
  intro x hx
  rw [(List.mem_replicate.1 hx).2]
  omega
theorem last_bounds {tl : List Int} (h : ∀ x ∈ tl, 0 ≤ x ∧ x < 256) {f : Nat} : ∀ x ∈ (List.take f tl ++ List.replicate (32 - f) 0).set f 128, 0 ≤ x ∧ x < 256 := by
  intro x hx
  rcases List.mem_or_eq_of_mem_set hx with hx | hx
  · rcases List.mem_append.1 hx with hx | hx
    · exact h x (List.mem_of_mem_take hx)
    · rw [(List.mem_replicate.1 hx).2]; omega
  · omega
/-- The last bytes, the mark behind them, noughts. -/
def lastOf (f : Nat) (tl : List Int) : List Int := (List.take f tl ++ List.replicate (32 - f) 0).set f 128
def finS (s : S4) (tl : List Int) (n : Nat) : S4 :=
  if n % 32 < 24 then mix s { words (lastOf (n % 32) tl) with d := n } else mix (mix s (words (lastOf (n % 32) tl))) { words (List.replicate 32 0) with d := n }
theorem finS_short {s : S4} {tl ls : List Int} {n f : Nat} {ma mb mc md a b c d : Int} (hf : n % 32 = f) (h : f < 24) (hl : ls = lastOf f tl) (hm : S4.mk ma mb mc md = words ls) (hx : S4.mk a b c d = mix s ⟨ma, mb, mc, n⟩) : S4.mk a b c d = finS s tl n := by
  unfold finS
  rw [hf, if_pos h, ← hl, ← hm, hx]
theorem finS_long {s s' : S4} {tl ls : List Int} {n f : Nat} {ma mb mc md a b c d : Int} (hf : n % 32 = f) (h : ¬ f < 24) (hl : ls = lastOf f tl) (hs : s' = mix s (words ls)) (hm : S4.mk ma mb mc md = words (List.replicate 32 0)) (hx : S4.mk a b c d = mix s' ⟨ma, mb, mc, n⟩) : S4.mk a b c d = finS s tl n := by
  unfold finS
  rw [hf, if_neg h, ← hl, ← hm, hx, hs]
theorem last_of (f : Nat) (tl : List Int) : (List.take f tl ++ List.replicate (32 - f) 0).set f 128 = lastOf f tl := rfl
set_option maxHeartbeats 1000000 in
theorem sum_any (g : Nat) (a b c d : Int) (tl : List Int) (n : Nat) (hl : tl.length = 32) (htl : ∀ x ∈ tl, 0 ≤ x ∧ x < 256) (hn : n < 9223372036854775808) (w : World) (hg : w.heap[g]? = some (.cells (HC ⟨a, b, c, d⟩ tl n) 78)) :
    Calls Try.prog 56 #[.pointer (some ⟨g, 0, none⟩)] w fun e w' => e = .returned (.agg (B8 (dig (finS ⟨a, b, c, d⟩ tl n)))) ∧ Below w.heap.size w w' := by
  obtain ⟨c0, c1, c2, c3, c36, cf⟩ := cellsH hg hl
  have hlt := lt_of_get hg
  have F0 := sw_new hg (.cells (B8 (List.replicate 32 0)) 56) (.cells (B8 (List.replicate 32 0)) 55)
  have hl' := Hid.mk hl
  clear hg hl
  go_enter Try.func56, Try.ntmps56
  go_wp2_with fail
  obtain ⟨f, hf⟩ : ∃ f : Nat, n % 32 = f := ⟨_, rfl⟩
  rw [show ((n : Int) % 32) = (f : Int) from by omega]
  have hf32 : f < 32 := by omega
  have hfi : (f : Int) < 32 := by omega
  have hfj : (f : Int) ≤ 32 := by omega
  have HF := Hid.mk hf
  clear hf
  refine gen_world (p := fun v => Code.wp _ _ _ _ v) (q := fun v => SW g w.heap.size w v (.cells (HC ⟨a, b, c, d⟩ tl n) 78) (.cells (B8 (List.replicate 32 0)) 56) (.cells (B8 (List.replicate 32 0)) 55)) F0 ?_
  clear F0
  intro v F1
  go_region_law (refine step_copy rfl _ _ _ _ rfl _ _ rfl rfl (sum_copy (f := f) F1.drew.hg hl'.out (by omega) F1.drew.h1 _) ?_)
  refine gen_world (p := fun v => Exit.then _ _ _ _ v) (q := fun v => SW g w.heap.size w v (.cells (HC ⟨a, b, c, d⟩ tl n) 78) (.cells (B8 (List.replicate 32 0)) 56) (.cells (B8 (tl.take f ++ List.replicate (32 - f) 0)) 55)) (F1.drew.setL hlt) ?_
  clear F1
  intro v F1
  have hcell := B8_cell F1.h1 f (by simp [hl'.out]; omega)
  have hfr := frozen_of_row _ _ f _ _ F1.h1
  generalize (List.take f tl ++ List.replicate (32 - f) 0).getD f 0 = y at hcell
  clear c0 c1 c2 c3 c36 cf
  obtain ⟨c0, c1, c2, c3, c36, cf⟩ := cellsH F1.hg hl'.out
  have hne : ¬ w.heap.size + 1 = g := by omega
  have hsz := F1.sz
  have F2 := F1.next hlt f 128 (.cells #[.int .u64 a, .int .u64 b, .int .u64 c, .int .u64 d] 75)
  clear F1
  have hls : ((List.take f tl ++ List.replicate (32 - f) 0).set f 128).length = 32 := by simp [hl'.out]; omega
  have HB := Hid.mk (last_bounds htl (f := f))
  have HW := Hid.mk (last_of f tl)
  generalize (List.take f tl ++ List.replicate (32 - f) 0).set f 128 = ls at F2 hls HB HW
  have HI : Hid ((Try.prog.info? 55).map (·.size) = some (B8 ls).size) := by unfold Hid; rw [B8_size, hls]; kernel_rfl
  have Hls := Hid.mk hls
  clear hls
  by_cases hge : f < 24
  · have hgi : ¬ (24 : Int) ≤ f := by omega
    go_wp2_with (first | refine wpList_load_row rfl 55 _ rfl _ rfl 55 _ _ _ F2.h1 Try.underlying55 rfl HI.out ?_)
    clear c0 c1 c2 c3 c36 cf hcell hfr
    refine (words_any ls Hls.out HB.out _).mono ?_
    rintro e w6 ⟨⟨ma, mb, mc, md, rfl, H6⟩, hb6⟩
    have F3 := F2.call hb6
    clear hb6 F2
    obtain ⟨c0, c1, c2, c3, c36, cf⟩ := cellsH F3.hg hl'.out
    obtain ⟨p0, p1, p2, p3, pf⟩ := cells4 F3.h2
    obtain ⟨z0, z1, z2, z3⟩ := F3.sizes
    go_wp2_with fail
    refine (mix_any _ _ _ _ _ _ _ _ _).mono ?_
    rintro e w7 ⟨⟨a7, b7, c7, d7, rfl, H7⟩, hb7⟩
    have F4 := (F3.alloc _).call hb7
    clear hb7 F3 c0 c1 c2 c3 c36 cf p0 p1 p2 p3 pf
    go_wp2_with fail
    refine (bytes_any _ _ _ _ _).mono ?_
    rintro e w8 ⟨rfl, hb8⟩
    have F5 := F4.call hb8
    clear hb8 F4
    have HX := Hid.mk (finS_short HF.out hge HW.out H6.out H7.out)
    rw [HX.out]
    have HI2 : Hid ((Try.prog.info? 56).map (·.size) = some (B8 (dig (finS ⟨a, b, c, d⟩ tl n))).size) := by unfold Hid; rw [B8_size]; kernel_rfl
    have hdl : (dig (finS ⟨a, b, c, d⟩ tl n)).length = 32 := by simp [dig]
    generalize hds : dig (finS ⟨a, b, c, d⟩ tl n) = ds at HI2 hdl ⊢
    have HD := Hid.mk hds
    clear hds
    go_wp2_with (first | refine wpList_store_row rfl 56 _ _ rfl _ (B8 ds) rfl rfl 56 _ F5.h0 HI2.out (by rw [B8_size, B8_size, hdl, List.length_replicate]) (B8_one _) ?_)
    refine bodyPost_ret (results_cell_row Try.results56 _ _ w.heap.size 56 (B8 ds) (0, 0) _ rfl (setRow_heap _ _ _ _ _ _ F5.h0) Try.underlying56 rfl HI2.out) rfl ?_
    exact ⟨by rw [HD.out], Below.setRow F5.bel (by omega) _⟩
  · have hgi : (24 : Int) ≤ f := by omega
    have hu := Try.underlying55
    have hi : (Try.prog.info? 55).map (·.size) = some (ls.map (Value.int .u8)).length := by rw [List.length_map, Hls.out]; kernel_rfl
    have hll : (ls.map (Value.int .u8)).length = 32 := by rw [List.length_map, Hls.out]
    have hoo := B8_one' ls
    go_wp2_with fail
    refine gen_world (p := fun v => Code.wp _ _ _ _ v) (q := fun v => S5 g w.heap.size w v _ _ _ _) F2 ?_
    clear F2 c0 c1 c2 c3 c36 cf hcell hfr hsz hne v
    intro v F2
    obtain ⟨q0, q1, q2, q3, qf⟩ := cells4 F2.h2
    have n1 := load23_run (w := v.drew) F2.h1 Hls.out
    clear hu hi hll hoo
    go_region_with (first
      | (go_at_call 72; refine (words_any ls Hls.out HB.out _).mono ?_; rintro e w6 ⟨⟨ma, mb, mc, md, rfl, H6⟩, hb6⟩; have F3 := F2.drew.call hb6; clear hb6; obtain ⟨q0, q1, q2, q3, qf⟩ := cells4 F3.h2)
      | (go_at_call 71; refine (mix_any _ _ _ _ _ _ _ _ _).mono ?_; rintro e w7 ⟨⟨a7, b7, c7, d7, rfl, H7⟩, hb7⟩; have F4 := F3.call hb7; clear hb7; obtain ⟨q0, q1, q2, q3, qf⟩ := cells4 F4.h2))
    all_goals
      refine gen_world (p := fun v => Exit.then _ _ _ _ v) (q := fun v => S5 g w.heap.size w v (.cells (HC ⟨a, b, c, d⟩ tl n) 78) (.cells (B8 (List.replicate 32 0)) 56) (.cells (B8 ls) 55) (.cells #[.int .u64 a7, .int .u64 b7, .int .u64 c7, .int .u64 d7] 75)) (F4.setS _ _ _ _) ?_
      have H7' := Hid.mk (H7.out.trans (congrArg (mix ⟨a, b, c, d⟩) H6.out))
      clear n1 q0 q1 q2 q3 qf F4 F3 F2 H7 H6
      intro v5 F5
      have F6 := S5.setL (L' := B8 (List.replicate 32 0)) F5
      have HIz : Hid ((Try.prog.info? 55).map (·.size) = some (B8 (List.replicate 32 0)).size) := by unfold Hid; rw [B8_size]; kernel_rfl
      have HSz : Hid ((B8 ls).size = (B8 (List.replicate 32 0)).size) := by unfold Hid; rw [B8_size, B8_size, Hls.out, List.length_replicate]
      go_wp2_with (first | refine wpList_store_row rfl 55 _ _ rfl _ (B8 (List.replicate 32 0)) rfl rfl 55 _ F5.h1 HIz.out HSz.out (B8_one _) ?_ | refine wpList_load_row rfl 55 _ rfl _ rfl 55 _ _ _ F6.h1 Try.underlying55 rfl HIz.out ?_)
      refine (words_any (List.replicate 32 0) List.length_replicate zero_bounds _).mono ?_
      rintro e w6 ⟨⟨ma, mb, mc, md, rfl, H6⟩, hb6⟩
      have F7 := F6.call hb6
      clear hb6 F5 F6
      obtain ⟨c0, c1, c2, c3, c36, cf⟩ := cellsH F7.hg hl'.out
      obtain ⟨p0, p1, p2, p3, pf⟩ := cells4 F7.h2
      obtain ⟨z0, z1, z2, z3⟩ := F7.sizes
      go_wp2_with fail
      refine (mix_any _ _ _ _ _ _ _ _ _).mono ?_
      rintro e w8 ⟨⟨a8, b8, c8, d8, rfl, H8⟩, hb8⟩
      have F8 := (F7.alloc _).call hb8
      clear hb8 F7 c0 c1 c2 c3 c36 cf p0 p1 p2 p3 pf
      go_wp2_with fail
      refine (bytes_any _ _ _ _ _).mono ?_
      rintro e w9 ⟨rfl, hb9⟩
      have F9 := F8.call hb9
      clear hb9 F8
      have HX := Hid.mk (finS_long HF.out hge HW.out H7'.out H6.out H8.out)
      rw [HX.out]
      have HI2 : Hid ((Try.prog.info? 56).map (·.size) = some (B8 (dig (finS ⟨a, b, c, d⟩ tl n))).size) := by unfold Hid; rw [B8_size]; kernel_rfl
      have hdl : (dig (finS ⟨a, b, c, d⟩ tl n)).length = 32 := by simp [dig]
      generalize hds : dig (finS ⟨a, b, c, d⟩ tl n) = ds at HI2 hdl ⊢
      have HD := Hid.mk hds
      clear hds
      go_wp2_with (first | refine wpList_store_row rfl 56 _ _ rfl _ (B8 ds) rfl rfl 56 _ F9.h0 HI2.out (by rw [B8_size, B8_size, hdl, List.length_replicate]) (B8_one _) ?_)
      refine bodyPost_ret (results_cell_row Try.results56 _ _ w.heap.size 56 (B8 ds) (0, 0) _ rfl (setRow_heap _ _ _ _ _ _ F9.h0) Try.underlying56 rfl HI2.out) rfl ?_
      exact ⟨by rw [HD.out], Below.setRow F9.bel (by omega) _⟩
end Go.Proofs.Ytmofehloiiopfaa.Di
