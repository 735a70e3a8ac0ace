/- What digest.mix answers: the mixing of one piece's four words into the state, for every input. -/
import Derived.Test.YtchgejomcgoaeaaGreatG09
import Derived.Deep.RegionHeld3
set_option maxRecDepth 100000
namespace Go.Proofs.YtchgejomcgoaeaaGreat.Di
open Go.RowKit
theorem Zx2 {s m s1 s2 s3 : S4} (h1 : s1 = xor4 s m) (h2 : s2 = stir s1 m) (h3 : s3 = xor4 s2 s) : s3 = mix s m := by
  rw [h3, h2, h1]
  rfl
theorem s_of {n : Nat} {w0 v : World} {a b c d x y z u : Value} {r4 : Array Value} (h : Rows3 n w0 v #[a, b, c, d] #[x, y, z, u] r4) :
    (v.cell? ⟨n, 0, none⟩ = some a ∧ v.cell? ⟨n, 1, none⟩ = some b ∧ v.cell? ⟨n, 2, none⟩ = some c ∧ v.cell? ⟨n, 3, none⟩ = some d ∧ v.cell? ⟨n + 1, 0, none⟩ = some x ∧ v.cell? ⟨n + 1, 1, none⟩ = some y ∧ v.cell? ⟨n + 1, 2, none⟩ = some z ∧ v.cell? ⟨n + 1, 3, none⟩ = some u) ∧ Rows3 n w0 v #[a, b, c, d] #[x, y, z, u] r4 := by
  obtain ⟨p, q, r, s, _⟩ := Zbn h.h2
  obtain ⟨p', q', r', s', _⟩ := Zbn h.h3
  exact ⟨⟨p, q, r, s, p', q', r', s'⟩, h⟩
set_option maxHeartbeats 1000000 in
theorem Zgr (a b c d x y z u : Int) (w : World) :
    Calls Tryz.prog 80 #[.agg #[.int .u64 a, .int .u64 b, .int .u64 c, .int .u64 d], .agg #[.int .u64 x, .int .u64 y, .int .u64 z, .int .u64 u]] w fun e w' => (∃ a' b' c' d', e = .returned (.agg #[.int .u64 a', .int .u64 b', .int .u64 c', .int .u64 d']) ∧ Hid (S4.mk a' b' c' d' = mix ⟨a, b, c, d⟩ ⟨x, y, z, u⟩)) ∧ Below w.heap.size w w' := by
  have R0 := Zjd w #[.int .u64 a, .int .u64 b, .int .u64 c, .int .u64 d] #[.int .u64 x, .int .u64 y, .int .u64 z, .int .u64 u] #[.int .u64 0, .int .u64 0, .int .u64 0, .int .u64 0]
  have A0 := Zje w (.cells #[.int .u64 a, .int .u64 b, .int .u64 c, .int .u64 d] 99) (.cells #[.int .u64 x, .int .u64 y, .int .u64 z, .int .u64 u] 99) (.cells #[.int .u64 0, .int .u64 0, .int .u64 0, .int .u64 0] 99) (.cells #[.int .u64 0, .int .u64 0, .int .u64 0, .int .u64 0] 99)
  go_enter Tryz.func80, Tryz.ntmps80
  go_wp2_with fail
  go_region_held3 (fun v => (v.cell? ⟨w.heap.size, 0, none⟩ = some (.int .u64 a) ∧ v.cell? ⟨w.heap.size, 1, none⟩ = some (.int .u64 b) ∧ v.cell? ⟨w.heap.size, 2, none⟩ = some (.int .u64 c) ∧ v.cell? ⟨w.heap.size, 3, none⟩ = some (.int .u64 d) ∧ v.cell? ⟨w.heap.size + 1, 0, none⟩ = some (.int .u64 x) ∧ v.cell? ⟨w.heap.size + 1, 1, none⟩ = some (.int .u64 y) ∧ v.cell? ⟨w.heap.size + 1, 2, none⟩ = some (.int .u64 z) ∧ v.cell? ⟨w.heap.size + 1, 3, none⟩ = some (.int .u64 u)) ∧ Rows3 w.heap.size w v #[.int .u64 a, .int .u64 b, .int .u64 c, .int .u64 d] #[.int .u64 x, .int .u64 y, .int .u64 z, .int .u64 u] #[.int .u64 0, .int .u64 0, .int .u64 0, .int .u64 0])
    ((refine s_of ?_; first | exact R0.drew | (with_reducible assumption) | exact Rows3.alloc (And.right (by assumption)) _ | exact Rows3.alloc (by assumption) _ | exact (R0.alloc _).drew | exact Rows3.putAt (And.right (by assumption)) (by omega) _ _ _ _ | exact Rows3.putAt (by assumption) (by omega) _ _ _ _))
    (first
    | (go_at_call 109; refine (Zny _ _ _ _ _ _ _ _ _).mono ?_; rintro e w1 ⟨⟨a1, b1, c1, d1, rfl, H1⟩, hb1⟩; have S1 := Rows3.call (And.right (by assumption)) hb1; have z1 := S1.size; first | (have h5 := Below.row hb1 A0.out; clear hb1) | (clear hb1))
    | (go_at_call 108; refine (Zrz _ _ _ _ _ _ _ _ _).mono ?_; rintro e w2 ⟨⟨a2, b2, c2, d2, rfl, H2⟩, hb2⟩; have S2 := Rows3.call (And.right (by assumption)) hb2; have z2 := S2.size; first | (have h6 := Below.row hb2 h5; obtain ⟨p2, q2, r2, s2, f2⟩ := Zbn h6; clear hb2) | (have h6 := Below.row hb2 (heap_alloc_new w1 _); obtain ⟨p2, q2, r2, s2, f2⟩ := Zbn h6; clear hb2) | (clear hb2)))
  all_goals
    go_wp2_with fail
    refine (Zny _ _ _ _ _ _ _ _ _).mono ?_
    rintro e w3 ⟨⟨a3, b3, c3, d3, rfl, H3⟩, hb3⟩
    have S3 := Rows3.call (And.right (by assumption)) hb3
    obtain ⟨p3, q3, r3, s3, f3⟩ := Zbn S3.h4
    clear hb3
    go_wp2_with fail
    have hrow := put4 S3.h4 (.int .u64 a3) (.int .u64 b3) (.int .u64 c3) (.int .u64 d3)
    refine bodyPost_ret (results_cell_row Tryz.results80 _ _ (w.heap.size + 1 + 1) 99 #[.int .u64 a3, .int .u64 b3, .int .u64 c3, .int .u64 d3] (0, 0) _ rfl hrow Tryz.underlying99 rfl (by kernel_rfl)) rfl ?_
    exact ⟨⟨_, _, _, _, rfl, Zx2 H1.out H2.out H3.out⟩, Zh7 S3.bel (by omega) _ _ _ _⟩
end Go.Proofs.YtchgejomcgoaeaaGreat.Di
namespace Go.Proofs.YtchgejomcgoaeaaGreat.Di
open Go.RowKit
def B8 (bs : List Int) : Array Value := (bs.map (Value.int .u8)).toArray
theorem B8_size (bs : List Int) : (B8 bs).size = bs.length := by simp [B8]
theorem B8_get (bs : List Int) (k : Nat) (h : k < bs.length) : (B8 bs)[k]? = some (.int .u8 (bs.getD k 0)) := by simp [B8, h]
theorem Zie {P : Program} (t e n : Nat) (k : IntKind) (hu : P.underlying t = some (.array n e)) (hs : (P.info? e).map (·.size) = some 1) (ha : P.underlying e = some (.int k)) (cs : Array Value) (i : Int) (v : Value) (h0 : 0 ≤ i) (hn : i < n) (hv : cs[i.toNat]? = some v) (w : World) :
    (Instr.index t (.agg cs) (.int .i64 i)).run P w = .ok v w := by
  cases hq : P.info? e with
  | none => simp [hq] at hs
  | some y =>
    have hy : y.size = 1 := by simpa [hq] using hs
    simp [Instr.index, asIntOf, run_underlying hu, run_underlying ha, h0, hn, sizeOf, typeInfo, hq, hy, part, isAgg, hv]
def or8 (m b : Int) : Int := wr (m * 256 + b)
def wstep (m : S4) (k : Nat) (b : Int) : S4 :=
  if k < 8 then { m with a := or8 m.a b } else if k < 16 then { m with b := or8 m.b b } else if k < 24 then { m with c := or8 m.c b } else { m with d := or8 m.d b }
def wfold (bs : List Int) : Nat → S4
  | 0 => ⟨0, 0, 0, 0⟩
  | k + 1 => wstep (wfold bs k) k (bs.getD k 0)
def words (bs : List Int) : S4 := wfold bs 32
def V4 (s : S4) : Array Value := #[.int .u64 s.a, .int .u64 s.b, .int .u64 s.c, .int .u64 s.d]
theorem Zin (m b : Int) (h0 : 0 ≤ b) (h1 : b < 256) : bits BinOp.or IntKind.u64 (IntKind.u64.wrap (m * 256)) b = or8 m b := by
  have hw : ∀ n : Int, 0 ≤ n → n < 2 ^ 64 → IntKind.u64.wrap n = n := fun n a b => by rw [IntKind.wrap_u64]; omega
  rw [IntKind.wrap_u64]
  have e := bits_join .u64 64 (by decide) hw 8 (m * 256 % 18446744073709551616) b (by omega) (by omega) (by omega) h0 (by omega) (by omega)
  rw [e]
  unfold or8 wr
  rw [IntKind.wrap_u64]
  omega
structure Rows2 (n : Nat) (w0 w : World) (r3 r4 : Array Value) : Prop where
  h3 : w.heap[n + 1]? = some (.cells r3 99)
  h4 : w.heap[n + 1 + 1]? = some (.cells r4 99)
  bel : Below n w0 w
theorem Rows2.put0 {n : Nat} {w0 w : World} {x0 x1 x2 x3 : Value} {r3 : Array Value} (h : Rows2 n w0 w r3 #[x0, x1, x2, x3]) (v : Value) : Rows2 n w0 (w.setCell ⟨n + 1 + 1, 0, none⟩ v) r3 #[v, x1, x2, x3] :=
  ⟨(heap_setCell_other _ _ _ _ (by simp)).trans h.h3, by simpa using heap_setCell_same w (n + 1 + 1) 0 _ 99 v h.h4, h.bel.setCell (by simp; omega) _⟩
theorem Rows2.put1 {n : Nat} {w0 w : World} {x0 x1 x2 x3 : Value} {r3 : Array Value} (h : Rows2 n w0 w r3 #[x0, x1, x2, x3]) (v : Value) : Rows2 n w0 (w.setCell ⟨n + 1 + 1, 1, none⟩ v) r3 #[x0, v, x2, x3] :=
  ⟨(heap_setCell_other _ _ _ _ (by simp)).trans h.h3, by simpa using heap_setCell_same w (n + 1 + 1) 1 _ 99 v h.h4, h.bel.setCell (by simp; omega) _⟩
theorem Rows2.put2 {n : Nat} {w0 w : World} {x0 x1 x2 x3 : Value} {r3 : Array Value} (h : Rows2 n w0 w r3 #[x0, x1, x2, x3]) (v : Value) : Rows2 n w0 (w.setCell ⟨n + 1 + 1, 2, none⟩ v) r3 #[x0, x1, v, x3] :=
  ⟨(heap_setCell_other _ _ _ _ (by simp)).trans h.h3, by simpa using heap_setCell_same w (n + 1 + 1) 2 _ 99 v h.h4, h.bel.setCell (by simp; omega) _⟩
theorem Rows2.put3 {n : Nat} {w0 w : World} {x0 x1 x2 x3 : Value} {r3 : Array Value} (h : Rows2 n w0 w r3 #[x0, x1, x2, x3]) (v : Value) : Rows2 n w0 (w.setCell ⟨n + 1 + 1, 3, none⟩ v) r3 #[x0, x1, x2, v] :=
  ⟨(heap_setCell_other _ _ _ _ (by simp)).trans h.h3, by simpa using heap_setCell_same w (n + 1 + 1) 3 _ 99 v h.h4, h.bel.setCell (by simp; omega) _⟩
theorem Zou (w : World) (o : Obj) (B C : Array Value) : Rows2 w.heap.size w (((w.alloc o).alloc (.cells B 99)).alloc (.cells C 99)) B C := by
  have s1 : (w.alloc o).heap.size = w.heap.size + 1 := by simp
  have s2 : ((w.alloc o).alloc (.cells B 99)).heap.size = w.heap.size + 1 + 1 := by simp
  have h2 := heap_alloc_new (w.alloc o) (.cells B 99)
  have h3 := heap_alloc_new ((w.alloc o).alloc (.cells B 99)) (.cells C 99)
  rw [s1] at h2
  rw [s2] at h3
  exact ⟨by rw [Below.heap_alloc _ _ _ (by omega)]; exact h2, h3, (((Below.refl _ _).alloc (Nat.le_refl _) _).alloc (by omega) _).alloc (by omega) _⟩
theorem getD_mem (bs : List Int) (k : Nat) (h : k < bs.length) : bs.getD k 0 ∈ bs := by simp [List.getD, List.getElem?_eq_getElem h]
theorem Zm5 (bs : List Int) (k : Nat) (m : S4) (b : Int) (h : wfold bs k = m) (hb : bs.getD k 0 = b) : wfold bs (k + 1) = wstep m k b := by rw [← h, ← hb]; rfl
set_option maxHeartbeats 1000000 in
theorem Zdm (bs : List Int) (hn : bs.length = 32) (hb : ∀ b ∈ bs, 0 ≤ b ∧ b < 256) (w : World) :
    Calls Tryz.prog 81 #[.agg (B8 bs)] w fun e w' => (∃ a' b' c' d', e = .returned (.agg #[.int .u64 a', .int .u64 b', .int .u64 c', .int .u64 d']) ∧ Hid (S4.mk a' b' c' d' = words bs)) ∧ Below w.heap.size w w' := by
  have hrow : ((((w.alloc (.cells (B8 bs) 22)).alloc (.cells #[.int .u64 0, .int .u64 0, .int .u64 0, .int .u64 0] 99)).alloc (.cells #[.int .u64 0, .int .u64 0, .int .u64 0, .int .u64 0] 99)).heap[w.heap.size]?) = some (.cells (B8 bs) 22 (0, 0)) := by
    rw [Below.heap_alloc _ _ _ (by simp; omega), Below.heap_alloc _ _ _ (by simp)]; exact heap_alloc_new _ _
  have hin : (Tryz.prog.info? 22).map (·.size) = some (B8 bs).size := by rw [B8_size, hn]; kernel_rfl
  have HR := Hid.mk hrow
  clear hrow
  have HI := Hid.mk hin
  clear hin
  go_enter Tryz.func81, Tryz.ntmps81
  go_wp2_with (first | refine wpList_load_row rfl 22 _ rfl _ rfl 22 _ _ _ HR.out Tryz.underlying22 rfl HI.out ?_)
  go_loopw [7] (fun i v => ∃ k : Nat, k ≤ 32 ∧ i = .int .i64 k ∧ Rows2 w.heap.size w v #[.int .u64 0, .int .u64 0, .int .u64 0, .int .u64 0] (V4 (wfold bs k))) (fun i _ => 32 - (intOf i).toNat)
  case atStart =>
    exact ⟨0, by omega, rfl, Zou w _ _ _⟩
  case round =>
    obtain ⟨k, hk, rfl, R⟩ := hrel
    by_cases hlt : k < 32
    · obtain ⟨hb0, hb1⟩ : 0 ≤ bs.getD k 0 ∧ bs.getD k 0 < 256 := hb _ (getD_mem bs k (by omega))
      have hix := fun v => Zie (P := Tryz.prog) 22 5 32 .u8 Tryz.underlying22 (by kernel_rfl) Tryz.underlying5 (B8 bs) (k : Int) _ (by omega) (by omega) (B8_get bs k (by omega)) v
      have HB : Hid (bs.getD k 0 = bs.getD k 0) := rfl
      generalize hbk : bs.getD k 0 = b at hb0 hb1 hix
      generalize hm : wfold bs k = m at R
      obtain ⟨ma, mb, mc, md⟩ := m
      have W1 := Hid.mk (Zm5 bs k _ b hm hbk)
      clear hm hbk HB
      have R' : Rows2 w.heap.size w _ _ #[.int .u64 ma, .int .u64 mb, .int .u64 mc, .int .u64 md] := R
      obtain ⟨p, q, r, s, f⟩ := Zbn R'.h4
      have hc : k < 8 ∨ (8 ≤ k ∧ k < 16) ∨ (16 ≤ k ∧ k < 24) ∨ 24 ≤ k := by omega
      rcases hc with hc | hc | hc | hc
      · have hq : (k : Int) / 8 = 0 := by omega
        go_wp2
        refine ⟨⟨k + 1, by omega, by go_num, ?_⟩, by simp [intOf]; omega⟩
        rw [W1.out, Zin _ _ hb0 hb1]
        simpa [wstep, hc, V4] using R'.put0 (.int .u64 (or8 ma b))
      · have hq : (k : Int) / 8 = 1 := by omega
        go_wp2
        refine ⟨⟨k + 1, by omega, by go_num, ?_⟩, by simp [intOf]; omega⟩
        rw [W1.out, Zin _ _ hb0 hb1]
        simpa [wstep, show ¬ k < 8 from by omega, show k < 16 from by omega, V4] using R'.put1 (.int .u64 (or8 mb b))
      · have hq : (k : Int) / 8 = 2 := by omega
        go_wp2
        refine ⟨⟨k + 1, by omega, by go_num, ?_⟩, by simp [intOf]; omega⟩
        rw [W1.out, Zin _ _ hb0 hb1]
        simpa [wstep, show ¬ k < 8 from by omega, show ¬ k < 16 from by omega, show k < 24 from by omega, V4] using R'.put2 (.int .u64 (or8 mc b))
      · have hq : (k : Int) / 8 = 3 := by omega
        go_wp2
        refine ⟨⟨k + 1, by omega, by go_num, ?_⟩, by simp [intOf]; omega⟩
        rw [W1.out, Zin _ _ hb0 hb1]
        simpa [wstep, show ¬ k < 8 from by omega, show ¬ k < 16 from by omega, show ¬ k < 24 from by omega, V4] using R'.put3 (.int .u64 (or8 md b))
    · have hk2 : k = 32 := by omega
      subst hk2
      generalize hm : wfold bs 32 = m at R
      obtain ⟨ma, mb, mc, md⟩ := m
      have W1 := Hid.mk hm
      clear hm
      have R' : Rows2 w.heap.size w _ _ #[.int .u64 ma, .int .u64 mb, .int .u64 mc, .int .u64 md] := R
      obtain ⟨p, q, r, s, f⟩ := Zbn R'.h4
      obtain ⟨p3, q3, r3, s3, f3⟩ := Zbn R'.h3
      go_wp2
      have hrow := put4 R'.h3 (.int .u64 ma) (.int .u64 mb) (.int .u64 mc) (.int .u64 md)
      refine bodyPost_ret (results_cell_row Tryz.results81 _ _ (w.heap.size + 1) 99 #[.int .u64 ma, .int .u64 mb, .int .u64 mc, .int .u64 md] (0, 0) _ rfl hrow Tryz.underlying99 rfl (by kernel_rfl)) rfl ?_
      exact ⟨⟨_, _, _, _, rfl, W1.out.symm⟩, Zh7 R'.bel (by omega) _ _ _ _⟩
end Go.Proofs.YtchgejomcgoaeaaGreat.Di
namespace Go.Proofs.YtchgejomcgoaeaaGreat.Di
open Go.RowKit
structure Tri (n : Nat) (w0 w : World) (A B C : Obj) : Prop where
  hA : w.heap[n]? = some A
  hB : w.heap[n + 1]? = some B
  hC : w.heap[n + 1 + 1]? = some C
  bel : Below n w0 w
theorem Zuw (w : World) (A B C : Obj) : Tri w.heap.size w (((w.alloc A).alloc B).alloc C) A B C := by
  have s1 : (w.alloc A).heap.size = w.heap.size + 1 := by simp
  have s2 : ((w.alloc A).alloc B).heap.size = w.heap.size + 1 + 1 := by simp
  have h1 := heap_alloc_new w A
  have h2 := heap_alloc_new (w.alloc A) B
  have h3 := heap_alloc_new ((w.alloc A).alloc B) C
  rw [s1] at h2
  rw [s2] at h3
  exact ⟨by rw [Below.heap_alloc _ _ _ (by omega), Below.heap_alloc _ _ _ (by omega)]; exact h1, by rw [Below.heap_alloc _ _ _ (by omega)]; exact h2, h3,
   (((Below.refl _ _).alloc (Nat.le_refl _) _).alloc (by omega) _).alloc (by omega) _⟩
theorem Zrd (ds : List Int) (k : Nat) (x : Int) : (B8 ds).setIfInBounds k (.int .u8 x) = B8 (ds.set k x) := by
  unfold B8
  simp [List.map_set]
theorem Tri.setC {n : Nat} {w0 w : World} {A B : Obj} {ds : List Int} {t : Nat} (h : Tri n w0 w A B (.cells (B8 ds) t)) (k : Nat) (x : Int) : Tri n w0 (w.setCell ⟨n + 1 + 1, k, none⟩ (.int .u8 x)) A B (.cells (B8 (ds.set k x)) t) :=
  ⟨(heap_setCell_other _ _ _ _ (by simp; omega)).trans h.hA, (heap_setCell_other _ _ _ _ (by simp)).trans h.hB, by rw [heap_setCell_same w (n + 1 + 1) k _ t _ h.hC, Zrd], h.bel.setCell (by simp; omega) _⟩
theorem Zlh {w : World} {g t : Nat} {ds : List Int} (h : w.heap[g]? = some (.cells (B8 ds) t)) (k : Nat) (hk : k < ds.length) : w.cell? ⟨g, k, none⟩ = some (.int .u8 (ds.getD k 0)) := by
  rw [cell_of_row w g k _ _ _ h, B8_get ds k hk]
def sel (s : S4) (k : Nat) : Int := if k < 8 then s.a else if k < 16 then s.b else if k < 24 then s.c else s.d
def bt (x : Int) (k : Nat) : Int := x / 2 ^ (56 - 8 * (k % 8)) % 256
def digk (s : S4) (k : Nat) : List Int := (List.range 32).map (fun i => if i < k then bt (sel s i) i else 0)
def dig (s : S4) : List Int := (List.range 32).map (fun i => bt (sel s i) i)
theorem Zms (s : S4) : digk s 32 = dig s := by
  unfold digk dig
  refine List.map_congr_left fun i hi => ?_
  rw [if_pos (by simpa using hi)]
theorem Zg5 (s : S4) (k : Nat) : (digk s k).length = 32 := by simp [digk]
theorem Zce (s : S4) (k : Nat) : (digk s k).set k (bt (sel s k) k) = digk s (k + 1) := by
  apply List.ext_getElem
  · simp [digk]
  · intro i h1 h2
    simp [digk, List.getElem_set]
    by_cases e : k = i
    · subst e; simp
    · simp [e]
      by_cases e2 : i < k
      · simp [e2, Nat.lt_succ_of_lt e2]
      · rw [if_neg e2, if_neg (by omega)]
theorem B8_one (bs : List Int) : (B8 bs).all (·.oneCell') = true := by
  simp [B8, Value.oneCell']
theorem Below.setRow {B : Nat} {w0 w : World} {g : Nat} (h : Below B w0 w) (hg : B ≤ g) (cs : Array Value) : Below B w0 (w.setRow g cs) :=
  h.trans ⟨rfl, rfl, rfl, by simp, fun k hk => setRow_other w g k cs (by omega)⟩
set_option maxHeartbeats 1000000 in
theorem Zkg (a b c d : Int) (w : World) :
    Calls Tryz.prog 82 #[.agg #[.int .u64 a, .int .u64 b, .int .u64 c, .int .u64 d]] w fun e w' => e = .returned (.agg (B8 (dig ⟨a, b, c, d⟩))) ∧ Below w.heap.size w w' := by
  go_enter Tryz.func82, Tryz.ntmps82
  go_wp2_with fail
  go_loopw [5] (fun i v => ∃ k : Nat, k ≤ 32 ∧ i = .int .i64 k ∧ Tri w.heap.size w v (.cells #[.int .u64 a, .int .u64 b, .int .u64 c, .int .u64 d] 99) (.cells (B8 (List.replicate 32 0)) 23) (.cells (B8 (digk ⟨a, b, c, d⟩ k)) 23)) (fun i _ => 32 - (intOf i).toNat)
  case atStart =>
    exact ⟨0, by omega, rfl, Zuw w _ _ _⟩
  case round =>
    obtain ⟨k, hk, rfl, R⟩ := hrel
    by_cases hlt : k < 32
    · obtain ⟨p, q, r, s, f⟩ := Zbn R.hA
      have hcell := Zlh R.hC k (by rw [Zg5]; omega)
      have hfr := frozen_of_row _ _ k _ _ R.hC
      have hc : k < 8 ∨ (8 ≤ k ∧ k < 16) ∨ (16 ≤ k ∧ k < 24) ∨ 24 ≤ k := by omega
      generalize (digk ⟨a, b, c, d⟩ k).getD k 0 = y at hcell
      rcases hc with hc | hc | hc | hc
      · have hq : (k : Int) / 8 = 0 := by omega
        go_wp2
        refine ⟨⟨k + 1, by omega, by go_num, ?_⟩, by simp [intOf]; omega⟩
        have e : sel ⟨a, b, c, d⟩ k = a := by simp [sel, hc]
        have T := R.setC k (bt (sel ⟨a, b, c, d⟩ k) k)
        rw [Zce, e] at T
        exact T
      · have hq : (k : Int) / 8 = 1 := by omega
        go_wp2
        refine ⟨⟨k + 1, by omega, by go_num, ?_⟩, by simp [intOf]; omega⟩
        have e : sel ⟨a, b, c, d⟩ k = b := by simp [sel, show ¬ k < 8 from by omega, show k < 16 from by omega]
        have T := R.setC k (bt (sel ⟨a, b, c, d⟩ k) k)
        rw [Zce, e] at T
        exact T
      · have hq : (k : Int) / 8 = 2 := by omega
        go_wp2
        refine ⟨⟨k + 1, by omega, by go_num, ?_⟩, by simp [intOf]; omega⟩
        have e : sel ⟨a, b, c, d⟩ k = c := by simp [sel, show ¬ k < 8 from by omega, show ¬ k < 16 from by omega, show k < 24 from by omega]
        have T := R.setC k (bt (sel ⟨a, b, c, d⟩ k) k)
        rw [Zce, e] at T
        exact T
      · have hq : (k : Int) / 8 = 3 := by omega
        go_wp2
        refine ⟨⟨k + 1, by omega, by go_num, ?_⟩, by simp [intOf]; omega⟩
        have e : sel ⟨a, b, c, d⟩ k = d := by simp [sel, show ¬ k < 8 from by omega, show ¬ k < 16 from by omega, show ¬ k < 24 from by omega]
        have T := R.setC k (bt (sel ⟨a, b, c, d⟩ k) k)
        rw [Zce, e] at T
        exact T
    · have hk2 : k = 32 := by omega
      subst hk2
      rw [Zms] at R
      have hin : (Tryz.prog.info? 23).map (·.size) = some (B8 (dig ⟨a, b, c, d⟩)).size := by rw [B8_size]; kernel_rfl
      have HI := Hid.mk hin
      clear hin
      have HC := Hid.mk R.hC
      have HBr := Hid.mk R.hB
      go_wp2_with (first | refine wpList_load_row rfl 23 _ rfl _ rfl 23 _ _ _ HC.out Tryz.underlying23 rfl HI.out ?_ | refine wpList_store_row rfl 23 _ _ rfl _ (B8 (dig ⟨a, b, c, d⟩)) rfl rfl 23 _ HBr.out HI.out (by simp [B8_size, dig]) (B8_one _) ?_)
      refine bodyPost_ret (results_cell_row Tryz.results82 _ _ (w.heap.size + 1) 23 (B8 (dig ⟨a, b, c, d⟩)) (0, 0) _ rfl (setRow_heap _ _ _ _ _ _ HBr.out) Tryz.underlying23 rfl HI.out) rfl ?_
      exact ⟨rfl, Below.setRow R.bel (by omega) _⟩
end Go.Proofs.YtchgejomcgoaeaaGreat.Di
