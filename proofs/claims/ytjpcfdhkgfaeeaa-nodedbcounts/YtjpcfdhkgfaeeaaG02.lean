/- What digest.mix answers: the mixing of one piece's four words into the state, for every input. -/
import Derived.Test.YtjpcfdhkgfaeeaaG01
import Derived.Deep.RegionHeld3
namespace Go.Proofs.Ytjpcfdhkgfaeeaa.Di
set_option maxRecDepth 100000
open Go.RowKit
theorem mix_of {s m s1 s2 s3 : S4} (h1 : s1 = xor4 s m) (h2 : s2 = stir s1 m) (h3 : s3 = xor4 s2 s) : s3 = mix s m := by
  rw [h3, h2, h1]
  rfl
theorem s_of {n : Nat} {w0 v : World} {a b c d x y z u : Value} {r4 : Array Value} (h : Rows3 n w0 v #[a, b, c, d] #[x, y, z, u] r4) :
    (v.cell? ⟨n, 0, none⟩ = some a ∧ v.cell? ⟨n, 1, none⟩ = some b ∧ v.cell? ⟨n, 2, none⟩ = some c ∧ v.cell? ⟨n, 3, none⟩ = some d ∧ v.cell? ⟨n + 1, 0, none⟩ = some x ∧ v.cell? ⟨n + 1, 1, none⟩ = some y ∧ v.cell? ⟨n + 1, 2, none⟩ = some z ∧ v.cell? ⟨n + 1, 3, none⟩ = some u) ∧ Rows3 n w0 v #[a, b, c, d] #[x, y, z, u] r4 := by
  obtain ⟨p, q, r, s, _⟩ := cells4 h.h2
  obtain ⟨p', q', r', s', _⟩ := cells4 h.h3
  exact ⟨⟨p, q, r, s, p', q', r', s'⟩, h⟩
set_option maxHeartbeats 1000000 in
theorem mix_any (a b c d x y z u : Int) (w : World) :
    Calls Try.prog 47 #[.agg #[.int .u64 a, .int .u64 b, .int .u64 c, .int .u64 d], .agg #[.int .u64 x, .int .u64 y, .int .u64 z, .int .u64 u]] w fun e w' => (∃ a' b' c' d', e = .returned (.agg #[.int .u64 a', .int .u64 b', .int .u64 c', .int .u64 d']) ∧ Hid (S4.mk a' b' c' d' = mix ⟨a, b, c, d⟩ ⟨x, y, z, u⟩)) ∧ Below w.heap.size w w' := by
  have R0 := rows3_new w #[.int .u64 a, .int .u64 b, .int .u64 c, .int .u64 d] #[.int .u64 x, .int .u64 y, .int .u64 z, .int .u64 u] #[.int .u64 0, .int .u64 0, .int .u64 0, .int .u64 0]
  have A0 := rows3_fourth w (.cells #[.int .u64 a, .int .u64 b, .int .u64 c, .int .u64 d] 93) (.cells #[.int .u64 x, .int .u64 y, .int .u64 z, .int .u64 u] 93) (.cells #[.int .u64 0, .int .u64 0, .int .u64 0, .int .u64 0] 93) (.cells #[.int .u64 0, .int .u64 0, .int .u64 0, .int .u64 0] 93)
  go_enter Try.func47, Try.ntmps47
  go_wp2_with fail
  go_region_held3 (fun v => (v.cell? ⟨w.heap.size, 0, none⟩ = some (.int .u64 a) ∧ v.cell? ⟨w.heap.size, 1, none⟩ = some (.int .u64 b) ∧ v.cell? ⟨w.heap.size, 2, none⟩ = some (.int .u64 c) ∧ v.cell? ⟨w.heap.size, 3, none⟩ = some (.int .u64 d) ∧ v.cell? ⟨w.heap.size + 1, 0, none⟩ = some (.int .u64 x) ∧ v.cell? ⟨w.heap.size + 1, 1, none⟩ = some (.int .u64 y) ∧ v.cell? ⟨w.heap.size + 1, 2, none⟩ = some (.int .u64 z) ∧ v.cell? ⟨w.heap.size + 1, 3, none⟩ = some (.int .u64 u)) ∧ Rows3 w.heap.size w v #[.int .u64 a, .int .u64 b, .int .u64 c, .int .u64 d] #[.int .u64 x, .int .u64 y, .int .u64 z, .int .u64 u] #[.int .u64 0, .int .u64 0, .int .u64 0, .int .u64 0])
    ((refine s_of ?_; first | exact R0.drew | (with_reducible assumption) | exact Rows3.alloc (And.right (by assumption)) _ | exact Rows3.alloc (by assumption) _ | exact (R0.alloc _).drew | exact Rows3.putAt (And.right (by assumption)) (by omega) _ _ _ _ | exact Rows3.putAt (by assumption) (by omega) _ _ _ _))
    (first
    | (go_at_call 61; refine (xor_any _ _ _ _ _ _ _ _ _).mono ?_; rintro e w1 ⟨⟨a1, b1, c1, d1, rfl, H1⟩, hb1⟩; have S1 := Rows3.call (And.right (by assumption)) hb1; have z1 := S1.size; first | (have h5 := Below.row hb1 A0.out; clear hb1) | (clear hb1))
    | (go_at_call 60; refine (stir_any _ _ _ _ _ _ _ _ _).mono ?_; rintro e w2 ⟨⟨a2, b2, c2, d2, rfl, H2⟩, hb2⟩; have S2 := Rows3.call (And.right (by assumption)) hb2; have z2 := S2.size; first | (have h6 := Below.row hb2 h5; obtain ⟨p2, q2, r2, s2, f2⟩ := cells4 h6; clear hb2) | (have h6 := Below.row hb2 (heap_alloc_new w1 _); obtain ⟨p2, q2, r2, s2, f2⟩ := cells4 h6; clear hb2) | (clear hb2)))
  all_goals
    go_wp2_with fail
    refine (xor_any _ _ _ _ _ _ _ _ _).mono ?_
    rintro e w3 ⟨⟨a3, b3, c3, d3, rfl, H3⟩, hb3⟩
    have S3 := Rows3.call (And.right (by assumption)) hb3
    obtain ⟨p3, q3, r3, s3, f3⟩ := cells4 S3.h4
    clear hb3
    go_wp2_with fail
    have hrow := put4 S3.h4 (.int .u64 a3) (.int .u64 b3) (.int .u64 c3) (.int .u64 d3)
    refine bodyPost_ret (results_cell_row Try.results47 _ _ (w.heap.size + 1 + 1) 93 #[.int .u64 a3, .int .u64 b3, .int .u64 c3, .int .u64 d3] (0, 0) _ rfl hrow Try.underlying93 rfl (by kernel_rfl)) rfl ?_
    exact ⟨⟨_, _, _, _, rfl, mix_of H1.out H2.out H3.out⟩, below4 S3.bel (by omega) _ _ _ _⟩
end Go.Proofs.Ytjpcfdhkgfaeeaa.Di
