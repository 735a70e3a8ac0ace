/- What == answers on two digests: whether all 32 bytes are the same. -/
import Derived.Test.YtcbjjndhecehcaaW4
namespace Go.Proofs.Ytcbjjndhecehcaa
open Go.RowKit
theorem eq_loop (xs ys : List Int) (hx : xs.length = 32) (hy : ys.length = 32) (d : Nat) : ∀ (n k : Nat) (w : World), k + n = 32 →
    (forIn (m := Sem) (List.range' k n) ((none : Option Bool), ()) fun i _ => do
            let a ← part 5 (B8 xs) (i * 1)
            let b ← part 5 (B8 ys) (i * 1)
            let r ← Op.equalIn (d + 1) 5 a b
            if (!r) = true then pure (ForInStep.done (some false, ())) else pure (ForInStep.yield (none, ()))).run Try.prog w =
      .ok (if xs.drop k == ys.drop k then (none, ()) else (some false, ())) w
  | 0, k, w, hk => by
    have e1 : xs.drop k = [] := List.drop_eq_nil_of_le (by omega)
    have e2 : ys.drop k = [] := List.drop_eq_nil_of_le (by omega)
    rw [e1, e2]
    simp
  | n + 1, k, w, hk => by
    have ih := eq_loop xs ys hx hy d n (k + 1) w (by omega)
    have hlx : k < xs.length := by omega
    have hly : k < ys.length := by omega
    have px : (part 5 (B8 xs) (k * 1)).run Try.prog w = .ok (.int .u8 (xs.getD k 0)) w := by
      simp only [part, Sem.run_bind, isAgg, run_underlying Try.underlying5, Result.andThen_ok, Sem.run_pure, Bool.false_eq_true, if_false, Nat.mul_one, B8_get xs k hlx]
    have py : (part 5 (B8 ys) (k * 1)).run Try.prog w = .ok (.int .u8 (ys.getD k 0)) w := by
      simp only [part, Sem.run_bind, isAgg, run_underlying Try.underlying5, Result.andThen_ok, Sem.run_pure, Bool.false_eq_true, if_false, Nat.mul_one, B8_get ys k hly]
    have pe := run_equalIn_int w d 5 .u8 .u8 (xs.getD k 0) (ys.getD k 0) (P := Try.prog) Try.underlying5
    have dx : xs.drop k = xs.getD k 0 :: xs.drop (k + 1) := by rw [List.drop_eq_getElem_cons hlx]; simp [List.getD, List.getElem?_eq_getElem hlx]
    have dy : ys.drop k = ys.getD k 0 :: ys.drop (k + 1) := by rw [List.drop_eq_getElem_cons hly]; simp [List.getD, List.getElem?_eq_getElem hly]
    rw [List.range'_succ, List.forIn_cons]
    simp only [Sem.run_bind, px, py, pe, Result.andThen_ok]
    rw [dx, dy, List.cons_beq_cons]
    cases hc : (xs.getD k 0 == ys.getD k 0) with
    | false => simp
    | true =>
      simp only [Bool.not_true, Bool.false_eq_true, if_false, Sem.run_pure, Result.andThen_ok, Bool.true_and]
      exact ih
theorem eq_arr (xs ys : List Int) (hx : xs.length = 32) (hy : ys.length = 32) (d : Nat) (w : World) :
    (Op.equalIn (d + 1 + 1) 24 (.agg (B8 xs)) (.agg (B8 ys))).run Try.prog w = .ok (xs == ys) w := by
  have hs : (Try.prog.info? 5).map (·.size) = some 1 := by kernel_rfl
  cases hq : Try.prog.info? 5 with
  | none => simp [hq] at hs
  | some y =>
    have hy1 : y.size = 1 := by simpa [hq] using hs
    rw [Op.equalIn]
    simp only [Sem.run_bind, run_underlying Try.underlying24, Result.andThen_ok, sizeOf, typeInfo, run_program, hq, hy1, Sem.run_pure]
    have e := eq_loop xs ys hx hy d 32 0 w (by omega)
    rw [Std.Legacy.Range.forIn_eq_forIn_range']
    simp only [Std.Legacy.Range.size, List.drop_zero] at e ⊢
    rw [show (32 - 0 + 1 - 1) / 1 = 32 from rfl]
    rw [e]
    cases xs == ys <;> simp
end Go.Proofs.Ytcbjjndhecehcaa
