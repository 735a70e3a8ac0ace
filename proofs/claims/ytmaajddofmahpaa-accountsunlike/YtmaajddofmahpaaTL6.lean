/- Proved: the statement AccountsUnlike, for every input (Rows.AccountsUnlikeSaid), with no condition. -/
import Derived.Test.YtmaajddofmahpaaG34
import Derived.Test.YtmaajddofmahpaaG24
namespace Go.Proofs.Ytmaajddofmahpaa
open Go.ChangeShapes Go.WideShapes Go.ChangeAt Go.RowKit
open Go.ChangeMaps (open_string shut_string)
set_option linter.unusedVariables false
set_option maxRecDepth 100000 in
theorem accountsUnlike_lifted (os : Os) (started : os.Started) (H : Type) (enc : TypeId × Value → H) :
    ReturnsInHanded {} Try.checked os 8 .any (Rows.accountsUnlikeSpec.pre6 enc Try.prog Try.f8 Rows.accountsUnlikeRow.domain false) (Rows.accountsUnlikeSpec.post enc Try.prog Try.f8 false true false false) := by
  refine returnsInHanded_of_change_sized (C := Try.checked) own started (by kernel_rfl) Try.func8
    (ChangeSpec.witness6 (enc := enc) (C := Try.checked) false ⟨#[], #[.agg (AVs 0 0 (List.replicate 32 0) (List.replicate 32 0)).toArray, .agg (AVs 0 0 (List.replicate 32 0) (List.replicate 32 0)).toArray, .int .u64 0], []⟩ 8 (by kernel_rfl) (by kernel_rfl) (by kernel_rfl) (by kernel_rfl)) ?_
  intro W base args ds gs before hval0 hW hcnd hsz0 _
  have hval : ∀ (j : Nat) t v, Try.f8.params[j]? = some t → args[j]? = some v → Value.okWide Try.prog W .any base t v := hval0
  have hsz : (DataW.weightsEach Try.prog (Try.f8.params.toList ++ Rows.accountsUnlikeSpec.plain.varTypes Try.prog) (ds ++ gs)).all (· ≤ reachBytes) = true := hsz0
  have hW' := hW
  obtain ⟨p, q, hA0, hV, rfl, hfz, hnd⟩ := hW
  have hA : DataW.TrodAll enc Try.prog W 0 (fun _ => true) true Try.f8.params.toList args.toList ds p := hA0
  rw [Try.params8] at hA hval hsz
  obtain ⟨v0, vs0, d0, ds0, p0, q0, hargs, rfl, rfl, h0, r0⟩ := trodAll_cons hA
  obtain ⟨v1, vs1, d1, ds1, p1, q1, rfl, rfl, rfl, h1, r1⟩ := trodAll_cons r0
  obtain ⟨v2, vs2, d2, ds2, p2, q2, rfl, rfl, rfl, h2, r2⟩ := trodAll_cons r1
  obtain ⟨rfl, rfl, rfl⟩ := trodAll_nil r2
  obtain rfl : args = #[v0, v1, v2] := by cases args; simp_all
  obtain ⟨rfl, rfl⟩ := trodVars_none hV
  have k0 := h0
  have lt0 : ∀ x ∈ p0, x.block < W.heap.size := by obtain ⟨m, hm⟩ := k0; exact DataW.trod_lt m _ _ _ hm
  have k1 := h1
  have lt1 : ∀ x ∈ p1, x.block < W.heap.size := by obtain ⟨m, hm⟩ := k1; exact DataW.trod_lt m _ _ _ hm
  obtain ⟨n0, b0, c0, s0, rfl, bn0, bb0, lc0, bc0, ls0, bs0⟩ := open_acc accT.choose_spec.choose_spec.choose_spec.choose_spec (hval 0 26 v0 rfl rfl) h0
  have ok0 : okA ⟨n0, b0, c0, s0⟩ := ⟨bn0, bb0, lc0, bc0, ls0, bs0⟩
  obtain ⟨n1, b1, c1, s1, rfl, bn1, bb1, lc1, bc1, ls1, bs1⟩ := open_acc accT.choose_spec.choose_spec.choose_spec.choose_spec (hval 1 26 v1 rfl rfl) h1
  have ok1 : okA ⟨n1, b1, c1, s1⟩ := ⟨bn1, bb1, lc1, bc1, ls1, bs1⟩
  obtain ⟨n2, rfl, rfl, rfl, wf2⟩ := open_int Try.underlying22 (hval 2 22 v2 rfl rfl) h2
  have bd2 := bounds_u64 wf2
  have bd2 : 0 ≤ n2 ∧ n2 < 18446744073709551616 := by omega
  clear hA0 hval0
  refine (acunlike_any ⟨n0, b0, c0, s0⟩ ⟨n1, b1, c1, s1⟩ n2 ok0 ok1 bd2 W).mono fun e W' ⟨he, bel⟩ => ?_
  subst he
  exact ⟨_, rfl, _, _, _, [], _, [], hW', trodAll_mk1 (shut_bool Try.underlying4 _), (trodAll_cons_mk (Below.trod laidOut (by kernel_rfl) (of_decide_eq_true (by kernel_rfl)) k0 bel lt0) (trodAll_cons_mk (Below.trod laidOut (by kernel_rfl) (of_decide_eq_true (by kernel_rfl)) k1 bel lt1) (trodAll_cons_mk (shut_int Try.underlying22 wf2) trodAll_mk0))), rfl, bel.frame _, fun h => by cases h⟩
theorem accountsUnlike_over : Rows.accountsUnlikeRow.holds Try.pinned (OpenSpec.ofChange Rows.accountsUnlikeSpec) :=
  OpenClaim.holds_of_wide 8 Try.f8 rfl rfl rfl rfl rfl rfl rfl ⟨rfl, rfl, rfl, rfl, rfl⟩ rfl rfl rfl rfl rfl (by kernel_rfl) Try.func8 (by kernel_rfl)
    (of_decide_eq_true (by kernel_rfl)) (by unfold Func.isWrapper; first | (rw [if_pos (by decide +kernel)]; kernel_rfl) | (rw [if_neg (by decide +kernel)]; exact ⟨rfl, rfl⟩))
    (fun os started H enc _ => accountsUnlike_lifted os started H enc)
theorem accountsUnlike_holds : Rows.AccountsUnlikeSaid := accountsUnlike_over
#print axioms accountsUnlike_holds
end Go.Proofs.Ytmaajddofmahpaa
