/- Proved: the statement NestMakes, for every input (Rows.NestMakesSaid), with no condition. -/
import Derived.Test.YtkbdkenpblcofabL9
import Derived.Test.YtkbdkenpblcofabOI
namespace Go.Proofs.Ytkbdkenpblcofab
open Go.ChangeShapes Go.WideShapes Go.ChangeAt Go.RowKit
open Go.ChangeMaps (open_string shut_string)
set_option linter.unusedVariables false
theorem items_more {H : Type} {enc : TypeId × Value → H} {w : World} {held : Bool} {a : Option Addr} {m c : Nat} {d : DataW H} {p : List MemPlace}
    (h : DataW.Trod enc Try.prog w 0 (fun _ => true) held 22 (.slice a m c) d p) (hsz : ∀ n ∈ d.weights Try.prog 22, n ≤ reachBytes) : 56 * m ≤ 281474976710656 ∧ (a = none → c = 0) := by
  obtain ⟨fuel, hf⟩ := h
  rcases DataW.trod_slice Try.underlying22 hf with ⟨hcs, _⟩ | ⟨p, len, cap, elems, rest, n, hfu, hcs, hx, _, hl, hm, hlen, hel, hrl, _⟩
  · simp [Value.cells] at hcs
    obtain ⟨rfl, rfl, rfl⟩ := hcs
    exact ⟨by omega, fun _ => rfl⟩
  · simp [Value.cells] at hcs
    obtain ⟨rfl, rfl, rfl⟩ := hcs
    have hd := (Prod.mk.inj hx).1
    subst hd
    have hw : (DataW.slice (elems.map (·.1)) (rest.map (·.1))).weights Try.prog 22 = ((elems.map (·.1)).length + (rest.map (·.1)).length) * Try.prog.bytesOf 25 :: (DataW.weightsAll Try.prog 25 (elems.map (·.1)) ++ DataW.weightsAll Try.prog 25 (rest.map (·.1))) := by
      simp only [DataW.weights, Try.underlying22]
    rw [hw] at hsz
    have hsz1 := hsz _ (List.mem_cons_self ..)
    rw [bytesI, List.length_map, List.length_map, hlen] at hsz1
    unfold reachBytes at hsz1
    exact ⟨by omega, fun h => by cases h⟩
set_option maxRecDepth 100000 in
theorem nestMakes_lifted (os : Os) (started : os.Started) (H : Type) (enc : TypeId × Value → H) :
    ReturnsInHanded {} Try.checked os 5 .any (Rows.nestMakesSpec.pre6 enc Try.prog Try.f5 Rows.nestMakesRow.domain false) (Rows.nestMakesSpec.post enc Try.prog Try.f5 false true false false) := by
  refine returnsInHanded_of_change_sized (C := Try.checked) own started (by kernel_rfl) Try.func5
    (ChangeSpec.witness6 (enc := enc) (C := Try.checked) false ⟨#[], #[.slice none 0 0, .slice none 0 0], []⟩ 8 (by kernel_rfl) (by kernel_rfl) (by kernel_rfl) (by kernel_rfl)) ?_
  intro W base args ds gs before hval0 hW hcnd hsz0 _
  have hval : ∀ (j : Nat) t v, Try.f5.params[j]? = some t → args[j]? = some v → Value.okWide Try.prog W .any base t v := hval0
  have hsz : (DataW.weightsEach Try.prog (Try.f5.params.toList ++ Rows.nestMakesSpec.plain.varTypes Try.prog) (ds ++ gs)).all (· ≤ reachBytes) = true := hsz0
  have hW' := hW
  obtain ⟨p, q, hA0, hV, rfl, hfz, hnd⟩ := hW
  have hA : DataW.TrodAll enc Try.prog W 0 (fun _ => true) true Try.f5.params.toList args.toList ds p := hA0
  rw [Try.params5] at hA hval hsz
  obtain ⟨v0, vs0, d0, ds0, p0, q0, hargs, rfl, rfl, h0, r0⟩ := trodAll_cons hA
  obtain ⟨v1, vs1, d1, ds1, p1, q1, rfl, rfl, rfl, h1, r1⟩ := trodAll_cons r0
  obtain ⟨rfl, rfl, rfl⟩ := trodAll_nil r1
  obtain rfl : args = #[v0, v1] := by cases args; simp_all
  obtain ⟨rfl, rfl⟩ := trodVars_none hV
  have k0 := h0
  have lt0 : ∀ x ∈ p0, x.block < W.heap.size := by obtain ⟨m, hm⟩ := k0; exact DataW.trod_lt m _ _ _ hm
  have k1 := h1
  have lt1 : ∀ x ∈ p1, x.block < W.heap.size := by obtain ⟨m, hm⟩ := k1; exact DataW.trod_lt m _ _ _ hm
  obtain ⟨a0, len0, cap0, bs0, rfl, ag0, le0⟩ := open_ag (hval 0 23 v0 rfl rfl) h0 (fun elems spare hd => by subst hd; exact sized_slice hsz (j := 0) (t := 23) (e := 5) rfl rfl Try.underlying23)
  obtain ⟨a1, m1, c1, ts1, rfl, lea1, leb1, lec1, led1, ag1⟩ := open_items (hval 1 22 v1 rfl rfl) h1 (sized_at hsz (j := 1) rfl rfl)
  have le1 := And.intro lea1 (And.intro leb1 (And.intro lec1 led1))
  have more1 := items_more k1 (sized_at hsz (j := 1) rfl rfl)
  clear hA0 hval0
  refine (makes_law a0 len0 cap0 bs0 a1 m1 c1 ts1 le0 le1 more1.1 more1.2 W ag0 ag1).mono fun e W' ⟨he, bel⟩ => ?_
  subst he
  exact ⟨_, rfl, _, _, _, [], _, [], hW', trodAll_mk1 (shut_bool Try.underlying4 _), (trodAll_cons_mk (Below.trod laidOut (by kernel_rfl) (of_decide_eq_true (by kernel_rfl)) k0 bel lt0) (trodAll_cons_mk (Below.trod laidOut (by kernel_rfl) (of_decide_eq_true (by kernel_rfl)) k1 bel lt1) trodAll_mk0)), rfl, bel.frame _, fun h => by cases h⟩
theorem nestMakes_over : Rows.nestMakesRow.holds Try.pinned (OpenSpec.ofChange Rows.nestMakesSpec) :=
  OpenClaim.holds_of_wide 5 Try.f5 rfl rfl rfl rfl rfl rfl rfl ⟨rfl, rfl, rfl, rfl, rfl⟩ rfl rfl rfl rfl rfl (by kernel_rfl) Try.func5 (by kernel_rfl)
    (of_decide_eq_true (by kernel_rfl)) (by unfold Func.isWrapper; first | (rw [if_pos (by decide +kernel)]; kernel_rfl) | (rw [if_neg (by decide +kernel)]; exact ⟨rfl, rfl⟩))
    (fun os started H enc _ => nestMakes_lifted os started H enc)
theorem nestMakes_holds : Rows.NestMakesSaid := nestMakes_over
#print axioms nestMakes_holds
end Go.Proofs.Ytkbdkenpblcofab
