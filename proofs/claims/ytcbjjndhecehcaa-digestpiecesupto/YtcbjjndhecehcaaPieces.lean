/- Proved: the statement DigestPieces where what is read is of bulk at most 1048576 (Rows.DigestPiecesUptoSaid). -/
import Derived.Test.YtcbjjndhecehcaaWM
import Derived.Test.YtcbjjndhecehcaaWN
import Derived.Test.YtcbjjndhecehcaaWO
import Derived.Test.YtcbjjndhecehcaaWP
import Derived.ProofKit
import Derived.OpenShut
import Derived.ShutString
import Derived.ChangeOld
import Derived.JoinedCond
import Derived.Deep.Matrix
namespace Go.Proofs.Ytcbjjndhecehcaa
open Go.ChangeShapes Go.WideShapes Go.ChangeAt Go.RowKit
open Go.ChangeMaps (open_string shut_string)
open Go.Deep (open_int_rows intRow)
set_option linter.unusedVariables false
theorem bulk_app {H : Type} : ∀ l m : List (DataW H), Rows.uptoBulkAll (l ++ m) = Rows.uptoBulkAll l + Rows.uptoBulkAll m
  | [], m => by simp [Rows.uptoBulkAll]
  | x :: r, m => by
    have h := bulk_app r m
    simp only [List.cons_append, Rows.uptoBulkAll]
    omega
theorem bulk_cat {H : Type} (B : Nat → List Int) (D : Nat → DataW H) : ∀ n, (∀ r, r < n → (B r).length ≤ Rows.uptoBulk (D r)) → (cat B n).length ≤ Rows.uptoBulkAll ((List.range n).map D)
  | 0, _ => Nat.zero_le _
  | n + 1, h => by
    have h1 := bulk_cat B D n (fun r hr => h r (by omega))
    have h2 := h n (by omega)
    rw [List.range_succ, List.map_append, bulk_app]
    show (cat B n ++ B n).length ≤ _
    rw [List.length_append]
    simp only [List.map_cons, List.map_nil, Rows.uptoBulkAll]
    omega
theorem cells22 : Try.prog.cellsOf 22 = 1 := by kernel_rfl
/-- A slice of byte strings that came in, opened, of bounded bulk. -/
theorem open_rowsB {H : Type} {enc : TypeId × Value → H} {w : World} {base b0 : Nat} {r : Reach} {held : Bool} {v : Value} {d : DataW H} {p : List MemPlace}
    (hv : Value.okWide Try.prog w r b0 29 v) (h : DataW.Trod enc Try.prog w base (fun _ => true) held 29 v d p) (hsz : Rows.uptoBulk d ≤ 1048576) :
    ∃ (al : Option Addr) (n cl gl off : Nat) (A : Nat → Option Addr) (L C : Nat → Nat) (B : Nat → List Int), v = .slice al n cl ∧ (0 < n → al = some ⟨gl, off, none⟩) ∧ n ≤ 1048576 ∧
      (∀ r, r < n → w.cell? ⟨gl, off + r, none⟩ = some (.slice (A r) (L r) (C r)) ∧ Ag w (A r) (L r) (C r) (B r)) ∧ (cat B n).length ≤ 1048576 := by
  obtain ⟨a, len, cap, rfl⟩ := okWide_slice Try.underlying29 hv
  obtain ⟨fuel, hf⟩ := h
  rcases open_int_rows Try.underlying29 Try.underlying22 Try.underlying5 cells22 cells5 hf with ⟨hcs, _⟩ | ⟨x, l, c, A, L, C, Z, hcs, _, hl, hm, hx, hrow⟩
  · simp [Value.cells] at hcs
    obtain ⟨rfl, rfl, rfl⟩ := hcs
    exact ⟨none, 0, 0, 0, 0, fun _ => none, fun _ => 0, fun _ => 0, fun _ => [], rfl, fun h => by omega, by omega, fun r hr => by omega, Nat.zero_le _⟩
  · simp [Value.cells] at hcs
    obtain ⟨rfl, rfl, rfl⟩ := hcs
    have hd := (Prod.mk.inj hx).1
    subst hd
    simp only [Rows.uptoBulk] at hsz
    have hn := bulk_len ((List.range len).map fun r => intRow (H := H) .u8 (A r) (L r) (Z r))
    rw [List.length_map, List.length_range] at hn
    obtain ⟨b, off, spot⟩ := x
    have hlen : ∀ r, r < cap → ((Z r).take (L r)).length = L r := fun r hr => by
      obtain ⟨_, h2, _, h4, _⟩ := hrow r hr
      rw [List.length_take]; omega
    refine ⟨some ⟨b, off, spot⟩, len, cap, b, off, A, L, C, fun r => (Z r).take (L r), rfl, ?_, by omega, ?_, ?_⟩
    · intro hp
      have hc := (hrow 0 (by omega)).1
      have hspot : spot = none := by simpa [Addr.add] using World.cell?_spot hc
      rw [hspot]
    · intro r hr
      have hspot : spot = none := by simpa [Addr.add] using World.cell?_spot (hrow 0 (by omega)).1
      obtain ⟨h1, h2, h3, h4, h5, h6, h7⟩ := hrow r (by omega)
      subst hspot
      have hlr := hlen r (by omega)
      rw [addr_add] at h1
      refine ⟨h1, ?_, ?_, hlr, ?_⟩
      · by_cases h0 : L r = 0
        · exact .inl ⟨h0, by show List.take (L r) (Z r) = []; rw [h0]; simp⟩
        · cases hA : A r with
          | none => have := h6 hA; omega
          | some y =>
            obtain ⟨b', off', spot'⟩ := y
            obtain ⟨_, hcell⟩ := h7 _ hA
            have hc := hcell 0 (by omega)
            have hs' : spot' = none := by simpa [Addr.add] using World.cell?_spot hc
            subst hs'
            refine .inr ⟨b', off', rfl, hlr, by omega, h2, h3, fun j hj => ?_⟩
            rw [hlr] at hj
            have := hcell j (by omega)
            rw [addr_add] at this
            rw [this, List.getD, List.getD, List.getElem?_take_of_lt hj]
      · intro hA
        have := h6 hA
        omega
      · intro n hn
        have := bounds_u8 (h5 n (List.mem_of_mem_take hn))
        omega
    · refine Nat.le_trans (bulk_cat (fun r => (Z r).take (L r)) (fun r => intRow (H := H) .u8 (A r) (L r) (Z r)) len fun r hr => ?_) (by omega)
      obtain ⟨h1, h2, h3, h4, h5, h6, h7⟩ := hrow r (by omega)
      cases hA : A r with
      | none => have := h6 hA; rw [hlen r (by omega)]; omega
      | some y =>
        have hb := bulk_slice (H := H) (lits .u8 ((Z r).take (L r))) (lits .u8 ((Z r).drop (L r)))
        simp only [lits, List.length_map] at hb
        simp only [intRow, lits]
        omega
theorem pieces_contract (H : Type) (enc : TypeId × Value → H) (W : World) (base : Nat) (args : Array Value) (ds gs : List (DataW H)) (before : List MemPlace)
    (hval0 : ∀ (j : Nat) t v, Try.f4.params[j]? = some t → args[j]? = some v → Value.okWide Try.prog W .any base t v)
    (hW : DataW.Whole enc Try.prog Try.f4.params.toList Rows.digestPiecesSpec.vars false W args.toList ds gs before) (hk : Rows.uptoSmall H (ds ++ gs) = true) :
    Calls Try.prog 4 args W fun e W' => ∃ v, e = .returned v ∧ Rows.digestPiecesSpec.post enc Try.prog Try.f4 false true false false W args v W' := by
  have hval : ∀ (j : Nat) t v, Try.f4.params[j]? = some t → args[j]? = some v → Value.okWide Try.prog W .any base t v := hval0
  have hW' := hW
  obtain ⟨p, q, hA0, hV, rfl, hfz, hnd⟩ := hW
  have hA : DataW.TrodAll enc Try.prog W 0 (fun _ => true) true Try.f4.params.toList args.toList ds p := hA0
  rw [Try.params4] at hA hval
  obtain ⟨v0, vs0, d0, ds0, p0, q0, hargs, rfl, rfl, h0, r0⟩ := trodAll_cons hA
  obtain ⟨rfl, rfl, rfl⟩ := trodAll_nil r0
  obtain rfl : args = #[v0] := by cases args; simp_all
  obtain ⟨rfl, rfl⟩ := trodVars_none hV
  have hbk : Rows.uptoBulkAll [d0] ≤ 1048576 := by
    simp only [List.append_nil] at hk
    exact of_decide_eq_true hk
  simp only [Rows.uptoBulkAll] at hbk
  have k0 := h0
  have lt0 : ∀ x ∈ p0, x.block < W.heap.size := by obtain ⟨m, hm⟩ := k0; exact DataW.trod_lt m _ _ _ hm
  obtain ⟨al, n, cl, gl, off, A, L, C, B, rfl, e1, e2, e3, e4⟩ := open_rowsB (hval 0 29 v0 rfl rfl) h0 (by omega)
  clear hA0 hval0
  refine (lawPieces al n cl gl off A L C B W e1 e2 e3 e4).mono fun e W' ⟨he, bel⟩ => ?_
  subst he
  exact ⟨_, rfl, _, _, _, [], _, [], hW', trodAll_mk1 (shut_bool Try.underlying4 _), (trodAll_cons_mk (Below.trod laidOut (by kernel_rfl) (of_decide_eq_true (by kernel_rfl)) k0 bel lt0) trodAll_mk0), rfl, bel.frame _, fun h => by cases h⟩
set_option maxRecDepth 100000 in
theorem digestPieces_lifted (os : Os) (started : os.Started) (H : Type) (enc : TypeId × Value → H) (F : Stop.Interp) :
    ReturnsInHanded {} Try.checked os 4 .any ((Rows.OpenSpec.upto Rows.digestPiecesSpec).pre6 enc Try.prog Try.f4 Rows.digestPiecesUptoRow.domain false) (((Rows.OpenSpec.upto Rows.digestPiecesSpec).at F).post enc Try.prog Try.f4 false true false false) := by
  refine returnsInHanded_of_cond (C := Try.checked) (s := Rows.OpenSpec.upto Rows.digestPiecesSpec) (k := Rows.uptoSmall) rfl own started (by kernel_rfl) Try.func4
    (OpenSpec.witness (enc := enc) (C := Try.checked) (s := Rows.OpenSpec.upto Rows.digestPiecesSpec) (k := Rows.uptoSmall) rfl false ⟨#[], #[.slice none 0 0], []⟩ 8 (by kernel_rfl) (by kernel_rfl) (by kernel_rfl)
      (x := ([.nil], [], [])) (by kernel_rfl) rfl (by kernel_rfl)) ?_
  intro W base args ds gs before hval hW _ hk _
  exact pieces_contract H enc W base args ds gs before hval hW hk
theorem digestPieces_holds : Rows.DigestPiecesUptoSaid :=
  OpenClaim.holds_of_cond 4 Try.f4 rfl rfl rfl rfl rfl rfl rfl ⟨rfl, rfl, rfl, rfl, rfl⟩ rfl rfl rfl rfl rfl (by kernel_rfl) Try.func4 (by kernel_rfl)
    (of_decide_eq_true (by kernel_rfl)) (by unfold Func.isWrapper; first | (rw [if_pos (by decide +kernel)]; kernel_rfl) | (rw [if_neg (by decide +kernel)]; exact ⟨rfl, rfl⟩))
    (fun os started H enc _ F => digestPieces_lifted os started H enc F)
#print axioms digestPieces_holds
end Go.Proofs.Ytcbjjndhecehcaa
