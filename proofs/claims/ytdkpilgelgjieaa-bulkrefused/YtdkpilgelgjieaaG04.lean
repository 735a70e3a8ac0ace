/- What Common answers. -/
import Derived.Test.YtdkpilgelgjieaaG02
import Derived.Test.YtdkpilgelgjieaaG03
namespace Go.Proofs.Ytdkpilgelgjieaa.Ni
open Go.RowKit
set_option linter.unusedVariables false
set_option maxHeartbeats 1000000 in
theorem common_any (a1 a2 : Option Addr) (n1 c1 n2 c2 : Nat) (p q : List Int) (w : World) (h1 : Ag w a1 n1 c1 p) (h2 : Ag w a2 n2 c2 q) (hn1 : n1 ≤ 140737488355328) (hn2 : n2 ≤ 140737488355328) :
    Calls Try.prog 14 #[.slice a1 n1 c1, .slice a2 n2 c2] w fun e w' => e = .returned (.int .i64 (com p q : Nat)) ∧ Below w.heap.size w w' := by
  have HL1 := Hid.mk h1.l
  have HL2 := Hid.mk h2.l
  have HC1 := Hid.mk (fun h => ag_head h1 h)
  have HC2 := Hid.mk (fun h => ag_head h2 h)
  clear h1 h2
  obtain ⟨res, hres⟩ : ∃ r, com p q = r := ⟨_, rfl⟩
  rw [hres]
  have HRES := Hid.mk hres
  clear hres
  go_enter Try.func14, Try.ntmps14
  go_wp2_with fail
  go_loopw [5] (fun i v => ∃ j : Nat, j ≤ n1 ∧ j ≤ n2 ∧ i = .int .i64 j ∧ p.take j = q.take j ∧ Below w.heap.size w v) (fun i _ => n1 - (intOf i).toNat)
  case atStart => exact ⟨0, by omega, by omega, rfl, rfl, Below.refl _ _⟩
  case round =>
    obtain ⟨j, hj1, hj2, rfl, htk, hb⟩ := hrel
    have HTK := Hid.mk htk
    have HBW := Hid.mk hb
    clear htk hb
    have HD : Hid ((j = p.length ∨ j = q.length ∨ p.getD j 0 ≠ q.getD j 0) → res = j) := Hid.mk (fun h => HRES.out.symm.trans (com_char p q j (by have := HL1.out; omega) (by have := HL2.out; omega) HTK.out h))
    by_cases hlt1 : j < n1
    case neg =>
      have hji : ¬ (j : Int) < n1 := by omega
      have e := HD.out (.inl (by have := HL1.out; omega))
      subst e
      go_wp2_with fail
      go_region
      all_goals
        go_wp2_with fail
        go_ret
        exact ⟨rfl, HBW.out.drew⟩
    have hji1 : (j : Int) < n1 := by omega
    by_cases hlt2 : j < n2
    case neg =>
      have hji : ¬ (j : Int) < n2 := by omega
      have e := HD.out (.inr (.inl (by have := HL2.out; omega)))
      subst e
      go_wp2_with fail
      go_region
      all_goals
        go_wp2_with fail
        go_ret
        exact ⟨rfl, HBW.out.drew⟩
    have hji2 : (j : Int) < n2 := by omega
    obtain ⟨g1, o1, rfl, hnc1, hcm1, hcs1⟩ := HC1.out (by omega)
    obtain ⟨g2, o2, rfl, hnc2, hcm2, hcs2⟩ := HC2.out (by omega)
    unfold maxLen at hcm1 hcm2
    have hcell1 := (HBW.out.cell (p := ⟨g1, o1 + j, none⟩) (block_lt_of_cell (hcs1 j hlt1))).trans (hcs1 j hlt1)
    have hcell2 := (HBW.out.cell (p := ⟨g2, o2 + j, none⟩) (block_lt_of_cell (hcs2 j hlt2))).trans (hcs2 j hlt2)
    have HT1 := Hid.mk (take_snoc (b := p) (i := j) (by have := HL1.out; omega))
    have HT2 := Hid.mk (take_snoc (b := q) (i := j) (by have := HL2.out; omega))
    generalize p.getD j 0 = x at *
    generalize q.getD j 0 = y at *
    clear hcs1 hcs2
    by_cases hxy : x = y
    · subst hxy
      have hq : (x == x) = true := by simp
      go_wp2_with fail
      go_region
      all_goals
        go_wp2_with fail
        exact ⟨⟨j + 1, by omega, by omega, by simp, by rw [HT1.out, HT2.out, HTK.out], HBW.out.drew⟩, by simp [intOf]; omega⟩
    · have e := HD.out (.inr (.inr hxy))
      subst e
      have hq : (x == y) = false := by simpa using hxy
      clear hxy
      go_wp2_with fail
      go_region
      all_goals
        go_wp2_with fail
        go_ret
        exact ⟨rfl, HBW.out.drew⟩
end Go.Proofs.Ytdkpilgelgjieaa.Ni
/- What is found in a tree. -/
namespace Go.Proofs.Ytdkpilgelgjieaa
open Go.RowKit
open Tr
set_option linter.unusedVariables false
set_option maxRecDepth 100000
theorem ol_indexK {P : Program} {ρ : Operand → Value} {w : World} {o : Oper} {kd : IntKind} (T : TypeId) (x y : Operand) (g off j len sz : Nat) (E : TypeId) (ho : o.op = .indexAddr T x y) (hx : ρ x = .pointer (some ⟨g, off, none⟩)) (hy : ρ y = .int kd j) (hj : j < len) (h2 : 1 < len) (hu : P.underlying T = some (.array len E)) (hi : (P.info? E).map (·.size) = some sz) :
    (execOp ρ o).run P w = .ok (.value (.pointer (some ⟨g, off + j * sz, none⟩))) w := by
  have hs : (sizeOf E).run P w = .ok sz w := by
    cases hq : P.info? E with
    | none => simp [hq] at hi
    | some z => simp [hq] at hi; simp [sizeOf, typeInfo, hq, hi]
  unfold execOp
  rw [ho]
  simp only [hx, hy]
  have he : (if j * sz = 0 then (⟨g, off, none⟩ : Addr) else ⟨g, off + j * sz, none⟩) = ⟨g, off + j * sz, none⟩ := by split <;> simp_all
  simp [Instr.indexAt, Instr.sureAddr, asIntOf, run_underlying hu, hs, hj, Result.andThen, Addr.add, he]
end Go.Proofs.Ytdkpilgelgjieaa
/- A tree under a path. -/
namespace Go.Proofs.Ytdkpilgelgjieaa
open Go.RowKit
open Tr
set_option linter.unusedVariables false
set_option maxRecDepth 100000
theorem Sk.mono {K K' : Nat → Prop} {w : World} {a : Option Addr} {n c : Nat} {bs : List Int} (h : Sk K w a n c bs) (hK : ∀ b, K b → K' b) : Sk K' w a n c bs := ⟨h.ag, fun x hx hn => hK _ (h.k x hx hn)⟩
end Go.Proofs.Ytdkpilgelgjieaa
/- A value put into a branch. -/
namespace Go.Proofs.Ytdkpilgelgjieaa
open Go.RowKit
open Tr
set_option linter.unusedVariables false
set_option maxRecDepth 100000
theorem Rw.set {g o : Nat} {w w' : World} {cells cells' : Array Value} {T : TypeId} {v : Value} (h : Rw g w cells T) (hs : Set1 w w' g o v) (e : cells.setIfInBounds o v = cells') : Rw g w' cells' T := by
  rw [← e, Rw, hs.hw]; exact heap_setCell_same _ _ _ _ _ _ h
theorem ol_setC {ρ : Operand → Value} {w : World} {o : Oper} (T : TypeId) (x y : Operand) (g j : Nat) (cells : Array Value) (E : TypeId) (v : Value) (h : Rw g w cells E) (ho : o.op = .store T x y) (hx : ρ x = .pointer (some ⟨g, j, none⟩)) (hy : ρ y = v) (hj : j < cells.size) (h1 : v.cells = #[v]) (h2 : v.oneCell' = true) (hi : (Try.prog.info? T).map (·.size) = some 1) :
    (execOp ρ o).run Try.prog w = .ok .skip (w.setCell ⟨g, j, none⟩ v) := by
  have hc : w.cell? ⟨g, j, none⟩ = some cells[j] := by rw [cell_of_row _ _ _ _ _ _ h]; exact Array.getElem?_eq_getElem hj
  have hf : w.frozen? ⟨g, j, none⟩ = false := frozen_of_row _ _ _ _ _ h
  have hs : (sizeOf T).run Try.prog w = .ok 1 w := by
    cases hq : Try.prog.info? T with
    | none => simp [hq] at hi
    | some z => simp [hq] at hi; simp [sizeOf, typeInfo, hq, hi]
  unfold execOp
  rw [ho]
  simp only [hx, hy, Instr.storeAt, Instr.sureAddr, storeVar, h1, Sem.run_bind, Sem.run_pure, Result.andThen_ok, hs]
  go_simp
  rw [run_store _ _ _ _ _ h2]
  simp [hc, hf]
end Go.Proofs.Ytdkpilgelgjieaa
