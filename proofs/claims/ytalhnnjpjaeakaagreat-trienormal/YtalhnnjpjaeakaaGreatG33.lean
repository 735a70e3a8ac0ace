/- What the document reckons of the paths below a node: how many nibbles all begin with, what lies under a nibble; what a tree in normal form has to do with it. -/
import Derived.Test.YtalhnnjpjaeakaaGreatG23
import Derived.Test.YtalhnnjpjaeakaaGreatG03
import Derived.Test.YtalhnnjpjaeakaaGreatG32
namespace Go.Proofs.YtalhnnjpjaeakaaGreat
open Tr
set_option linter.unusedVariables false
def onesP (l : PList) : PList := l.map fun e => (Ni.nib e.1, e.2)
def alikeP : PList → Nat
  | [] => 0
  | e :: r => r.foldl (fun n f => min n (Ni.com e.1 f.1)) e.1.length
def under1 (i : Int) (e : List Int × List Int) : PList := match e.1 with
  | [] => []
  | c :: p => if c = i then [(p, e.2)] else []
def underP (i : Int) (l : PList) : PList := l.flatMap (under1 i)
def withoutP (n : Nat) (l : PList) : PList := l.map fun e => (e.1.drop n, e.2)
def valP (v : List Int) (l : PList) : List Int := l.foldl (fun v e => if e.1 = [] then e.2 else v) v
end Go.Proofs.YtalhnnjpjaeakaaGreat
/- What the document's Of answers. -/
namespace Go.Proofs.YtalhnnjpjaeakaaGreat.Ni
open Go.RowKit
set_option linter.unusedVariables false
theorem nib_snoc2 (b : List Int) (j : Nat) (hj : j < b.length) : nib (b.take (j + 1)) = (nib (b.take j) ++ [b.getD j 0 / 16]) ++ [b.getD j 0 % 16] := by
  rw [nib_take hj, List.append_assoc]; rfl
set_option maxHeartbeats 1000000 in
theorem rof_any (a : Option Addr) (n c : Nat) (b : List Int) (w : World) (h : Ag w a n c b) (hn : 2 * n ≤ 140737488355328) :
    Calls Tryz.prog 75 #[.slice a n c] w fun e w' => (∃ a' c', e = .returned (.slice a' (2 * n) c') ∧ 2 * n ≤ c' ∧ c' ≤ maxLen ∧ Ag w' a' (2 * n) c' (nib b) ∧ (0 < 2 * n → ∀ g off, a' = some ⟨g, off, none⟩ → w.heap.size ≤ g)) ∧ Below w.heap.size w w' := by
  have HL := Hid.mk h.l
  have HC := Hid.mk (fun h0 => ag_head h h0)
  have HB := Hid.mk h.b
  clear h
  go_enter Tryz.func75, Tryz.ntmps75
  go_wp2_with fail
  go_loopw [3, 4] (fun v i w' => ∃ j : Nat, j ≤ n ∧ i = .int .i64 j ∧ OwnB w' w.heap.size v (nib (b.take j)) ∧ Below w.heap.size w w') (fun _ i _ => n - (intOf i).toNat)
  case atStart => exact ⟨0, by omega, rfl, ownB_nil _ _, Below.refl _ _⟩
  case round =>
    obtain ⟨j, hj, rfl, hown, hb⟩ := hrel
    have HO := Hid.mk hown
    have HBW := Hid.mk hb
    clear hown hb
    by_cases hlt : j < n
    · obtain ⟨g, off, rfl, hnc, hcm, hcs⟩ := HC.out (by omega)
      unfold maxLen at hcm
      have hcell0 := hcs j hlt
      have hcell := (HBW.out.cell (p := ⟨g, off + j, none⟩) (block_lt_of_cell hcell0)).trans hcell0
      have hjb : j < b.length := by have := HL.out; omega
      have hx := HB.out _ (getD_mem hjb)
      have HN := Hid.mk (nib_snoc2 b j hjb)
      have HNL : Hid ((nib (b.take j)).length = 2 * j) := Hid.mk (by rw [nib_len, List.length_take]; omega)
      generalize b.getD j 0 = x at hcell hcell0 hx HN
      obtain ⟨hx0, hx1⟩ := hx
      have hji : (j : Int) < n := by omega
      have HO2 : Hid (∀ o : Obj, OwnB (wr.alloc o) w.heap.size u3 (nib (b.take j))) := Hid.mk fun o => OwnB.alloc HO.out o
      have HSZ := Hid.mk HBW.out.size
      have HC0 := Hid.mk hcell0
      clear HO hcs hjb hcell0
      go_wp2_with (first
        | (at_builtin; refine app_any rfl (.tmp 11) (.tmp 17) rfl w.heap.size _ (nib (b.take j)) rfl (HO2.out _) (some ⟨wr.heap.size, 0, none⟩) 1 1 [x / 16] rfl (in0_one wr _) (fun h => by cases h) rfl (by rw [HNL.out]; omega) (by have := HSZ.out; simp; omega) ?_; intro v1 w1 o1 hb1; have HO1 := Hid.mk o1; have HB1 := Hid.mk ((HBW.out.alloc HSZ.out _).trans hb1); clear o1 hb1; have hcell1 := (HB1.out.cell (p := ⟨g, off + j, none⟩) (block_lt_of_cell HC0.out)).trans HC0.out)
        | (at_builtin; refine app_any rfl (.tmp 19) (.tmp 25) rfl w.heap.size _ (nib (b.take j) ++ [x / 16]) rfl (OwnB.alloc HO1.out _) (some ⟨w1.heap.size, 0, none⟩) 1 1 [x % 16] rfl (in0_one w1 _) (fun h => by cases h) rfl (by rw [List.length_append, HNL.out]; simp; omega) (by have := HB1.out.size; simp; omega) ?_; intro v2 w2 o2 hb2; rw [← HN.out] at o2; have HO3 := Hid.mk o2; have HB2 := Hid.mk ((HB1.out.alloc HB1.out.size _).trans hb2); clear o2 hb2))
      exact ⟨⟨j + 1, by omega, by simp, HO3.out, HB2.out⟩, by simp [intOf]; omega⟩
    · have hji : ¬ (j : Int) < n := by omega
      have hbt : b.take j = b := List.take_of_length_le (by have := HL.out; omega)
      rw [hbt] at HO
      obtain ⟨a', c', rfl, h1, h2, h3, h4⟩ := HO.out.cutable (nib_isB HB.out)
      have hln : (nib b).length = 2 * n := by rw [nib_len, HL.out]
      rw [hln] at h1 h3 h4 ⊢
      have H4 := Hid.mk (show 0 < 2 * n → ∀ g off, a' = some ⟨g, off, none⟩ → w.heap.size ≤ g from fun h0 g off e => by obtain ⟨g', off', cur, e', hg, _⟩ := h4 h0; rw [e] at e'; cases e'; exact hg)
      have H1 := Hid.mk h1
      have H2 := Hid.mk h2
      have H3 := Hid.mk h3
      clear hbt h1 h2 h3 h4 hln
      go_wp2_with fail
      go_ret
      exact ⟨⟨a', c', rfl, H1.out, H2.out, H3.out, by first | exact H4.out | (intro h0; exact H4.out (by omega))⟩, HBW.out⟩
end Go.Proofs.YtalhnnjpjaeakaaGreat.Ni
/- Paths and values in rows of the document's own type. -/
namespace Go.Proofs.YtalhnnjpjaeakaaGreat
open Go.RowKit
open Tr
set_option linter.unusedVariables false
set_option maxRecDepth 100000
/-- A list in a row of one's own. -/
def OwnN (X : Nat → Prop) (w : World) (base : Nat) (v : Value) (l : PList) : Prop := (∀ b, base ≤ b → X b) ∧ ∃ vs : List (Value × Value), vs.length = l.length ∧ w.ownsRow base 133 2 v l.length (flatP vs) ∧ ∀ (j : Nat) (p : Value × Value) (e : List Int × List Int), vs[j]? = some p → l[j]? = some e → Gp2 (fun b => v.ownBlock ≠ some b ∧ X b) w p e
end Go.Proofs.YtalhnnjpjaeakaaGreat
/- The document's Ones and Without. -/
namespace Go.Proofs.YtalhnnjpjaeakaaGreat
open Go.RowKit
open Tr
set_option linter.unusedVariables false
set_option maxRecDepth 100000
end Go.Proofs.YtalhnnjpjaeakaaGreat
