/- What a writer writes: leaves; encodings. -/
import Derived.Test.YtdkpilgelgjieaaG24
namespace Go.Proofs.Ytdkpilgelgjieaa
open Go.RowKit
open Tr
set_option linter.unusedVariables false
set_option maxRecDepth 100000
theorem nep_len {n : PN} (ho : okN n) : (NEP n).1.length ≤ 65540 := by
  unfold NEP
  split
  · rename_i h; exact (node_back ho h).2.2
  · simp
theorem ref_zero (w : World) : RefAt (fun _ => True) w rz r0 := ⟨rfl, rfl, fun x hx => by rw [List.mem_replicate.1 hx |>.2]; omega, rfl, ⟨.inl ⟨rfl, rfl⟩, fun _ => ⟨rfl, rfl⟩, rfl, fun x hx => by cases hx⟩, Nat.zero_le _, fun _ _ _ _ => trivial⟩
end Go.Proofs.Ytdkpilgelgjieaa
/- What a writer writes: references; extensions. -/
namespace Go.Proofs.Ytdkpilgelgjieaa
open Go.RowKit
open Tr
set_option linter.unusedVariables false
set_option maxRecDepth 100000
theorem r_size {y : RV} (h : y.d.length = 32) : y.cells.toArray.size = 34 := by rw [List.size_toArray, RV.len h]
theorem r_ones (y : RV) : y.cells.toArray.all (·.oneCell') = true := all_oneCell_toArray (RV.one y)
end Go.Proofs.Ytdkpilgelgjieaa
/- What a writer writes: extensions. -/
namespace Go.Proofs.Ytdkpilgelgjieaa
open Go.RowKit
open Tr
set_option linter.unusedVariables false
set_option maxRecDepth 100000
end Go.Proofs.Ytdkpilgelgjieaa
/- What a writer writes: branches. -/
namespace Go.Proofs.Ytdkpilgelgjieaa
open Go.RowKit
open Tr
set_option linter.unusedVariables false
set_option maxRecDepth 100000
theorem sc_other (b k : Nat) (hk : k ≠ b) : ∀ (vs : List Value) (o : Nat) (w : World), (w.setCells b o vs).heap[k]? = w.heap[k]?
  | [], _, _ => rfl
  | v :: r, o, w => (sc_other b k hk r (o + 1) _).trans (heap_setCell_other _ _ _ _ hk)
theorem sc_same (b : Nat) : ∀ (vs : List Value) (o : Nat) (w : World), (w.setCells b o vs).os = w.os ∧ (w.setCells b o vs).tape = w.tape ∧ (w.setCells b o vs).output = w.output ∧ (w.setCells b o vs).heap.size = w.heap.size
  | [], _, _ => ⟨rfl, rfl, rfl, rfl⟩
  | v :: r, o, w => by
    obtain ⟨h1, h2, h3, h4⟩ := sc_same b r (o + 1) (w.setCell ⟨b, o, none⟩ v)
    exact ⟨h1, h2, h3, h4.trans (by simp)⟩
theorem sc_row (b : Nat) (t : TypeId) : ∀ (vs : List Value) (o : Nat) (w : World) (cur : Array Value), w.heap[b]? = some (.cells cur t (0, 0)) → ∃ cur' : Array Value, (w.setCells b o vs).heap[b]? = some (.cells cur' t (0, 0)) ∧ cur'.size = cur.size
  | [], _, _, cur, h => ⟨cur, h, rfl⟩
  | v :: r, o, w, cur, h => by
    obtain ⟨c', h1, h2⟩ := sc_row b t r (o + 1) (w.setCell ⟨b, o, none⟩ v) _ (heap_setCell_same w b o cur t v h)
    exact ⟨c', h1, by rw [h2]; simp⟩
/-- One block is written. -/
structure St (w w' : World) (g : Nat) : Prop where
  other : ∀ k, k ≠ g → w'.heap[k]? = w.heap[k]?
  os : w'.os = w.os
  tape : w'.tape = w.tape
  output : w'.output = w.output
  size : w'.heap.size = w.heap.size
theorem St.of (w : World) (g o : Nat) (vs : List Value) : St w (w.setCells g o vs) g := by
  obtain ⟨h1, h2, h3, h4⟩ := sc_same g vs o w
  exact ⟨fun k hk => sc_other g k hk vs o w, h1, h2, h3, h4⟩
theorem Rw.st {g g' : Nat} {w w' : World} {cells : Array Value} {T : TypeId} (h : Rw g w cells T) (hp : St w w' g') (hne : g ≠ g') : Rw g w' cells T := (hp.other g hne).trans h
def updR (ys : Nat → RV) (i : Nat) (y : RV) : Nat → RV := fun j => if j = i then y else ys j
end Go.Proofs.Ytdkpilgelgjieaa
