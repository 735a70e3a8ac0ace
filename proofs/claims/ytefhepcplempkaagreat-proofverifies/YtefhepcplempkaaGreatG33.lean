/- What a writer writes: any tree. -/
import Derived.Test.YtefhepcplempkaaGreatG32
import Derived.Test.YtefhepcplempkaaGreatG20
import Derived.Test.YtefhepcplempkaaGreatG31
set_option linter.unusedVariables false
set_option maxRecDepth 100000
namespace Go.Proofs.YtefhepcplempkaaGreat
open Go.RowKit
open Tr
theorem Zrl (x : Value) : Iv "pergola/trie.node" (.iface 131 x) 179 x := Zx3 fun w vs => by kernel_rfl
def NDS (t : Tr) : Prop := ∀ {v : World} {gW base : Nat} {vM : Value} {Y Z : Nat -> Prop} {ns : List (List Int)} {val : Value}, TA (KW gW vM Z) v t val -> Wt v gW base vM Y ns -> (∀ b, v.heap.size <= b -> Y b) -> (ns ++ nmd t).length + 1 <= 8800000000000 -> MC "pergola/trie.node" val #[.pointer (some ⟨gW, 0, none⟩)] v (RNd v gW base vM Y ns t)
theorem Zwf {t : Tr} (hne : t ≠ no) (h : NDS t) {v : World} {gW base : Nat} {vM : Value} {Y Z : Nat -> Prop} {ns : List (List Int)} {val : Value} (ht : TA (KW gW vM Z) v t val) (hW : Wt v gW base vM Y ns) (hY : ∀ b, v.heap.size <= b -> Y b) (hM : (ns ++ nmd t).length + 1 <= 8800000000000) :
  Calls Tryz.prog 40 #[.pointer (some ⟨gW, 0, none⟩), val] v fun e w' => ∃ u, e = .returned u /\ REn v gW base vM Y ns t u w' := by
 have hm := h ht hW hY hM
 obtain ⟨T0, v0, rfl⟩ := ht.iface hne
 exact Zph hne hm
end Go.Proofs.YtefhepcplempkaaGreat
namespace Go.Proofs.YtefhepcplempkaaGreat
open Go.RowKit
open Tr
open Di (dref)
def rootP (t : Tr) : List Int := if t.isNo then dref [128] else dref (encT t)
theorem Wg.below {w v u : World} {gW : Nat} {vN vM : Value} (h : Wg v u gW vN vM) (hb : Bl w v) (hg : w.heap.size <= gW) (hv : vN.ownBlock = none) : Bl w u :=
 Below.trans hb ⟨h.os, h.tape, h.output, h.size, fun k hk => h.block k (Nat.lt_of_lt_of_le hk hb.size) (by omega) (by rw [hv]; simp)⟩
theorem Wt.new {w w' : World} {gW : Nat} (h : New w w' gW #[.slice none 0 0] 80) : Wt w' gW gW (.slice none 0 0) (fun _ => True) [] := ⟨h.row, ⟨[], ⟨rfl, .inl ⟨rfl, rfl⟩⟩, rfl, fun j v hj => by simp at hj⟩, Nat.le_refl _⟩
end Go.Proofs.YtefhepcplempkaaGreat
namespace Go.Proofs.YtefhepcplempkaaGreat
namespace Tr
def sz : Tr -> Nat
 | no => 0
 | leaf _ _ => 1
 | ext _ c => sz c + 1
 | br k _ => ((List.range 16).map fun i => sz (k i)).sum + 1
end Tr
open Tr
end Go.Proofs.YtefhepcplempkaaGreat
namespace Go.Proofs.YtefhepcplempkaaGreat
open Go.RowKit
open Tr
open Di (dref)

end Go.Proofs.YtefhepcplempkaaGreat
namespace Go.Proofs.YtefhepcplempkaaGreat
open Go.RowKit
open Tr
open Ni (lessP)
structure Cl2 (w : World) (p p' : Addr) (v v' : Value) : Prop where
 cx : w.cell? p = some v
 cy : w.cell? p' = some v'
end Go.Proofs.YtefhepcplempkaaGreat
