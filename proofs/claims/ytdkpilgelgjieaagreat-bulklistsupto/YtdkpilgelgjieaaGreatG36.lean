/- How a slice of bytes that is handed in reads as data: nil, or a row of bytes that takes no more than the form's own reach. -/
import Derived.Test.YtdkpilgelgjieaaGreatG00
import Derived.ProofKit
import Derived.OpenShut
import Derived.ShutString
import Derived.ChangeOld
import Derived.SizedLaws
import Derived.Test.YtdkpilgelgjieaaGreatG34
import Derived.Test.YtdkpilgelgjieaaGreatRows
import Derived.JoinedCond
set_option linter.unusedVariables false
set_option maxRecDepth 100000
namespace Go.Proofs.YtdkpilgelgjieaaGreat
open Go.ChangeShapes Go.WideShapes Go.ChangeAt Go.RowKit
open Go.ChangeMaps (open_string shut_string)
theorem own : ownKnob Tryz.prog.godebug = none := by kernel_rfl
theorem Zx0 : laidOutB Tryz.prog = true := by kernel_rfl
theorem Zz7 : Tryz.prog.cellsOf 5 = 1 := by kernel_rfl
end Go.Proofs.YtdkpilgelgjieaaGreat
namespace Go.Proofs.YtdkpilgelgjieaaGreat
open Go.ChangeShapes Go.WideShapes Go.ChangeAt Go.RowKit
theorem Zwy : Tryz.prog.cellsOf 32 = 1 := by kernel_rfl
theorem bulk_pos {H : Type} (d : DataW H) : 1 <= Rows.uptoBulk d := by
 cases d with
 | lit l => cases l <;> simp [Rows.uptoBulk]
 | _ => simp [Rows.uptoBulk]
theorem bulk_len {H : Type} : ∀ ds : List (DataW H), ds.length <= Rows.uptoBulkAll ds
 | [] => by simp [Rows.uptoBulkAll]
 | d :: r => by
  have := bulk_len r
  have := bulk_pos d
  simp only [Rows.uptoBulkAll, List.length_cons]
  omega
theorem bulk_mem {H : Type} : ∀ {ds : List (DataW H)} {d : DataW H}, d ∈ ds -> Rows.uptoBulk d <= Rows.uptoBulkAll ds
 | [], d, h => by cases h
 | e :: r, d, h => by
  simp only [Rows.uptoBulkAll]
  rcases List.mem_cons.1 h with rfl | h
  ·omega
  ·have := bulk_mem h
   omega
section
variable {H : Type} {enc : TypeId × Value → H} {w : World} {held : Bool}
theorem Zoo {fuel : Nat} {cs : List Value} {x : DataW H × List MemPlace} (hf : DataW.trod enc Tryz.prog w 0 (fun _ => true) held fuel 32 cs = some x)
  (hbk : Rows.uptoBulk x.1 <= 1048576) : ∃ a len cap bs, cs = [.slice a len cap] /\ Ag w a len cap bs /\ len <= 1048576 := by
 rcases open_ints Tryz.underlying32 Tryz.underlying5 Zz7 hf with ⟨hcs, _⟩ | ⟨p, len, cap, zs, hcs, _, hl, hm, hz, hx, hcell, hwz⟩
 ·exact ⟨none, 0, 0, [], hcs, ⟨.inl ⟨rfl, rfl⟩, fun _ => ⟨rfl, rfl⟩, rfl, fun x hx => by cases hx⟩, by omega⟩
 ·have hz2 : zs.length = cap := by simpa using hz
  have hsz2 := hbk
  rw [hx] at hsz2
  simp only [Rows.uptoBulk] at hsz2
  have hb1 := bulk_len (H := H) (lits .u8 (zs.take len))
  simp only [lits, List.length_map, List.length_take] at hb1 hsz2
  have hlen : (zs.take len).length = len := by rw [List.length_take]; omega
  have hbd : ∀ n ∈ zs.take len, 0 <= n /\ n < 256 := fun n hn => by
   have := bounds_u8 (hwz n (List.mem_of_mem_take hn))
   omega
  refine ⟨some p, len, cap, zs.take len, hcs, ⟨?_, (fun h => by cases h), hlen, hbd⟩, by omega⟩
  by_cases h0 : len = 0
  ·subst h0
   exact .inl ⟨rfl, by simp⟩
  ·obtain ⟨b, off, spot⟩ := p
   have hc := hcell 0 (by omega)
   have hspot : spot = none := by simpa [Addr.add] using World.cell?_spot hc
   subst hspot
   refine .inr ⟨b, off, rfl, hlen, by omega, hl, hm, fun j hj => ?_⟩
   rw [hlen] at hj
   have := hcell j (by omega)
   rw [Zax] at this
   rw [this, List.getD, List.getD, List.getElem?_take_of_lt hj]
end
theorem open_blB {H : Type} {enc : TypeId × Value -> H} {w : World} {b0 : Nat} {r : Reach} {held : Bool} {v : Value} {d : DataW H} {p : List MemPlace}
  (hv : Value.okWide Tryz.prog w r b0 47 v) (h : DataW.Trod enc Tryz.prog w 0 (fun _ => true) held 47 v d p)
  (hbk : Rows.uptoBulk d <= 1048576) : ∃ a m c M, v = .slice a m c /\ Bt (fun _ => True) w a m M /\ m <= c /\ (a = none -> c = 0) /\ m <= 1048576 /\ ∀ b ∈ M, b.length <= 1048576 := by
 obtain ⟨a0, len0, cap0, rfl⟩ := okWide_slice Tryz.underlying47 hv
 obtain ⟨fuel, hf⟩ := h
 rcases DataW.trod_slice Tryz.underlying47 hf with ⟨hcs, _⟩ | ⟨p, len, cap, elems, rest, n, hfu, hcs, hx, _, hl, hm, hlen, hel, hrl, _⟩
 ·simp [Value.cells] at hcs
  obtain ⟨rfl, rfl, rfl⟩ := hcs
  exact ⟨none, 0, 0, [], rfl, ⟨rfl, fun j hj => by omega⟩, by omega, fun _ => rfl, by omega, fun b hb => by cases hb⟩
 ·simp [Value.cells] at hcs
  obtain ⟨rfl, rfl, rfl⟩ := hcs
  have hd : d = DataW.slice (elems.map (·.1)) (rest.map (·.1)) := congrArg Prod.fst hx
  rw [hd] at hbk
  simp only [Rows.uptoBulk] at hbk
  have hlb := bulk_len (elems.map (·.1))
  rw [List.length_map] at hlb
  have hthing : ∀ i, i < len0 -> ∃ a' n' c' bs, w.cell? ((p.add (i * 1)).add 0) = some (.slice a' n' c') /\ Ag w a' n' c' bs /\ n' <= 1048576 := by
   intro i hi
   have he := hel i hi
   rw [Zwy, List.getElem?_eq_getElem (by omega), Option.bind_eq_some_iff] at he
   obtain ⟨cs', hc1, hc2⟩ := he
   obtain ⟨_, hc3, hc4⟩ := World.cells?_some hc1
   obtain ⟨a', n', c', bs, hs, hag⟩ := Zoo hc2 (by have := bulk_mem (List.mem_map_of_mem (f := (·.1)) (List.getElem_mem (l := elems) (by omega : i < elems.length))); omega)
   refine ⟨a', n', c', bs, ?_, hag⟩
   have := hc4 0 (by omega)
   rw [hs] at this
   exact this
  have hall : ∀ d k, k + d = len0 -> ∃ M : List (List Int), M.length = d /\ ∀ j, j < d -> ∃ a' n' c', w.cell? ((p.add ((k + j) * 1)).add 0) = some (.slice a' n' c') /\ Ag w a' n' c' (M.getD j []) /\ n' <= 1048576 := by
   intro d
   induction d with
   | zero => intro k _; exact ⟨[], rfl, fun j hj => by omega⟩
   | succ d ihd =>
    intro k hk
    obtain ⟨M, h1, h2⟩ := ihd (k + 1) (by omega)
    obtain ⟨a', n', c', bs, h3, h4⟩ := hthing k (by omega)
    refine ⟨bs :: M, by simp [h1], fun j hj => ?_⟩
    cases j with
    | zero => exact ⟨a', n', c', h3, by simpa using h4⟩
    | succ j =>
     obtain ⟨a2, n2, c2, h5, h6⟩ := h2 j (by omega)
     rw [show k + 1 + j = k + (j + 1) from by omega] at h5
     exact ⟨a2, n2, c2, h5, by simpa using h6⟩
  obtain ⟨M, h1, h2⟩ := hall len0 0 (by omega)
  have hMl : ∀ b ∈ M, b.length <= 1048576 := fun b hb => by
   obtain ⟨j, hj, rfl⟩ := List.getElem_of_mem hb
   obtain ⟨_, n', _, _, h6, h7⟩ := h2 j (by omega)
   have h8 := h6.l
   rw [show M.getD j [] = M[j] from by simp [List.getD, hj]] at h8
   omega
  refine ⟨some p, len0, cap0, M, rfl, ⟨h1, fun j hj => ?_⟩, hl, (fun e => by cases e), by omega, hMl⟩
  obtain ⟨a', n', c', h5, h6⟩ := h2 j hj
  rw [Nat.zero_add] at h5
  have hsp0 : p.spot = none := by
   obtain ⟨_, _, _, _, h7, _⟩ := hthing 0 (by omega)
   simpa [Addr.add] using World.cell?_spot h7
  obtain ⟨g, off, spot⟩ := p
  have hsp : spot = none := hsp0
  subst hsp
  rw [Zax, Zax] at h5
  exact ⟨g, off, a', n', c', rfl, h5, ⟨h6.1, fun _ _ _ => trivial⟩⟩
end Go.Proofs.YtdkpilgelgjieaaGreat
