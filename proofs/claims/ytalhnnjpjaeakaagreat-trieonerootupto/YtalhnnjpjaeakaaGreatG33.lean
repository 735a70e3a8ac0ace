/- How a list of byte strings that is handed in reads as data, where it is of a bounded bulk. -/
import Derived.Test.YtalhnnjpjaeakaaGreatG32
import Derived.Test.YtalhnnjpjaeakaaGreatG26
namespace Go.Proofs.YtalhnnjpjaeakaaGreat
open Go.ChangeShapes Go.WideShapes Go.ChangeAt Go.RowKit
set_option linter.unusedVariables false
set_option maxRecDepth 100000
theorem open_blB {H : Type} {enc : TypeId × Value → H} {w : World} {b0 : Nat} {r : Reach} {held : Bool} {v : Value} {d : DataW H} {p : List MemPlace}
    (hv : Value.okWide Tryz.prog w r b0 41 v) (h : DataW.Trod enc Tryz.prog w 0 (fun _ => true) held 41 v d p)
    (hbk : Rows.uptoBulk d ≤ 1048576) : ∃ a m c M, v = .slice a m c ∧ Bt An w a m M ∧ m ≤ 1048576 := by
  obtain ⟨a0, len0, cap0, rfl⟩ := okWide_slice Tryz.underlying41 hv
  obtain ⟨fuel, hf⟩ := h
  rcases DataW.trod_slice Tryz.underlying41 hf with ⟨hcs, _⟩ | ⟨p, len, cap, elems, rest, n, hfu, hcs, hx, _, hl, hm, hlen, hel, hrl, _⟩
  · simp [Value.cells] at hcs
    obtain ⟨rfl, rfl, rfl⟩ := hcs
    exact ⟨none, 0, 0, [], rfl, ⟨rfl, fun j hj => by omega⟩, by omega⟩
  · simp [Value.cells] at hcs
    obtain ⟨rfl, rfl, rfl⟩ := hcs
    have hd : d = DataW.slice (elems.map (·.1)) (rest.map (·.1)) := congrArg Prod.fst hx
    rw [hd] at hbk
    simp only [Rows.uptoBulk] at hbk
    have hlb := bulk_len (elems.map (·.1))
    rw [List.length_map] at hlb
    have hthing : ∀ i, i < len0 → ∃ a' n' c' bs, w.cell? ((p.add (i * 1)).add 0) = some (.slice a' n' c') ∧ Ag w a' n' c' bs := by
      intro i hi
      have he := hel i hi
      rw [cellsB, List.getElem?_eq_getElem (by omega), Option.bind_eq_some_iff] at he
      obtain ⟨cs', hc1, hc2⟩ := he
      obtain ⟨_, hc3, hc4⟩ := World.cells?_some hc1
      obtain ⟨a', n', c', bs, hs, hag⟩ := open_agF hc2
      refine ⟨a', n', c', bs, ?_, hag⟩
      have := hc4 0 (by omega)
      rw [hs] at this
      exact this
    have hall : ∀ d k, k + d = len0 → ∃ M : List (List Int), M.length = d ∧ ∀ j, j < d → ∃ a' n' c', w.cell? ((p.add ((k + j) * 1)).add 0) = some (.slice a' n' c') ∧ Ag w a' n' c' (M.getD j []) := by
      intro d
      induction d with
      | zero => intro k _; exact ⟨[], rfl, fun j hj => by omega⟩
      | succ d ihd =>
        intro k hk
        obtain ⟨M, h1, h2⟩ := ihd (k + 1) (by omega)
        obtain ⟨a', n', c', bs, h3, h4⟩ := hthing k (by omega)
        refine ⟨bs :: M, by simp [h1], fun j hj => ?_⟩
        cases j with
        | zero => exact ⟨a', n', c', h3, by simpa using h4⟩
        | succ j =>
          obtain ⟨a2, n2, c2, h5, h6⟩ := h2 j (by omega)
          rw [show k + 1 + j = k + (j + 1) from by omega] at h5
          exact ⟨a2, n2, c2, h5, by simpa using h6⟩
    obtain ⟨M, h1, h2⟩ := hall len0 0 (by omega)
    refine ⟨some p, len0, cap0, M, rfl, ⟨h1, fun j hj => ?_⟩, by omega⟩
    obtain ⟨a', n', c', h5, h6⟩ := h2 j hj
    rw [Nat.zero_add] at h5
    have hsp0 : p.spot = none := by
      obtain ⟨_, _, _, _, h7, _⟩ := hthing 0 (by omega)
      simpa [Addr.add] using World.cell?_spot h7
    obtain ⟨g, off, spot⟩ := p
    have hsp : spot = none := hsp0
    subst hsp
    rw [addr_add, addr_add] at h5
    exact ⟨g, off, a', n', c', rfl, h5, h6.an⟩
end Go.Proofs.YtalhnnjpjaeakaaGreat
