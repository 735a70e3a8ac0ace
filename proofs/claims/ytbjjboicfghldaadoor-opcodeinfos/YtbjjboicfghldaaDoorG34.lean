/- The table lies as the row says; what a witness begins with. -/
import Derived.Test.YtbjjboicfghldaaDoorG10
import Derived.Test.YtbjjboicfghldaaDoorG33
import Derived.LaidMore
import Derived.Stop.Joined
namespace Go.Proofs.YtbjjboicfghldaaDoor
open Go.ChangeShapes Go.WideShapes Go.ChangeAt Go.RowKit
set_option linter.unusedVariables false
set_option maxRecDepth 100000
abbrev laidT : List (String × DataW Unit) := [("pergola/opcode.table", Rows.laid_pergola_opcode_table)]
theorem gTab : Tryd.prog.globalNamed "pergola/opcode.table" = some 0 := by kernel_rfl
theorem tTab : (Tryd.prog.globals[0]?).map (·.type) = some 46 := by kernel_rfl
theorem c5' : Tryd.prog.cellsOf 5 = 1 := by kernel_rfl
theorem c9' : Tryd.prog.cellsOf 9 = 1 := by kernel_rfl
theorem cRow : Tryd.prog.cellsOf 45 = 6 := by kernel_rfl
theorem cTab : Tryd.prog.cellsOf 46 = 174 := by kernel_rfl
theorem door_met (os : Os) (args : Array Value) : laidMetH Tryd.prog laidT ((World.doorLaid Tryd.prog 400 os).forCall (fun _ _ => 0) ⟨#[], args, []⟩).memory := by
  rw [MakeChecks.laidMetH_plain _ _ _ (by kernel_rfl)]
  exact laidMet_of_run' 8 (by kernel_rfl) (by kernel_rfl)
def rowD (r : Rd) : DataW Unit := .agg [.lit (.int .u8 ((r.op : Nat) : Int)), .lit (.string (r.wd.map fun n => UInt8.ofNat n.toNat)), .lit (.int .u8 ((r.bh : Nat) : Int)), .lit (.int .u8 ((r.tk : Nat) : Int)), .lit (.int .u8 ((r.gv : Nat) : Int)), .lit (.int .u8 ((r.gs : Nat) : Int))]
theorem laid_rows : (Rows.laid_pergola_opcode_table : DataW Unit) = .agg (tbl.map rowD) := rfl
theorem str_trod {H : Type} {enc : TypeId × Value → H} {w : World} {base : Nat} {sp : Nat → Bool} {held : Bool} {fuel : Nat} {c : Value} {y : DataW H × List MemPlace} (h : DataW.trod enc Tryd.prog w base sp held fuel 9 [c] = some y) : ∃ s, c = .string s ∧ y = (.lit (.string s.data.toList), []) := by
  cases fuel with
  | zero => simp [DataW.trod] at h
  | succ fuel =>
    cases c <;> simp [DataW.trod, Tryd.underlying9] at h
    exact ⟨_, rfl, h.2.symm⟩
theorem int_trod {H : Type} {enc : TypeId × Value → H} {w : World} {base : Nat} {sp : Nat → Bool} {held : Bool} {fuel : Nat} {c : Value} {y : DataW H × List MemPlace} (h : DataW.trod enc Tryd.prog w base sp held fuel 5 [c] = some y) : ∃ n, c = .int .u8 n ∧ y = (.lit (.int .u8 n), []) := by
  cases fuel with
  | zero => simp [DataW.trod] at h
  | succ fuel =>
    cases c <;> simp [DataW.trod, Tryd.underlying5] at h
    rename_i k n
    obtain ⟨⟨rfl, _⟩, rfl⟩ := h
    exact ⟨n, rfl, rfl⟩
theorem row_trod {W : World} {fuel : Nat} {cs : List Value} {r : Rd} {p : List MemPlace} (h : DataW.trod (fun _ => ()) Tryd.prog W 0 (fun _ => true) false fuel 45 cs = some (rowD r, p)) : cs = rowC r := by
  obtain ⟨xs, n, _, hx, hl, hlen, hf⟩ := DataW.trod_struct Tryd.underlying45 h
  rw [cRow] at hl
  match xs, hlen with
  | [y0, y1, y2, y3, y4, y5], _ =>
    match cs, hl with
    | [c0, c1, c2, c3, c4, c5], _ =>
      have h0 : DataW.trod (fun _ => ()) Tryd.prog W 0 (fun _ => true) false n 5 (([c0, c1, c2, c3, c4, c5].drop 0).take (Tryd.prog.cellsOf 5)) = some y0 := hf 0 _ rfl
      rw [c5'] at h0
      have h1 : DataW.trod (fun _ => ()) Tryd.prog W 0 (fun _ => true) false n 9 (([c0, c1, c2, c3, c4, c5].drop 1).take (Tryd.prog.cellsOf 9)) = some y1 := hf 1 _ rfl
      rw [c9'] at h1
      have h2 : DataW.trod (fun _ => ()) Tryd.prog W 0 (fun _ => true) false n 5 (([c0, c1, c2, c3, c4, c5].drop 2).take (Tryd.prog.cellsOf 5)) = some y2 := hf 2 _ rfl
      rw [c5'] at h2
      have h3 : DataW.trod (fun _ => ()) Tryd.prog W 0 (fun _ => true) false n 5 (([c0, c1, c2, c3, c4, c5].drop 3).take (Tryd.prog.cellsOf 5)) = some y3 := hf 3 _ rfl
      rw [c5'] at h3
      have h4 : DataW.trod (fun _ => ()) Tryd.prog W 0 (fun _ => true) false n 5 (([c0, c1, c2, c3, c4, c5].drop 4).take (Tryd.prog.cellsOf 5)) = some y4 := hf 4 _ rfl
      rw [c5'] at h4
      have h5 : DataW.trod (fun _ => ()) Tryd.prog W 0 (fun _ => true) false n 5 (([c0, c1, c2, c3, c4, c5].drop 5).take (Tryd.prog.cellsOf 5)) = some y5 := hf 5 _ rfl
      rw [c5'] at h5
      obtain ⟨n0, rfl, rfl⟩ := int_trod h0
      obtain ⟨s1, rfl, rfl⟩ := str_trod h1
      obtain ⟨n2, rfl, rfl⟩ := int_trod h2
      obtain ⟨n3, rfl, rfl⟩ := int_trod h3
      obtain ⟨n4, rfl, rfl⟩ := int_trod h4
      obtain ⟨n5, rfl, rfl⟩ := int_trod h5
      simp [rowD] at hx
      obtain ⟨⟨rfl, hs, rfl, rfl, rfl, rfl⟩, _⟩ := hx
      have hs2 : s1 = strOfNums r.wd := ba_ext (by rw [str_data]; simpa using hs.symm)
      rw [hs2]
      rfl
theorem chunk : ∀ (L : List Rd) (cs : List Value), cs.length = L.length * 6 → (∀ i r, L[i]? = some r → (cs.drop (i * 6)).take 6 = rowC r) → cs = (L.map rowC).flatten
  | [], cs, h, _ => by simpa using h
  | r :: L, cs, hl, h => by
    have h0 := h 0 r rfl
    rw [Nat.zero_mul, List.drop_zero] at h0
    rw [List.length_cons] at hl
    have ih := chunk L (cs.drop 6) (by rw [List.length_drop]; omega) (fun i q hq => by rw [List.drop_drop, show 6 + i * 6 = (i + 1) * 6 by omega]; exact h (i + 1) q (by simpa using hq))
    rw [List.map_cons, List.flatten_cons, ← h0, ← ih, List.take_append_drop]
theorem door_met0 (os : Os) (args : Array Value) : laidMet Tryd.prog laidT ((World.doorLaid Tryd.prog 400 os).forCall (fun _ _ => 0) ⟨#[], args, []⟩).memory := laidMet_of_run' 8 (by kernel_rfl) (by kernel_rfl)
theorem tb_of_laid {W : World} (h : laidMetH Tryd.prog laidT W) : Tb W := by
  rw [MakeChecks.laidMetH_plain _ _ _ (by kernel_rfl)] at h
  obtain ⟨ps, ⟨g, t, cs, fuel, p, q, hg, ht, hvar, hd, _, _⟩, _, _⟩ := h
  obtain rfl := Option.some.inj (gTab.symm.trans hg)
  obtain rfl := Option.some.inj (tTab.symm.trans ht)
  rw [laid_rows] at hd
  obtain ⟨xs, m, _, hx, hl, hlen, hel⟩ := DataW.trod_array Tryd.underlying46 hd
  simp only [Prod.mk.injEq, DataW.agg.injEq] at hx
  rw [cTab] at hl
  have hcs : cs.toList = tbc := by
    refine chunk tbl cs.toList (by rw [hl]; rfl) ?_
    intro i r hr
    have hi : i < 29 := by
      have := (List.getElem?_eq_some_iff.1 hr).1
      exact this
    have h1 := hel i hi
    rw [cRow] at h1
    have h2 : (xs.map (·.1))[i]? = some (rowD r) := by rw [← hx.1, List.getElem?_map, hr]; rfl
    rw [List.getElem?_map] at h2
    cases hq : xs[i]? with
    | none => rw [hq] at h2; cases h2
    | some y =>
      rw [hq] at h2 h1
      have hy : y.1 = rowD r := by simpa using h2
      obtain ⟨y1, y2⟩ := y
      simp only at hy
      subst hy
      exact row_trod h1
  unfold World.var? at hvar
  rw [gTab] at hvar
  simp only [Option.bind_some] at hvar
  split at hvar
  · rename_i cs2 T fr hh
    cases hvar
    exact ⟨T, fr, by rw [hh, ← hcs]⟩
  · cases hvar
end Go.Proofs.YtbjjboicfghldaaDoor
