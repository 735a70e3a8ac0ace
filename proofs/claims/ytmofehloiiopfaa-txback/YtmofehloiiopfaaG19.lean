/- What Bytes, Key, Read and Word answer. -/
import Derived.Test.YtmofehloiiopfaaG18
namespace Go.Proofs.Ytmofehloiiopfaa.Wo
open Go.RowKit
set_option linter.unusedVariables false
theorem bytes_any (x : Int) (hx0 : 0 ≤ x) (hx1 : x < 18446744073709551616) (w : World) :
    Calls Try.prog 65 #[.int .u64 x] w fun e w' => e = .returned (.slice (some ⟨w.heap.size, 0, none⟩) (nb x.toNat) (nb x.toNat)) ∧ Row w.heap.size w' (be x.toNat) ∧ Below w.heap.size w w' := by
  have h1 := bytesIn_any x hx0 hx1 w
  have h2 := lowBytes_any x (nb x.toNat) hx0 hx1 (nb8 (by omega)) w
  rw [be_bek]
  generalize nb x.toNat = k at *
  generalize bek k x.toNat = bs at *
  go_enter Try.func65, Try.ntmps65
  go_wp2_with fail
  refine h1.mono ?_
  rintro e w1 ⟨rfl, rfl⟩
  go_wp2_with fail
  refine h2.mono ?_
  rintro e w2 ⟨rfl, hr, hb⟩
  have HR := Hid.mk hr
  have HB := Hid.mk hb
  clear hr hb h1 h2
  go_wp2_with fail
  go_ret
  exact ⟨rfl, HR.out, HB.out⟩
/-- What bytes are read as. -/
def rdP (b : List Int) : Nat × Bool := if 8 < b.length ∨ (0 < b.length ∧ b.getD 0 0 = 0) then (0, false) else (vl b, true)
def wdP (b : List Int) : Nat × Bool := if b.length = 8 then (vl b, true) else (0, false)
set_option maxHeartbeats 400000 in
theorem read_any (a : Option Addr) (n c : Nat) (b : List Int) (w : World) (h : Ag w a n c b) (hn : n ≤ 140737488351232) :
    Calls Try.prog 78 #[.slice a n c] w fun e w' => e = .returned (.tuple #[.int .u64 ((rdP b).1 : Nat), .bool (rdP b).2]) ∧ w' = w := by
  have hl := h.l
  unfold rdP
  by_cases h8 : 8 < b.length
  · rw [if_pos (.inl h8)]
    have h8i : (n : Int) > 8 := by omega
    clear h hl h8
    go_enter Try.func78, Try.ntmps78
    go_wp2_with fail
    go_ret2
    exact ⟨rfl, rfl⟩
  have h8i : ¬ (n : Int) > 8 := by omega
  by_cases h0 : b.length = 0
  · rw [if_neg (by omega)]
    have hv := valueOf_any a n c b w h (by omega)
    generalize vl b = v at *
    have hni : n = 0 := by omega
    subst hni
    clear h hl h8 h0
    go_enter Try.func78, Try.ntmps78
    go_wp2_with fail
    refine hv.mono ?_
    rintro e w2 ⟨rfl, rfl⟩
    go_wp2_with fail
    go_ret2
    exact ⟨rfl, rfl⟩
  obtain ⟨g, off, rfl, hc1, hc2, hc⟩ := ag_head h (by omega)
  unfold maxLen at hc2
  have hc0 := hc 0 (by omega)
  rw [Nat.add_zero] at hc0
  have hni : (n : Int) > 0 := by omega
  have hv := valueOf_any _ n c b w h (by omega)
  by_cases hx : b.getD 0 0 = 0
  · rw [if_pos (.inr ⟨by omega, hx⟩)]
    rw [hx] at hc0
    clear h hl h8 hc hv h0
    go_enter Try.func78, Try.ntmps78
    go_wp2_with fail
    go_ret2
    exact ⟨rfl, rfl⟩
  · rw [if_neg (by rintro (q | q); exact h8 q; exact hx q.2)]
    generalize vl b = v at *
    have hxb : (b.getD 0 0 == 0) = false := by simpa using hx
    generalize b.getD 0 0 = y at *
    clear h hl h8 hc h0
    go_enter Try.func78, Try.ntmps78
    go_wp2_with fail
    refine hv.mono ?_
    rintro e w2 ⟨rfl, rfl⟩
    go_wp2_with fail
    go_ret2
    exact ⟨rfl, rfl⟩
end Go.Proofs.Ytmofehloiiopfaa.Wo
/- What the document's Bytes and Key answer. -/
namespace Go.Proofs.Ytmofehloiiopfaa.Wo
open Go.RowKit
set_option linter.unusedVariables false
def Lo (N : Nat) (a : Option Addr) : Prop := ∀ g off, a = some ⟨g, off, none⟩ → N ≤ g
theorem ag_nil (w : World) : Ag w none 0 0 [] := ⟨.inl ⟨rfl, rfl⟩, fun _ => ⟨rfl, rfl⟩, rfl, fun x hx => by cases hx⟩
end Go.Proofs.Ytmofehloiiopfaa.Wo
/- What the document's Read and Word answer. -/
namespace Go.Proofs.Ytmofehloiiopfaa.Wo
open Go.RowKit
set_option linter.unusedVariables false
set_option maxRecDepth 100000
end Go.Proofs.Ytmofehloiiopfaa.Wo
