/- A range over a function that hands two values. -/
import Derived.Test.YtalhnnjpjaeakabGreatG01
import Derived.Test.YtalhnnjpjaeakabGreatG26
import Derived.Test.YtalhnnjpjaeakabGreatG27
import Derived.Test.YtalhnnjpjaeakabGreatG00
namespace Go.Proofs.YtalhnnjpjaeakabGreat
open Go.RowKit
open Go.ChangeMaps (setBlock)
set_option linter.unusedVariables false
set_option maxRecDepth 100000
section
variable {r : Option Nat} {m : Nat} {P : Program} {ds : List Deferred} {n : Nat} {Q : Exit → Act → World → Prop} {env : Env} {w w' : World} {ops : Array Oper} {l : List Oper} {o : Oper}
end
end Go.Proofs.YtalhnnjpjaeakabGreat
/- What is old; what a block that is written over leaves alone. -/
namespace Go.Proofs.YtalhnnjpjaeakabGreat
open Go.RowKit
open Tr
set_option linter.unusedVariables false
set_option maxRecDepth 100000
theorem TA.mono {K K' : Nat → Prop} {w : World} (hK : ∀ b, K b → K' b) : ∀ {t : Tr} {v : Value}, TA K w t v → TA K' w t v := by
  intro t
  induction t with
  | no => intro v h; exact h
  | leaf p x => rintro v ⟨a, n, c, a', n', c', h1, h2, h3, h4⟩; exact ⟨a, n, c, a', n', c', h1, h2.mono hK, h3.mono hK, h4⟩
  | ext p t ih => rintro v ⟨a, n, c, u, h1, h2, h3⟩; exact ⟨a, n, c, u, h1, h2.mono hK, ih h3⟩
  | br k x ih => rintro v ⟨vs, a, n, c, h1, h2, h3, h4⟩; exact ⟨vs, a, n, c, h1, fun i hi => ih i (h2 i hi), h3.mono hK, h4⟩
theorem Sk.tou {K : Nat → Prop} {w w' : World} {g : Nat} {a : Option Addr} {n c : Nat} {bs : List Int} (h : Sk K w a n c bs) (t : Touch g w w') (hg : ¬ K g) : Sk K w' a n c bs := by
  refine ⟨⟨?_, h.ag.nil, h.ag.l, h.ag.b⟩, h.k⟩
  rcases h.ag.i with h1 | ⟨gb, off, h1, h2, h3, h4, h5, h7⟩
  · exact .inl h1
  · refine .inr ⟨gb, off, h1, h2, h3, h4, h5, fun j hj => ?_⟩
    rw [← h7 j hj]
    have hk := h.k _ h1 h3
    exact World.cell?_of_block (t.block gb (block_lt_of_cell (h7 j hj)) (fun e => hg (e ▸ hk)))
theorem TA.tou {K : Nat → Prop} {w w' : World} {g : Nat} (ht : Touch g w w') (hK : ¬ K g) : ∀ {t : Tr} {v : Value}, TA K w t v → TA K w' t v := by
  intro t
  induction t with
  | no => intro v h; exact h
  | leaf p x => rintro v ⟨a, n, c, a', n', c', h1, h2, h3, h4⟩; exact ⟨a, n, c, a', n', c', h1, h2.tou ht hK, h3.tou ht hK, h4⟩
  | ext p t ih => rintro v ⟨a, n, c, u, h1, h2, h3⟩; exact ⟨a, n, c, u, h1, h2.tou ht hK, ih h3⟩
  | br k x ih => rintro v ⟨vs, a, n, c, h1, h2, h3, h4⟩; exact ⟨vs, a, n, c, h1, fun i hi => ih i (h2 i hi), h3.tou ht hK, h4⟩
theorem Tri.tou {K : Nat → Prop} {w w' : World} {g g' : Nat} {t : Tr} (h : Tri K w g t) (ht : Touch g' w w') (hK : ¬ K g') (hne : g ≠ g') : Tri K w' g t := by
  obtain ⟨⟨v, h1, h2⟩, h3⟩ := h
  exact ⟨⟨v, h1.touch ht hne, h2.tou ht hK⟩, h3⟩
theorem Tri.mono {K K' : Nat → Prop} {w : World} {g : Nat} {t : Tr} (h : Tri K w g t) (hK : ∀ b, K b → K' b) : Tri K' w g t := by
  obtain ⟨⟨v, h1, h2⟩, h3⟩ := h
  exact ⟨⟨v, h1, h2.mono hK⟩, h3⟩
theorem tdel_full {K K1 : Nat → Prop} {w : World} {g : Nat} {t : Tr} {a : Option Addr} {n c : Nat} {k : List Int} (h : Tri K w g t) (hk : Sk K1 w a n c k) (hK : ∀ b, w.heap.size ≤ b → K b) :
    Calls Tryz.prog 10 #[.pointer (some ⟨g, 0, none⟩), .slice a n c] w fun e w' => ∃ u, e = .returned u ∧ u = .tuple #[.bool (if k.length ≤ 32 then decide (Tr.get t (Ni.nib k) ≠ []) else false), .int .i64 (if k.length ≤ 32 then 0 else 70)] ∧ Tri K w' g (delT t k) ∧ Touch g w w' := by
  have lk := hk.len
  unfold delT
  rw [lk]
  by_cases hn : n ≤ 32
  · rw [if_pos hn, if_pos hn]
    by_cases hg : Tr.get t (Ni.nib k) = []
    · rw [if_neg (fun q => q.2 hg), show decide (Tr.get t (Ni.nib k) ≠ []) = false from by simp [hg]]
      have h' := h
      obtain ⟨⟨v, h1, h2⟩, h3⟩ := h'
      exact (delete_none h1 h2 h3 hk hn hK hg).mono (fun e w' ⟨u, e1, e2, e3⟩ => ⟨u, e1, e2, h.go e3, Touch.of_below e3⟩)
    · rw [if_pos ⟨hn, hg⟩, show decide (Tr.get t (Ni.nib k) ≠ []) = true from by simp [hg]]
      obtain ⟨⟨v, h1, h2⟩, h3⟩ := h
      exact delete_some h1 h2 h3 hk hn hK hg
  · rw [if_neg hn, if_neg hn, if_neg (fun q => hn q.1)]
    exact (delete_k hk (by omega)).mono (fun e w' ⟨u, e1, e2, e3⟩ => ⟨u, e1, e2, h.go e3, Touch.of_below e3⟩)
end Go.Proofs.YtalhnnjpjaeakabGreat
/- A range over all keys of a trie; how many there are. -/
namespace Go.Proofs.YtalhnnjpjaeakabGreat
open Go.RowKit
open Tr
set_option linter.unusedVariables false
set_option maxRecDepth 100000
theorem KpU.any {U : Nat → Prop} {A B : World} (h : KpU U A.heap.size A B) (M : Nat) : KpU U M A B := ⟨h.size, fun k cs T fr _ hU hh => h.keep k cs T fr (lt_of_get hh) hU hh⟩
theorem yield_mono {m lp : Nat} {args : Array Value} {W : World} {R R' : Ending → World → Prop} (h : YieldAt Fence.wide m Tryz.prog lp args W R) (hr : ∀ e w, R e w → R' e w) : YieldAt Fence.wide m Tryz.prog lp args W R' := by
  obtain ⟨fn, tmps, assign, body, hy, hR⟩ := h
  exact ⟨fn, tmps, assign, body, hy, RoundIn.mono hR hr⟩
theorem grown_none {a b : World} (h : Below a.heap.size a b) : a.grownBy b none := ⟨h.os, h.tape, h.output, h.size, fun k hk _ => h.block k hk⟩
set_option maxHeartbeats 1000000 in
theorem all_any {w : World} {g : Nat} :
    Calls Tryz.prog 6 #[.pointer (some ⟨g, 0, none⟩)] w fun e w' => ∃ u, e = .returned u ∧ (fun u w' => (∃ gB, u = .func (.func 15) #[] #[.pointer (some ⟨gB, 0, none⟩)] ∧ Rw gB w' #[.pointer (some ⟨g, 0, none⟩)] 23 ∧ w.heap.size ≤ gB) ∧ Bl w w') u w' := by
  have hB := Bl.refl w
  refine cw_enter Tryz.func6 rfl 4 rfl ?_
  show CW _ _ _ _ _ _ _ [(0, .pointer (some ⟨g, 0, none⟩))] _
  refine cw_seq ?_
  refine cw_region ?_
  refine rw_new 1 (#[.pointer (some ⟨g, 0, none⟩)]) 23 (fun _ => by kernel_rfl) (fun _ => by kernel_rfl) ?_
  intro w1 g2 hn3
  replace hB := hB.go hn3.below
  have hr4 : Rw g2 w1 (#[.pointer (some ⟨g, 0, none⟩)]) 23 := hn3.row
  refine rp 2 (.nilFunc) ?_
  refine rw_nil ?_
  refine nw_then ?_
  refine cw_seq ?_
  refine cw_region ?_
  refine rp 3 (.func (.func 15) #[] #[.pointer (some ⟨g2, 0, none⟩)]) ?_
  refine rp 2 (.func (.func 15) #[] #[.pointer (some ⟨g2, 0, none⟩)]) ?_
  refine rw_nil ?_
  refine nw_then ?_
  refine cw_ret ?_
  exact nw_ret_body (.func (.func 15) #[] #[.pointer (some ⟨g2, 0, none⟩)]) (fun _ => by kernel_rfl) ⟨_, rfl, ⟨g2, rfl, hr4, by rw [hn3.hg]; exact Nat.le_refl _⟩, hB⟩
set_option maxHeartbeats 1000000 in
theorem all1_no {l B0 : Nat} {Z : PList} {U : Nat → Prop} {J : PList → World → Prop} {Jx : World → Prop} (V : Vis l B0 Z U J Jx) {w : World} {g gB : Nat} (hgB : Rw gB w #[.pointer (some ⟨g, 0, none⟩)] 23) (hr : Rw g w #[.nilIface] 56) (hJ : J [] w) (hB0 : B0 ≤ w.heap.size)  :
    Calls Tryz.prog 15 #[.func (.yield l) #[] #[], .pointer (some ⟨gB, 0, none⟩)] w fun e w' => ∃ u, e = .returned u ∧ (fun u w' => J [] w' ∨ Jx w') u w' := by
  have hB := Bl.refl w
  refine cw_enter Tryz.func15 rfl 14 rfl ?_
  show CW _ _ _ _ _ _ _ [(0, .func (.yield l) #[] #[]), (1, .pointer (some ⟨gB, 0, none⟩))] _
  refine cw_seq ?_
  refine cw_region ?_
  refine rw_new 2 (#[.func (.yield l) #[] #[]]) 52 (fun _ => by kernel_rfl) (fun _ => by kernel_rfl) ?_
  intro w1 g2 hn3
  replace hB := hB.go hn3.below
  replace hgB := hgB.go hn3.below
  replace hr := hr.go hn3.below
  replace hJ := V.go hJ hn3.below
  have hr4 : Rw g2 w1 (#[.func (.yield l) #[] #[]]) 52 := hn3.row
  refine rw_nil ?_
  have hgY := hn3.hg
  refine nw_then ?_
  refine cw_seq ?_
  refine cw_seq ?_
  refine cw_region ?_
  refine rv 3 (.pointer (some ⟨g, 0, none⟩)) (fun _ => ol_cell 23 _ ⟨gB, 0, none⟩ _ _ rfl (by kernel_rfl) (by rw [cell_of_row _ _ _ _ _ _ hgB]; rfl) Tryz.underlying23 rfl) ?_
  refine rp 4 (.pointer (some ⟨g, 0, none⟩)) ?_
  refine rp 5 (.pointer (some ⟨g, 0, none⟩)) ?_
  refine rv 6 (.nilIface) (fun _ => ol_cell 54 _ ⟨g, 0, none⟩ _ _ rfl (by kernel_rfl) (by rw [cell_of_row _ _ _ _ _ _ hr]; rfl) Tryz.underlying54 rfl) ?_
  refine rp 7 (.bool true) ?_
  refine rw_nil ?_
  refine nw_then ?_
  refine cw_cond_t (fun _ => by kernel_rfl) ?_
  refine cw_ret ?_
  refine nw_ret_then ?_
  exact nw_ret_body (.tuple #[]) (fun _ => by kernel_rfl) ⟨_, rfl, .inl hJ⟩
set_option maxHeartbeats 1000000 in
theorem all1_yes {l B0 : Nat} {Z : PList} {U : Nat → Prop} {J : PList → World → Prop} {Jx : World → Prop} (V : Vis l B0 Z U J Jx) {T0 : TypeId} {v0 : Value} {w : World} {g gB : Nat} (hgB : Rw gB w #[.pointer (some ⟨g, 0, none⟩)] 23) (hr : Rw g w #[.iface T0 v0] 56) (hJ : J [] w) (hB0 : B0 ≤ w.heap.size) {K : Nat → Prop} {t : Tr} (ht : TA K w t (.iface T0 v0)) (hO : Tr.Ok 64 t) (hKU : ∀ b, K b → ¬ U b) (hN : ([] ++ entsF [] t) <+: Z) :
    Calls Tryz.prog 15 #[.func (.yield l) #[] #[], .pointer (some ⟨gB, 0, none⟩)] w fun e w' => ∃ u, e = .returned u ∧ (fun u w' => J (entsF [] t) w' ∨ Jx w') u w' := by
  have hB := Bl.refl w
  refine cw_enter Tryz.func15 rfl 14 rfl ?_
  show CW _ _ _ _ _ _ _ [(0, .func (.yield l) #[] #[]), (1, .pointer (some ⟨gB, 0, none⟩))] _
  refine cw_seq ?_
  refine cw_region ?_
  refine rw_new 2 (#[.func (.yield l) #[] #[]]) 52 (fun _ => by kernel_rfl) (fun _ => by kernel_rfl) ?_
  intro w1 g2 hn3
  replace hB := hB.go hn3.below
  replace hgB := hgB.go hn3.below
  replace hr := hr.go hn3.below
  replace hJ := V.go hJ hn3.below
  replace ht := ht.go hn3.below
  have hr4 : Rw g2 w1 (#[.func (.yield l) #[] #[]]) 52 := hn3.row
  refine rw_nil ?_
  have hgY := hn3.hg
  refine nw_then ?_
  refine cw_seq ?_
  refine cw_seq ?_
  refine cw_region ?_
  refine rv 3 (.pointer (some ⟨g, 0, none⟩)) (fun _ => ol_cell 23 _ ⟨gB, 0, none⟩ _ _ rfl (by kernel_rfl) (by rw [cell_of_row _ _ _ _ _ _ hgB]; rfl) Tryz.underlying23 rfl) ?_
  refine rp 4 (.pointer (some ⟨g, 0, none⟩)) ?_
  refine rp 5 (.pointer (some ⟨g, 0, none⟩)) ?_
  refine rv 6 (.iface T0 v0) (fun _ => ol_cell 54 _ ⟨g, 0, none⟩ _ _ rfl (by kernel_rfl) (by rw [cell_of_row _ _ _ _ _ _ hr]; rfl) Tryz.underlying54 rfl) ?_
  refine rp 7 (.bool false) ?_
  refine rw_nil ?_
  refine nw_then ?_
  refine cw_cond_f (fun _ => by kernel_rfl) ?_
  refine cw_skip ?_
  refine nw_then ?_
  refine cw_region ?_
  refine rv 8 (.pointer (some ⟨g, 0, none⟩)) (fun _ => ol_cell 23 _ ⟨gB, 0, none⟩ _ _ rfl (by kernel_rfl) (by rw [cell_of_row _ _ _ _ _ _ hgB]; rfl) Tryz.underlying23 rfl) ?_
  refine rp 9 (.pointer (some ⟨g, 0, none⟩)) ?_
  refine rp 10 (.pointer (some ⟨g, 0, none⟩)) ?_
  refine rv 11 (.iface T0 v0) (fun _ => ol_cell 54 _ ⟨g, 0, none⟩ _ _ rfl (by kernel_rfl) (by rw [cell_of_row _ _ _ _ _ _ hr]; rfl) Tryz.underlying54 rfl) ?_
  refine rp 12 (.func (.func 16) #[] #[.pointer (some ⟨g2, 0, none⟩)]) ?_
  obtain ⟨T7, x8, f9, he10, hi5, hc6⟩ := (ec_all V t hO (by omega) ht hKU (Sk.nil (fun _ => False) _) (fun b hb => hb.elim) hr4 (fun hu => by have := V.lo _ hu; omega) hJ hN (Nat.le_trans hB0 hB.size))
  refine rw_call 13 f9 (#[x8] ++ #[.slice none 0 0, .func (.func 16) #[] #[.pointer (some ⟨g2, 0, none⟩)]]) (fun _ => by kernel_rfl) (fun _ => hi5 _ _ _ _ _ _ _ rfl (by kernel_rfl) (by kernel_rfl)) (R := RB U J Jx (w1) ([] ++ entsF [] t)) ?_ ?_
  · exact hc6
  rintro _ u8 ⟨b8, rfl, hR8, hX8⟩
  refine rw_nil ?_
  cases b8 with
  | true => exact nw_end_body (.tuple #[]) (fun _ => by kernel_rfl) ⟨_, rfl, .inl (hR8 rfl).1⟩
  | false => exact nw_end_body (.tuple #[]) (fun _ => by kernel_rfl) ⟨_, rfl, .inr (hX8 rfl)⟩
theorem all1_any {l B0 : Nat} {Z : PList} {U : Nat → Prop} {J : PList → World → Prop} {Jx : World → Prop} (V : Vis l B0 Z U J Jx) {w : World} {g gB : Nat} (hgB : Rw gB w #[.pointer (some ⟨g, 0, none⟩)] 23) (hJ : J [] w) (hB0 : B0 ≤ w.heap.size) {K : Nat → Prop} {t : Tr} {v : Value} (hr : Rw g w #[v] 56) (ht : TA K w t v) (hok : t = no ∨ Tr.Ok 64 t) (hKU : ∀ b, K b → ¬ U b) (hN : entsF [] t <+: Z) :
    Calls Tryz.prog 15 #[.func (.yield l) #[] #[], .pointer (some ⟨gB, 0, none⟩)] w fun e w' => ∃ u, e = .returned u ∧ (J (entsF [] t) w' ∨ Jx w') := by
  rcases hok with rfl | hO
  · rw [show v = .nilIface from ht] at hr
    exact all1_no V hgB hr hJ hB0
  · obtain ⟨T0, v0, rfl⟩ := ht.iface hO.ne
    exact all1_yes V hgB hr hJ hB0 ht hO hKU hN
def KpR (U : Nat → Prop) (A B : World) : Prop := KpU U A.heap.size A B
theorem kpR_t {U : Nat → Prop} {A B C : World} (h : KpR U A B) (g : KpR U B C) : KpR U A C := KpU.trans h g h.size
theorem kpR_b {U : Nat → Prop} {N : Nat} (W : World) (l : Nat) (o o' : Obj) (_ : N ≤ l) (hl : W.heap[l]? = some o) (ho : o.isCells = false) (_ : o.isWalk = false) : KpR U W (W.putObj l o') := ⟨by simp, fun k cs T fr _ _ hh => (World.putObj_heap_other (fun e => by subst e; rw [hh] at hl; cases hl; cases ho)).trans hh⟩
/-- The range over all keys, told as the library tells one: two values each time. -/
theorem all_stops {w : World} {U : Nat → Prop} (hU : ∀ b, U b → b < w.heap.size) {g gB : Nat} (hgB : Rw gB w #[.pointer (some ⟨g, 0, none⟩)] 23) {K : Nat → Prop} {t : Tr} {v : Value} (hr : Rw g w #[v] 56) (ht : TA K w t v) (hok : t = no ∨ Tr.Ok 64 t) (hKU : ∀ b, K b → ¬ U b) (m : Nat) :
    SeqStopsK Fence.wide m Tryz.prog 15 #[.pointer (some ⟨gB, 0, none⟩)] (fun x : Value × Value => #[x.1, x.2]) (KpR U) (fun xs => xs.length = (entsF [] t).length) (fun _ => True) (entsF [] t).length w := by
  intro l J Jx W hb hJ hJx hy h0
  have V : Vis l W.heap.size (entsF [] t) U (fun pre W1 => ∃ vs : List (Value × Value), vs.length = pre.length ∧ J vs W1) (fun W1 => ∃ vs, Jx vs W1) := by
    refine ⟨?_, ?_, fun b hu => Nat.lt_of_lt_of_le (hU b hu) hb.size, ?_⟩
    · rintro pre A B ⟨vs, h1, h2⟩ hAB
      exact ⟨vs, h1, hJ vs A B none h2 (grown_none hAB) (fun r e => by cases e)⟩
    · rintro A B ⟨vs, h2⟩ hAB
      exact ⟨vs, hJx vs A B none h2 (grown_none hAB) (fun r e => by cases e)⟩
    · rintro pre W1 M a a' n c n' c' k x ⟨vs, h1, h2⟩ hN _ _ _ _
      refine yield_any (yield_mono (hy vs (.slice a n c, .slice a' n' c') W1 h2 (by have := hN.length_le; simp only [List.length_append, List.length_singleton] at this; omega)) ?_)
      rintro e W' (⟨rfl, h3, h4⟩ | ⟨rfl, h3⟩)
      · exact .inl ⟨rfl, ⟨_, by simp [h1], h3⟩, KpU.any h4 M⟩
      · exact .inr ⟨rfl, _, h3⟩
  refine callsIn_wide.2 ?_
  refine (all1_any V (hgB.go hb) ⟨[], rfl, h0⟩ (Nat.le_refl _) (hr.go hb) (ht.go hb) hok hKU List.prefix_rfl).mono ?_
  rintro e W' ⟨u, rfl, (⟨vs, h1, h2⟩ | ⟨vs, h2⟩)⟩
  · exact ⟨⟨u, rfl⟩, .inl ⟨vs, h1, h2⟩⟩
  · exact ⟨⟨u, rfl⟩, .inr ⟨vs, trivial, h2⟩⟩
/-- The count so far. -/
def Cnt (w : World) (gN : Nat) (xs : List (Value × Value)) (W : World) : Prop := Rw gN W #[.int .i64 ((xs.length : Nat) : Int)] 3 ∧ Bl w W
end Go.Proofs.YtalhnnjpjaeakabGreat
