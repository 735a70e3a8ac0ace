/- A range over a function that hands two values. -/
import Derived.Test.YtdkpilgelgjieaaGreatG01
import Derived.Test.YtdkpilgelgjieaaGreatG19
import Derived.Test.YtdkpilgelgjieaaGreatG20
import Derived.Test.YtdkpilgelgjieaaGreatG00
import Derived.Test.YtdkpilgelgjieaaGreatG02
namespace Go.Proofs.YtdkpilgelgjieaaGreat
open Go.RowKit
open Go.ChangeMaps (setBlock)
set_option linter.unusedVariables false
set_option maxRecDepth 100000
section
variable {r : Option Nat} {m : Nat} {P : Program} {ds : List Deferred} {n : Nat} {Q : Exit → Act → World → Prop} {env : Env} {w w' : World} {ops : Array Oper} {l : List Oper} {o : Oper}
/-- 'for x, y := range seq': every round goes on. -/
theorem cw_range2 {α : Type} {g : Operand} {p q : Tmp} {assign body : Code} (gf : Nat) (lb : Array Value) (hg : ∀ fb, ev env fb g = .func (.func gf) #[] lb) (hm : 1 ≤ m) (hp : p < n) (hq : q < n) (eg : ∀ args w, (callFunc gf args).run P w = .ok (.enter gf args) w)
    {enc enc' : α → Value} {Kp : World → World → Prop} {S Sp : List α → Prop} {N : Nat} {w0 : World} (hseq : SeqStopsK Fence.wide (m - 1) P gf lb (fun x => #[enc x, enc' x]) Kp S Sp N w0)
    (hKt : ∀ {A B C : World}, Kp A B → Kp B C → Kp A C) (hKb : ∀ (W : World) (l : Nat) (o o' : Obj), w.heap.size ≤ l → W.heap[l]? = some o → o.isCells = false → o.isWalk = false → Kp W (W.putObj l o')) (hb0 : Below w0.heap.size w0 w)
    (I : List α → World → Prop) (hI : OwnFrom w.heap.size I) (h0 : I [] w) (Ax : α → Env → World → Prop) (hAx : ∀ x e, OwnFrom w.heap.size (fun (_ : Unit) W => Ax x e W))
    (hassign : ∀ (l : Nat) (pre : List α) (x : α) (W : World), I pre W → CW (some l) (m - 1 - 1) P [] n (Exit.then (fun a' W' => KeepsFrom w.heap.size W W' ∧ Kp W W' ∧ I pre W' ∧ ∃ e, Frm [] n e a' ∧ Ax x e W') (fun _ _ _ => False)) assign ((q, enc' x) :: (p, enc x) :: env) W)
    (hbody : ∀ (l : Nat) (pre : List α) (x : α) (e : Env) (W : World), w.heap.size ≤ l → I pre W → Ax x e W → pre.length < N → CW (some l) (m - 1 - 1) P [] n (ownPostG w.heap.size Kp I (fun _ _ _ => False) (pre ++ [x]) W) body e W)
    (hdone : ∀ (D : Nat) (xs : List α) (W : World), w.heap.size ≤ D → S xs → I xs W → W.heap[D]? = some (.deferred (some [])) → NW [{ target := .collected D, args := #[] }] n Q .normal env W) :
    CW none m P [] n Q (.rangeFunc g #[p, q] assign body) env w := fun a ha => by
  refine wpIn_rangeFunc_ownH (F := Fence.wide) rfl hm (by rw [ha.ev]; exact hg _) trivial eg hseq hKt hKb hb0 (fun x => rfl) I (fun _ _ _ => False) hI (fun _ _ _ _ _ hs _ _ => hs) h0 (fun x a' W => ∃ e, Frm [] n e a' ∧ Ax x e W)
    (fun x a' => fun _ W W' row hs hgr hr => by obtain ⟨e, hF, hA⟩ := hs; exact ⟨e, hF, hAx x e () W W' row hA hgr hr⟩) ?_ ?_ ?_ (fun D c pre W _ _ hx _ => hx.elim)
  · intro l pre x W K hi hK
    have hfr : Frm [] n ((q, enc' x) :: (p, enc x) :: env) { tmps := ((#[p, q] : Array Tmp).zip #[enc x, enc' x]).foldl (fun t (p, v) => t.setIfInBounds p v) a.tmps, defers := [] } := by
      have := fr_put (fr_put (⟨rfl, ha.sz, ha.get⟩ : Frm [] n env { tmps := a.tmps, defers := [] }) hp (enc x)) hq (enc' x)
      have e : ((#[p, q] : Array Tmp).zip #[enc x, enc' x]).foldl (fun t (p, v) => t.setIfInBounds p v) a.tmps = (a.tmps.setIfInBounds p (enc x)).setIfInBounds q (enc' x) := by simp
      rw [e]
      exact this
    refine wpIn_mono (hassign l pre x W hi _ hfr) ?_
    intro e a' W' hq
    cases e with
    | normal => exact hK a' W' hq.1 hq.2.1 hq.2.2.1 hq.2.2.2
    | exit id => exact hq
    | goto l => exact hq
    | ret => exact hq
    | panic ch => exact hq
    | outgrown => exact hq
  · rintro l pre x a' W hl _ hi ⟨e, hF, hA⟩ hlen
    exact hbody l pre x e W hl hi hA hlen a' hF
  · intro D xs W hD hs hi hd
    refine hdone D xs W hD hs hi hd _ ⟨?_, ha.sz, ha.get⟩
    show _ :: a.defers = _
    rw [ha.df]
end
end Go.Proofs.YtdkpilgelgjieaaGreat
/- What is old; what a block that is written over leaves alone. -/
namespace Go.Proofs.YtdkpilgelgjieaaGreat
open Go.RowKit
open Tr
set_option linter.unusedVariables false
set_option maxRecDepth 100000
/-- All that a tree has is old. -/
theorem TA.old {K : Nat → Prop} {w : World} : ∀ {t : Tr} {v : Value}, TA K w t v → TA (fun b => b < w.heap.size) w t v := by
  have hs : ∀ {a : Option Addr} {n c : Nat} {bs : List Int}, Sk K w a n c bs → Sk (fun b => b < w.heap.size) w a n c bs := fun h => ⟨h.ag, fun x hx hn => h.old hx hn⟩
  intro t
  induction t with
  | no => intro v h; exact h
  | leaf p x => rintro v ⟨a, n, c, a', n', c', h1, h2, h3, h4⟩; exact ⟨a, n, c, a', n', c', h1, hs h2, hs h3, h4⟩
  | ext p t ih => rintro v ⟨a, n, c, u, h1, h2, h3⟩; exact ⟨a, n, c, u, h1, hs h2, ih h3⟩
  | br k x ih => rintro v ⟨vs, a, n, c, h1, h2, h3, h4⟩; exact ⟨vs, a, n, c, h1, fun i hi => ih i (h2 i hi), hs h3, h4⟩
theorem TA.mono {K K' : Nat → Prop} {w : World} (hK : ∀ b, K b → K' b) : ∀ {t : Tr} {v : Value}, TA K w t v → TA K' w t v := by
  intro t
  induction t with
  | no => intro v h; exact h
  | leaf p x => rintro v ⟨a, n, c, a', n', c', h1, h2, h3, h4⟩; exact ⟨a, n, c, a', n', c', h1, h2.mono hK, h3.mono hK, h4⟩
  | ext p t ih => rintro v ⟨a, n, c, u, h1, h2, h3⟩; exact ⟨a, n, c, u, h1, h2.mono hK, ih h3⟩
  | br k x ih => rintro v ⟨vs, a, n, c, h1, h2, h3, h4⟩; exact ⟨vs, a, n, c, h1, fun i hi => ih i (h2 i hi), h3.mono hK, h4⟩
theorem Sk.tou {K : Nat → Prop} {w w' : World} {g : Nat} {a : Option Addr} {n c : Nat} {bs : List Int} (h : Sk K w a n c bs) (t : Touch g w w') (hg : ¬ K g) : Sk K w' a n c bs := by
  refine ⟨⟨?_, h.ag.nil, h.ag.l, h.ag.b⟩, h.k⟩
  rcases h.ag.i with h1 | ⟨gb, off, h1, h2, h3, h4, h5, h7⟩
  · exact .inl h1
  · refine .inr ⟨gb, off, h1, h2, h3, h4, h5, fun j hj => ?_⟩
    rw [← h7 j hj]
    have hk := h.k _ h1 h3
    exact World.cell?_of_block (t.block gb (block_lt_of_cell (h7 j hj)) (fun e => hg (e ▸ hk)))
theorem Tri.mono {K K' : Nat → Prop} {w : World} {g : Nat} {t : Tr} (h : Tri K w g t) (hK : ∀ b, K b → K' b) : Tri K' w g t := by
  obtain ⟨⟨v, h1, h2⟩, h3⟩ := h
  exact ⟨⟨v, h1, h2.mono hK⟩, h3⟩
theorem Tri.old {K : Nat → Prop} {w : World} {g : Nat} {t : Tr} (h : Tri K w g t) : Tri (fun b => b < w.heap.size) w g t := by
  obtain ⟨⟨v, h1, h2⟩, h3⟩ := h
  exact ⟨⟨v, h1, h2.old⟩, h3⟩
end Go.Proofs.YtdkpilgelgjieaaGreat
/- A range over all keys of a trie; how many there are. -/
namespace Go.Proofs.YtdkpilgelgjieaaGreat
open Go.RowKit
open Tr
set_option linter.unusedVariables false
set_option maxRecDepth 100000
theorem KpU.any {U : Nat → Prop} {A B : World} (h : KpU U A.heap.size A B) (M : Nat) : KpU U M A B := ⟨h.size, fun k cs T fr _ hU hP hh => h.keep k cs T fr (lt_of_get hh) hU hP hh⟩
theorem yield_mono {m lp : Nat} {args : Array Value} {W : World} {R R' : Ending → World → Prop} (h : YieldAt Fence.wide m Tryz.prog lp args W R) (hr : ∀ e w, R e w → R' e w) : YieldAt Fence.wide m Tryz.prog lp args W R' := by
  obtain ⟨fn, tmps, assign, body, hy, hR⟩ := h
  exact ⟨fn, tmps, assign, body, hy, RoundIn.mono hR hr⟩
theorem grown_none {a b : World} (h : Below a.heap.size a b) : a.grownBy b none := ⟨h.os, h.tape, h.output, h.size, fun k hk _ => h.block k hk⟩
set_option maxHeartbeats 1000000 in
theorem all_any {w : World} {g : Nat} :
    Calls Tryz.prog 21 #[.pointer (some ⟨g, 0, none⟩)] w fun e w' => ∃ u, e = .returned u ∧ (fun u w' => (∃ gB, u = .func (.func 43) #[] #[.pointer (some ⟨gB, 0, none⟩)] ∧ Rw gB w' #[.pointer (some ⟨g, 0, none⟩)] 42 ∧ w.heap.size ≤ gB) ∧ Bl w w') u w' := by
  have hB := Bl.refl w
  refine cw_enter Tryz.func21 rfl 4 rfl ?_
  show CW _ _ _ _ _ _ _ [(0, .pointer (some ⟨g, 0, none⟩))] _
  refine cw_seq ?_
  refine cw_region ?_
  refine rw_new 1 (#[.pointer (some ⟨g, 0, none⟩)]) 42 (fun _ => by kernel_rfl) (fun _ => by kernel_rfl) ?_
  intro w1 g2 hn3
  replace hB := hB.go hn3.below
  have hr4 : Rw g2 w1 (#[.pointer (some ⟨g, 0, none⟩)]) 42 := hn3.row
  refine rp 2 (.nilFunc) ?_
  refine rw_nil ?_
  refine nw_then ?_
  refine cw_seq ?_
  refine cw_region ?_
  refine rp 3 (.func (.func 43) #[] #[.pointer (some ⟨g2, 0, none⟩)]) ?_
  refine rp 2 (.func (.func 43) #[] #[.pointer (some ⟨g2, 0, none⟩)]) ?_
  refine rw_nil ?_
  refine nw_then ?_
  refine cw_ret ?_
  exact nw_ret_body (.func (.func 43) #[] #[.pointer (some ⟨g2, 0, none⟩)]) (fun _ => by kernel_rfl) ⟨_, rfl, ⟨g2, rfl, hr4, by rw [hn3.hg]; exact Nat.le_refl _⟩, hB⟩
set_option maxHeartbeats 1000000 in
theorem all1_no {l B0 : Nat} {Z : PList} {U : Nat → Prop} {J : PList → World → Prop} {Jx : World → Prop} (V : Vis l B0 Z U J Jx) {w : World} {g gB : Nat} (hgB : Rw gB w #[.pointer (some ⟨g, 0, none⟩)] 42) (hr : Rw g w #[.nilIface] 72) (hJ : J [] w) (hB0 : B0 ≤ w.heap.size)  :
    Calls Tryz.prog 43 #[.func (.yield l) #[] #[], .pointer (some ⟨gB, 0, none⟩)] w fun e w' => ∃ u, e = .returned u ∧ (fun u w' => J [] w' ∨ Jx w') u w' := by
  have hB := Bl.refl w
  refine cw_enter Tryz.func43 rfl 14 rfl ?_
  show CW _ _ _ _ _ _ _ [(0, .func (.yield l) #[] #[]), (1, .pointer (some ⟨gB, 0, none⟩))] _
  refine cw_seq ?_
  refine cw_region ?_
  refine rw_new 2 (#[.func (.yield l) #[] #[]]) 56 (fun _ => by kernel_rfl) (fun _ => by kernel_rfl) ?_
  intro w1 g2 hn3
  replace hB := hB.go hn3.below
  replace hgB := hgB.go hn3.below
  replace hr := hr.go hn3.below
  replace hJ := V.go hJ hn3.below
  have hr4 : Rw g2 w1 (#[.func (.yield l) #[] #[]]) 56 := hn3.row
  refine rw_nil ?_
  have hgY := hn3.hg
  refine nw_then ?_
  refine cw_seq ?_
  refine cw_seq ?_
  refine cw_region ?_
  refine rv 3 (.pointer (some ⟨g, 0, none⟩)) (fun _ => ol_cell 42 _ ⟨gB, 0, none⟩ _ _ rfl (by kernel_rfl) (by rw [cell_of_row _ _ _ _ _ _ hgB]; rfl) Tryz.underlying42 rfl) ?_
  refine rp 4 (.pointer (some ⟨g, 0, none⟩)) ?_
  refine rp 5 (.pointer (some ⟨g, 0, none⟩)) ?_
  refine rv 6 (.nilIface) (fun _ => ol_cell 70 _ ⟨g, 0, none⟩ _ _ rfl (by kernel_rfl) (by rw [cell_of_row _ _ _ _ _ _ hr]; rfl) Tryz.underlying70 rfl) ?_
  refine rp 7 (.bool true) ?_
  refine rw_nil ?_
  refine nw_then ?_
  refine cw_cond_t (fun _ => by kernel_rfl) ?_
  refine cw_ret ?_
  refine nw_ret_then ?_
  exact nw_ret_body (.tuple #[]) (fun _ => by kernel_rfl) ⟨_, rfl, .inl hJ⟩
set_option maxHeartbeats 1000000 in
theorem all1_yes {l B0 : Nat} {Z : PList} {U : Nat → Prop} {J : PList → World → Prop} {Jx : World → Prop} (V : Vis l B0 Z U J Jx) {T0 : TypeId} {v0 : Value} {w : World} {g gB : Nat} (hgB : Rw gB w #[.pointer (some ⟨g, 0, none⟩)] 42) (hr : Rw g w #[.iface T0 v0] 72) (hJ : J [] w) (hB0 : B0 ≤ w.heap.size) {K : Nat → Prop} {t : Tr} (ht : TA K w t (.iface T0 v0)) (hO : Tr.Ok 64 t) (hKU : ∀ b, K b → ¬ U b) (hN : ([] ++ entsF [] t) <+: Z) :
    Calls Tryz.prog 43 #[.func (.yield l) #[] #[], .pointer (some ⟨gB, 0, none⟩)] w fun e w' => ∃ u, e = .returned u ∧ (fun u w' => J (entsF [] t) w' ∨ Jx w') u w' := by
  have hB := Bl.refl w
  refine cw_enter Tryz.func43 rfl 14 rfl ?_
  show CW _ _ _ _ _ _ _ [(0, .func (.yield l) #[] #[]), (1, .pointer (some ⟨gB, 0, none⟩))] _
  refine cw_seq ?_
  refine cw_region ?_
  refine rw_new 2 (#[.func (.yield l) #[] #[]]) 56 (fun _ => by kernel_rfl) (fun _ => by kernel_rfl) ?_
  intro w1 g2 hn3
  replace hB := hB.go hn3.below
  replace hgB := hgB.go hn3.below
  replace hr := hr.go hn3.below
  replace hJ := V.go hJ hn3.below
  replace ht := ht.go hn3.below
  have hr4 : Rw g2 w1 (#[.func (.yield l) #[] #[]]) 56 := hn3.row
  refine rw_nil ?_
  have hgY := hn3.hg
  refine nw_then ?_
  refine cw_seq ?_
  refine cw_seq ?_
  refine cw_region ?_
  refine rv 3 (.pointer (some ⟨g, 0, none⟩)) (fun _ => ol_cell 42 _ ⟨gB, 0, none⟩ _ _ rfl (by kernel_rfl) (by rw [cell_of_row _ _ _ _ _ _ hgB]; rfl) Tryz.underlying42 rfl) ?_
  refine rp 4 (.pointer (some ⟨g, 0, none⟩)) ?_
  refine rp 5 (.pointer (some ⟨g, 0, none⟩)) ?_
  refine rv 6 (.iface T0 v0) (fun _ => ol_cell 70 _ ⟨g, 0, none⟩ _ _ rfl (by kernel_rfl) (by rw [cell_of_row _ _ _ _ _ _ hr]; rfl) Tryz.underlying70 rfl) ?_
  refine rp 7 (.bool false) ?_
  refine rw_nil ?_
  refine nw_then ?_
  refine cw_cond_f (fun _ => by kernel_rfl) ?_
  refine cw_skip ?_
  refine nw_then ?_
  refine cw_region ?_
  refine rv 8 (.pointer (some ⟨g, 0, none⟩)) (fun _ => ol_cell 42 _ ⟨gB, 0, none⟩ _ _ rfl (by kernel_rfl) (by rw [cell_of_row _ _ _ _ _ _ hgB]; rfl) Tryz.underlying42 rfl) ?_
  refine rp 9 (.pointer (some ⟨g, 0, none⟩)) ?_
  refine rp 10 (.pointer (some ⟨g, 0, none⟩)) ?_
  refine rv 11 (.iface T0 v0) (fun _ => ol_cell 70 _ ⟨g, 0, none⟩ _ _ rfl (by kernel_rfl) (by rw [cell_of_row _ _ _ _ _ _ hr]; rfl) Tryz.underlying70 rfl) ?_
  refine rp 12 (.func (.func 44) #[] #[.pointer (some ⟨g2, 0, none⟩)]) ?_
  obtain ⟨T7, x8, f9, he10, hi5, hc6⟩ := (ec_all V t hO (by omega) ht hKU (Sk.nil (fun _ => False) _) (fun b hb => hb.elim) hr4 (fun hu => by have := V.lo _ hu; omega) hJ hN (Nat.le_trans hB0 hB.size))
  refine rw_call 13 f9 (#[x8] ++ #[.slice none 0 0, .func (.func 44) #[] #[.pointer (some ⟨g2, 0, none⟩)]]) (fun _ => by kernel_rfl) (fun _ => hi5 _ _ _ _ _ _ _ rfl (by kernel_rfl) (by kernel_rfl)) (R := RB U J Jx (w1) ([] ++ entsF [] t)) ?_ ?_
  · exact hc6
  rintro _ u8 ⟨b8, rfl, hR8, hX8⟩
  refine rw_nil ?_
  cases b8 with
  | true => exact nw_end_body (.tuple #[]) (fun _ => by kernel_rfl) ⟨_, rfl, .inl (hR8 rfl).1⟩
  | false => exact nw_end_body (.tuple #[]) (fun _ => by kernel_rfl) ⟨_, rfl, .inr (hX8 rfl)⟩
theorem all1_any {l B0 : Nat} {Z : PList} {U : Nat → Prop} {J : PList → World → Prop} {Jx : World → Prop} (V : Vis l B0 Z U J Jx) {w : World} {g gB : Nat} (hgB : Rw gB w #[.pointer (some ⟨g, 0, none⟩)] 42) (hJ : J [] w) (hB0 : B0 ≤ w.heap.size) {K : Nat → Prop} {t : Tr} {v : Value} (hr : Rw g w #[v] 72) (ht : TA K w t v) (hok : t = no ∨ Tr.Ok 64 t) (hKU : ∀ b, K b → ¬ U b) (hN : entsF [] t <+: Z) :
    Calls Tryz.prog 43 #[.func (.yield l) #[] #[], .pointer (some ⟨gB, 0, none⟩)] w fun e w' => ∃ u, e = .returned u ∧ (J (entsF [] t) w' ∨ Jx w') := by
  rcases hok with rfl | hO
  · rw [show v = .nilIface from ht] at hr
    exact all1_no V hgB hr hJ hB0
  · obtain ⟨T0, v0, rfl⟩ := ht.iface hO.ne
    exact all1_yes V hgB hr hJ hB0 ht hO hKU hN
def KpR (U : Nat → Prop) (A B : World) : Prop := KpU U A.heap.size A B
theorem kpR_t {U : Nat → Prop} {A B C : World} (h : KpR U A B) (g : KpR U B C) : KpR U A C := KpU.trans h g h.size
theorem kpR_b {U : Nat → Prop} {N : Nat} (W : World) (l : Nat) (o o' : Obj) (_ : N ≤ l) (hl : W.heap[l]? = some o) (ho : o.isCells = false) (_ : o.isWalk = false) : KpR U W (W.putObj l o') := ⟨by simp, fun k cs T fr _ _ _ hh => (World.putObj_heap_other (fun e => by subst e; rw [hh] at hl; cases hl; cases ho)).trans hh⟩
/-- The range over all keys, told as the library tells one: two values each time. -/
theorem all_stops {w : World} {U : Nat → Prop} (hU : ∀ b, U b → b < w.heap.size) {g gB : Nat} (hgB : Rw gB w #[.pointer (some ⟨g, 0, none⟩)] 42) {K : Nat → Prop} {t : Tr} {v : Value} (hr : Rw g w #[v] 72) (ht : TA K w t v) (hok : t = no ∨ Tr.Ok 64 t) (hKU : ∀ b, K b → ¬ U b) (m : Nat) :
    SeqStopsK Fence.wide m Tryz.prog 43 #[.pointer (some ⟨gB, 0, none⟩)] (fun x : Value × Value => #[x.1, x.2]) (KpR U) (fun xs => xs.length = (entsF [] t).length) (fun _ => True) (entsF [] t).length w := by
  intro l J Jx W hb hJ hJx hy h0
  have V : Vis l W.heap.size (entsF [] t) U (fun pre W1 => ∃ vs : List (Value × Value), vs.length = pre.length ∧ J vs W1) (fun W1 => ∃ vs, Jx vs W1) := by
    refine ⟨?_, ?_, fun b hu => Nat.lt_of_lt_of_le (hU b hu) hb.size, ?_⟩
    · rintro pre A B ⟨vs, h1, h2⟩ hAB
      exact ⟨vs, h1, hJ vs A B none h2 (grown_none hAB) (fun r e => by cases e)⟩
    · rintro A B ⟨vs, h2⟩ hAB
      exact ⟨vs, hJx vs A B none h2 (grown_none hAB) (fun r e => by cases e)⟩
    · rintro pre W1 M a a' n c n' c' k x ⟨vs, h1, h2⟩ hN _ _ _ _
      refine yield_any (yield_mono (hy vs (.slice a n c, .slice a' n' c') W1 h2 (by have := hN.length_le; simp only [List.length_append, List.length_singleton] at this; omega)) ?_)
      rintro e W' (⟨rfl, h3, h4⟩ | ⟨rfl, h3⟩)
      · exact .inl ⟨rfl, ⟨_, by simp [h1], h3⟩, KpU.any h4 M⟩
      · exact .inr ⟨rfl, _, h3⟩
  refine callsIn_wide.2 ?_
  refine (all1_any V (hgB.go hb) ⟨[], rfl, h0⟩ (Nat.le_refl _) (hr.go hb) (ht.go hb) hok hKU List.prefix_rfl).mono ?_
  rintro e W' ⟨u, rfl, (⟨vs, h1, h2⟩ | ⟨vs, h2⟩)⟩
  · exact ⟨⟨u, rfl⟩, .inl ⟨vs, h1, h2⟩⟩
  · exact ⟨⟨u, rfl⟩, .inr ⟨vs, trivial, h2⟩⟩
/-- The count so far. -/
def Cnt (w : World) (gN : Nat) (xs : List (Value × Value)) (W : World) : Prop := Rw gN W #[.int .i64 ((xs.length : Nat) : Int)] 3 ∧ Bl w W
theorem cnt_own {w : World} {gN : Nat} (B : Nat) (hB : w.heap.size ≤ B) : OwnFrom B (Cnt w gN) := fun s X Y row hs hg hrow => by
  obtain ⟨h1, hb⟩ := hs
  refine ⟨(hg.block gN (lt_of_get h1) (fun e' => ?_)).trans h1, Below.grown hb hg hb.size (fun k e => Nat.le_trans hB (hrow k e).1)⟩
  obtain ⟨o, ho, hc⟩ := (hrow gN e'.symm).2
  unfold Rw at h1
  rw [h1] at ho; cases ho; cases hc
set_option maxHeartbeats 4000000 in
theorem len_yes {K : Nat → Prop} {w : World} {g : Nat} {t : Tr} {v : Value} (hr : Rw g w #[v] 72) (ht : TA K w t v) (hok : t = no ∨ Tr.Ok 64 t) (hN : (entsF [] t).length ≤ 4611686018427387904) :
    Calls Tryz.prog 20 #[.pointer (some ⟨g, 0, none⟩)] w fun e w' => ∃ u, e = .returned u ∧ (fun u w' => u = .int .i64 (((entsF [] t).length : Nat) : Int) ∧ Bl w w') u w' := by
  have hB := Bl.refl w
  replace ht := ht.old
  refine cw_enterM Tryz.func20 rfl 11 rfl ?_
  show CW _ _ _ _ _ _ _ [(0, .pointer (some ⟨g, 0, none⟩))] _
  refine cw_seq ?_
  refine cw_region ?_
  refine rp 2 (.int .i64 0) ?_
  refine rw_nil ?_
  refine nw_then ?_
  refine cw_seq ?_
  refine cw_region ?_
  refine rw_new 3 #[.int .i64 0] 3 (fun _ => by kernel_rfl) (fun _ => by kernel_rfl) ?_
  intro wA gN hnA
  refine rw_set1 gN 0 (.int .i64 0) (fun _ => by kernel_rfl) (fun _ => ol_setC 3 _ _ gN 0 #[.int .i64 0] 3 _ hnA.row rfl (by kernel_rfl) (by kernel_rfl) (by decide) rfl rfl (by kernel_rfl)) ?_
  intro wC hsC
  have hgN := hnA.hg
  have hC : Rw gN wC #[.int .i64 0] 3 := (show Rw gN wA #[.int .i64 0] 3 from hnA.row).set hsC rfl
  have hBC : Bl w wC := hsC.touch.below hnA.below (by omega) (by have := hnA.size; omega)
  replace hr := hr.go hBC
  replace ht := ht.go hBC
  replace hB := hBC
  refine rw_nil ?_
  refine nw_then ?_
  refine cw_seq ?_
  refine cw_seq ?_
  refine cw_region ?_
  refine rp 4 (.pointer (some ⟨g, 0, none⟩)) ?_
  refine rw_call 5 21 #[.pointer (some ⟨g, 0, none⟩)] (fun _ => by kernel_rfl) (fun _ => by kernel_rfl) (R := fun u w' => (∃ gB, u = .func (.func 43) #[] #[.pointer (some ⟨gB, 0, none⟩)] ∧ Rw gB w' #[.pointer (some ⟨g, 0, none⟩)] 42 ∧ wC.heap.size ≤ gB) ∧ Bl wC w') (all_any) ?_
  rintro _ w2 ⟨⟨gB, rfl, hgB, hgB2⟩, hb2⟩
  replace hB := hB.go hb2
  replace hr := hr.go hb2
  replace ht := ht.go hb2
  replace hC := hC.go hb2
  refine rw_nil ?_
  refine nw_then ?_
  refine cw_block ?_
  refine cw_sub [(3, .pointer (some ⟨gN, 0, none⟩)), (5, .func (.func 43) #[] #[.pointer (some ⟨gB, 0, none⟩)])] (by exact ⟨fun _ => by kernel_rfl, ⟨fun _ => by kernel_rfl, trivial⟩⟩) ?_
  have hgl := lt_of_get hC
  refine cw_range2 (α := Value × Value) (enc := fun x => x.1) (enc' := fun x => x.2) 43 #[.pointer (some ⟨gB, 0, none⟩)] (fun _ => by kernel_rfl) (by decide) (by decide) (by decide) (fun args w => by kernel_rfl) (all_stops (U := fun b => b = gN) (fun b hb => by subst hb; exact hgl) hgB hr ht hok (fun b hb hu => by subst hu; omega) 19) kpR_t kpR_b (Below.refl _ _) (Cnt w gN) (cnt_own _ hB.size) ⟨hC, hB⟩ (fun x e W => e = [(3, .pointer (some ⟨gN, 0, none⟩))]) (fun x e _ X Y row h _ _ => h) ?_ ?_ ?_
  · rintro lp pre x W hI
    refine cw_skip ?_
    exact fun a ha => ⟨KeepsFrom.refl _ _, ⟨Nat.le_refl _, fun k cs T fr _ _ _ hh => hh⟩, hI, _, ha.sub (env' := [(3, .pointer (some ⟨gN, 0, none⟩))]) (by exact ⟨fun _ => by kernel_rfl, trivial⟩), rfl⟩
  · rintro lp pre x e W hlp hI rfl hlen
    obtain ⟨h1, hb⟩ := hI
    refine cw_block ?_
    refine cw_region ?_
    refine rv 8 (.int .i64 ((pre.length : Nat) : Int)) (fun _ => ol_cell 3 _ ⟨gN, 0, none⟩ _ _ rfl (by kernel_rfl) (by rw [cell_of_row _ _ _ _ _ _ h1]; rfl) Tryz.underlying3 rfl) ?_
    refine rv 9 (.int .i64 ((pre.length + 1 : Nat) : Int)) (fun _ => ol_conv (v := .int .i64 (IntKind.i64.wrap (((pre.length : Nat) : Int) + 1))) (by kernel_rfl) (congrArg (Value.int .i64) (by rw [wrap64 (by omega) (by omega)]; omega))) ?_
    refine rw_set1 gN 0 (.int .i64 ((pre.length + 1 : Nat) : Int)) (fun _ => by kernel_rfl) (fun _ => ol_setC 3 _ _ gN 0 _ 3 _ h1 rfl (by kernel_rfl) (by kernel_rfl) (by show 0 < 1; omega) rfl rfl (by kernel_rfl)) ?_
    intro W3 hs3
    refine rw_nil ?_
    refine nw_block ?_
    refine nw_own ⟨by rw [hs3.size]; exact Nat.le_refl _, fun k o hk ho hc => (hs3.other (fun e => by subst e; omega)).trans ho⟩ ⟨by rw [hs3.size]; exact Nat.le_refl _, fun k cs T fr _ hU _ hh => (hs3.other hU).trans hh⟩ ⟨?_, hs3.touch.below hb (by omega) hb.size⟩
    rw [List.length_append, List.length_singleton]; exact h1.set hs3 rfl
  intro D xs W hD hS hI hdd
  obtain ⟨h1, hb⟩ := hI
  rw [hS] at h1
  refine nw_block ?_
  refine nw_then ?_
  refine cw_seq ?_
  refine cw_region ?_
  refine rv 10 (.int .i64 (((entsF [] t).length : Nat) : Int)) (fun _ => ol_cell 3 _ ⟨gN, 0, none⟩ _ _ rfl (by kernel_rfl) (by rw [cell_of_row _ _ _ _ _ _ h1]; rfl) Tryz.underlying3 rfl) ?_
  refine rp 2 (.int .i64 (((entsF [] t).length : Nat) : Int)) ?_
  refine rw_nil ?_
  refine nw_then ?_
  refine cw_ret ?_
  exact nw_ret_marks hdd (.int .i64 (((entsF [] t).length : Nat) : Int)) (fun _ => by kernel_rfl) ⟨_, rfl, rfl, Below.grown hb (grownBy_putObj' _ _ _) hb.size (fun k e => by cases e; exact Nat.le_trans hB.size hD)⟩
theorem len_any {K : Nat → Prop} {w : World} {g : Nat} {t : Tr} (h : Tri K w g t) (hN : (entsF [] t).length ≤ 4611686018427387904) :
    Calls Tryz.prog 20 #[.pointer (some ⟨g, 0, none⟩)] w fun e w' => ∃ u, e = .returned u ∧ u = .int .i64 (((entsF [] t).length : Nat) : Int) ∧ Bl w w' := by
  obtain ⟨⟨v, h1, h2⟩, h3⟩ := h
  exact len_yes h1 h2 h3 hN
end Go.Proofs.YtdkpilgelgjieaaGreat
/- The keys and values alone say the tree. -/
namespace Go.Proofs.YtdkpilgelgjieaaGreat
set_option linter.unusedVariables false
namespace Tr
theorem Ok.kid {B : Nat} {k : Nat → Tr} {x : List Int} (h : Ok B (br k x)) {i : Nat} (hi : k i ≠ no) : ∃ q, Nb (((i : Nat) : Int) :: q) ∧ get (br k x) (((i : Nat) : Int) :: q) ≠ [] := by
  rcases h.1 i with h0 | ⟨h1, _, h3⟩
  · exact absurd h0 hi
  · obtain ⟨q, k1, _, k3⟩ := h3.some
    refine ⟨q, fun j hj => ?_, k3⟩
    rcases List.mem_cons.1 hj with rfl | hj
    · omega
    · exact k1 j hj
/-- Not all keys of a branch begin alike. -/
theorem Ok.spread {B : Nat} {k : Nat → Tr} {x : List Int} (h : Ok B (br k x)) (i : Int) : ∃ q, Nb q ∧ get (br k x) q ≠ [] ∧ ∀ r, q ≠ i :: r := by
  rcases h.2 with ⟨a, b, hab, ha, hb⟩ | ⟨hx, _⟩
  · by_cases e : ((a : Nat) : Int) = i
    · obtain ⟨q, h1, h2⟩ := h.kid hb
      exact ⟨_, h1, h2, fun r er => by injection er with er _; omega⟩
    · obtain ⟨q, h1, h2⟩ := h.kid ha
      exact ⟨_, h1, h2, fun r er => by injection er with er _; exact e er⟩
  · exact ⟨[], (fun j hj => by cases hj), hx, (fun r er => by cases er)⟩
/-- A branch has another key. -/
theorem Ok.another {B : Nat} {k : Nat → Tr} {x : List Int} (h : Ok B (br k x)) (p : List Int) : ∃ q, Nb q ∧ q ≠ p ∧ get (br k x) q ≠ [] := by
  cases p with
  | nil =>
    have : ∃ i, k i ≠ no := by
      rcases h.2 with ⟨i, _, _, h, _⟩ | ⟨_, i, h⟩ <;> exact ⟨i, h⟩
    obtain ⟨i, hi⟩ := this
    obtain ⟨q, h1, h2⟩ := h.kid hi
    exact ⟨_, h1, by simp, h2⟩
  | cons i r =>
    obtain ⟨q, h1, h2, h3⟩ := h.spread i
    exact ⟨q, h1, h3 r, h2⟩
theorem isBr_iff {t : Tr} (h : t.isBr = true) : ∃ k x, t = br k x := by
  cases t with
  | br k x => exact ⟨k, x, rfl⟩
  | no => simp [isBr] at h
  | leaf p v => simp [isBr] at h
  | ext p c => simp [isBr] at h
/-- Two extensions of the same keys have the same path: the shorter one is no proper beginning. -/
theorem ext_path {B C : Nat} {p p' : List Int} {k k' : Nat → Tr} {x x' : List Int} (hp : Nb p) (hp' : Nb p') (h : Ok B (br k x)) (h' : Ok C (br k' x')) (hg : ∀ q, Nb q → get (ext p (br k x)) q = get (ext p' (br k' x')) q) (hl : p.length ≤ p'.length) : p = p' := by
  have key : ∀ q, Nb q → get (br k x) q ≠ [] → ∃ s, p ++ q = p' ++ s := by
    intro q hq hne
    have e := hg (p ++ q) (hp.app hq)
    rw [get_ext] at e
    by_cases hs : ∃ s, p ++ q = p' ++ s
    · exact hs
    · rw [get_ext_no p' _ _ hs] at e
      exact absurd e hne
  obtain ⟨q0, h1, h2⟩ : ∃ q, Nb q ∧ get (br k x) q ≠ [] := by obtain ⟨q, h1, _, h2⟩ := h.another []; exact ⟨q, h1, h2⟩
  obtain ⟨s0, e0⟩ := key q0 h1 h2
  have ep : p = p'.take p.length := by
    have := congrArg (List.take p.length) e0
    rw [List.take_left, List.take_append_of_le_length hl] at this
    exact this
  rcases Nat.lt_or_ge p.length p'.length with hlt | hge
  · exfalso
    obtain ⟨i, r, er⟩ : ∃ i r, p'.drop p.length = i :: r := by
      cases hd : p'.drop p.length with
      | nil => have := congrArg List.length hd; simp at this; omega
      | cons i r => exact ⟨i, r, rfl⟩
    have e' : p' = p ++ (i :: r) := by
      conv => lhs; rw [← List.take_append_drop p.length p', ← ep, er]
    obtain ⟨q, g1, g2, g3⟩ := h.spread i
    obtain ⟨s, es⟩ := key q g1 g2
    rw [e', List.append_assoc] at es
    have := List.append_cancel_left es
    exact g3 _ this
  · rw [ep, List.take_of_length_le hge]
theorem Ok.uniq : ∀ {t s : Tr} {B C : Nat}, Ok B t → Ok C s → (∀ q, Nb q → get t q = get s q) → t = s := by
  intro t
  induction t with
  | no => intro s B C h; exact h.elim
  | leaf p v =>
    intro s B C h h' hg
    cases s with
    | no => exact h'.elim
    | leaf p' v' =>
      have e := hg p h.1
      simp only [get] at e
      by_cases hp : p = p'
      · subst hp
        simp at e
        rw [e]
      · rw [if_neg hp] at e
        simp at e
        exact absurd e h.2.2
    | ext p' c =>
      exfalso
      obtain ⟨k, x, rfl⟩ := isBr_iff h'.2.2.2.1
      obtain ⟨q, h1, h2, h3⟩ := h'.2.2.2.2.another (p.drop p'.length)
      have e := hg (p' ++ q) (h'.1.app h1)
      rw [get_ext] at e
      simp only [get] at e
      by_cases hp : p' ++ q = p
      · exact h2 (by rw [← hp]; simp)
      · rw [if_neg hp] at e
        exact h3 e.symm
    | br k x =>
      exfalso
      obtain ⟨q, h1, h2, h3⟩ := Ok.another h' p
      have e := hg q h1
      simp only [get] at e
      rw [if_neg h2] at e
      exact h3 e.symm
  | ext p c ih =>
    intro s B C h h' hg
    obtain ⟨k, x, rfl⟩ := isBr_iff h.2.2.2.1
    cases s with
    | no => exact h'.elim
    | leaf p' v' =>
      exfalso
      obtain ⟨q, h1, h2, h3⟩ := h.2.2.2.2.another (p'.drop p.length)
      have e := hg (p ++ q) (h.1.app h1)
      rw [get_ext] at e
      simp only [get] at e
      by_cases hp : p ++ q = p'
      · exact h2 (by rw [← hp]; simp)
      · rw [if_neg hp] at e
        exact h3 e
    | ext p' c' =>
      obtain ⟨k', x', rfl⟩ := isBr_iff h'.2.2.2.1
      have ep : p = p' := by
        rcases Nat.le_total p.length p'.length with hl | hl
        · exact ext_path h.1 h'.1 h.2.2.2.2 h'.2.2.2.2 hg hl
        · exact (ext_path h'.1 h.1 h'.2.2.2.2 h.2.2.2.2 (fun q hq => (hg q hq).symm) hl).symm
      subst ep
      congr 1
      exact ih h.2.2.2.2 h'.2.2.2.2 (fun q hq => by
        have e := hg (p ++ q) (h.1.app hq)
        rw [get_ext, get_ext] at e
        exact e)
    | br k' x' =>
      exfalso
      cases p with
      | nil => exact h.2.1 rfl
      | cons i r =>
        obtain ⟨q, h1, h2, h3⟩ := Ok.spread h' i
        have e := hg q h1
        rw [get_ext_no _ _ _ (fun ⟨s, es⟩ => h3 _ es)] at e
        exact h2 e.symm
  | br k x ih =>
    intro s B C h h' hg
    cases s with
    | no => exact h'.elim
    | leaf p' v' =>
      exfalso
      obtain ⟨q, h1, h2, h3⟩ := Ok.another h p'
      have e := hg q h1
      rw [show get (leaf p' v') q = [] from by simp only [get]; rw [if_neg h2]] at e
      exact h3 e
    | ext p' c' =>
      exfalso
      cases p' with
      | nil => exact h'.2.1 rfl
      | cons i r =>
        obtain ⟨q, h1, h2, h3⟩ := Ok.spread h i
        have e := hg q h1
        rw [get_ext_no _ _ _ (fun ⟨s, es⟩ => h3 _ es)] at e
        exact h2 e
    | br k' x' =>
      have ex : x = x' := hg [] (fun j hj => by cases hj)
      have ek : k = k' := by
        funext i
        have hgi : i < 16 → ∀ r, Nb r → get (k i) r = get (k' i) r := fun hi r hr => hg (((i : Nat) : Int) :: r) (fun j hj => by
          rcases List.mem_cons.1 hj with rfl | hj
          · omega
          · exact hr j hj)
        rcases h.1 i with h0 | ⟨h1, _, h3⟩
        · rcases h'.1 i with g0 | ⟨g1, _, g3⟩
          · rw [h0, g0]
          · obtain ⟨q, q1, _, q3⟩ := g3.some
            have := hgi g1 q q1
            rw [h0] at this
            exact absurd this.symm q3
        · rcases h'.1 i with g0 | ⟨g1, _, g3⟩
          · obtain ⟨q, q1, _, q3⟩ := h3.some
            have := hgi h1 q q1
            rw [g0] at this
            exact absurd this q3
          · exact ih i h3 g3 (hgi h1)
      rw [ex, ek]
end Tr
end Go.Proofs.YtdkpilgelgjieaaGreat
