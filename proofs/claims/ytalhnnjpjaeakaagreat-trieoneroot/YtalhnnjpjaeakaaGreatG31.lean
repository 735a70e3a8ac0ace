/- A range over a function that hands two values. -/
import Derived.Test.YtalhnnjpjaeakaaGreatG30
import Derived.Test.YtalhnnjpjaeakaaGreatG19
import Derived.Test.YtalhnnjpjaeakaaGreatG01
import Derived.Test.YtalhnnjpjaeakaaGreatG26
import Derived.Test.YtalhnnjpjaeakaaGreatG25
namespace Go.Proofs.YtalhnnjpjaeakaaGreat
open Go.RowKit
open Go.ChangeMaps (setBlock)
set_option linter.unusedVariables false
set_option maxRecDepth 100000
section
variable {r : Option Nat} {m : Nat} {P : Program} {ds : List Deferred} {n : Nat} {Q : Exit → Act → World → Prop} {env : Env} {w w' : World} {ops : Array Oper} {l : List Oper} {o : Oper}
/-- 'for x, y := range seq': every round goes on. -/
theorem cw_range2 {α : Type} {g : Operand} {p q : Tmp} {assign body : Code} (gf : Nat) (lb : Array Value) (hg : ∀ fb, ev env fb g = .func (.func gf) #[] lb) (hm : 1 ≤ m) (hp : p < n) (hq : q < n) (eg : ∀ args w, (callFunc gf args).run P w = .ok (.enter gf args) w)
    {enc enc' : α → Value} {Kp : World → World → Prop} {S Sp : List α → Prop} {N : Nat} {w0 : World} (hseq : SeqStopsK Fence.wide (m - 1) P gf lb (fun x => #[enc x, enc' x]) Kp S Sp N w0)
    (hKt : ∀ {A B C : World}, Kp A B → Kp B C → Kp A C) (hKb : ∀ (W : World) (l : Nat) (o o' : Obj), w.heap.size ≤ l → W.heap[l]? = some o → o.isCells = false → o.isWalk = false → Kp W (W.putObj l o')) (hb0 : Below w0.heap.size w0 w)
    (I : List α → World → Prop) (hI : OwnFrom w.heap.size I) (h0 : I [] w) (Ax : α → Env → World → Prop) (hAx : ∀ x e, OwnFrom w.heap.size (fun (_ : Unit) W => Ax x e W))
    (hassign : ∀ (l : Nat) (pre : List α) (x : α) (W : World), I pre W → CW (some l) (m - 1 - 1) P [] n (Exit.then (fun a' W' => KeepsFrom w.heap.size W W' ∧ Kp W W' ∧ I pre W' ∧ ∃ e, Frm [] n e a' ∧ Ax x e W') (fun _ _ _ => False)) assign ((q, enc' x) :: (p, enc x) :: env) W)
    (hbody : ∀ (l : Nat) (pre : List α) (x : α) (e : Env) (W : World), w.heap.size ≤ l → I pre W → Ax x e W → pre.length < N → CW (some l) (m - 1 - 1) P [] n (ownPostG w.heap.size Kp I (fun _ _ _ => False) (pre ++ [x]) W) body e W)
    (hdone : ∀ (D : Nat) (xs : List α) (W : World), w.heap.size ≤ D → S xs → I xs W → W.heap[D]? = some (.deferred (some [])) → NW [{ target := .collected D, args := #[] }] n Q .normal env W) :
    CW none m P [] n Q (.rangeFunc g #[p, q] assign body) env w := fun a ha => by
  refine wpIn_rangeFunc_ownH (F := Fence.wide) rfl hm (by rw [ha.ev]; exact hg _) trivial eg hseq hKt hKb hb0 (fun x => rfl) I (fun _ _ _ => False) hI (fun _ _ _ _ _ hs _ _ => hs) h0 (fun x a' W => ∃ e, Frm [] n e a' ∧ Ax x e W)
    (fun x a' => fun _ W W' row hs hgr hr => by obtain ⟨e, hF, hA⟩ := hs; exact ⟨e, hF, hAx x e () W W' row hA hgr hr⟩) ?_ ?_ ?_ (fun D c pre W _ _ hx _ => hx.elim)
  · intro l pre x W K hi hK
    have hfr : Frm [] n ((q, enc' x) :: (p, enc x) :: env) { tmps := ((#[p, q] : Array Tmp).zip #[enc x, enc' x]).foldl (fun t (p, v) => t.setIfInBounds p v) a.tmps, defers := [] } := by
      have := fr_put (fr_put (⟨rfl, ha.sz, ha.get⟩ : Frm [] n env { tmps := a.tmps, defers := [] }) hp (enc x)) hq (enc' x)
      have e : ((#[p, q] : Array Tmp).zip #[enc x, enc' x]).foldl (fun t (p, v) => t.setIfInBounds p v) a.tmps = (a.tmps.setIfInBounds p (enc x)).setIfInBounds q (enc' x) := by simp
      rw [e]
      exact this
    refine wpIn_mono (hassign l pre x W hi _ hfr) ?_
    intro e a' W' hq
    cases e with
    | normal => exact hK a' W' hq.1 hq.2.1 hq.2.2.1 hq.2.2.2
    | exit id => exact hq
    | goto l => exact hq
    | ret => exact hq
    | panic ch => exact hq
    | outgrown => exact hq
  · rintro l pre x a' W hl _ hi ⟨e, hF, hA⟩ hlen
    exact hbody l pre x e W hl hi hA hlen a' hF
  · intro D xs W hD hs hi hd
    refine hdone D xs W hD hs hi hd _ ⟨?_, ha.sz, ha.get⟩
    show _ :: a.defers = _
    rw [ha.df]
end
end Go.Proofs.YtalhnnjpjaeakaaGreat
/- A range over all keys of a trie; how many there are. -/
namespace Go.Proofs.YtalhnnjpjaeakaaGreat
open Go.RowKit
open Tr
set_option linter.unusedVariables false
set_option maxRecDepth 100000
theorem KpU.any {U : Nat → Prop} {A B : World} (h : KpU U A.heap.size A B) (M : Nat) : KpU U M A B := ⟨h.size, fun k cs T fr _ hU hh => h.keep k cs T fr (lt_of_get hh) hU hh⟩
theorem yield_mono {m lp : Nat} {args : Array Value} {W : World} {R R' : Ending → World → Prop} (h : YieldAt Fence.wide m Tryz.prog lp args W R) (hr : ∀ e w, R e w → R' e w) : YieldAt Fence.wide m Tryz.prog lp args W R' := by
  obtain ⟨fn, tmps, assign, body, hy, hR⟩ := h
  exact ⟨fn, tmps, assign, body, hy, RoundIn.mono hR hr⟩
theorem grown_none {a b : World} (h : Below a.heap.size a b) : a.grownBy b none := ⟨h.os, h.tape, h.output, h.size, fun k hk _ => h.block k hk⟩
set_option maxHeartbeats 1000000 in
theorem all_any {w : World} {g : Nat} :
    Calls Tryz.prog 45 #[.pointer (some ⟨g, 0, none⟩)] w fun e w' => ∃ u, e = .returned u ∧ (fun u w' => (∃ gB, u = .func (.func 63) #[] #[.pointer (some ⟨gB, 0, none⟩)] ∧ Rw gB w' #[.pointer (some ⟨g, 0, none⟩)] 23 ∧ w.heap.size ≤ gB) ∧ Bl w w') u w' := by
  have hB := Bl.refl w
  refine cw_enter Tryz.func45 rfl 4 rfl ?_
  show CW _ _ _ _ _ _ _ [(0, .pointer (some ⟨g, 0, none⟩))] _
  refine cw_seq ?_
  refine cw_region ?_
  refine rw_new 1 (#[.pointer (some ⟨g, 0, none⟩)]) 23 (fun _ => by kernel_rfl) (fun _ => by kernel_rfl) ?_
  intro w1 g2 hn3
  replace hB := hB.go hn3.below
  have hr4 : Rw g2 w1 (#[.pointer (some ⟨g, 0, none⟩)]) 23 := hn3.row
  refine rp 2 (.nilFunc) ?_
  refine rw_nil ?_
  refine nw_then ?_
  refine cw_seq ?_
  refine cw_region ?_
  refine rp 3 (.func (.func 63) #[] #[.pointer (some ⟨g2, 0, none⟩)]) ?_
  refine rp 2 (.func (.func 63) #[] #[.pointer (some ⟨g2, 0, none⟩)]) ?_
  refine rw_nil ?_
  refine nw_then ?_
  refine cw_ret ?_
  exact nw_ret_body (.func (.func 63) #[] #[.pointer (some ⟨g2, 0, none⟩)]) (fun _ => by kernel_rfl) ⟨_, rfl, ⟨g2, rfl, hr4, by rw [hn3.hg]; exact Nat.le_refl _⟩, hB⟩
set_option maxHeartbeats 1000000 in
theorem all1_no {l B0 : Nat} {Z : PList} {U : Nat → Prop} {J : PList → World → Prop} {Jx : World → Prop} (V : Vis l B0 Z U J Jx) {w : World} {g gB : Nat} (hgB : Rw gB w #[.pointer (some ⟨g, 0, none⟩)] 23) (hr : Rw g w #[.nilIface] 67) (hJ : J [] w) (hB0 : B0 ≤ w.heap.size)  :
    Calls Tryz.prog 63 #[.func (.yield l) #[] #[], .pointer (some ⟨gB, 0, none⟩)] w fun e w' => ∃ u, e = .returned u ∧ (fun u w' => J [] w' ∨ Jx w') u w' := by
  have hB := Bl.refl w
  refine cw_enter Tryz.func63 rfl 14 rfl ?_
  show CW _ _ _ _ _ _ _ [(0, .func (.yield l) #[] #[]), (1, .pointer (some ⟨gB, 0, none⟩))] _
  refine cw_seq ?_
  refine cw_region ?_
  refine rw_new 2 (#[.func (.yield l) #[] #[]]) 86 (fun _ => by kernel_rfl) (fun _ => by kernel_rfl) ?_
  intro w1 g2 hn3
  replace hB := hB.go hn3.below
  replace hgB := hgB.go hn3.below
  replace hr := hr.go hn3.below
  replace hJ := V.go hJ hn3.below
  have hr4 : Rw g2 w1 (#[.func (.yield l) #[] #[]]) 86 := hn3.row
  refine rw_nil ?_
  have hgY := hn3.hg
  refine nw_then ?_
  refine cw_seq ?_
  refine cw_seq ?_
  refine cw_region ?_
  refine rv 3 (.pointer (some ⟨g, 0, none⟩)) (fun _ => ol_cell 23 _ ⟨gB, 0, none⟩ _ _ rfl (by kernel_rfl) (by rw [cell_of_row _ _ _ _ _ _ hgB]; rfl) Tryz.underlying23 rfl) ?_
  refine rp 4 (.pointer (some ⟨g, 0, none⟩)) ?_
  refine rp 5 (.pointer (some ⟨g, 0, none⟩)) ?_
  refine rv 6 (.nilIface) (fun _ => ol_cell 65 _ ⟨g, 0, none⟩ _ _ rfl (by kernel_rfl) (by rw [cell_of_row _ _ _ _ _ _ hr]; rfl) Tryz.underlying65 rfl) ?_
  refine rp 7 (.bool true) ?_
  refine rw_nil ?_
  refine nw_then ?_
  refine cw_cond_t (fun _ => by kernel_rfl) ?_
  refine cw_ret ?_
  refine nw_ret_then ?_
  exact nw_ret_body (.tuple #[]) (fun _ => by kernel_rfl) ⟨_, rfl, .inl hJ⟩
set_option maxHeartbeats 1000000 in
theorem all1_yes {l B0 : Nat} {Z : PList} {U : Nat → Prop} {J : PList → World → Prop} {Jx : World → Prop} (V : Vis l B0 Z U J Jx) {T0 : TypeId} {v0 : Value} {w : World} {g gB : Nat} (hgB : Rw gB w #[.pointer (some ⟨g, 0, none⟩)] 23) (hr : Rw g w #[.iface T0 v0] 67) (hJ : J [] w) (hB0 : B0 ≤ w.heap.size) {K : Nat → Prop} {t : Tr} (ht : TA K w t (.iface T0 v0)) (hO : Tr.Ok 64 t) (hKU : ∀ b, K b → ¬ U b) (hN : ([] ++ entsF [] t) <+: Z) :
    Calls Tryz.prog 63 #[.func (.yield l) #[] #[], .pointer (some ⟨gB, 0, none⟩)] w fun e w' => ∃ u, e = .returned u ∧ (fun u w' => J (entsF [] t) w' ∨ Jx w') u w' := by
  have hB := Bl.refl w
  refine cw_enter Tryz.func63 rfl 14 rfl ?_
  show CW _ _ _ _ _ _ _ [(0, .func (.yield l) #[] #[]), (1, .pointer (some ⟨gB, 0, none⟩))] _
  refine cw_seq ?_
  refine cw_region ?_
  refine rw_new 2 (#[.func (.yield l) #[] #[]]) 86 (fun _ => by kernel_rfl) (fun _ => by kernel_rfl) ?_
  intro w1 g2 hn3
  replace hB := hB.go hn3.below
  replace hgB := hgB.go hn3.below
  replace hr := hr.go hn3.below
  replace hJ := V.go hJ hn3.below
  replace ht := ht.go hn3.below
  have hr4 : Rw g2 w1 (#[.func (.yield l) #[] #[]]) 86 := hn3.row
  refine rw_nil ?_
  have hgY := hn3.hg
  refine nw_then ?_
  refine cw_seq ?_
  refine cw_seq ?_
  refine cw_region ?_
  refine rv 3 (.pointer (some ⟨g, 0, none⟩)) (fun _ => ol_cell 23 _ ⟨gB, 0, none⟩ _ _ rfl (by kernel_rfl) (by rw [cell_of_row _ _ _ _ _ _ hgB]; rfl) Tryz.underlying23 rfl) ?_
  refine rp 4 (.pointer (some ⟨g, 0, none⟩)) ?_
  refine rp 5 (.pointer (some ⟨g, 0, none⟩)) ?_
  refine rv 6 (.iface T0 v0) (fun _ => ol_cell 65 _ ⟨g, 0, none⟩ _ _ rfl (by kernel_rfl) (by rw [cell_of_row _ _ _ _ _ _ hr]; rfl) Tryz.underlying65 rfl) ?_
  refine rp 7 (.bool false) ?_
  refine rw_nil ?_
  refine nw_then ?_
  refine cw_cond_f (fun _ => by kernel_rfl) ?_
  refine cw_skip ?_
  refine nw_then ?_
  refine cw_region ?_
  refine rv 8 (.pointer (some ⟨g, 0, none⟩)) (fun _ => ol_cell 23 _ ⟨gB, 0, none⟩ _ _ rfl (by kernel_rfl) (by rw [cell_of_row _ _ _ _ _ _ hgB]; rfl) Tryz.underlying23 rfl) ?_
  refine rp 9 (.pointer (some ⟨g, 0, none⟩)) ?_
  refine rp 10 (.pointer (some ⟨g, 0, none⟩)) ?_
  refine rv 11 (.iface T0 v0) (fun _ => ol_cell 65 _ ⟨g, 0, none⟩ _ _ rfl (by kernel_rfl) (by rw [cell_of_row _ _ _ _ _ _ hr]; rfl) Tryz.underlying65 rfl) ?_
  refine rp 12 (.func (.func 64) #[] #[.pointer (some ⟨g2, 0, none⟩)]) ?_
  obtain ⟨T7, x8, f9, he10, hi5, hc6⟩ := (ec_all V t hO (by omega) ht hKU (Sk.nil (fun _ => False) _) (fun b hb => hb.elim) hr4 (fun hu => by have := V.lo _ hu; omega) hJ hN (Nat.le_trans hB0 hB.size))
  refine rw_call 13 f9 (#[x8] ++ #[.slice none 0 0, .func (.func 64) #[] #[.pointer (some ⟨g2, 0, none⟩)]]) (fun _ => by kernel_rfl) (fun _ => hi5 _ _ _ _ _ _ _ rfl (by kernel_rfl) (by kernel_rfl)) (R := RB U J Jx (w1) ([] ++ entsF [] t)) ?_ ?_
  · exact hc6
  rintro _ u8 ⟨b8, rfl, hR8, hX8⟩
  refine rw_nil ?_
  cases b8 with
  | true => exact nw_end_body (.tuple #[]) (fun _ => by kernel_rfl) ⟨_, rfl, .inl (hR8 rfl).1⟩
  | false => exact nw_end_body (.tuple #[]) (fun _ => by kernel_rfl) ⟨_, rfl, .inr (hX8 rfl)⟩
theorem all1_any {l B0 : Nat} {Z : PList} {U : Nat → Prop} {J : PList → World → Prop} {Jx : World → Prop} (V : Vis l B0 Z U J Jx) {w : World} {g gB : Nat} (hgB : Rw gB w #[.pointer (some ⟨g, 0, none⟩)] 23) (hJ : J [] w) (hB0 : B0 ≤ w.heap.size) {K : Nat → Prop} {t : Tr} {v : Value} (hr : Rw g w #[v] 67) (ht : TA K w t v) (hok : t = no ∨ Tr.Ok 64 t) (hKU : ∀ b, K b → ¬ U b) (hN : entsF [] t <+: Z) :
    Calls Tryz.prog 63 #[.func (.yield l) #[] #[], .pointer (some ⟨gB, 0, none⟩)] w fun e w' => ∃ u, e = .returned u ∧ (J (entsF [] t) w' ∨ Jx w') := by
  rcases hok with rfl | hO
  · rw [show v = .nilIface from ht] at hr
    exact all1_no V hgB hr hJ hB0
  · obtain ⟨T0, v0, rfl⟩ := ht.iface hO.ne
    exact all1_yes V hgB hr hJ hB0 ht hO hKU hN
def KpR (U : Nat → Prop) (A B : World) : Prop := KpU U A.heap.size A B
theorem kpR_t {U : Nat → Prop} {A B C : World} (h : KpR U A B) (g : KpR U B C) : KpR U A C := KpU.trans h g h.size
theorem kpR_b {U : Nat → Prop} {N : Nat} (W : World) (l : Nat) (o o' : Obj) (_ : N ≤ l) (hl : W.heap[l]? = some o) (ho : o.isCells = false) (_ : o.isWalk = false) : KpR U W (W.putObj l o') := ⟨by simp, fun k cs T fr _ _ hh => (World.putObj_heap_other (fun e => by subst e; rw [hh] at hl; cases hl; cases ho)).trans hh⟩
/-- The range over all keys, told as the library tells one: two values each time. -/
theorem all_stops {w : World} {U : Nat → Prop} (hU : ∀ b, U b → b < w.heap.size) {g gB : Nat} (hgB : Rw gB w #[.pointer (some ⟨g, 0, none⟩)] 23) {K : Nat → Prop} {t : Tr} {v : Value} (hr : Rw g w #[v] 67) (ht : TA K w t v) (hok : t = no ∨ Tr.Ok 64 t) (hKU : ∀ b, K b → ¬ U b) (m : Nat) :
    SeqStopsK Fence.wide m Tryz.prog 63 #[.pointer (some ⟨gB, 0, none⟩)] (fun x : Value × Value => #[x.1, x.2]) (KpR U) (fun xs => xs.length = (entsF [] t).length) (fun _ => True) (entsF [] t).length w := by
  intro l J Jx W hb hJ hJx hy h0
  have V : Vis l W.heap.size (entsF [] t) U (fun pre W1 => ∃ vs : List (Value × Value), vs.length = pre.length ∧ J vs W1) (fun W1 => ∃ vs, Jx vs W1) := by
    refine ⟨?_, ?_, fun b hu => Nat.lt_of_lt_of_le (hU b hu) hb.size, ?_⟩
    · rintro pre A B ⟨vs, h1, h2⟩ hAB
      exact ⟨vs, h1, hJ vs A B none h2 (grown_none hAB) (fun r e => by cases e)⟩
    · rintro A B ⟨vs, h2⟩ hAB
      exact ⟨vs, hJx vs A B none h2 (grown_none hAB) (fun r e => by cases e)⟩
    · rintro pre W1 M a a' n c n' c' k x ⟨vs, h1, h2⟩ hN _ _ _ _
      refine yield_any (yield_mono (hy vs (.slice a n c, .slice a' n' c') W1 h2 (by have := hN.length_le; simp only [List.length_append, List.length_singleton] at this; omega)) ?_)
      rintro e W' (⟨rfl, h3, h4⟩ | ⟨rfl, h3⟩)
      · exact .inl ⟨rfl, ⟨_, by simp [h1], h3⟩, KpU.any h4 M⟩
      · exact .inr ⟨rfl, _, h3⟩
  refine callsIn_wide.2 ?_
  refine (all1_any V (hgB.go hb) ⟨[], rfl, h0⟩ (Nat.le_refl _) (hr.go hb) (ht.go hb) hok hKU List.prefix_rfl).mono ?_
  rintro e W' ⟨u, rfl, (⟨vs, h1, h2⟩ | ⟨vs, h2⟩)⟩
  · exact ⟨⟨u, rfl⟩, .inl ⟨vs, h1, h2⟩⟩
  · exact ⟨⟨u, rfl⟩, .inr ⟨vs, trivial, h2⟩⟩
/-- The count so far. -/
def Cnt (w : World) (gN : Nat) (xs : List (Value × Value)) (W : World) : Prop := Rw gN W #[.int .i64 ((xs.length : Nat) : Int)] 3 ∧ Bl w W
theorem cnt_own {w : World} {gN : Nat} (B : Nat) (hB : w.heap.size ≤ B) : OwnFrom B (Cnt w gN) := fun s X Y row hs hg hrow => by
  obtain ⟨h1, hb⟩ := hs
  refine ⟨(hg.block gN (lt_of_get h1) (fun e' => ?_)).trans h1, Below.grown hb hg hb.size (fun k e => Nat.le_trans hB (hrow k e).1)⟩
  obtain ⟨o, ho, hc⟩ := (hrow gN e'.symm).2
  unfold Rw at h1
  rw [h1] at ho; cases ho; cases hc
set_option maxHeartbeats 4000000 in
theorem len_yes {K : Nat → Prop} {w : World} {g : Nat} {t : Tr} {v : Value} (hr : Rw g w #[v] 67) (ht : TA K w t v) (hok : t = no ∨ Tr.Ok 64 t) (hN : (entsF [] t).length ≤ 4611686018427387904) :
    Calls Tryz.prog 21 #[.pointer (some ⟨g, 0, none⟩)] w fun e w' => ∃ u, e = .returned u ∧ (fun u w' => u = .int .i64 (((entsF [] t).length : Nat) : Int) ∧ Bl w w') u w' := by
  have hB := Bl.refl w
  replace ht := ht.old
  refine cw_enterM Tryz.func21 rfl 11 rfl ?_
  show CW _ _ _ _ _ _ _ [(0, .pointer (some ⟨g, 0, none⟩))] _
  refine cw_seq ?_
  refine cw_region ?_
  refine rp 2 (.int .i64 0) ?_
  refine rw_nil ?_
  refine nw_then ?_
  refine cw_seq ?_
  refine cw_region ?_
  refine rw_new 3 #[.int .i64 0] 3 (fun _ => by kernel_rfl) (fun _ => by kernel_rfl) ?_
  intro wA gN hnA
  refine rw_set1 gN 0 (.int .i64 0) (fun _ => by kernel_rfl) (fun _ => ol_setC 3 _ _ gN 0 #[.int .i64 0] 3 _ hnA.row rfl (by kernel_rfl) (by kernel_rfl) (by decide) rfl rfl (by kernel_rfl)) ?_
  intro wC hsC
  have hgN := hnA.hg
  have hC : Rw gN wC #[.int .i64 0] 3 := (show Rw gN wA #[.int .i64 0] 3 from hnA.row).set hsC rfl
  have hBC : Bl w wC := hsC.touch.below hnA.below (by omega) (by have := hnA.size; omega)
  replace hr := hr.go hBC
  replace ht := ht.go hBC
  replace hB := hBC
  refine rw_nil ?_
  refine nw_then ?_
  refine cw_seq ?_
  refine cw_seq ?_
  refine cw_region ?_
  refine rp 4 (.pointer (some ⟨g, 0, none⟩)) ?_
  refine rw_call 5 45 #[.pointer (some ⟨g, 0, none⟩)] (fun _ => by kernel_rfl) (fun _ => by kernel_rfl) (R := fun u w' => (∃ gB, u = .func (.func 63) #[] #[.pointer (some ⟨gB, 0, none⟩)] ∧ Rw gB w' #[.pointer (some ⟨g, 0, none⟩)] 23 ∧ wC.heap.size ≤ gB) ∧ Bl wC w') (all_any) ?_
  rintro _ w2 ⟨⟨gB, rfl, hgB, hgB2⟩, hb2⟩
  replace hB := hB.go hb2
  replace hr := hr.go hb2
  replace ht := ht.go hb2
  replace hC := hC.go hb2
  refine rw_nil ?_
  refine nw_then ?_
  refine cw_block ?_
  refine cw_sub [(3, .pointer (some ⟨gN, 0, none⟩)), (5, .func (.func 63) #[] #[.pointer (some ⟨gB, 0, none⟩)])] (by exact ⟨fun _ => by kernel_rfl, ⟨fun _ => by kernel_rfl, trivial⟩⟩) ?_
  have hgl := lt_of_get hC
  refine cw_range2 (α := Value × Value) (enc := fun x => x.1) (enc' := fun x => x.2) 63 #[.pointer (some ⟨gB, 0, none⟩)] (fun _ => by kernel_rfl) (by decide) (by decide) (by decide) (fun args w => by kernel_rfl) (all_stops (U := fun b => b = gN) (fun b hb => by subst hb; exact hgl) hgB hr ht hok (fun b hb hu => by subst hu; omega) 19) kpR_t kpR_b (Below.refl _ _) (Cnt w gN) (cnt_own _ hB.size) ⟨hC, hB⟩ (fun x e W => e = [(3, .pointer (some ⟨gN, 0, none⟩))]) (fun x e _ X Y row h _ _ => h) ?_ ?_ ?_
  · rintro lp pre x W hI
    refine cw_skip ?_
    exact fun a ha => ⟨KeepsFrom.refl _ _, ⟨Nat.le_refl _, fun k cs T fr _ _ hh => hh⟩, hI, _, ha.sub (env' := [(3, .pointer (some ⟨gN, 0, none⟩))]) (by exact ⟨fun _ => by kernel_rfl, trivial⟩), rfl⟩
  · rintro lp pre x e W hlp hI rfl hlen
    obtain ⟨h1, hb⟩ := hI
    refine cw_block ?_
    refine cw_region ?_
    refine rv 8 (.int .i64 ((pre.length : Nat) : Int)) (fun _ => ol_cell 3 _ ⟨gN, 0, none⟩ _ _ rfl (by kernel_rfl) (by rw [cell_of_row _ _ _ _ _ _ h1]; rfl) Tryz.underlying3 rfl) ?_
    refine rv 9 (.int .i64 ((pre.length + 1 : Nat) : Int)) (fun _ => ol_conv (v := .int .i64 (IntKind.i64.wrap (((pre.length : Nat) : Int) + 1))) (by kernel_rfl) (congrArg (Value.int .i64) (by rw [wrap64 (by omega) (by omega)]; omega))) ?_
    refine rw_set1 gN 0 (.int .i64 ((pre.length + 1 : Nat) : Int)) (fun _ => by kernel_rfl) (fun _ => ol_setC 3 _ _ gN 0 _ 3 _ h1 rfl (by kernel_rfl) (by kernel_rfl) (by show 0 < 1; omega) rfl rfl (by kernel_rfl)) ?_
    intro W3 hs3
    refine rw_nil ?_
    refine nw_block ?_
    refine nw_own ⟨by rw [hs3.size]; exact Nat.le_refl _, fun k o hk ho hc => (hs3.other (fun e => by subst e; omega)).trans ho⟩ ⟨by rw [hs3.size]; exact Nat.le_refl _, fun k cs T fr _ hU hh => (hs3.other hU).trans hh⟩ ⟨?_, hs3.touch.below hb (by omega) hb.size⟩
    rw [List.length_append, List.length_singleton]; exact h1.set hs3 rfl
  intro D xs W hD hS hI hdd
  obtain ⟨h1, hb⟩ := hI
  rw [hS] at h1
  refine nw_block ?_
  refine nw_then ?_
  refine cw_seq ?_
  refine cw_region ?_
  refine rv 10 (.int .i64 (((entsF [] t).length : Nat) : Int)) (fun _ => ol_cell 3 _ ⟨gN, 0, none⟩ _ _ rfl (by kernel_rfl) (by rw [cell_of_row _ _ _ _ _ _ h1]; rfl) Tryz.underlying3 rfl) ?_
  refine rp 2 (.int .i64 (((entsF [] t).length : Nat) : Int)) ?_
  refine rw_nil ?_
  refine nw_then ?_
  refine cw_ret ?_
  exact nw_ret_marks hdd (.int .i64 (((entsF [] t).length : Nat) : Int)) (fun _ => by kernel_rfl) ⟨_, rfl, rfl, Below.grown hb (grownBy_putObj' _ _ _) hb.size (fun k e => by cases e; exact Nat.le_trans hB.size hD)⟩
theorem len_any {K : Nat → Prop} {w : World} {g : Nat} {t : Tr} (h : Tri K w g t) (hN : (entsF [] t).length ≤ 4611686018427387904) :
    Calls Tryz.prog 21 #[.pointer (some ⟨g, 0, none⟩)] w fun e w' => ∃ u, e = .returned u ∧ u = .int .i64 (((entsF [] t).length : Nat) : Int) ∧ Bl w w' := by
  obtain ⟨⟨v, h1, h2⟩, h3⟩ := h
  exact len_yes h1 h2 h3 hN
end Go.Proofs.YtalhnnjpjaeakaaGreat
/- Keys and values as a list in order, and what a tree has to do with it. -/
namespace Go.Proofs.YtalhnnjpjaeakaaGreat
open Tr
open Ni (lessP)
set_option linter.unusedVariables false
/-- Nibble paths and values of a tree, in order. -/
def entsR : Tr → PList
  | no => []
  | leaf q x => [(q, x)]
  | ext q c => (entsR c).map fun e => (q ++ e.1, e.2)
  | br k x => (if x = [] then [] else [([], x)]) ++ (List.range 16).flatMap fun i => (entsR (k i)).map fun e => (((i : Nat) : Int) :: e.1, e.2)
theorem flatMap_congr' {α β : Type} (f g : α → List β) : ∀ l : List α, (∀ i ∈ l, f i = g i) → l.flatMap f = l.flatMap g
  | [], _ => rfl
  | a :: l, h => by rw [List.flatMap_cons, List.flatMap_cons, h a (by simp), flatMap_congr' f g l (fun i hi => h i (List.mem_cons_of_mem _ hi))]
theorem entsF_eq : ∀ (t : Tr) (q : List Int), entsF q t = (entsR t).map fun e => ((Ni.keyP (q ++ e.1)).1, e.2) := by
  intro t
  induction t with
  | no => intro q; rfl
  | leaf p x => intro q; rfl
  | ext p c ih => intro q; simp [entsF, entsR, ih, List.append_assoc]
  | br k x ih =>
    intro q
    simp only [entsF, entsR, List.map_append, List.map_flatMap]
    congr 1
    · by_cases h : x = [] <;> simp [h]
    · refine flatMap_congr' _ _ _ (fun i _ => ?_)
      rw [ih i]
      by_cases h : (k i).isNo = true
      · rw [if_pos h]
        cases hk : k i <;> simp_all [isNo, entsR]
      · rw [if_neg h]
        simp [List.map_map, Function.comp, List.append_assoc]
theorem less_app (q a b : List Int) : lessP (q ++ a) (q ++ b) = lessP a b := by
  induction q with
  | nil => rfl
  | cons x q ih => simp [lessP, ih]
def SrtP (l : PList) : Prop := l.Pairwise fun e f => lessP e.1 f.1 = true
theorem pw_flatMap {α : Type} {R : α → α → Prop} (f : Nat → List α) : ∀ n : Nat, (∀ i, i < n → (f i).Pairwise R) → (∀ i j, i < j → j < n → ∀ a ∈ f i, ∀ b ∈ f j, R a b) → ((List.range n).flatMap f).Pairwise R
  | 0, _, _ => by simp
  | n + 1, h1, h2 => by
    rw [List.range_succ, List.flatMap_append, List.pairwise_append]
    refine ⟨pw_flatMap f n (fun i hi => h1 i (by omega)) (fun i j hij hj => h2 i j hij (by omega)), by simpa using h1 n (by omega), ?_⟩
    intro a ha b hb
    obtain ⟨i, hi, hai⟩ := List.mem_flatMap.1 ha
    have hb' : b ∈ f n := by simpa using hb
    exact h2 i n (List.mem_range.1 hi) (by omega) a hai b hb'
theorem srt_ents : ∀ t : Tr, SrtP (entsR t) := by
  intro t
  induction t with
  | no => simp [entsR, SrtP]
  | leaf p x => simp [entsR, SrtP]
  | ext p c ih =>
    simp only [entsR, SrtP, List.pairwise_map] at ih ⊢
    exact ih.imp (fun h => by rw [less_app]; exact h)
  | br k x ih =>
    simp only [entsR, SrtP]
    rw [List.pairwise_append]
    refine ⟨?_, ?_, ?_⟩
    · by_cases h : x = [] <;> simp [h]
    · refine pw_flatMap _ 16 (fun i hi => ?_) (fun i j hij hj a ha b hb => ?_)
      · rw [List.pairwise_map]
        exact (ih i).imp (fun h => by simp [lessP, h])
      · obtain ⟨e, _, rfl⟩ := List.mem_map.1 ha
        obtain ⟨f, _, rfl⟩ := List.mem_map.1 hb
        simp only [lessP]
        rw [if_neg (by omega)]
        exact decide_eq_true (by omega)
    · intro a ha b hb
      obtain ⟨i, _, hbi⟩ := List.mem_flatMap.1 hb
      obtain ⟨f, _, rfl⟩ := List.mem_map.1 hbi
      by_cases h : x = []
      · simp [h] at ha
      · simp [h] at ha
        rw [ha]; rfl
theorem mem_ents : ∀ (t : Tr) {B : Nat}, Tr.Ok B t → ∀ p x, (p, x) ∈ entsR t ↔ (Nb p ∧ Tr.get t p = x ∧ x ≠ []) := by
  intro t
  induction t with
  | no => intro B hO; exact hO.elim
  | leaf q v =>
    intro B hO p x
    simp only [entsR, List.mem_singleton, Prod.mk.injEq, Tr.get]
    constructor
    · rintro ⟨rfl, rfl⟩
      exact ⟨hO.1, if_pos rfl, hO.2.2⟩
    · rintro ⟨h1, h2, h3⟩
      by_cases e : p = q
      · rw [if_pos e] at h2; exact ⟨e, h2.symm⟩
      · rw [if_neg e] at h2; exact absurd h2.symm h3
  | ext q c ih =>
    intro B hO p x
    obtain ⟨o1, o2, o3, o4, o5⟩ := hO
    simp only [entsR, List.mem_map, Prod.mk.injEq, Tr.get]
    constructor
    · rintro ⟨⟨p', x'⟩, hm, rfl, rfl⟩
      obtain ⟨h1, h2, h3⟩ := (ih o5 p' x').1 hm
      exact ⟨o1.app h1, by simp [h2], h3⟩
    · rintro ⟨h1, h2, h3⟩
      by_cases e : p.take q.length = q
      · rw [if_pos e] at h2
        refine ⟨(p.drop q.length, x), (ih o5 _ _).2 ⟨h1.drop _, h2, h3⟩, ?_, rfl⟩
        have := List.take_append_drop q.length p
        rw [e] at this
        exact this
      · rw [if_neg e] at h2; exact absurd h2.symm h3
  | br k v ih =>
    intro B hO p x
    simp only [entsR, List.mem_append, List.mem_flatMap, List.mem_range, List.mem_map, Prod.mk.injEq]
    constructor
    · rintro (h | ⟨i, hi, ⟨p', x'⟩, hm, rfl, rfl⟩)
      · by_cases e : v = []
        · simp [e] at h
        · simp [e] at h
          obtain ⟨rfl, rfl⟩ := h
          exact ⟨fun i hi => by simp at hi, rfl, e⟩
      · rcases hO.1 i with h | ⟨h16, hB1, hk⟩
        · rw [h] at hm; simp [entsR] at hm
        · obtain ⟨h1, h2, h3⟩ := (ih i hk p' x').1 hm
          refine ⟨fun j hj => ?_, by simpa [Tr.get] using h2, h3⟩
          rcases List.mem_cons.1 hj with e | hj
          · omega
          · exact h1 j hj
    · rintro ⟨h1, h2, h3⟩
      cases p with
      | nil =>
        left
        have h2 : v = x := h2
        rw [if_neg (by rw [h2]; exact h3)]
        simp [h2]
      | cons i r =>
        right
        have hi := h1.head
        obtain ⟨j, rfl⟩ := Int.eq_ofNat_of_zero_le hi.1
        have h2 : Tr.get (k j) r = x := h2
        rcases hO.1 j with h | ⟨h16, hB1, hk⟩
        · rw [h] at h2; exact absurd h2.symm h3
        · exact ⟨j, h16, (r, x), (ih j hk r x).2 ⟨h1.tail, h2, h3⟩, rfl, rfl⟩
/-- Two lists in order with the same members are one. -/
theorem srtP_uniq : ∀ A B : PList, SrtP A → SrtP B → (∀ x, x ∈ A ↔ x ∈ B) → A = B
  | [], [], _, _, _ => rfl
  | [], b :: B, _, _, h => by have := (h b).2 (by simp); simp at this
  | a :: A, [], _, _, h => by have := (h a).1 (by simp); simp at this
  | a :: A, b :: B, hA, hB, h => by
    obtain ⟨ha, hA'⟩ := List.pairwise_cons.1 hA
    obtain ⟨hb, hB'⟩ := List.pairwise_cons.1 hB
    have e : a = b := by
      rcases List.mem_cons.1 ((h a).1 (by simp)) with q | q
      · exact q
      · rcases List.mem_cons.1 ((h b).2 (by simp)) with p | p
        · exact p.symm
        · have := less_trans _ _ _ (ha _ p) (hb _ q)
          rw [less_irr] at this; cases this
    subst e
    congr 1
    refine srtP_uniq A B hA' hB' fun x => ⟨fun hx => ?_, fun hx => ?_⟩
    · rcases List.mem_cons.1 ((h x).1 (List.mem_cons_of_mem _ hx)) with q | q
      · subst q
        have := ha _ hx
        rw [less_irr] at this; cases this
      · exact q
    · rcases List.mem_cons.1 ((h x).2 (List.mem_cons_of_mem _ hx)) with q | q
      · subst q
        have := hb _ hx
        rw [less_irr] at this; cases this
      · exact q
def Byk (k : List Int) : Prop := ∀ y ∈ k, 0 ≤ y ∧ y < 256
/-- Where a key stands, or would. -/
def atN (k : List Int) : PList → Nat
  | [] => 0
  | e :: r => if lessP e.1 k then atN k r + 1 else 0
theorem atN_le (k : List Int) : ∀ l : PList, atN k l ≤ l.length
  | [] => Nat.le_refl _
  | e :: r => by have := atN_le k r; simp only [atN]; split <;> simp <;> omega
def isAt (k : List Int) (l : PList) : Bool := match l[atN k l]? with
  | some e => decide (e.1 = k)
  | none => false
def putR (k x : List Int) : PList → PList
  | [] => [(k, x)]
  | e :: r => if lessP e.1 k then e :: putR k x r else if e.1 = k then (k, x) :: r else (k, x) :: e :: r
def delR (k : List Int) : PList → PList
  | [] => []
  | e :: r => if lessP e.1 k then e :: delR k r else if e.1 = k then r else e :: r
theorem isAt_cons (k : List Int) (e : List Int × List Int) (r : PList) : isAt k (e :: r) = if lessP e.1 k then isAt k r else decide (e.1 = k) := by
  unfold isAt
  simp only [atN]
  by_cases h : lessP e.1 k = true
  · simp [h]
  · simp [h]
theorem putR_cut (k x : List Int) : ∀ l : PList, putR k x l = l.take (atN k l) ++ [(k, x)] ++ l.drop (if isAt k l then atN k l + 1 else atN k l)
  | [] => by simp [putR, atN, isAt]
  | e :: r => by
    have ih := putR_cut k x r
    rw [isAt_cons]
    simp only [putR, atN]
    by_cases h : lessP e.1 k = true
    · simp only [h, if_true]
      rw [ih]
      cases isAt k r <;> simp
    · simp only [h, Bool.false_eq_true, if_false]
      by_cases e1 : e.1 = k
      · simp [e1]
      · simp [e1]
theorem isAt_iff (k : List Int) : ∀ l : PList, SrtP l → (isAt k l = true ↔ ∃ x, (k, x) ∈ l)
  | [], _ => by simp [isAt]
  | e :: r, h => by
    obtain ⟨h1, h2⟩ := List.pairwise_cons.1 h
    rw [isAt_cons]
    by_cases hl : lessP e.1 k = true
    · rw [if_pos hl, isAt_iff k r h2]
      constructor
      · rintro ⟨x, hx⟩; exact ⟨x, List.mem_cons_of_mem _ hx⟩
      · rintro ⟨x, hx⟩
        rcases List.mem_cons.1 hx with q | q
        · rw [← q] at hl; simp [less_irr] at hl
        · exact ⟨x, q⟩
    · rw [if_neg hl]
      constructor
      · intro hd
        have := of_decide_eq_true hd
        exact ⟨e.2, by rw [← this]; simp⟩
      · rintro ⟨x, hx⟩
        rcases List.mem_cons.1 hx with q | q
        · exact decide_eq_true (by rw [← q])
        · exact absurd (h1 _ q) hl
theorem mem_putR (k x : List Int) : ∀ l : PList, SrtP l → ∀ k' x', (k', x') ∈ putR k x l ↔ (k' = k ∧ x' = x) ∨ (k' ≠ k ∧ (k', x') ∈ l)
  | [], _, k', x' => by simp [putR]
  | e :: r, h, k', x' => by
    obtain ⟨h1, h2⟩ := List.pairwise_cons.1 h
    have ih := mem_putR k x r h2 k' x'
    simp only [putR]
    by_cases hl : lessP e.1 k = true
    · rw [if_pos hl, List.mem_cons, ih, List.mem_cons]
      have hne : e.1 ≠ k := fun e1 => by rw [e1, less_irr] at hl; cases hl
      constructor
      · rintro (q | q | q)
        · exact .inr ⟨by rw [← q] at hne; exact hne, .inl q⟩
        · exact .inl q
        · exact .inr ⟨q.1, .inr q.2⟩
      · rintro (q | ⟨q1, q2 | q2⟩)
        · exact .inr (.inl q)
        · exact .inl q2
        · exact .inr (.inr ⟨q1, q2⟩)
    · rw [if_neg hl]
      by_cases e1 : e.1 = k
      · rw [if_pos e1, List.mem_cons, List.mem_cons, Prod.mk.injEq]
        constructor
        · rintro (q | q)
          · exact .inl q
          · refine .inr ⟨fun e2 => ?_, .inr q⟩
            have := h1 _ q
            rw [e1, e2, less_irr] at this; cases this
        · rintro (q | ⟨q1, q2 | q2⟩)
          · exact .inl q
          · exact absurd (by rw [← e1, ← q2]) q1
          · exact .inr q2
      · rw [if_neg e1, List.mem_cons, List.mem_cons, Prod.mk.injEq]
        constructor
        · rintro (q | q)
          · exact .inl q
          · refine .inr ⟨fun e2 => ?_, q⟩
            have hke := less_tot e.1 k e1 (by simpa using hl)
            rcases q with q | q
            · exact e1 (by rw [← q]; exact e2)
            · have := less_trans _ _ _ hke (h1 _ q)
              rw [e2, less_irr] at this; cases this
        · rintro (q | ⟨q1, q2⟩)
          · exact .inl q
          · exact .inr q2
theorem srt_putR (k x : List Int) : ∀ l : PList, SrtP l → SrtP (putR k x l)
  | [], _ => by simp [putR, SrtP]
  | e :: r, h => by
    obtain ⟨h1, h2⟩ := List.pairwise_cons.1 h
    simp only [putR]
    by_cases hl : lessP e.1 k = true
    · rw [if_pos hl]
      refine List.pairwise_cons.2 ⟨fun f hf => ?_, srt_putR k x r h2⟩
      obtain ⟨f1, f2⟩ := f
      rcases (mem_putR k x r h2 f1 f2).1 hf with q | q
      · rw [q.1]; exact hl
      · exact h1 _ q.2
    · rw [if_neg hl]
      by_cases e1 : e.1 = k
      · rw [if_pos e1]
        exact List.pairwise_cons.2 ⟨fun f hf => by have := h1 f hf; rw [e1] at this; exact this, h2⟩
      · rw [if_neg e1]
        have hke := less_tot e.1 k e1 (by simpa using hl)
        refine List.pairwise_cons.2 ⟨fun f hf => ?_, h⟩
        rcases List.mem_cons.1 hf with q | q
        · rw [q]; exact hke
        · exact less_trans _ _ _ hke (h1 f q)
theorem len_putR (k x : List Int) : ∀ l : PList, (putR k x l).length ≤ l.length + 1
  | [] => by simp [putR]
  | e :: r => by
    have := len_putR k x r
    simp only [putR]
    split
    · simp; omega
    · split <;> simp
end Go.Proofs.YtalhnnjpjaeakaaGreat
/- A tree and a list in order that say the same; two ways to one tree. -/
namespace Go.Proofs.YtalhnnjpjaeakaaGreat
open Tr
open Ni (lessP)
set_option linter.unusedVariables false
/-- The tree and the list say the same. -/
structure Rel (t : Tr) (l : PList) : Prop where
  s : SrtP l
  m : ∀ k x, (k, x) ∈ l ↔ (Byk k ∧ k.length ≤ 32 ∧ x ≠ [] ∧ Tr.get t (Ni.nib k) = x)
  e : ∀ p, Nb p → Tr.get t p ≠ [] → ∃ k, Byk k ∧ k.length ≤ 32 ∧ p = Ni.nib k
  v : ∀ k x, (k, x) ∈ l → x.length ≤ 256
  ok : t = no ∨ Tr.Ok 64 t
def putL (l : PList) (k x : List Int) : PList := if k.length ≤ 32 ∧ 0 < x.length ∧ x.length ≤ 256 then putR k x l else l
def delL (l : PList) (k : List Int) : PList := if k.length ≤ 32 then delR k l else l
theorem Rel.nil : Rel no [] := ⟨by simp [SrtP], fun k x => ⟨fun h => by simp at h, fun h => absurd h.2.2.2.symm h.2.2.1⟩, fun p _ h => absurd rfl h, (fun k x h => by simp at h), .inl rfl⟩
theorem byk_nb {k : List Int} (h : Byk k) : Nb (Ni.nib k) := nib_nb h
theorem putT_ok {t : Tr} {k x : List Int} (h : t = no ∨ Tr.Ok 64 t) (hk : Byk k) : putT t k x = no ∨ Tr.Ok 64 (putT t k x) := by
  unfold putT
  split
  · rename_i hc
    exact .inr (put_ok t 64 _ _ h (byk_nb hk) (by rw [Ni.nib_len]; omega) (fun e => by rw [e] at hc; simp at hc))
  · exact h
theorem delT_ok {t : Tr} {k : List Int} (h : t = no ∨ Tr.Ok 64 t) (hk : Byk k) : delT t k = no ∨ Tr.Ok 64 (delT t k) := by
  unfold delT
  split
  · rename_i hc
    rcases h with rfl | h
    · exact absurd rfl hc.2
    · exact (del_ok t 64 _ h (byk_nb hk) hc.2).1
  · exact h
theorem putT_get {t : Tr} {k x : List Int} (h : t = no ∨ Tr.Ok 64 t) (hk : Byk k) {q : List Int} (hq : Nb q) : Tr.get (putT t k x) q = if (k.length ≤ 32 ∧ 0 < x.length ∧ x.length ≤ 256) ∧ q = Ni.nib k then x else Tr.get t q := by
  unfold putT
  split
  · rename_i hc
    rw [get_put t 64 _ _ _ h (byk_nb hk) hq]
    by_cases e : q = Ni.nib k
    · rw [if_pos e, if_pos ⟨hc, e⟩]
    · rw [if_neg e, if_neg (fun z => e z.2)]
  · rename_i hc
    rw [if_neg (fun z => hc z.1)]
theorem delT_get {t : Tr} {k : List Int} (h : t = no ∨ Tr.Ok 64 t) (hk : Byk k) {q : List Int} (hq : Nb q) : Tr.get (delT t k) q = if k.length ≤ 32 ∧ q = Ni.nib k then [] else Tr.get t q := by
  unfold delT
  split
  · rename_i hc
    rcases h with rfl | h
    · exact absurd rfl hc.2
    · rw [get_del t 64 _ _ h (byk_nb hk) hq hc.2]
      by_cases e : q = Ni.nib k
      · rw [if_pos e, if_pos ⟨hc.1, e⟩]
      · rw [if_neg e, if_neg (fun z => e z.2)]
  · rename_i hc
    by_cases e : k.length ≤ 32 ∧ q = Ni.nib k
    · rw [if_pos e, e.2]
      by_cases hg : Tr.get t (Ni.nib k) = []
      · exact hg
      · exact absurd ⟨e.1, hg⟩ hc
    · rw [if_neg e]
theorem nib_inj {a b : List Int} (h : Ni.nib a = Ni.nib b) : a = b := by rw [← Ni.kk_nib a, h, Ni.kk_nib]
theorem Rel.put {t : Tr} {l : PList} (h : Rel t l) {k x : List Int} (hk : Byk k) : Rel (putT t k x) (putL l k x) := by
  by_cases hc : k.length ≤ 32 ∧ 0 < x.length ∧ x.length ≤ 256
  · have el : putL l k x = putR k x l := if_pos hc
    have hx : x ≠ [] := fun e => by rw [e] at hc; simp at hc
    rw [el]
    refine ⟨srt_putR k x l h.s, fun k' x' => ?_, fun p hp hg => ?_, fun k' x' hm => ?_, putT_ok h.ok hk⟩
    · rw [mem_putR k x l h.s]
      constructor
      · rintro (⟨rfl, rfl⟩ | ⟨q1, q2⟩)
        · exact ⟨hk, hc.1, hx, by rw [putT_get h.ok hk (byk_nb hk), if_pos ⟨hc, rfl⟩]⟩
        · obtain ⟨h1, h2, h3, h4⟩ := (h.m k' x').1 q2
          exact ⟨h1, h2, h3, by rw [putT_get h.ok hk (byk_nb h1), if_neg (fun z => q1 (nib_inj z.2))]; exact h4⟩
      · rintro ⟨h1, h2, h3, h4⟩
        rw [putT_get h.ok hk (byk_nb h1)] at h4
        by_cases e : k' = k
        · subst e
          rw [if_pos ⟨hc, rfl⟩] at h4
          exact .inl ⟨rfl, h4.symm⟩
        · rw [if_neg (fun z => e (nib_inj z.2))] at h4
          exact .inr ⟨e, (h.m k' x').2 ⟨h1, h2, h3, h4⟩⟩
    · rw [putT_get h.ok hk hp] at hg
      by_cases e : p = Ni.nib k
      · exact ⟨k, hk, hc.1, e⟩
      · rw [if_neg (fun z => e z.2)] at hg
        exact h.e p hp hg
    · rcases (mem_putR k x l h.s k' x').1 hm with q | q
      · rw [q.2]; exact hc.2.2
      · exact h.v k' x' q.2
  · have e1 : putL l k x = l := if_neg hc
    have e2 : putT t k x = t := if_neg hc
    rw [e1, e2]; exact h
theorem Rel.ents {t : Tr} {l : PList} (h : Rel t l) : entsF [] t = l := by
  rcases h.ok with rfl | hO
  · rw [show entsF [] no = [] from rfl]
    cases l with
    | nil => rfl
    | cons e r =>
      obtain ⟨k, x⟩ := e
      obtain ⟨_, _, h3, h4⟩ := (h.m k x).1 (by simp)
      exact absurd h4.symm h3
  · have hkey : ∀ p x, (p, x) ∈ entsR t → ∃ k, Byk k ∧ k.length ≤ 32 ∧ p = Ni.nib k ∧ (Ni.keyP p).1 = k := by
      intro p x hm
      obtain ⟨h1, h2, h3⟩ := (mem_ents t hO p x).1 hm
      obtain ⟨k, k1, k2, k3⟩ := h.e p h1 (by rw [h2]; exact h3)
      exact ⟨k, k1, k2, k3, by rw [k3, Ni.key_nib k1]⟩
    rw [entsF_eq]
    refine srtP_uniq _ _ ?_ h.s (fun y => ?_)
    · unfold SrtP
      rw [List.pairwise_map]
      refine List.Pairwise.imp_of_mem ?_ (srt_ents t)
      rintro ⟨p, x⟩ ⟨p', x'⟩ hm hm' hl
      obtain ⟨k, _, _, k3, k4⟩ := hkey p x hm
      obtain ⟨k', _, _, k3', k4'⟩ := hkey p' x' hm'
      show lessP (Ni.keyP ([] ++ p)).1 (Ni.keyP ([] ++ p')).1 = true
      rw [List.nil_append, List.nil_append, k4, k4', ← Ni.less_nib, ← k3, ← k3']
      exact hl
    · obtain ⟨k, x⟩ := y
      constructor
      · intro hm
        obtain ⟨⟨p, x'⟩, hm', he⟩ := List.mem_map.1 hm
        obtain ⟨k', k1, k2, k3, k4⟩ := hkey p x' hm'
        obtain ⟨h1, h2, h3⟩ := (mem_ents t hO p x').1 hm'
        simp only [List.nil_append, k4, Prod.mk.injEq] at he
        obtain ⟨rfl, rfl⟩ := he
        exact (h.m k' x').2 ⟨k1, k2, h3, by rw [← k3]; exact h2⟩
      · intro hm
        obtain ⟨k1, k2, h3, h4⟩ := (h.m k x).1 hm
        refine List.mem_map.2 ⟨(Ni.nib k, x), (mem_ents t hO _ _).2 ⟨byk_nb k1, h4, h3⟩, ?_⟩
        simp only [List.nil_append, Ni.key_nib k1]
theorem len_putL (l : PList) (k x : List Int) : (putL l k x).length ≤ l.length + 1 := by
  unfold putL
  split
  · exact len_putR k x l
  · omega
/-- What a tree has lies among these keys. -/
def Sup (u : Tr) (A : List Int → Prop) : Prop := ∀ q, Nb q → Tr.get u q ≠ [] → ∃ k, A k ∧ Byk k ∧ k.length ≤ 32 ∧ q = Ni.nib k
theorem Sup.none (A : List Int → Prop) : Sup no A := fun q _ h => absurd rfl h
theorem Sup.put {u : Tr} {A : List Int → Prop} (h : Sup u A) (hu : u = no ∨ Tr.Ok 64 u) {k x : List Int} (hk : Byk k) : Sup (putT u k x) (fun y => y = k ∨ A y) := by
  intro q hq hg
  rw [putT_get hu hk hq] at hg
  by_cases e : (k.length ≤ 32 ∧ 0 < x.length ∧ x.length ≤ 256) ∧ q = Ni.nib k
  · exact ⟨k, .inl rfl, hk, e.1.1, e.2⟩
  · rw [if_neg e] at hg
    obtain ⟨k', h1, h2⟩ := h q hq hg
    exact ⟨k', .inr h1, h2⟩
theorem Sup.del {u : Tr} {A : List Int → Prop} (h : Sup u A) (hu : u = no ∨ Tr.Ok 64 u) {k : List Int} (hk : Byk k) : Sup (delT u k) (fun y => y ≠ k ∧ A y) := by
  intro q hq hg
  rw [delT_get hu hk hq] at hg
  by_cases e : k.length ≤ 32 ∧ q = Ni.nib k
  · rw [if_pos e] at hg; exact absurd rfl hg
  · rw [if_neg e] at hg
    obtain ⟨k', h1, h2, h3, h4⟩ := h q hq hg
    refine ⟨k', ⟨fun e2 => ?_, h1⟩, h2, h3, h4⟩
    subst e2
    exact e ⟨h3, h4⟩
theorem Sup.mono {u : Tr} {A A' : List Int → Prop} (h : Sup u A) (hA : ∀ k, Byk k → k.length ≤ 32 → A k → A' k) : Sup u A' := fun q hq hg => by
  obtain ⟨k, h1, h2, h3, h4⟩ := h q hq hg
  exact ⟨k, hA k h2 h3 h1, h2, h3, h4⟩
/-- A tree that has what a list says, and nothing else, is the list's tree. -/
theorem Rel.one {t u : Tr} {l : PList} (h : Rel t l) (hu : u = no ∨ Tr.Ok 64 u) (hs : Sup u (fun k => ∃ x, (k, x) ∈ l)) (hv : ∀ k x, (k, x) ∈ l → Tr.get u (Ni.nib k) = x) : u = t := by
  have hg : ∀ q, Nb q → Tr.get u q = Tr.get t q := by
    intro q hq
    by_cases e : Tr.get u q = []
    · rw [e]
      by_cases e2 : Tr.get t q = []
      · exact e2.symm
      · obtain ⟨k, k1, k2, k3⟩ := h.e q hq e2
        subst k3
        have := hv k _ ((h.m k _).2 ⟨k1, k2, e2, rfl⟩)
        rw [e] at this; exact this
    · obtain ⟨k, ⟨x, hx⟩, k1, k2, k3⟩ := hs q hq e
      subst k3
      rw [hv k x hx, ((h.m k x).1 hx).2.2.2]
  rcases hu with rfl | hu
  · rcases h.ok with h2 | h2
    · exact h2.symm
    · obtain ⟨q, q1, q2, q3⟩ := h2.some
      rw [← hg q q1] at q3; exact absurd rfl q3
  · rcases h.ok with h2 | h2
    · subst h2
      obtain ⟨q, q1, q2, q3⟩ := hu.some
      rw [hg q q1] at q3; exact absurd rfl q3
    · exact Tr.Ok.uniq hu h2 hg
end Go.Proofs.YtalhnnjpjaeakaaGreat
