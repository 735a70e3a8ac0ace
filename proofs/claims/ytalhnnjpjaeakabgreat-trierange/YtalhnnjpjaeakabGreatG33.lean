/- A region that draws its order, within a round. -/
import Derived.Test.YtalhnnjpjaeakabGreatG01
import Derived.Test.YtalhnnjpjaeakabGreatG28
import Derived.Test.YtalhnnjpjaeakabGreatG32
namespace Go.Proofs.YtalhnnjpjaeakabGreat
open Go.RowKit
set_option linter.unusedVariables false
set_option maxRecDepth 100000
section
variable {m : Nat} {P : Program} {ds : List Deferred} {n : Nat} {Q : Exit → Act → World → Prop} {env : Env} {w : World} {ops : Array Oper} {S : World → Prop}
theorem wpIn_of_wp {l : Nat} {o : Oper} {a : Act} {w : World} {K : Act → World → Prop} (hnd : ∀ c, o.op ≠ .defer c) (h : o.wp P a w K Q) : o.wpIn (Fence.wide.inRound l) m P a w K Q := by
  refine ⟨fun f _ => trivial, ?_⟩
  rw [Oper.semAt_eq _ _ _ hnd]
  unfold Oper.wp at h
  generalize (execOp a.eval o).run P w = r at h ⊢
  cases r with
  | ok x w' =>
    cases x with
    | value v => exact h
    | skip => exact h
    | defer d => exact h
    | enter f args => exact ⟨fun e => absurd e Bool.false_ne_true, callsIn_wide.2 h⟩
    | row row args => exact ⟨fun e => absurd e Bool.false_ne_true, fun c cs _ => by obtain ⟨v, w'', r, s⟩ := h c cs; exact ⟨v, w'', r, stepsIn_wide.2 s⟩⟩
    | _ => exact h.elim
  | halt x w' =>
    cases x with
    | panic v => exact h
    | _ => exact h.elim
theorem wpOpIn_of {l : Nat} (hLO : ¬ LetsOut Q) (hnd : ops.all (fun o => match o.op with | .defer _ => false | _ => true) = true) {i : Nat} {K : Act → World → Prop} {a : Act} {w : World} (h : wpOp P ops Q i K a w) : wpOpIn (Fence.wide.inRound l) m P ops Q i K a w := by
  unfold wpOp at h
  unfold wpOpIn
  cases ho : ops[i]? with
  | none => simpa [ho] using h
  | some o =>
    simp only [ho] at h ⊢
    have hd : ∀ c, o.op ≠ .defer c := fun c e => by
      have := Array.all_eq_true.1 hnd i (Array.getElem?_eq_some_iff.1 ho).1
      rw [(Array.getElem?_eq_some_iff.1 ho).2, e] at this
      cases this
    split
    · rename_i hw
      simp only [hw, if_true] at h
      rcases h with h | h
      · exact wpIn_of_wp hd h
      · exact absurd h.2 hLO
    · rename_i hw
      simp only [hw] at h
      exact ⟨fun f _ => trivial, h⟩
theorem wpAnyIn_of {l : Nat} (hLO : ¬ LetsOut Q) (hnd : ops.all (fun o => match o.op with | .defer _ => false | _ => true) = true) : ∀ (fuel : Nat) (listed : Array Bool) (a : Act) (w : World), wpAnyH P .any ops Q S fuel listed a w → wpAnyIn (Fence.wide.inRound l) m P .any ops Q fuel listed a w
  | 0, _, _, _, h => h
  | fuel + 1, _, _, _, h => ⟨h.1, fun i hi => wpOpIn_mono (fun a' w' h' => wpAnyIn_of hLO hnd fuel _ a' w' h'.2) (wpOpIn_of hLO hnd (h.2 i hi))⟩
theorem cw_drawR {id l : Nat} (S : World → Prop) (hm : P.follows .mixedOrders = true) (hnd : ops.all (fun o => match o.op with | .defer _ => false | _ => true) = true) (hLO : ¬ LetsOut Q) (hS : S w.drew) (h : DW P ds n Q ops S ops.size (Array.replicate ops.size false) env w.drew) : CW (some l) m P ds n Q (.region id ops true) env w := fun a ha =>
  wpIn_region_any (F := Fence.wide.inRound l) hm (wpAnyIn_of hLO hnd _ _ _ _ (h a ha))
end
end Go.Proofs.YtalhnnjpjaeakabGreat
/- A range within a round that is left at once. -/
namespace Go.Proofs.YtalhnnjpjaeakabGreat
open Go.RowKit
open Tr
set_option linter.unusedVariables false
set_option maxRecDepth 100000
theorem bl_own {β : Type} {w : World} (p : β → Prop) : OwnFrom w.heap.size (fun (s : β) W => p s ∧ Bl w W) := fun s X Y row hs hg hrow => ⟨hs.1, Below.grown hs.2 hg hs.2.size (fun k e => (hrow k e).1)⟩
theorem cw_rangeX {m n : Nat} {Q : Exit → Act → World → Prop} {env : Env} {w : World} {g : Operand} {p q : Tmp} {id id2 l₀ : Nat} {r₀ : Loop} (hl₀ : w.heap[l₀]? = some (.loop r₀)) (gf : Nat) (lb : Array Value) (hg : ∀ fb, ev env fb g = .func (.func gf) #[] lb) (hm : 1 ≤ m) (hp : p < n) (hq : q < n) (eg : ∀ args w, (callFunc gf args).run Tryz.prog w = .ok (.enter gf args) w) (hid : id2.beq id = false)
    {S Sp : List (Value × Value) → Prop} {N : Nat} (hseq : SeqStopsK Fence.wide (m - 1) Tryz.prog gf lb (fun x : Value × Value => #[x.1, x.2]) (KpR (fun _ => False)) S Sp N w)
    (hdone : ∀ W, Bl w W → NW [] n Q .normal env W) (hstop : ∀ W, Bl w W → NW [] n Q (.exit id2) env W) :
    CW (some l₀) m Tryz.prog [] n Q (.rangeFunc g #[p, q] .skip (.block id (.exit id2))) env w := fun a ha => by
  refine wpIn_rangeFunc_ownN (F := Fence.wide.inRound l₀) rfl hl₀ hm (by rw [ha.ev]; exact hg _) trivial eg (SeqStopsK.inRound l₀ hseq) kpR_t kpR_b (Below.refl _ _) (fun x => rfl) (fun pre W => True ∧ Bl w W) (fun c pre W => c = .exit id2 ∧ Bl w W) (bl_own (fun _ => True)) (fun c => bl_own (fun _ => c = .exit id2)) ⟨trivial, Bl.refl w⟩ (fun x a' W => Frm [] n [] a') (fun x a' _ X Y row h _ _ => h) ?_ ?_ ?_ ?_
  · intro l pre x W K hi hK
    refine wpIn_skip (hK _ W (KeepsFrom.refl _ _) ⟨Nat.le_refl _, fun k cs T fr _ _ hh => hh⟩ hi ?_)
    have := fr_put (fr_put (⟨rfl, ha.sz, ha.get⟩ : Frm [] n env { tmps := a.tmps, defers := [] }) hp x.1) hq x.2
    have e : ((#[p, q] : Array Tmp).zip #[x.1, x.2]).foldl (fun t (p, v) => t.setIfInBounds p v) a.tmps = (a.tmps.setIfInBounds p x.1).setIfInBounds q x.2 := by simp
    show Frm [] n [] _
    rw [e]
    exact this.sub (env' := []) trivial
  · intro l pre x a' W _ _ hi hF _
    have hc : CW (some l) (m - 1 - 1) Tryz.prog [] n (ownPostG w.heap.size (KpR fun _ => False) (fun pre W => True ∧ Bl w W) (fun c pre W => c = .exit id2 ∧ Bl w W) (pre ++ [x]) W) (.block id (.exit id2)) [] W := by
      refine cw_block ?_
      refine cw_exit ?_
      refine nw_exit_past hid ?_
      exact fun a'' _ => ⟨KeepsFrom.refl _ _, rfl, hi.2⟩
    exact hc a' hF
  · intro xs W _ hi
    exact hdone W hi.2 a ha
  · rintro c pre W _ ⟨rfl, hi⟩
    exact (cw_exit (r := some l₀) (m := m) (P := Tryz.prog) (hstop W hi)) a ha
end Go.Proofs.YtalhnnjpjaeakabGreat
/- What stays of tries and lists while a round's cells are written. -/
namespace Go.Proofs.YtalhnnjpjaeakabGreat
open Go.RowKit
open Tr
set_option linter.unusedVariables false
set_option maxRecDepth 100000
theorem Tri.kp {U K : Nat → Prop} {M : Nat} {A B : World} {g : Nat} {t : Tr} (h : Tri K A g t) (hk : KpU U M A B) (hM : A.heap.size ≤ M) (hK : ∀ b, K b → ¬ U b) (hg : ¬ U g) : Tri K B g t := by
  obtain ⟨⟨v, h1, h2⟩, h3⟩ := h
  exact ⟨⟨v, h1.kp hk (Nat.lt_of_lt_of_le (lt_of_get h1) hM) hg, h2.kp hk hM hK⟩, h3⟩
theorem PAt.kp {U K : Nat → Prop} {M : Nat} {A B : World} {a : Option Addr} {n c : Nat} {vs : List (Value × Value)} {l : PList} (h : PAt K A a n c vs l) (hk : KpU U M A B) (hM : A.heap.size ≤ M) (hK : ∀ b, K b → ¬ U b) : PAt K B a n c vs l := by
  refine ⟨h.vl, h.ll, h.nc, h.nil, fun j u hj => ?_, fun j p e h1 h2 => ?_, h.rk⟩
  · obtain ⟨g', off, h1, h2⟩ := h.row j u hj
    have hlt : j < (flatP vs).length := (List.getElem?_eq_some_iff.1 hj).1
    rw [flatP_len, h.vl] at hlt
    obtain ⟨cs, T, fr, e⟩ := cells_of_cell h2
    have := hk.keep g' cs T fr (Nat.lt_of_lt_of_le (lt_of_get e) hM) (hK _ (h.rk _ h1 (by omega))) e
    exact ⟨g', off, h1, (World.cell?_of_block (a := ⟨g', off + j, none⟩) (this.trans e.symm)).trans h2⟩
  · obtain ⟨a1, n1, c1, a2, n2, c2, q1, q2, q3, q4⟩ := h.gd j p e h1 h2
    exact ⟨a1, n1, c1, a2, n2, c2, q1, q2, q3.kp hk hM hK, q4.kp hk hM hK⟩
theorem Sk.ne {K K' : Nat → Prop} {w : World} {g : Nat} {t : Tr} {a : Option Addr} {n c : Nat} {bs : List Int} (h : Sk K w a n c bs) (hT : Tri K' w g t) : Sk (fun b => K b ∧ b ≠ g) w a n c bs := ⟨h.ag, fun x hx hn => ⟨h.k x hx hn, by
  rcases h.ag.i with ⟨h1, h2⟩ | ⟨gb, off, h1, h2, h3, h4, h5, h7⟩
  · omega
  · rw [hx] at h1; cases h1
    intro e
    simp only at e
    subst e
    exact hT.noint _ _ _ (h7 0 (by omega))⟩⟩
theorem TA.neK {K K' : Nat → Prop} {w : World} {g : Nat} {t' : Tr} (hT : Tri K' w g t') : ∀ {t : Tr} {v : Value}, TA K w t v → TA (fun b => K b ∧ b ≠ g) w t v := by
  intro t
  induction t with
  | no => intro v h; exact h
  | leaf p x => rintro v ⟨a, n, c, a', n', c', h1, h2, h3, h4⟩; exact ⟨a, n, c, a', n', c', h1, h2.ne hT, h3.ne hT, h4⟩
  | ext p t ih => rintro v ⟨a, n, c, u, h1, h2, h3⟩; exact ⟨a, n, c, u, h1, h2.ne hT, ih h3⟩
  | br k x ih => rintro v ⟨vs, a, n, c, h1, h2, h3, h4⟩; exact ⟨vs, a, n, c, h1, fun i hi => ih i (h2 i hi), h3.ne hT, h4⟩
theorem kp_own {X Y : World} {B : Nat} {row : Option Nat} (hg : X.grownBy Y row) (hrow : ∀ r, row = some r → B ≤ r ∧ ∃ o : Obj, X.heap[r]? = some o ∧ o.isCells = false) (M : Nat) : KpU (fun _ => False) M X Y := ⟨hg.size, fun k cs T fr _ _ hh => (hg.block k (lt_of_get hh) (fun e => by
  obtain ⟨_, o, ho, hc⟩ := hrow k e.symm
  rw [hh] at ho; cases ho; cases hc)).trans hh⟩
/-- What a round leaves but the trie's block and the count's. -/
structure Tq (g gI : Nat) (W v : World) : Prop where
  os : v.os = W.os
  tape : v.tape = W.tape
  output : v.output = W.output
  size : W.heap.size ≤ v.heap.size
  block : ∀ k, k < W.heap.size → k ≠ g → k ≠ gI → v.heap[k]? = W.heap[k]?
theorem Tq.refl (g gI : Nat) (W : World) : Tq g gI W W := ⟨rfl, rfl, rfl, Nat.le_refl _, fun _ _ _ _ => rfl⟩
theorem Tq.go {g gI : Nat} {W v u : World} (h : Tq g gI W v) (hb : Below v.heap.size v u) : Tq g gI W u := ⟨hb.os.trans h.os, hb.tape.trans h.tape, hb.output.trans h.output, Nat.le_trans h.size hb.size, fun k hk h1 h2 => (hb.block k (Nat.lt_of_lt_of_le hk h.size)).trans (h.block k hk h1 h2)⟩
theorem Tq.drew {g gI : Nat} {W v : World} (h : Tq g gI W v) : Tq g gI W v.drew := h.go (Below.refl _ _).drew
theorem Tq.touch {g gI g' : Nat} {W v u : World} (h : Tq g gI W v) (t : Touch g' v u) (hg : g' = g ∨ g' = gI) : Tq g gI W u := ⟨t.os.trans h.os, t.tape.trans h.tape, t.output.trans h.output, Nat.le_trans h.size t.size, fun k hk h1 h2 => (t.block k (Nat.lt_of_lt_of_le hk h.size) (by rcases hg with e | e <;> omega)).trans (h.block k hk h1 h2)⟩
end Go.Proofs.YtalhnnjpjaeakabGreat
