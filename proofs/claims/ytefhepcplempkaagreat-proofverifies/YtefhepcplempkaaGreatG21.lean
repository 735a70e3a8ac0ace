/- What a writer writes: leaves; encodings. -/
import Derived.Test.YtefhepcplempkaaGreatG20
import Derived.Test.YtefhepcplempkaaGreatG01
import Derived.Test.YtefhepcplempkaaGreatG03
import Derived.Test.YtefhepcplempkaaGreatG13
import Derived.Test.YtefhepcplempkaaGreatG10
import Derived.ScopeJumps
set_option linter.unusedVariables false
set_option maxRecDepth 100000
namespace Go.Proofs.YtefhepcplempkaaGreat
open Go.RowKit
open Tr
theorem Zwe {n : PN} (ho : okN n) : (NEP n).1.length <= 65540 := by
 unfold NEP
 split
 ·rename_i h; exact (Zc1 ho h).2.2
 ·simp
theorem Zne (w : World) : RefAt (fun _ => True) w rz r0 := ⟨rfl, rfl, fun x hx => by rw [List.mem_replicate.1 hx |>.2]; omega, rfl, ⟨.inl ⟨rfl, rfl⟩, fun _ => ⟨rfl, rfl⟩, rfl, fun x hx => by cases hx⟩, Nat.zero_le _, fun _ _ _ _ => trivial⟩
set_option maxHeartbeats 4000000 in
theorem Zrh {w : World} {gW base : Nat} {vN : Value} {X : Nat -> Prop} {ns : List (List Int)} (hW : Wt w gW base vN X ns) {Z : Nat -> Prop} {a a' : Option Addr} {n c n' c' : Nat} {p x : List Int} (hp : Sk (KW gW vN Z) w a n c p) (hx : Sk (KW gW vN Z) w a' n' c' x) (hl1 : n <= 1000) (hl2 : n' <= 256) :
  Calls Tryz.prog 179 #[.agg #[.slice a n c, .slice a' n' c'], .pointer (some ⟨gW, 0, none⟩)] w fun e w' => ∃ u, e = .returned u /\ RNd w gW base vN X ns (leaf p x) u w' := by
 have hB := Bl.refl w
 refine Zat Tryz.func179 rfl 10 rfl ?_
 show CW _ _ _ _ _ _ _ [(0, .agg #[.slice a n c, .slice a' n' c']), (1, .pointer (some ⟨gW, 0, none⟩))] _
 refine Zac <| Zaa <| Zbk 2 (#[.slice a n c, .slice a' n' c']) 131 (fun _ => by kernel_rfl) (fun _ => by kernel_rfl) ?_
 intro w1 g2 hn3
 replace hB := hB.go hn3.below
 replace hp := hp.go hn3.below
 replace hx := hx.go hn3.below
 replace hW := hW.go hn3.below
 have hr4 : Rw g2 w1 (#[.slice a n c, .slice a' n' c']) 131 := hn3.row
 refine Zbk 4 nz.cells.toArray 68 (fun _ => by kernel_rfl) (fun _ => by kernel_rfl) ?_
 intro wN gN hnN
 refine Zad <| Zab <| Zac <| Zaa <| rp 5 (.pointer (some ⟨g2, 0, none⟩)) <| rv 6 (.slice a n c) (fun _ => Zai 23 _ ⟨g2, 0, none⟩ _ _ rfl (by kernel_rfl) (by rw [cell_of_row _ _ _ _ _ _ (hr4.go hnN.below)]; rfl) Tryz.underlying23 rfl) <| rp 7 (.pointer (some ⟨g2, 1, none⟩)) <| rv 8 (.slice a' n' c') (fun _ => Zai 23 _ ⟨g2, 1, none⟩ _ _ rfl (by kernel_rfl) (by rw [cell_of_row _ _ _ _ _ _ (hr4.go hnN.below)]; rfl) Tryz.underlying23 rfl) <| rv 9 (.agg (NV.cells ⟨1, a, n, c, a', n', c', rz, none, 0, 0⟩).toArray) (fun _ => Zfk 68 _ [(0, .int .i64 1), (1, .slice a n c), (2, .slice a' n' c')] _ rfl (by kernel_rfl) (Zg2 _ _ _ _ _ _)) <| Zcy gN (NV.cells ⟨1, a, n, c, a', n', c', rz, none, 0, 0⟩).toArray (fun _ => by kernel_rfl) (fun _ => Za9 68 _ _ _ _ _ _ rfl (by kernel_rfl) (by kernel_rfl) hnN.row (by kernel_rfl) (by kernel_rfl) (by kernel_rfl)) ?_
 intro wC hpC
 have hnC := hnN.put hpC
 replace hB := hB.go hnC.below
 replace hp := hp.go hnC.below
 replace hx := hx.go hnC.below
 replace hW := hW.go hnC.below
 have hrC : Rw gN wC (NV.cells ⟨1, a, n, c, a', n', c', rz, none, 0, 0⟩).toArray 68 := hnC.row
 refine Zad <| Zab <| Zao ?_
 have lp := hp.len
 have lx := hx.len
 exact Zae (.agg (NV.cells ⟨1, a, n, c, a', n', c', rz, none, 0, 0⟩).toArray) (fun _ => Zk8 Tryz.results179 _ gN ⟨1, a, n, c, a', n', c', rz, none, 0, 0⟩ rfl (by kernel_rfl) hrC) ⟨_, rfl, ⟨1, a, n, c, a', n', c', rz, none, 0, 0⟩, vN, rfl, ⟨rfl, hp.agk (by omega), hx.agk (by omega), Zne _, ⟨rfl, Nat.le_refl _, Nat.zero_le _, Nat.zero_le _, fun _ => ⟨rfl, rfl⟩⟩, fun j r hr => by simp [nodeP] at hr⟩, (by rw [show nmd (leaf p x) = [] from rfl, List.append_nil]; exact hW), Wg.of_below hB⟩
set_option maxHeartbeats 4000000 in
theorem Zph {w : World} {gW base : Nat} {vN : Value} {X : Nat -> Prop} {ns : List (List Int)} {t : Tr} (hne : t ≠ no) {T0 : TypeId} {v0 : Value} (hm : MC "pergola/trie.node" (.iface T0 v0) #[.pointer (some ⟨gW, 0, none⟩)] w (RNd w gW base vN X ns t)) :
  Calls Tryz.prog 40 #[.pointer (some ⟨gW, 0, none⟩), .iface T0 v0] w fun e w' => ∃ u, e = .returned u /\ REn w gW base vN X ns t u w' := by
 have hB := Bl.refl w
 refine Zat Tryz.func40 rfl 15 rfl ?_
 show CW _ _ _ _ _ _ _ [(0, .pointer (some ⟨gW, 0, none⟩)), (1, .iface T0 v0)] _
 refine Zac <| Zaa <| rp 4 (.slice none 0 0) <| Zad <| Zab <| Zac <| Zaa <| rp 8 (.iface T0 v0) <| rp 9 (.pointer (some ⟨gW, 0, none⟩)) ?_
 obtain ⟨T3, x4, f5, he6, hi1, hc2⟩ := hm
 refine Zav 10 f5 (#[x4] ++ #[.pointer (some ⟨gW, 0, none⟩)]) (fun _ => by kernel_rfl) (fun _ => hi1 _ _ _ _ _ _ _ rfl (by kernel_rfl) (by kernel_rfl)) (R := RNd w gW base vN X ns t) ?_ ?_
 ·exact hc2
 rintro _ u1 ⟨y, vM, rfl, hN, hW1, hG⟩
 refine Zav 11 55 #[.agg y.cells.toArray] (fun _ => by kernel_rfl) (fun _ => by kernel_rfl) (R := fun u w' => ∃ a m c, u = .tuple #[.slice a m c, .int .i64 ((NEP (nodeP t)).2 : Nat)] /\ Sk (fun b => u1.heap.size <= b) w' a m c (NEP (nodeP t)).1 /\ Bl u1 w') ((Zh2 (fun _ => True) y (nodeP t) u1 hN).mono (fun e w' h => by obtain ⟨⟨a, m, c, e1, h1, h2⟩, h3⟩ := h; exact ⟨_, e1, a, m, c, rfl, ⟨h1, fun q hq hn => by rcases h1.i with ⟨q1, q2⟩ | ⟨gb, off, q1, _⟩; omega; rw [hq] at q1; cases q1; exact (h2 gb off hq hn).1⟩, h3⟩)) ?_
 rintro _ u2 ⟨a2, n2, c2, rfl, hs2, hb2⟩
 refine rp 7 (.tuple #[.slice a2 n2 c2, .int .i64 ((NEP (nodeP t)).2 : Nat)]) <| rp 12 (.slice a2 n2 c2) <| rp 13 (.int .i64 ((NEP (nodeP t)).2 : Nat)) <| rp 5 (.slice a2 n2 c2) <| rp 6 (.int .i64 ((NEP (nodeP t)).2 : Nat)) <| Zad <| Zab <| Zac <| Zaa <| rp 14 (.slice a2 n2 c2) <| rp 4 (.slice a2 n2 c2) <| Zad ?_
 refine Zab <| Zao ?_
 exact Zae (.slice a2 n2 c2) (fun _ => by kernel_rfl) ⟨_, rfl, a2, n2, c2, vM, rfl, (by rw [Zif hne]; exact hs2.fresh (K := fun _ => True) hW1 hG.size), hW1.go hb2, hG.trans (Wg.of_below hb2), (by rw [Zif hne]; exact Zwe hN.okN)⟩
theorem Zb2 {y : RV} (h : y.d.length = 32) : y.cells.toArray.size = 34 := by rw [List.size_toArray, RV.len h]
theorem Zd8 (y : RV) : y.cells.toArray.all (·.oneCell') = true := all_oneCell_toArray (RV.one y)
structure Rf (K : Nat -> Prop) (w : World) (y : RV) (r : PR) : Prop where
 at' : RefAt K w y r
def RRf (w : World) (gW base : Nat) (vN : Value) (X : Nat -> Prop) (ns : List (List Int)) (t : Tr) : Value -> World -> Prop := fun u w' => ∃ (y : RV) (vN' : Value), u = .agg y.cells.toArray /\ Rf (KW gW vN' (fun b => w.heap.size < b)) w' y (referP (encT t)) /\ Wt w' gW base vN' X (ns ++ (nmd t ++ nm1 (encT t))) /\ Wg w w' gW vN vN'
theorem Zjf (y : NV) : y.cells.toArray.all (·.oneCell') = true := all_oneCell_toArray (NV.one y)
end Go.Proofs.YtefhepcplempkaaGreat
namespace Go.Proofs.YtefhepcplempkaaGreat
open Go.RowKit
theorem Sk.keep {K L : Nat -> Prop} {w w' : World} {a : Option Addr} {n c : Nat} {bs : List Int} (h : Sk K w a n c bs) (hk : Keep K L w w') : Sk L w' a n c bs := by
 refine ⟨Zkq h.ag (fun g off e h0 hl => (hk g (h.k _ e h0) hl).1), fun x hx h0 => ?_⟩
 exact (hk _ (h.k x hx h0) (h.old hx h0)).2
theorem Zdy {K : Nat -> Prop} {w w' : World} (h : Bl w w') : Keep K K w w' := fun g hg hl => ⟨Below.block h g hl, hg⟩
theorem Zv3 (y : RV) : y.cells.toArray[0]? = some (.int .i64 y.k) := by simp [RV.cells]
theorem Zuu {y : RV} (h : y.d.length = 32) : y.cells.toArray[33]? = some (.slice y.a y.n y.c) := by
 rw [List.getElem?_toArray, RV.cells, List.getElem?_cons_succ, List.getElem?_append_right (by simp [h])]
 simp [h]
theorem Zxq {w : World} {g o : Nat} {y : RV} (h : w.rangeAt g o y.cells) (hl : y.d.length = 32) : w.rangeAt g (o + 1) (y.d.map (Value.int .u8)) := fun j v hj => by
 have hlt : j < y.d.length := by have := (List.getElem?_eq_some_iff.1 hj).1; simpa using this
 rw [show o + 1 + j = o + (j + 1) from by omega]
 refine h (j + 1) v ?_
 rw [RV.cells, List.getElem?_cons_succ, List.getElem?_append_left (by simpa using hlt)]
 exact hj
theorem Zi4 {w : World} {g : Nat} {cs : List Value} {T : TypeId} (h : Rw g w cs.toArray T) : w.rangeAt g 0 cs := fun j v hj => by
 rw [cell_of_row _ _ _ _ _ _ h, Nat.zero_add, List.getElem?_toArray]; exact hj
theorem Zc6 (z : NV) : z.cells.toArray[0]? = some (.int .i64 z.k) := by simp [NV.cells]
theorem Zll (z : NV) : z.cells.toArray[1]? = some (.slice z.pa z.pn z.pc) := by simp [NV.cells]
theorem Zto (z : NV) : z.cells.toArray[2]? = some (.slice z.va z.vn z.vc) := by simp [NV.cells]
theorem Zre {z : NV} (h : z.c.d.length = 32) : z.cells.toArray[37]? = some (.slice z.ka z.kn z.kc) := by
 rw [List.getElem?_toArray, NV.cells, show (37 : Nat) = 34 + 1 + 1 + 1 from rfl, List.getElem?_cons_succ, List.getElem?_cons_succ, List.getElem?_cons_succ, List.getElem?_append_right (by rw [RV.len h]; omega)]
 simp [RV.len h]
theorem Zrd {w : World} {g : Nat} {z : NV} {T : TypeId} (h : Rw g w z.cells.toArray T) (hl : z.c.d.length = 32) : w.rangeAt g 3 z.c.cells := fun j v hj => by
 have hlt : j < 34 := by have := (List.getElem?_eq_some_iff.1 hj).1; rw [RV.len hl] at this; exact this
 rw [cell_of_row _ _ _ _ _ _ h, List.getElem?_toArray, NV.cells, show 3 + j = j + 1 + 1 + 1 from by omega, List.getElem?_cons_succ, List.getElem?_cons_succ, List.getElem?_cons_succ, List.getElem?_append_left (by rw [RV.len hl]; exact hlt)]
 exact hj
end Go.Proofs.YtefhepcplempkaaGreat
namespace Go.Proofs.YtefhepcplempkaaGreat
open Go.RowKit
open Tr
open Di (dref)
def opP (r : PR) (l : List (List Int)) : Option (PN × List (List Int)) :=
 if r.k = 2 then (match l with
  | [] => none
  | b :: l' => if dref b = r.d then (ND b).map fun n => (n, l') else none)
 else (ND r.i).map fun n => (n, l)
def kidP (n : PN) (p : List Int) : PR := n.ks.getD (p.getD 0 0).toNat r0
def foP (n : PN) (p : List Int) : Option (PR × List Int) :=
 if n.k = 3 /\ 0 < p.length then (if (kidP n p).k = 0 then none else some (kidP n p, p.drop 1))
 else if n.k = 2 /\ p.take n.p.length = n.p then some (n.c, p.drop n.p.length) else none
def vaP (n : PN) (p : List Int) : List Int := if n.p = p then n.v else []
def veP : Nat -> PR -> List Int -> List (List Int) -> Bool -> Option (List Int)
 | 0, _, _, _, _ => none
 | f + 1, r, p, l, ex => match opP r l with
  | none => none
  | some (n, l') => if ex = true /\ n.k ≠ 3 then none else match foP n p with
   | some (r', p') => veP f r' p' l' (decide (n.k = 2))
   | none => if l' = [] then some (vaP n p) else none
theorem Zq2 {ρ : Operand -> Value} {w : World} {x y : Operand} {o : Oper} {ds es : List Int} (ho : o.op = .binOp .eql 35 x y 35) (hx : ρ x = .agg (B8 ds)) (hy : ρ y = .agg (B8 es)) (h1 : ds.length = 32) (h2 : es.length = 32) : (execOp ρ o).run Tryz.prog w = .ok (.value (.bool (ds == es))) w := by
 have e := eqD ds es h1 h2 w
 unfold execOp
 rw [ho]
 simp only [hx, hy]
 go_simp
theorem Zq0 {ρ : Operand -> Value} {w : World} {x y : Operand} {o : Oper} {ds es : List Int} (ho : o.op = .binOp .neq 35 x y 35) (hx : ρ x = .agg (B8 ds)) (hy : ρ y = .agg (B8 es)) (h1 : ds.length = 32) (h2 : es.length = 32) : (execOp ρ o).run Tryz.prog w = .ok (.value (.bool (!(ds == es)))) w := by
 have e := eqD ds es h1 h2 w
 unfold execOp
 rw [ho]
 simp only [hx, hy]
 go_simp
theorem Bt.tail {K : Nat -> Prop} {w : World} {a : Option Addr} {n c : Nat} {b : List Int} {M : List (List Int)} (h : Bt K w a n (b :: M)) (hc : n <= c) : Bt K w (if c = 1 then a else a.map (·.add (1 * 1))) (n - 1) M := by
 have hl := h.len
 simp only [List.length_cons] at hl
 refine ⟨by omega, fun j hj => ?_⟩
 obtain ⟨g, off, a', n', c', h1, h2, h3⟩ := h.row (j + 1) (by omega)
 refine ⟨g, off + 1, a', n', c', ?_, ?_, by simpa using h3⟩
 ·rw [if_neg (by omega), h1, Option.map_some, Zaz, Nat.mul_one]
 ·rw [show off + 1 + j * 1 = off + (j + 1) * 1 from by omega]; exact h2
theorem Zq3 {ρ : Operand -> Value} {w : World} {o : Oper} {a : Option Addr} {n c : Nat} (f : Nat) (x y : Operand) (ho : o.op = .slice 28 x (some y) none none) (hx : ρ x = .slice a n c) {i : Int} (hy : ρ y = .int .i64 i) (hi : i = f) (hf : f <= n) : (execOp ρ o).run Tryz.prog w = .ok (.value (.slice (if c = f then a else a.map (·.add (f * 1))) (n - f) (c - f))) w := by
 subst hi
 unfold execOp
 rw [ho]
 simp [hx, hy, Instr.sliceAt, run_underlying Tryz.underlying28, Instr.slice, Instr.sliceBounds, Instr.sliceBound, asIntOf, hf, Result.andThen]
theorem Zfy {fn : Func} {p q r : Tmp} {f : Nat -> Value} (h : fn.results = #[.cell p 68, .tmp q, .tmp r]) (w : World) (g : Nat) (y : NV) (hl : y.c.d.length = 32) (hp : f p = .pointer (some ⟨g, 0, none⟩)) {u v : Value} (hq : f q = u) (hr : f r = v) (hg : Rw g w y.cells.toArray 68) : (resF f fn.results).run Tryz.prog w = .ok (.tuple #[.agg y.cells.toArray, u, v]) w := by
 have := run_loadVar_row (P := Tryz.prog) w g 68 68 _ _ _ hg Tryz.underlying68 rfl (by rw [Zdz, Zcl hl])
 unfold resF
 rw [h]
 simp [hp, hq, hr, this, asAddr]
theorem Zdg {fn : Func} {p q r : Tmp} {f : Nat -> Value} (h : fn.results = #[.cell p 65, .tmp q, .tmp r]) (w : World) (g : Nat) (y : RV) (hl : y.d.length = 32) (hp : f p = .pointer (some ⟨g, 0, none⟩)) {u v : Value} (hq : f q = u) (hr : f r = v) (hg : Rw g w y.cells.toArray 65) : (resF f fn.results).run Tryz.prog w = .ok (.tuple #[.agg y.cells.toArray, u, v]) w := by
 have := run_loadVar_row (P := Tryz.prog) w g 65 65 _ _ _ hg Tryz.underlying65 rfl (by rw [Zb9, List.size_toArray, RV.len hl])
 unfold resF
 rw [h]
 simp [hp, hq, hr, this, asAddr]
section
variable {m : Nat} {P : Program} {ds : List Deferred} {n : Nat} {Q : Exit → Act → World → Prop} {env : Env} {w : World}
theorem Zt3 {c B : Code} {X : Type} (l : Nat) (E : X -> Env) (R : X -> World -> Prop) (μ : X -> Nat) (hf : findLabel c l = some (.seq .skip B))
  (first : ∀ Q', (∀ x v, R x v -> CW none m P ds n Q' B (E x) v) -> CW none m P ds n Q' c env w)
  (pass : ∀ x v, R x v -> CW none m P ds n (Exit.jump l (fun a' w' => ∃ x', μ x' < μ x /\ Frm ds n (E x') a' /\ R x' w') Q) B (E x) v) : CW none m P ds n Q (.scope c) env w := fun a ha => by
 refine wpIn_wide.2 ?_
 have hB : ∀ x v a, Frm ds n (E x) a -> R x v -> (Code.seq .skip B).wp P (Exit.jump l (fun a' w' => ∃ x', μ x' < μ x /\ Frm ds n (E x') a' /\ R x' w') Q) a v := fun x v a hF hR => wp_seq (wp_skip (wpIn_wide.1 (pass x v hR a hF)))
 have hm : ∀ {J J' : Act -> World -> Prop} {Q : Exit -> Act -> World -> Prop} {c : Code} {a w}, (∀ a w, J a w -> J' a w) -> c.wp P (Exit.jump l J Q) a w -> c.wp P (Exit.jump l J' Q) a w := fun hj h => wp_mono h (fun e a w hq => by
  cases e with
  | goto l' => exact ⟨hq.1, hj _ _ hq.2⟩
  | _ => exact hq)
 refine wp_scope_jumps l (fun a w => ∃ k x, μ x = k /\ Frm ds n (E x) a /\ R x w) (fun a w => leastOf (fun k => ∃ x, μ x = k /\ Frm ds n (E x) a /\ R x w)) hf ?_ ?_
 ·exact wpIn_wide.1 (first _ (fun x v hR a hF => wpIn_wide.2 (hm (fun a w ⟨x', _, h1, h2⟩ => ⟨_, x', rfl, h1, h2⟩) (wpIn_wide.1 (pass x v hR a hF)))) a ha)
 ·intro a w hJ
  obtain ⟨x, hx, hF, hR⟩ := (leastOf_spec (p := fun k => ∃ x, μ x = k /\ Frm ds n (E x) a /\ R x w) hJ).1
  refine hm ?_ (hB x w a hF hR)
  rintro a' w' ⟨x', hlt, h1, h2⟩
  exact ⟨⟨_, x', rfl, h1, h2⟩, Nat.lt_of_le_of_lt ((leastOf_spec (p := fun k => ∃ x, μ x = k /\ Frm ds n (E x) a' /\ R x w') ⟨_, x', rfl, h1, h2⟩).2 _ ⟨x', rfl, h1, h2⟩) (by rw [<- hx]; exact hlt)⟩
theorem Zsa {l : Nat} (h : NW ds n Q (.goto l) env w) : CW none m P ds n Q (.goto l) env w := fun a ha => wpIn_goto (h a ha)
theorem Zgf {K : Act -> World -> Prop} {l : Nat} (h : NW ds n Q (.goto l) env w) : NW ds n (Exit.then K Q) (.goto l) env w := h
theorem Zcj {l : Nat} {J : Act -> World -> Prop} (h : NW ds n Q .ret env w) : NW ds n (Exit.jump l J Q) .ret env w := h
theorem Zq6 {X : Type} {E : X -> Env} {R : X -> World -> Prop} {μ : X -> Nat} {x : X} {l : Nat} (x' : X) (hE : SubE env (E x')) (hR : R x' w) (hm : μ x' < μ x) :
  NW ds n (Exit.jump l (fun a' w' => ∃ x', μ x' < μ x /\ Frm ds n (E x') a' /\ R x' w') Q) (.goto l) env w := fun a ha => ⟨rfl, x', hm, ha.sub hE, hR⟩
end
def OpR (w : World) (ai : Option Addr) (ni : Nat) (Mi : List (List Int)) (o : Option (PN × List (List Int))) : Value -> World -> Prop := fun u w' => (∃ (z : NV) (a : Option Addr) (n c : Nat), u = .tuple #[.agg z.cells.toArray, .slice a n c, .bool o.isSome] /\ z.c.d.length = 32 /\ ∀ N M, o = some (N, M) -> NodeAt (Own w.heap.size w') w' z N /\ (∀ K0 w0, Bt K0 w0 ai ni Mi -> Bt K0 w0 a n M) /\ n <= c) /\ Bl w w'
def FoR (K : Nat -> Prop) (w : World) (o : Option (PR × List Int)) : Value -> World -> Prop := fun u w' => (∃ (y : RV) (a : Option Addr) (n c : Nat), u = .tuple #[.agg y.cells.toArray, .slice a n c, .bool o.isSome] /\ y.d.length = 32 /\ ∀ r p, o = some (r, p) -> RefAt K w' y r /\ Sk K w' a n c p) /\ Bl w w'
end Go.Proofs.YtefhepcplempkaaGreat
