/- What a writer writes: extensions. -/
import Derived.Test.YtefhepcplempkaaGreatG23
import Derived.Test.YtefhepcplempkaaGreatG00
import Derived.Test.YtefhepcplempkaaGreatG02
import Derived.Test.YtefhepcplempkaaGreatG03
import Derived.Test.YtefhepcplempkaaGreatG11
import Derived.Test.YtefhepcplempkaaGreatG19
import Derived.Test.YtefhepcplempkaaGreatG21
import Derived.ScopeJumps
set_option linter.unusedVariables false
set_option maxRecDepth 100000
namespace Go.Proofs.YtefhepcplempkaaGreat
open Go.RowKit
open Tr
theorem Sk.aged {X : Nat -> Prop} {w : World} {gW : Nat} {vN : Value} {a : Option Addr} {n c : Nat} {bs : List Int} (h : Sk (KW gW vN X) w a n c bs) : Sk (KW gW vN (fun b => b < w.heap.size)) w a n c bs := ⟨h.ag, fun x hx hn => by have hk := h.k x hx hn; exact ⟨hk.1, hk.2.1, h.old hx hn⟩⟩
theorem Wg.drew {a b : World} {gW : Nat} {vN vN' : Value} (h : Wg a b gW vN vN') : Wg a b.drew gW vN vN' := h.go (Below.refl _ _).drew
theorem Zmh (w : World) : AgK (fun _ => True) w none 0 0 [] := ⟨⟨.inl ⟨rfl, rfl⟩, fun _ => ⟨rfl, rfl⟩, rfl, fun x hx => by cases hx⟩, Nat.zero_le _, fun _ _ _ _ => trivial⟩
theorem Zdy (y : NV) : y.cells.toArray.all (·.oneCell') = true := all_oneCell_toArray (NV.one y)
set_option maxHeartbeats 4000000 in
theorem Zr5 {w : World} {gW base : Nat} {vN : Value} {X : Nat -> Prop} {ns : List (List Int)} (hW : Wt w gW base vN X ns) {Z : Nat -> Prop} {a : Option Addr} {n c : Nat} {p : List Int} {t : Tr} {Tu : TypeId} {xu : Value} (hp : Sk (KW gW vN Z) w a n c p) (hl1 : n <= 1000) (hX : ∀ b, w.heap.size <= b -> X b) (hR : ∀ v, Bl w v -> ∀ Y : Nat -> Prop, Wt v gW base vN Y ns -> (∀ b, v.heap.size <= b -> Y b) -> Calls Tryz.prog 194 #[.pointer (some ⟨gW, 0, none⟩), .iface Tu xu] v fun e w' => ∃ u, e = .returned u /\ RRf v gW base vN Y ns t u w') :
  Calls Tryz.prog 197 #[.agg #[.slice a n c, .iface Tu xu], .pointer (some ⟨gW, 0, none⟩)] w fun e w' => ∃ u, e = .returned u /\ RNd w gW base vN X ns (ext p t) u w' := by
 have hB := Bl.refl w
 replace hp := hp.aged
 have hW0 := hW
 refine Zal Tryz.func197 rfl 12 rfl ?_
 show CW _ _ _ _ _ _ _ [(0, .agg #[.slice a n c, .iface Tu xu]), (1, .pointer (some ⟨gW, 0, none⟩))] _
 refine Zac <| Zaa <| Zaz 2 (#[.slice a n c, .iface Tu xu]) 226 (fun _ => by kernel_rfl) (fun _ => by kernel_rfl) ?_
 intro w1 g2 hn3
 replace hB := hB.go hn3.below
 replace hp := hp.go hn3.below
 replace hW := hW.go hn3.below
 have hr4 : Rw g2 w1 (#[.slice a n c, .iface Tu xu]) 226 := hn3.row
 have hgb := hn3.hg
 have hsb := hn3.size
 refine Zaz 4 nz.cells.toArray 68 (fun _ => by kernel_rfl) (fun _ => by kernel_rfl) ?_
 intro wN gN hnN
 replace hB := hB.go hnN.below
 replace hp := hp.go hnN.below
 replace hW := hW.go hnN.below
 replace hr4 := hr4.go hnN.below
 have hrN : Rw gN wN nz.cells.toArray 68 := hnN.row
 have hgN := hnN.hg
 have hsN := hnN.size
 have hWX : Wt wN gW base vN (fun b => X b /\ b ≠ gN) ns := (hW0.mono (Y := fun b => X b /\ b ≠ gN) (fun b hb hx => ⟨hx, by omega⟩)).go hB
 refine Zad <| Zab <| Zac <| Zav (fun v => Rw g2 v (#[.slice a n c, .iface Tu xu]) 226) (by kernel_rfl) (hr4.drew) ?_
 replace hB := hB.drew
 replace hp := hp.drew
 replace hW := hW.drew
 replace hr4 := hr4.drew
 replace hrN := hrN.drew
 replace hWX := hWX.drew
 refine dt 0 5 (.pointer (some ⟨g2, 0, none⟩)) (fun v hv _ => by kernel_rfl) hr4 <| dt 1 6 (.slice a n c) (fun v hv _ => Zag 23 _ ⟨g2, 0, none⟩ _ _ rfl (by kernel_rfl) (by rw [cell_of_row _ _ _ _ _ _ hv]; rfl) Tryz.underlying23 rfl) hr4 <| dt 2 7 (.pointer (some ⟨gW, 0, none⟩)) (fun v hv _ => by kernel_rfl) hr4 <| dt 3 8 (.pointer (some ⟨g2, 1, none⟩)) (fun v hv _ => by kernel_rfl) hr4 <| dt 4 9 (.iface Tu xu) (fun v hv _ => Zag 74 _ ⟨g2, 1, none⟩ _ _ rfl (by kernel_rfl) (by rw [cell_of_row _ _ _ _ _ _ hv]; rfl) Tryz.underlying74 rfl) hr4 <| Zaf [5] (by kernel_rfl) (by simp) ?_
 refine Zas 5 10 194 #[.pointer (some ⟨gW, 0, none⟩), .iface Tu xu] rfl (fun _ => by kernel_rfl) (fun _ => by kernel_rfl) (R := RRf (wN.drew) gW base vN (fun b => X b /\ b ≠ gN) ns t) (hR (wN.drew) hB (fun b => X b /\ b ≠ gN) hWX (fun b hb => ⟨hX b (Nat.le_trans hB.size hb), fun e => by have hq : gN < (wN.drew).heap.size := lt_of_get hrN; omega⟩)) (fun u w' h => by obtain ⟨_, _, _, _, _, hg⟩ := h; exact hr4.wg hg hWX (by decide) (by decide)) ?_ Zan
 rintro _ u1 ⟨y, vM, rfl, hRf, hW1, hG⟩
 have hq1 : gN < _ := lt_of_get hrN
 replace hr4 := hr4.wg hG hWX (by decide) (by decide)
 replace hrN := hrN.wg hG hWX (by decide) (by decide)
 have hGt := (Wg.of_below hB).trans hG
 replace hp := hp.wg hG
 have hyl := hRf.at'.len
 clear hB hW hWX
 refine dt 6 11 (.agg (NV.cells ⟨2, a, n, c, none, 0, 0, y, none, 0, 0⟩).toArray) (fun v hv _ => Zdh 68 _ [(0, .int .i64 2), (1, .slice a n c), (3, .agg y.cells.toArray)] _ rfl (by kernel_rfl) (Zgu _ _ _ _ hyl)) hr4 <| Zaf [7] (by kernel_rfl) (by simp) ?_
 refine Zgd 7 gN ((NV.cells ⟨2, a, n, c, none, 0, 0, y, none, 0, 0⟩).toArray) rfl (fun _ => by kernel_rfl) (fun _ => Zat 68 _ _ _ _ _ _ rfl (by kernel_rfl) (by kernel_rfl) hrN (by rw [Zcd, Zbi (y := ⟨2, a, n, c, none, 0, 0, y, none, 0, 0⟩) hyl]) (by rw [Zbi (y := ⟨2, a, n, c, none, 0, 0, y, none, 0, 0⟩) hyl]; rfl) (Zdy _)) (fun w' h => (h.other (by omega)).trans hr4) ?_ Zan
 intro w5 hp6
 have hrE : Rw gN w5 (NV.cells ⟨2, a, n, c, none, 0, 0, y, none, 0, 0⟩).toArray 68 := hp6.row hrN
 have hRE := hRf.put hp6 (fun b hb => by have := hb.2.2; omega)
 have hpE := hp.put hp6 (fun b hb => by have := hb.2.2; omega)
 have hWE := (hW1.put hrN (by decide) (by decide) (fun b hb => hb.2) hp6).mono (fun b _ hb => hb.1)
 have hGE := hGt.put hp6 (by omega)
 refine Zar (by kernel_rfl) <| Zab <| Zam ?_
 have lp := hpE.len
 exact Zae (.agg (NV.cells ⟨2, a, n, c, none, 0, 0, y, none, 0, 0⟩).toArray) (fun _ => Zck Tryz.results197 _ gN ⟨2, a, n, c, none, 0, 0, y, none, 0, 0⟩ hyl (by kernel_rfl) hrE) ⟨_, rfl, ⟨2, a, n, c, none, 0, 0, y, none, 0, 0⟩, vM, rfl, ⟨rfl, hpE.agk (by omega), Zmh _, hRE.at'.go (fun b hb _ => ⟨rfl, trivial⟩), ⟨rfl, Nat.le_refl _, Nat.zero_le _, Nat.zero_le _, fun _ => ⟨rfl, rfl⟩⟩, fun j r hr => by simp [nodeP] at hr⟩, hWE, hGE⟩
end Go.Proofs.YtefhepcplempkaaGreat
namespace Go.Proofs.YtefhepcplempkaaGreat
open Go.RowKit
theorem Sk.keep {K L : Nat -> Prop} {w w' : World} {a : Option Addr} {n c : Nat} {bs : List Int} (h : Sk K w a n c bs) (hk : Keep K L w w') : Sk L w' a n c bs := by
 refine ⟨Zmi h.ag (fun g off e h0 hl => (hk g (h.k _ e h0) hl).1), fun x hx h0 => ?_⟩
 exact (hk _ (h.k x hx h0) (h.old hx h0)).2
theorem Zfr {K : Nat -> Prop} {w w' : World} (h : Bl w w') : Keep K K w w' := fun g hg hl => ⟨Below.block h g hl, hg⟩
theorem Zzk (y : RV) : y.cells.toArray[0]? = some (.int .i64 y.k) := by simp [RV.cells]
theorem Zzj {y : RV} (h : y.d.length = 32) : y.cells.toArray[33]? = some (.slice y.a y.n y.c) := by
 rw [List.getElem?_toArray, RV.cells, List.getElem?_cons_succ, List.getElem?_append_right (by simp [h])]
 simp [h]
theorem r_dig {w : World} {g o : Nat} {y : RV} (h : w.rangeAt g o y.cells) (hl : y.d.length = 32) : w.rangeAt g (o + 1) (y.d.map (Value.int .u8)) := fun j v hj => by
 have hlt : j < y.d.length := by have := (List.getElem?_eq_some_iff.1 hj).1; simpa using this
 rw [show o + 1 + j = o + (j + 1) from by omega]
 refine h (j + 1) v ?_
 rw [RV.cells, List.getElem?_cons_succ, List.getElem?_append_left (by simpa using hlt)]
 exact hj
theorem Zof {w : World} {g : Nat} {cs : List Value} {T : TypeId} (h : Rw g w cs.toArray T) : w.rangeAt g 0 cs := fun j v hj => by
 rw [cell_of_row _ _ _ _ _ _ h, Nat.zero_add, List.getElem?_toArray]; exact hj
theorem Zl5 (z : NV) : z.cells.toArray[0]? = some (.int .i64 z.k) := by simp [NV.cells]
theorem Zxv (z : NV) : z.cells.toArray[1]? = some (.slice z.pa z.pn z.pc) := by simp [NV.cells]
theorem n_at2 (z : NV) : z.cells.toArray[2]? = some (.slice z.va z.vn z.vc) := by simp [NV.cells]
theorem Zq7 {z : NV} (h : z.c.d.length = 32) : z.cells.toArray[37]? = some (.slice z.ka z.kn z.kc) := by
 rw [List.getElem?_toArray, NV.cells, show (37 : Nat) = 34 + 1 + 1 + 1 from rfl, List.getElem?_cons_succ, List.getElem?_cons_succ, List.getElem?_cons_succ, List.getElem?_append_right (by rw [RV.len h]; omega)]
 simp [RV.len h]
theorem Zxu {w : World} {g : Nat} {z : NV} {T : TypeId} (h : Rw g w z.cells.toArray T) (hl : z.c.d.length = 32) : w.rangeAt g 3 z.c.cells := fun j v hj => by
 have hlt : j < 34 := by have := (List.getElem?_eq_some_iff.1 hj).1; rw [RV.len hl] at this; exact this
 rw [cell_of_row _ _ _ _ _ _ h, List.getElem?_toArray, NV.cells, show 3 + j = j + 1 + 1 + 1 from by omega, List.getElem?_cons_succ, List.getElem?_cons_succ, List.getElem?_cons_succ, List.getElem?_append_left (by rw [RV.len hl]; exact hlt)]
 exact hj
end Go.Proofs.YtefhepcplempkaaGreat
namespace Go.Proofs.YtefhepcplempkaaGreat
open Go.RowKit
open Tr
open Di (dref)
def opP (r : PR) (l : List (List Int)) : Option (PN × List (List Int)) :=
 if r.k = 2 then (match l with
  | [] => none
  | b :: l' => if dref b = r.d then (ND b).map fun n => (n, l') else none)
 else (ND r.i).map fun n => (n, l)
def kidP (n : PN) (p : List Int) : PR := n.ks.getD (p.getD 0 0).toNat r0
def foP (n : PN) (p : List Int) : Option (PR × List Int) :=
 if n.k = 3 /\ 0 < p.length then (if (kidP n p).k = 0 then none else some (kidP n p, p.drop 1))
 else if n.k = 2 /\ p.take n.p.length = n.p then some (n.c, p.drop n.p.length) else none
def vaP (n : PN) (p : List Int) : List Int := if n.p = p then n.v else []
def veP : Nat -> PR -> List Int -> List (List Int) -> Bool -> Option (List Int)
 | 0, _, _, _, _ => none
 | f + 1, r, p, l, ex => match opP r l with
  | none => none
  | some (n, l') => if ex = true /\ n.k ≠ 3 then none else match foP n p with
   | some (r', p') => veP f r' p' l' (decide (n.k = 2))
   | none => if l' = [] then some (vaP n p) else none
theorem Zxk {ρ : Operand -> Value} {w : World} {x y : Operand} {o : Oper} {ds es : List Int} (ho : o.op = .binOp .eql 35 x y 35) (hx : ρ x = .agg (B8 ds)) (hy : ρ y = .agg (B8 es)) (h1 : ds.length = 32) (h2 : es.length = 32) : (execOp ρ o).run Tryz.prog w = .ok (.value (.bool (ds == es))) w := by
 have e := eqD ds es h1 h2 w
 unfold execOp
 rw [ho]
 simp only [hx, hy]
 go_simp
theorem Zxj {ρ : Operand -> Value} {w : World} {x y : Operand} {o : Oper} {ds es : List Int} (ho : o.op = .binOp .neq 35 x y 35) (hx : ρ x = .agg (B8 ds)) (hy : ρ y = .agg (B8 es)) (h1 : ds.length = 32) (h2 : es.length = 32) : (execOp ρ o).run Tryz.prog w = .ok (.value (.bool (!(ds == es)))) w := by
 have e := eqD ds es h1 h2 w
 unfold execOp
 rw [ho]
 simp only [hx, hy]
 go_simp
theorem Bt.tail {K : Nat -> Prop} {w : World} {a : Option Addr} {n c : Nat} {b : List Int} {M : List (List Int)} (h : Bt K w a n (b :: M)) (hc : n <= c) : Bt K w (if c = 1 then a else a.map (·.add (1 * 1))) (n - 1) M := by
 have hl := h.len
 simp only [List.length_cons] at hl
 refine ⟨by omega, fun j hj => ?_⟩
 obtain ⟨g, off, a', n', c', h1, h2, h3⟩ := h.row (j + 1) (by omega)
 refine ⟨g, off + 1, a', n', c', ?_, ?_, by simpa using h3⟩
 ·rw [if_neg (by omega), h1, Option.map_some, Za2, Nat.mul_one]
 ·rw [show off + 1 + j * 1 = off + (j + 1) * 1 from by omega]; exact h2
theorem Zxl {ρ : Operand -> Value} {w : World} {o : Oper} {a : Option Addr} {n c : Nat} (f : Nat) (x y : Operand) (ho : o.op = .slice 28 x (some y) none none) (hx : ρ x = .slice a n c) {i : Int} (hy : ρ y = .int .i64 i) (hi : i = f) (hf : f <= n) : (execOp ρ o).run Tryz.prog w = .ok (.value (.slice (if c = f then a else a.map (·.add (f * 1))) (n - f) (c - f))) w := by
 subst hi
 unfold execOp
 rw [ho]
 simp [hx, hy, Instr.sliceAt, run_underlying Tryz.underlying28, Instr.slice, Instr.sliceBounds, Instr.sliceBound, asIntOf, hf, Result.andThen]
theorem Zfl {fn : Func} {p q r : Tmp} {f : Nat -> Value} (h : fn.results = #[.cell p 68, .tmp q, .tmp r]) (w : World) (g : Nat) (y : NV) (hl : y.c.d.length = 32) (hp : f p = .pointer (some ⟨g, 0, none⟩)) {u v : Value} (hq : f q = u) (hr : f r = v) (hg : Rw g w y.cells.toArray 68) : (resF f fn.results).run Tryz.prog w = .ok (.tuple #[.agg y.cells.toArray, u, v]) w := by
 have := run_loadVar_row (P := Tryz.prog) w g 68 68 _ _ _ hg Tryz.underlying68 rfl (by rw [Zcd, Zbi hl])
 unfold resF
 rw [h]
 simp [hp, hq, hr, this, asAddr]
theorem Zc3 {fn : Func} {p q r : Tmp} {f : Nat -> Value} (h : fn.results = #[.cell p 65, .tmp q, .tmp r]) (w : World) (g : Nat) (y : RV) (hl : y.d.length = 32) (hp : f p = .pointer (some ⟨g, 0, none⟩)) {u v : Value} (hq : f q = u) (hr : f r = v) (hg : Rw g w y.cells.toArray 65) : (resF f fn.results).run Tryz.prog w = .ok (.tuple #[.agg y.cells.toArray, u, v]) w := by
 have := run_loadVar_row (P := Tryz.prog) w g 65 65 _ _ _ hg Tryz.underlying65 rfl (by rw [Zbe, List.size_toArray, RV.len hl])
 unfold resF
 rw [h]
 simp [hp, hq, hr, this, asAddr]
section
variable {m : Nat} {P : Program} {ds : List Deferred} {n : Nat} {Q : Exit → Act → World → Prop} {env : Env} {w : World}
theorem Zus {c B : Code} {X : Type} (l : Nat) (E : X -> Env) (R : X -> World -> Prop) (μ : X -> Nat) (hf : findLabel c l = some (.seq .skip B))
  (first : ∀ Q', (∀ x v, R x v -> CW none m P ds n Q' B (E x) v) -> CW none m P ds n Q' c env w)
  (pass : ∀ x v, R x v -> CW none m P ds n (Exit.jump l (fun a' w' => ∃ x', μ x' < μ x /\ Frm ds n (E x') a' /\ R x' w') Q) B (E x) v) : CW none m P ds n Q (.scope c) env w := fun a ha => by
 refine wpIn_wide.2 ?_
 have hB : ∀ x v a, Frm ds n (E x) a -> R x v -> (Code.seq .skip B).wp P (Exit.jump l (fun a' w' => ∃ x', μ x' < μ x /\ Frm ds n (E x') a' /\ R x' w') Q) a v := fun x v a hF hR => wp_seq (wp_skip (wpIn_wide.1 (pass x v hR a hF)))
 have hm : ∀ {J J' : Act -> World -> Prop} {Q : Exit -> Act -> World -> Prop} {c : Code} {a w}, (∀ a w, J a w -> J' a w) -> c.wp P (Exit.jump l J Q) a w -> c.wp P (Exit.jump l J' Q) a w := fun hj h => wp_mono h (fun e a w hq => by
  cases e with
  | goto l' => exact ⟨hq.1, hj _ _ hq.2⟩
  | _ => exact hq)
 refine wp_scope_jumps l (fun a w => ∃ k x, μ x = k /\ Frm ds n (E x) a /\ R x w) (fun a w => leastOf (fun k => ∃ x, μ x = k /\ Frm ds n (E x) a /\ R x w)) hf ?_ ?_
 ·exact wpIn_wide.1 (first _ (fun x v hR a hF => wpIn_wide.2 (hm (fun a w ⟨x', _, h1, h2⟩ => ⟨_, x', rfl, h1, h2⟩) (wpIn_wide.1 (pass x v hR a hF)))) a ha)
 ·intro a w hJ
  obtain ⟨x, hx, hF, hR⟩ := (leastOf_spec (p := fun k => ∃ x, μ x = k /\ Frm ds n (E x) a /\ R x w) hJ).1
  refine hm ?_ (hB x w a hF hR)
  rintro a' w' ⟨x', hlt, h1, h2⟩
  exact ⟨⟨_, x', rfl, h1, h2⟩, Nat.lt_of_le_of_lt ((leastOf_spec (p := fun k => ∃ x, μ x = k /\ Frm ds n (E x) a' /\ R x w') ⟨_, x', rfl, h1, h2⟩).2 _ ⟨x', rfl, h1, h2⟩) (by rw [<- hx]; exact hlt)⟩
theorem Zsb {l : Nat} (h : NW ds n Q (.goto l) env w) : CW none m P ds n Q (.goto l) env w := fun a ha => wpIn_goto (h a ha)
theorem Zf1 {K : Act -> World -> Prop} {l : Nat} (h : NW ds n Q (.goto l) env w) : NW ds n (Exit.then K Q) (.goto l) env w := h
theorem Zb4 {l : Nat} {J : Act -> World -> Prop} (h : NW ds n Q .ret env w) : NW ds n (Exit.jump l J Q) .ret env w := h
theorem Zqv {X : Type} {E : X -> Env} {R : X -> World -> Prop} {μ : X -> Nat} {x : X} {l : Nat} (x' : X) (hE : SubE env (E x')) (hR : R x' w) (hm : μ x' < μ x) :
  NW ds n (Exit.jump l (fun a' w' => ∃ x', μ x' < μ x /\ Frm ds n (E x') a' /\ R x' w') Q) (.goto l) env w := fun a ha => ⟨rfl, x', hm, ha.sub hE, hR⟩
end
def OpR (w : World) (ai : Option Addr) (ni : Nat) (Mi : List (List Int)) (o : Option (PN × List (List Int))) : Value -> World -> Prop := fun u w' => (∃ (z : NV) (a : Option Addr) (n c : Nat), u = .tuple #[.agg z.cells.toArray, .slice a n c, .bool o.isSome] /\ z.c.d.length = 32 /\ ∀ N M, o = some (N, M) -> NodeAt (Own w.heap.size w') w' z N /\ (∀ K0 w0, Bt K0 w0 ai ni Mi -> Bt K0 w0 a n M) /\ n <= c) /\ Bl w w'
def FoR (K : Nat -> Prop) (w : World) (o : Option (PR × List Int)) : Value -> World -> Prop := fun u w' => (∃ (y : RV) (a : Option Addr) (n c : Nat), u = .tuple #[.agg y.cells.toArray, .slice a n c, .bool o.isSome] /\ y.d.length = 32 /\ ∀ r p, o = some (r, p) -> RefAt K w' y r /\ Sk K w' a n c p) /\ Bl w w'
theorem Z0e {w w' : World} {b : List Int} {e : Ending} (h : DPost w (ND b) e w') : ∃ u, e = .returned u /\ (∃ (z : NV) (er : Int), u = .tuple #[.agg z.cells.toArray, .int .i64 er] /\ z.c.d.length = 32 /\ (er == 0) = (ND b).isSome /\ ∀ N, ND b = some N -> NodeAt (Own w.heap.size w') w' z N) /\ Bl w w' := by
 obtain ⟨hb, hm⟩ := h
 cases hd : ND b with
 | none => rw [hd] at hm; exact ⟨_, hm, ⟨nz, 50, rfl, rfl, rfl, fun N h => by cases h⟩, hb⟩
 | some n =>
  rw [hd] at hm
  obtain ⟨y, e1, hy⟩ := hm
  exact ⟨_, e1, ⟨y, 0, rfl, hy.c.len, rfl, fun N h => by cases h; exact hy⟩, hb⟩
set_option maxHeartbeats 4000000 in
theorem Zt4 {K K1 : Nat -> Prop} {w : World} {y : RV} {r : PR} {a : Option Addr} {n c : Nat} {M : List (List Int)} (hy : RefAt K1 w y r) (hL : Bt K w a n M) (hnc : n <= c) (hM : ∀ b ∈ M, b.length <= 140737488351232) :
  Calls Tryz.prog 68 #[.agg y.cells.toArray, .slice a n c] w fun e w' => ∃ u, e = .returned u /\ OpR w a n M (opP r M) u w' := by
 have hB := Bl.refl w
 have hyl := hy.len
 have hyn := hy.2.2.2.2.2.1
 have hys : Sk K1 w y.a y.n y.c r.i := hy.2.2.2.2.1 |> fun h => ⟨h, fun x hx h0 => by obtain ⟨g, off, e, _⟩ := ag_head h h0; rw [e] at hx; cases hx; exact hy.2.2.2.2.2.2 g off e h0⟩
 have hL0 := hL
 refine Zal Tryz.func68 rfl 42 rfl ?_
 show CW _ _ _ _ _ _ _ [(0, .agg y.cells.toArray), (1, .slice a n c)] _
 refine Zac <| Zaa <| Zaz 2 y.cells.toArray 65 (fun _ => by kernel_rfl) (fun _ => by kernel_rfl) ?_
 intro w1 gR hnR
 have hR : Rw gR w1 y.cells.toArray 65 := hnR.row
 replace hB := hB.go hnR.below
 replace hL := hL.go hnR.below
 replace hys := hys.go hnR.below
 refine Zaz 4 nz.cells.toArray 68 (fun _ => by kernel_rfl) (fun _ => by kernel_rfl) ?_
 intro w2 g4 hn4
 have h4 : Rw g4 w2 nz.cells.toArray 68 := hn4.row
 have hg4 : w.heap.size <= g4 := by rw [hn4.hg]; exact hB.size
 replace hB := hB.go hn4.below
 replace hL := hL.go hn4.below
 replace hys := hys.go hn4.below
 replace hR := hR.go hn4.below
 refine rp 5 (.slice none 0 0) <| rp 6 (.bool false) <| Zad <| Zab <| Zac <| Zaa <| rp 10 (.pointer (some ⟨gR, 33, none⟩)) <| rv 11 (.slice y.a y.n y.c) (fun _ => Zag 23 _ ⟨gR, 33, none⟩ _ _ rfl (by kernel_rfl) (by rw [cell_of_row _ _ _ _ _ _ hR]; exact Zzj hyl) Tryz.underlying23 rfl) <| rp 7 (.slice y.a y.n y.c) <| Zad <| Zab <| Zac ?_
 refine Zac <| Zaa <| rp 12 (.pointer (some ⟨gR, 0, none⟩)) <| rv 13 (.int .i64 y.k) (fun _ => Zag 3 _ ⟨gR, 0, none⟩ _ _ rfl (by kernel_rfl) (by rw [cell_of_row _ _ _ _ _ _ hR]; exact Zzk y) Tryz.underlying3 rfl) <| rp 14 (.bool ((y.k : Int) == (2 : Int))) <| Zad <| Zab ?_
 refine Zv5 (fun E v => ∃ ab nb cb al nl cl b M', E = [(7, .slice ab nb cb), (1, .slice al nl cl), (4, .pointer (some ⟨g4, 0, none⟩)), (2, .pointer (some ⟨gR, 0, none⟩))] /\ Bl w v /\ Sk (fun _ => True) v ab nb cb b /\ nb <= 140737488351232 /\ (∀ K0 w0, Bt K0 w0 a n M -> Bt K0 w0 al nl M') /\ nl <= cl /\ opP r M = (ND b).map (fun n => (n, M')) /\ Rw g4 v nz.cells.toArray 68) ?_ ?_
 ·skip
  by_cases hk2 : r.k = 2
  ·skip
   rw [show ((y.k : Int) == (2 : Int)) = true from beq_iff_eq.2 (by rw [hy.1, hk2])]
   refine Zak (fun _ => by kernel_rfl) ?_
   have hV := Bl.refl w2
   cases M with
   | nil =>
    have hn0 : n = 0 := hL.len.symm
    refine Zac <| Zac ?_
    have hR0 := hR
    refine Zav (fun v => Bl w2 v) (by kernel_rfl) ((Bl.refl w2).drew) ?_
    replace hB := hB.drew
    replace hL := hL.drew
    replace hys := hys.drew
    replace hR := hR.drew
    replace h4 := h4.drew
    replace hV := hV.drew
    refine dt 0 15 (.slice a n c) (fun v hv _ => by kernel_rfl) hV <| dt 1 16 (.int .i64 n) (fun v hv _ => by kernel_rfl) hV <| dt 2 17 (.bool true) (fun v hv => (fun _ => Zai (v := .bool ((n : Int) == (0 : Int))) (by kernel_rfl) (congrArg Value.bool (beq_iff_eq.2 (by omega))))) hV <| dt 3 18 (.bool true) (fun v hv _ => by kernel_rfl) hV <| df 4 19 hV <| df 5 20 hV <| df 6 21 hV <| df 7 22 hV <| df 8 23 hV <| df 9 24 hV <| df 10 25 hV <| dt 11 26 (.bool true) (fun v hv _ => by kernel_rfl) hV ?_
    refine Zar (by kernel_rfl) <| Zab <| Zak (fun _ => by kernel_rfl) <| Zac <| Zaa <| rp 27 (.agg nz.cells.toArray) <| Zbg g4 nz.cells.toArray (fun _ => by kernel_rfl) (fun _ => Zat 68 _ _ _ _ _ _ rfl (by kernel_rfl) (by kernel_rfl) h4 (by rw [Zcd, Zbi rfl]) (rfl) (Zdy _)) ?_
    intro w7 hp4
    replace hB : Bl w w7 := hp4.below hB hg4 hB.size
    have h4z : Rw g4 w7 nz.cells.toArray 68 := hp4.row h4
    refine rp 5 (.slice none 0 0) <| rp 6 (.bool false) <| Zad <| Zab <| Zam <| Zaj <| Zaj <| Zaj ?_
    exact Zae (.tuple #[.agg nz.cells.toArray, .slice none 0 0, .bool false]) (fun _ => Zfl rfl _ g4 nz rfl (by kernel_rfl) (by kernel_rfl) (by kernel_rfl) h4z) ⟨_, rfl, ⟨nz, none, 0, 0, by rw [show opP r [] = none from by simp [opP, hk2]]; rfl, rfl, fun N M' h => by rw [show opP r [] = none from by simp [opP, hk2]] at h; cases h⟩, hB⟩
   | cons b M1 =>
    have hn1 := hL.len
    rw [List.length_cons] at hn1
    have hbl := hM b (List.mem_cons_self)
    obtain ⟨g1, o1, a1, n1, c1, rfl, hc1, hs1⟩ := hL.row 0 (by omega)
    rw [List.getD_cons_zero] at hs1
    have hl1 := hs1.len
    rw [Nat.zero_mul, Nat.add_zero] at hc1
    refine Zac <| Zac ?_
    have hR0 := hR
    refine Zav (fun v => Bl w2 v) (by kernel_rfl) ((Bl.refl w2).drew) ?_
    replace hB := hB.drew
    replace hL := hL.drew
    replace hys := hys.drew
    replace hR := hR.drew
    replace h4 := h4.drew
    replace hV := hV.drew
    replace hs1 := hs1.drew
    refine dt 0 15 (.slice (some ⟨g1, o1, none⟩) n c) (fun v hv _ => by kernel_rfl) hV <| dt 1 16 (.int .i64 n) (fun v hv _ => by kernel_rfl) hV <| dt 2 17 (.bool false) (fun v hv => (fun _ => Zai (v := .bool ((n : Int) == (0 : Int))) (by kernel_rfl) (congrArg Value.bool (beq_eq_false_iff_ne.2 (by omega))))) hV <| dt 3 18 (.bool false) (fun v hv _ => by kernel_rfl) hV <| dt 4 19 (.slice (some ⟨g1, o1, none⟩) n c) (fun v hv _ => by kernel_rfl) hV <| dt 5 20 (.pointer (some ⟨g1, o1 + 0 * 1, none⟩)) (fun v hv _ => Zay 28 _ _ g1 o1 0 n c 1 23 rfl (by kernel_rfl) (by kernel_rfl) (by omega) Tryz.underlying28 (by kernel_rfl)) hV <| dt 6 21 (.slice a1 n1 c1) (fun v hv _ => Zag 23 _ _ _ _ rfl (by kernel_rfl) ((Below.cell hv (block_lt_of_cell hc1)).trans hc1) Tryz.underlying23 rfl) hV <| dt 8 23 (.pointer (some ⟨gR, 1, none⟩)) (fun v hv _ => by kernel_rfl) hV <| dt 9 24 (.agg (B8 y.d)) (fun v hv _ => Zm9 35 _ gR 1 (y.d.map (Value.int .u8)) _ rfl (by kernel_rfl) (r_dig (Zof (hR0.go hv)) hyl) Tryz.underlying35 rfl (by rw [Zx4, List.length_map, hyl])) hV <| Zaf [7] (by kernel_rfl) (by simp) ?_
    refine Zas 7 22 39 #[.slice a1 n1 c1] rfl (fun _ => by kernel_rfl) (fun _ => by kernel_rfl) (R := fun u w' => u = .agg (B8 (dref b)) /\ Bl (w2.drew) w') ((Zj1 a1 n1 c1 b (w2.drew) hs1.ag (by omega)).mono (fun e w' h => ⟨_, h.1, rfl, h.2⟩)) (fun u w' h => hV.go h.2) ?_ Zan
    rintro _ u3 ⟨rfl, hb3⟩
    replace hB := hB.go hb3
    replace hL := hL.go hb3
    replace hys := hys.go hb3
    replace hR := hR.go hb3
    replace h4 := h4.go hb3
    replace hV := hV.go hb3
    replace hs1 := hs1.go hb3
    refine dt 10 25 (.bool (!(dref b == y.d))) (fun v hv _ => Zxj rfl (by kernel_rfl) (by kernel_rfl) (dref_len _) hyl) hV <| dt 11 26 (.bool (!(dref b == y.d))) (fun v hv _ => by kernel_rfl) hV <| Zar (by kernel_rfl) <| Zab ?_
    by_cases hxy : dref b = r.d
    ·skip
     rw [show (!(dref b == y.d)) = false from by rw [hy.2.1]; simp [hxy]]
     refine Zah (fun _ => by kernel_rfl) <| Zap <| Zab <| Zav (fun v => Bl w2 v) (by kernel_rfl) (hV.drew) ?_
     replace hB := hB.drew
     replace hL := hL.drew
     replace hys := hys.drew
     replace hR := hR.drew
     replace h4 := h4.drew
     replace hV := hV.drew
     replace hs1 := hs1.drew
     refine dt 0 28 (.slice (some ⟨g1, o1, none⟩) n c) (fun v hv _ => by kernel_rfl) hV <| dt 1 29 (.pointer (some ⟨g1, o1 + 0 * 1, none⟩)) (fun v hv _ => Zay 28 _ _ g1 o1 0 n c 1 23 rfl (by kernel_rfl) (by kernel_rfl) (by omega) Tryz.underlying28 (by kernel_rfl)) hV <| dt 2 30 (.slice a1 n1 c1) (fun v hv _ => Zag 23 _ _ _ _ rfl (by kernel_rfl) ((Below.cell hv (block_lt_of_cell hc1)).trans hc1) Tryz.underlying23 rfl) hV <| dt 3 31 (.slice (some ⟨g1, o1, none⟩) n c) (fun v hv _ => by kernel_rfl) hV <| dt 4 32 (.slice (if c = 1 then some ⟨g1, o1, none⟩ else (some ⟨g1, o1, none⟩ : Option Addr).map (·.add (1 * 1))) (n - 1) (c - 1)) (fun v hv _ => Zxl 1 _ _ rfl (by kernel_rfl) (by kernel_rfl) rfl (by omega)) hV <| dt 5 7 (.slice a1 n1 c1) (fun v hv _ => by kernel_rfl) hV <| dt 6 1 (.slice (if c = 1 then some ⟨g1, o1, none⟩ else (some ⟨g1, o1, none⟩ : Option Addr).map (·.add (1 * 1))) (n - 1) (c - 1)) (fun v hv _ => by kernel_rfl) hV <| Zar (by kernel_rfl) ?_
     exact Znc [(7, .slice a1 n1 c1), (1, .slice (if c = 1 then some ⟨g1, o1, none⟩ else (some ⟨g1, o1, none⟩ : Option Addr).map (·.add (1 * 1))) (n - 1) (c - 1)), (4, .pointer (some ⟨g4, 0, none⟩)), (2, .pointer (some ⟨gR, 0, none⟩))] (by exact ⟨fun _ => by kernel_rfl, ⟨fun _ => by kernel_rfl, ⟨fun _ => by kernel_rfl, ⟨fun _ => by kernel_rfl, trivial⟩⟩⟩⟩) ⟨_, _, _, _, _, _, b, M1, rfl, hB, hs1.mono (fun _ _ => trivial), by omega, fun _ _ h => h.tail hnc, by omega, by simp [opP, hk2, hxy], h4⟩
    ·skip
     rw [show (!(dref b == y.d)) = true from by rw [hy.2.1]; simp [hxy]]
     refine Zak (fun _ => by kernel_rfl) <| Zac <| Zaa <| rp 27 (.agg nz.cells.toArray) <| Zbg g4 nz.cells.toArray (fun _ => by kernel_rfl) (fun _ => Zat 68 _ _ _ _ _ _ rfl (by kernel_rfl) (by kernel_rfl) h4 (by rw [Zcd, Zbi rfl]) (rfl) (Zdy _)) ?_
     intro w7 hp4
     replace hB : Bl w w7 := hp4.below hB hg4 hB.size
     have h4z : Rw g4 w7 nz.cells.toArray 68 := hp4.row h4
     refine rp 5 (.slice none 0 0) <| rp 6 (.bool false) <| Zad <| Zab <| Zam <| Zaj <| Zaj <| Zaj ?_
     exact Zae (.tuple #[.agg nz.cells.toArray, .slice none 0 0, .bool false]) (fun _ => Zfl rfl _ g4 nz rfl (by kernel_rfl) (by kernel_rfl) (by kernel_rfl) h4z) ⟨_, rfl, ⟨nz, none, 0, 0, by rw [show opP r (b :: M1) = none from by simp [opP, hk2, hxy]]; rfl, rfl, fun N M' h => by rw [show opP r (b :: M1) = none from by simp [opP, hk2, hxy]] at h; cases h⟩, hB⟩
  ·skip
   rw [show ((y.k : Int) == (2 : Int)) = false from beq_eq_false_iff_ne.2 (by rw [hy.1]; exact hk2)]
   refine Zah (fun _ => by kernel_rfl) <| Zap ?_
   exact Znc [(7, .slice y.a y.n y.c), (1, .slice a n c), (4, .pointer (some ⟨g4, 0, none⟩)), (2, .pointer (some ⟨gR, 0, none⟩))] (by exact ⟨fun _ => by kernel_rfl, ⟨fun _ => by kernel_rfl, ⟨fun _ => by kernel_rfl, ⟨fun _ => by kernel_rfl, trivial⟩⟩⟩⟩) ⟨_, _, _, _, _, _, r.i, M, rfl, hB, hys.mono (fun _ _ => trivial), hyn, fun _ _ h => h, hnc, by simp [opP, hk2], h4⟩
 rintro _ v ⟨ab, nb, cb, al, nl, cl, b, M', rfl, hB, hb, hnb, hL', hnl, ho, h4⟩
 clear hL hys hR
 refine Zab <| Zac <| Zaa <| rp 34 (.slice ab nb cb) ?_
 have hBv := hB
 have hgl4 : g4 < v.heap.size := lt_of_get h4
 refine Zao 35 94 #[.slice ab nb cb] (fun _ => by kernel_rfl) (fun _ => by kernel_rfl) (R := fun u w' => (∃ (z : NV) (er : Int), u = .tuple #[.agg z.cells.toArray, .int .i64 er] /\ z.c.d.length = 32 /\ (er == 0) = (ND b).isSome /\ ∀ N, ND b = some N -> NodeAt (Own v.heap.size w') w' z N) /\ Bl v w') ((Zhl b ab nb cb v hb.ag hnb).mono (fun e w' h => Z0e h)) ?_
 rintro _ u4 ⟨⟨z, er, rfl, hzl, her, hz⟩, hb4⟩
 replace hB := hB.go hb4
 replace hb := hb.go hb4
 replace h4 := h4.go hb4
 have hBu := hB
 have h4u := h4
 refine rp 33 (.tuple #[.agg z.cells.toArray, .int .i64 er]) <| rp 36 (.agg z.cells.toArray) <| rp 37 (.int .i64 er) <| Zaz 8 nz.cells.toArray 68 (fun _ => by kernel_rfl) (fun _ => by kernel_rfl) ?_
 intro w5 g8 hn8
 have h8 : Rw g8 w5 nz.cells.toArray 68 := hn8.row
 have hg8 := hn8.hg
 replace hB := hB.go hn8.below
 replace hb := hb.go hn8.below
 replace h4 := h4.go hn8.below
 refine Zbg g8 z.cells.toArray (fun _ => by kernel_rfl) (fun _ => Zat 68 _ _ _ _ _ _ rfl (by kernel_rfl) (by kernel_rfl) h8 (by rw [Zcd, Zbi hzl]) (by rw [Zbi hzl]; rfl) (Zdy _)) ?_
 intro w6 hp8
 replace h8 : Rw g8 w6 z.cells.toArray 68 := hp8.row h8
 have hb6 : Bl u4 w6 := hp8.below hn8.below (by rw [hg8]; exact Nat.le_refl _) hn8.below.size
 replace hB : Bl w w6 := hBu.go hb6
 replace h4 := h4u.go hb6
 refine rp 9 (.int .i64 er) <| Zad <| Zab <| Zac <| Zaa <| rv 38 (.agg z.cells.toArray) (fun _ => Zbp 68 _ _ _ _ _ _ rfl (by kernel_rfl) h8 Tryz.underlying68 rfl (by rw [Zcd, Zbi hzl])) <| rp 39 (.slice al nl cl) <| rp 40 (.int .i64 er) <| rp 41 (.bool ((er : Int) == (0 : Int))) <| Zbg g4 z.cells.toArray (fun _ => by kernel_rfl) (fun _ => Zat 68 _ _ _ _ _ _ rfl (by kernel_rfl) (by kernel_rfl) h4 (by rw [Zcd, Zbi hzl]) (by rw [Zbi hzl]; rfl) (Zdy _)) ?_
 intro w7 hp4
 have hB7 : Bl w w7 := hp4.below hB hg4 hB.size
 have h4z : Rw g4 w7 z.cells.toArray 68 := hp4.row h4
 refine rp 5 (.slice al nl cl) <| rp 6 (.bool ((er : Int) == (0 : Int))) <| Zad <| Zab <| Zam ?_
 refine Zae (.tuple #[.agg z.cells.toArray, .slice al nl cl, .bool (er == 0)]) (fun _ => Zfl rfl _ g4 z hzl (by kernel_rfl) (by kernel_rfl) (by kernel_rfl) h4z) ⟨_, rfl, ⟨z, al, nl, cl, by rw [ho, her]; cases ND b <;> rfl, hzl, fun N M1 h => ?_⟩, hB7⟩
 rw [ho] at h
 cases hd : ND b with
 | none => rw [hd] at h; cases h
 | some N1 =>
  rw [hd] at h
  simp only [Option.map_some, Option.some.injEq, Prod.mk.injEq] at h
  obtain ⟨rfl, rfl⟩ := h
  refine ⟨(hz _ hd).go (fun g hg hl => ⟨(hp4.other (by have := hg.1; omega)).trans (Below.block hb6 g hl), by have := hg.1; have := hBv.size; omega, fun o => ?_⟩), hL', hnl⟩
  have he : w7.heap[g]? = u4.heap[g]? := (hp4.other (by have := hg.1; omega)).trans (Below.block hb6 g hl)
  exact (World.frozen?_of_block (w := u4) he).trans (hg.2 o)
theorem Zb8 {P : Program} {ρ : Operand -> Value} {w : World} {o : Oper} {kd : IntKind} (T : TypeId) (x y : Operand) (g off j mm c sz : Nat) (E : TypeId) (ho : o.op = .indexAddr T x y) (hx : ρ x = .slice (some ⟨g, off, none⟩) mm c) {i : Int} (hy : ρ y = .int kd i) (hi' : i = (j : Nat)) (hj : j < mm) (hu : P.underlying T = some (.slice E)) (hi : (P.info? E).map (·.size) = some sz) :
  (execOp ρ o).run P w = .ok (.value (.pointer (some ⟨g, off + j * sz, none⟩))) w := by
 subst hi'
 have hs : (sizeOf E).run P w = .ok sz w := by
  cases hq : P.info? E with
  | none => simp [hq] at hi
  | some z => simp [hq] at hi; simp [sizeOf, typeInfo, hq, hi]
 unfold execOp
 rw [ho]
 simp only [hx, hy]
 have he : (if j * sz = 0 then (⟨g, off, none⟩ : Addr) else ⟨g, off + j * sz, none⟩) = ⟨g, off + j * sz, none⟩ := by split <;> simp_all
 simp [Instr.indexAt, asIntOf, run_underlying hu, hs, hj, Result.andThen, Addr.add, he]
theorem AgK.sk {K : Nat -> Prop} {w : World} {a : Option Addr} {n c : Nat} {bs : List Int} (h : AgK K w a n c bs) : Sk K w a n c bs := ⟨h.1, fun x hx h0 => by
 obtain ⟨g, off, e, _⟩ := ag_head h.1 h0
 rw [e] at hx; cases hx
 exact h.2.2 g off e h0⟩
theorem NR_ks {n : PN} (h : NR n = true) (hk : n.k = 3) : n.ks.length = 16 := by
 unfold NR nright at h
 simp only [Bool.and_eq_true] at h
 have h2 := h.2
 unfold rkidsP at h2
 rw [if_neg (by simp [hk])] at h2
 by_cases h16 : n.ks.length ≠ 16
 ·rw [if_pos h16] at h2; cases h2
 ·omega
theorem Zyv {n : PN} (h : NR n = true) (hk : n.k = 2) : 0 < n.p.length := by
 unfold NR nright at h
 simp only [Bool.and_eq_true] at h
 have h2 := h.1.1.1.2
 unfold rpathP at h2
 rw [if_pos hk] at h2
 by_cases h0 : n.p.length = 0
 ·rw [if_pos h0] at h2; cases h2
 ·omega
theorem Zew : (rz : RV).d.length = 32 := rfl
set_option maxHeartbeats 4000000 in
theorem Ziu {K : Nat -> Prop} {w : World} {z : NV} {N : PN} {a : Option Addr} {n c : Nat} {p : List Int} (hz : NodeAt K w z N) (hR : NR N = true) (hp : Sk K w a n c p) (hnb : Nb p) :
  Calls Tryz.prog 69 #[.agg z.cells.toArray, .slice a n c] w fun e w' => ∃ u, e = .returned u /\ FoR K w (foP N p) u w' := by
 have hB := Bl.refl w
 have hzl := hz.c.len
 have hp0 := hp
 have hz0 := hz
 have lp := hp.len
 refine Zal Tryz.func69 rfl 48 rfl ?_
 show CW _ _ _ _ _ _ _ [(0, .agg z.cells.toArray), (1, .slice a n c)] _
 refine Zac <| Zaa <| Zaz 2 z.cells.toArray 68 (fun _ => by kernel_rfl) (fun _ => by kernel_rfl) ?_
 intro w1 gN hnN
 have hN1 : Rw gN w1 z.cells.toArray 68 := hnN.row
 replace hB := hB.go hnN.below
 replace hp := hp.go hnN.below
 refine Zaz 4 rz.cells.toArray 65 (fun _ => by kernel_rfl) (fun _ => by kernel_rfl) ?_
 intro w2 g4 hn4
 have h4 : Rw g4 w2 rz.cells.toArray 65 := hn4.row
 have hg4 : w.heap.size <= g4 := by rw [hn4.hg]; exact hB.size
 replace hB := hB.go hn4.below
 replace hp := hp.go hn4.below
 replace hN1 := hN1.go hn4.below
 have hV := Bl.refl w2
 have hN2 := hN1
 have hB2 := hB
 have hgN4 : gN ≠ g4 := by have := lt_of_get (show Rw gN w1 z.cells.toArray 68 from hnN.row); have := hn4.hg; omega
 refine rp 5 (.slice none 0 0) <| rp 6 (.bool false) <| Zad <| Zab <| Zac <| Zau <| Zac <| Zaa <| rp 9 (.pointer (some ⟨gN, 0, none⟩)) <| rv 10 (.int .i64 z.k) (fun _ => Zag 3 _ ⟨gN, 0, none⟩ _ _ rfl (by kernel_rfl) (by rw [cell_of_row _ _ _ _ _ _ hN1]; exact Zl5 z) Tryz.underlying3 rfl) <| rp 11 (.bool ((z.k : Int) == (3 : Int))) <| rp 12 (.bool ((z.k : Int) == (3 : Int))) ?_
 by_cases hk3 : N.k = 3
 ·skip
  rw [show ((z.k : Int) == (3 : Int)) = true from by rw [hz0.k]; simp [hk3]]
  refine rp 13 (.slice a n c) <| rp 14 (.int .i64 n) <| rp 15 (.bool (decide ((n : Int) > (0 : Int)))) <| rp 16 (.bool (decide ((n : Int) > (0 : Int)))) <| rp 8 (.bool (decide ((n : Int) > (0 : Int)))) <| Zad <| Zab ?_
  cases p with
  | nil =>
   rw [List.length_nil] at lp
   rw [show (decide ((n : Int) > (0 : Int))) = false from decide_eq_false (by omega)]
   refine Zah (fun _ => by kernel_rfl) <| Zac <| Zaa <| rp 31 (.pointer (some ⟨gN, 0, none⟩)) <| rv 32 (.int .i64 z.k) (fun _ => Zag 3 _ ⟨gN, 0, none⟩ _ _ rfl (by kernel_rfl) (by rw [cell_of_row _ _ _ _ _ _ hN1]; exact Zl5 z) Tryz.underlying3 rfl) <| rv 33 (.bool false) (fun _ => Zai (v := .bool ((z.k : Int) == (2 : Int))) (by kernel_rfl) (congrArg Value.bool (by rw [hz0.k, hk3]; rfl))) <| rp 34 (.bool false) <| Za1 35 (fun _ => by kernel_rfl) <| Za1 36 (fun _ => by kernel_rfl) <| Za1 37 (fun _ => by kernel_rfl) <| Za1 38 (fun _ => by kernel_rfl) <| rp 39 (.bool false) ?_
   refine rp 30 (.bool false) <| Zad <| Zab <| Zah (fun _ => by kernel_rfl) <| Zap <| Za4 <| Zab <| Zac ?_
   have hfo : foP N [] = none := by simp [foP, *]
   refine Zaa <| rp 47 (.agg rz.cells.toArray) <| Zbg g4 rz.cells.toArray (fun _ => by kernel_rfl) (fun _ => Zat 65 _ _ _ _ _ _ rfl (by kernel_rfl) (by kernel_rfl) h4 (by rw [Zbe, Za3 Zew]) rfl (Zbs _)) ?_
   intro w9 hp9
   have h9 : Rw g4 w9 rz.cells.toArray 65 := hp9.row h4
   replace hB : Bl w w9 := hp9.below hB hg4 hB.size
   refine rp 5 (.slice none 0 0) <| rp 6 (.bool false) <| Zad <| Zab <| Zam ?_
   exact Zae (.tuple #[.agg rz.cells.toArray, .slice none 0 0, .bool false]) (fun _ => Zc3 rfl _ g4 rz Zew (by kernel_rfl) (by kernel_rfl) (by kernel_rfl) h9) ⟨_, rfl, ⟨rz, none, 0, 0, by rw [hfo]; rfl, Zew, fun r p' h => by rw [hfo] at h; cases h⟩, hB⟩
  | cons x p1 =>
   rw [List.length_cons] at lp
   rw [show (decide ((n : Int) > (0 : Int))) = true from decide_eq_true (by omega)]
   obtain ⟨g1, o1, rfl, hc1, _⟩ := hp0.head
   have hx16 := hnb x (List.mem_cons_self)
   have h16 := NR_ks hR hk3
   obtain ⟨j, hj⟩ : ∃ j : Nat, x = (j : Int) := ⟨x.toNat, by omega⟩
   have hkid : N.ks[j]? = some (kidP N (x :: p1)) := by unfold kidP; rw [List.getD_cons_zero, hj, Int.toNat_natCast, List.getD_eq_getElem?_getD]; rw [List.getElem?_eq_getElem (by omega)]; rfl
   obtain ⟨gK, oK, y, eK, hKg, hrg, hRf⟩ := hz0.ks j _ hkid
   have hyl := hRf.len
   have hzm := hz0.m.1
   refine Zak (fun _ => by kernel_rfl) <| Zac <| Zav (fun v => Bl w2 v) (by kernel_rfl) (hV.drew) ?_
   replace hB := hB.drew
   replace hp := hp.drew
   replace hN1 := hN1.drew
   replace h4 := h4.drew
   replace hV := hV.drew
   refine dt 0 17 (.pointer (some ⟨gN, 37, none⟩)) (fun v hv _ => by kernel_rfl) hV <| dt 1 18 (.slice (some ⟨gK, oK, none⟩) z.kn z.kc) (fun v hv _ => Zai (Zag 66 _ ⟨gN, 37, none⟩ _ _ rfl (by kernel_rfl) (by rw [cell_of_row _ _ _ _ _ _ (hN2.go hv)]; exact Zq7 hzl) Tryz.underlying66 rfl) (by rw [eK])) hV <| dt 2 19 (.slice (some ⟨g1, o1, none⟩) n c) (fun v hv _ => by kernel_rfl) hV <| dt 3 20 (.pointer (some ⟨g1, o1 + 0 * 1, none⟩)) (fun v hv _ => Zay 23 _ _ g1 o1 0 n c 1 5 rfl (by kernel_rfl) (by kernel_rfl) (by omega) Tryz.underlying23 (by kernel_rfl)) hV <| dt 4 21 (.int .u8 x) (fun v hv _ => Zag 5 _ _ _ _ rfl (by kernel_rfl) ((Below.cell (hB2.go hv) (block_lt_of_cell hc1)).trans hc1) Tryz.underlying5 rfl) hV <| dt 5 22 (.pointer (some ⟨gK, oK + j * 34, none⟩)) (fun v hv _ => Zb8 (kd := .u8) 66 _ _ gK oK j z.kn z.kc 34 65 rfl (by kernel_rfl) (by kernel_rfl) hj (by omega) Tryz.underlying66 Zbe) hV <| dt 6 23 (.agg y.cells.toArray) (fun v hv _ => Zm9 65 _ gK (oK + j * 34) y.cells _ rfl (by kernel_rfl) (Zc5 hrg (fun h => Below.block (hB2.go hv) gK h)) Tryz.underlying65 rfl (by rw [Zbe, RV.len hyl])) hV <| Zaf [7] (by kernel_rfl) (by simp) ?_
   refine Z0j 7 7 rz.cells.toArray 65 rfl (fun _ => by kernel_rfl) (fun _ => by kernel_rfl) (fun w' g h => hV.go h.below) ?_ Zan
   intro w7 g7 hn7
   have hz7 : Rw g7 w7 rz.cells.toArray 65 := hn7.row
   have hgn : g7 = (w2.drew).heap.size := hn7.hg
   have hVo := hV
   have h4o := h4
   have hBo := hB
   replace hB := hB.go hn7.below
   replace hp := hp.go hn7.below
   replace hN1 := hN1.go hn7.below
   replace h4 := h4.go hn7.below
   replace hV := hV.go hn7.below
   refine Zaf [8] (by kernel_rfl) (by simp) ?_
   refine Zgd 8 g7 y.cells.toArray rfl (fun _ => by kernel_rfl) (fun _ => Zat 65 _ _ _ _ _ _ rfl (by kernel_rfl) (by kernel_rfl) hz7 (by rw [Zbe, Za3 hyl]) (by rw [Za3 hyl]; rfl) (Zbs _)) (fun w' h => h.below hV (by rw [hgn]; exact hVo.size) hV.size) ?_ Zan
   intro w8 hp7
   have h7 : Rw g7 w8 y.cells.toArray 65 := hp7.row hz7
   have hb8 : Bl (w2.drew) w8 := hp7.below hn7.below (by rw [hgn]; exact Nat.le_refl _) hn7.below.size
   replace hV := hVo.go hb8
   replace hB := hBo.go hb8
   replace h4 := h4o.go hb8
   replace hp := hp0.go hB
   replace hN1 := hN2.go hV
   refine Zar (by kernel_rfl) <| Zab <| Zac ?_
   have hg74 : g7 ≠ g4 := by have := lt_of_get h4o; omega
   obtain ⟨a9, n9, c9, hr9, hs9⟩ := hp0.cutFrom 1 (by omega)
   refine Zav (fun v => Rw g7 v y.cells.toArray 65) (by kernel_rfl) (h7.drew) ?_
   replace hB := hB.drew
   replace hp := hp.drew
   replace hN1 := hN1.drew
   replace h4 := h4.drew
   replace hV := hV.drew
   replace h7 := h7.drew
   have hS := h7
   refine dt 0 24 (.agg y.cells.toArray) (fun v hv _ => Zbp 65 _ _ _ _ _ _ rfl (by kernel_rfl) hv Tryz.underlying65 rfl (by rw [Zbe, List.size_toArray, RV.len hyl])) hS <| dt 1 25 (.slice (some ⟨g1, o1, none⟩) n c) (fun v hv _ => by kernel_rfl) hS <| dt 2 26 (.slice a9 n9 c9) (fun v hv _ => hr9 _ _ _ _ _ _ rfl (by kernel_rfl) (by kernel_rfl) rfl) hS <| dt 3 27 (.pointer (some ⟨g7, 0, none⟩)) (fun v hv _ => by kernel_rfl) hS <| dt 4 28 (.int .i64 y.k) (fun v hv _ => Zag 3 _ ⟨g7, 0, none⟩ _ _ rfl (by kernel_rfl) (by rw [cell_of_row _ _ _ _ _ _ hv]; exact Zzk y) Tryz.underlying3 rfl) hS <| dt 5 29 (.bool (!((y.k : Int) == (0 : Int)))) (fun v hv _ => by kernel_rfl) hS <| Zaf [6] (by kernel_rfl) (by simp) ?_
   refine Zgd 6 g4 y.cells.toArray rfl (fun _ => by kernel_rfl) (fun _ => Zat 65 _ _ _ _ _ _ rfl (by kernel_rfl) (by kernel_rfl) h4 (by rw [Zbe, Za3 hyl]) (by rw [Za3 hyl]; rfl) (Zbs _)) (fun w' h => (h.other hg74).trans hS) ?_ Zan
   intro w9 hp9
   have h9 : Rw g4 w9 y.cells.toArray 65 := hp9.row h4
   replace hB : Bl w w9 := hp9.below hB hg4 hB.size
   replace hS := (hp9.other hg74).trans hS
   refine dt 7 5 (.slice a9 n9 c9) (fun v hv _ => by kernel_rfl) hS <| dt 8 6 (.bool (!((y.k : Int) == (0 : Int)))) (fun v hv _ => by kernel_rfl) hS <| Zar (by kernel_rfl) <| Zab <| Zam <| Za5 <| Zaj ?_
   have hfo : foP N (x :: p1) = if (kidP N (x :: p1)).k = 0 then none else some (kidP N (x :: p1), (x :: p1).drop 1) := by simp [foP, hk3]
   exact Zae (.tuple #[.agg y.cells.toArray, .slice a9 n9 c9, .bool (!((y.k : Int) == (0 : Int)))]) (fun _ => Zc3 rfl _ g4 y hyl (by kernel_rfl) (by kernel_rfl) (by kernel_rfl) h9) ⟨_, rfl, ⟨y, a9, n9, c9, by rw [hfo, hRf.1]; by_cases h0 : (kidP N (x :: p1)).k = 0 <;> simp [h0], hyl, fun r p' h => by rw [hfo] at h; split at h <;> cases h; exact ⟨hRf.go (Zfr hB), hs9.go hB⟩⟩, hB⟩
 ·skip
  rw [show ((z.k : Int) == (3 : Int)) = false from by rw [hz0.k]; simp [hk3]]
  refine Za1 13 (fun _ => by kernel_rfl) <| Za1 14 (fun _ => by kernel_rfl) <| Za1 15 (fun _ => by kernel_rfl) <| rp 16 (.bool false) <| rp 8 (.bool false) <| Zad <| Zab <| Zah (fun _ => by kernel_rfl) <| Zac <| Zaa <| rp 31 (.pointer (some ⟨gN, 0, none⟩)) <| rv 32 (.int .i64 z.k) (fun _ => Zag 3 _ ⟨gN, 0, none⟩ _ _ rfl (by kernel_rfl) (by rw [cell_of_row _ _ _ _ _ _ hN1]; exact Zl5 z) Tryz.underlying3 rfl) ?_
  refine rp 33 (.bool ((z.k : Int) == (2 : Int))) <| rp 34 (.bool ((z.k : Int) == (2 : Int))) ?_
  by_cases hk2 : N.k = 2
  ·skip
   rw [show ((z.k : Int) == (2 : Int)) = true from by rw [hz0.k]; simp [hk2]]
   have hzp := hz0.p.sk.go hB
   refine rp 35 (.slice a n c) <| rp 36 (.pointer (some ⟨gN, 1, none⟩)) <| rv 37 (.slice z.pa z.pn z.pc) (fun _ => Zag 23 _ ⟨gN, 1, none⟩ _ _ rfl (by kernel_rfl) (by rw [cell_of_row _ _ _ _ _ _ hN1]; exact Zxv z) Tryz.underlying23 rfl) <| Zao 38 95 #[.slice a n c, .slice z.pa z.pn z.pc] (fun _ => by kernel_rfl) (fun _ => by kernel_rfl) (R := fun u w' => u = .bool (decide (p.take N.p.length = N.p)) /\ Bl (w2) w') ((Zjv hp hzp)) ?_
   rintro _ u1 ⟨rfl, hb2⟩
   replace hB := hB.go hb2
   replace hp := hp.go hb2
   replace hN1 := hN1.go hb2
   replace h4 := h4.go hb2
   replace hV := hV.go hb2
   replace hzp := hzp.go hb2
   refine rp 39 (.bool (decide (p.take N.p.length = N.p))) <| rp 30 (.bool (decide (p.take N.p.length = N.p))) <| Zad <| Zab ?_
   by_cases hpp : p.take N.p.length = N.p
   ·skip
    rw [show decide (p.take N.p.length = N.p) = true from by simp [hpp]]
    refine Zak (fun _ => by kernel_rfl) <| Zac ?_
    have hpl : N.p.length <= n := by have := congrArg List.length hpp; rw [List.length_take] at this; omega
    obtain ⟨a9, n9, c9, hr9, hs9⟩ := hp0.cutFrom N.p.length hpl
    have hzpn : N.p.length = z.pn := hz0.p.l
    refine Zav (fun v => Rw gN v z.cells.toArray 68) (by kernel_rfl) (hN1.drew) ?_
    replace hB := hB.drew
    replace hp := hp.drew
    replace hN1 := hN1.drew
    replace h4 := h4.drew
    replace hV := hV.drew
    replace hzp := hzp.drew
    have hS := hN1
    refine dt 0 40 (.pointer (some ⟨gN, 3, none⟩)) (fun v hv _ => by kernel_rfl) hS <| dt 1 41 (.agg z.c.cells.toArray) (fun v hv _ => Zm9 65 _ gN 3 z.c.cells _ rfl (by kernel_rfl) (Zxu hv hzl) Tryz.underlying65 rfl (by rw [Zbe, RV.len hzl])) hS <| dt 2 42 (.slice a n c) (fun v hv _ => by kernel_rfl) hS <| dt 3 43 (.pointer (some ⟨gN, 1, none⟩)) (fun v hv _ => by kernel_rfl) hS <| dt 4 44 (.slice z.pa z.pn z.pc) (fun v hv _ => Zag 23 _ ⟨gN, 1, none⟩ _ _ rfl (by kernel_rfl) (by rw [cell_of_row _ _ _ _ _ _ hv]; exact Zxv z) Tryz.underlying23 rfl) hS <| dt 5 45 (.int .i64 z.pn) (fun v hv _ => by kernel_rfl) hS <| dt 6 46 (.slice a9 n9 c9) (fun v hv _ => hr9 _ _ _ _ _ _ rfl (by kernel_rfl) (by kernel_rfl) (by rw [hzpn])) hS <| Zaf [7] (by kernel_rfl) (by simp) ?_
    refine Zgd 7 g4 z.c.cells.toArray rfl (fun _ => by kernel_rfl) (fun _ => Zat 65 _ _ _ _ _ _ rfl (by kernel_rfl) (by kernel_rfl) h4 (by rw [Zbe, Za3 hzl]) (by rw [Za3 hzl]; rfl) (Zbs _)) (fun w' h => (h.other hgN4).trans hS) ?_ Zan
    intro w9 hp9
    have h9 : Rw g4 w9 z.c.cells.toArray 65 := hp9.row h4
    replace hB : Bl w w9 := hp9.below hB hg4 hB.size
    replace hS := (hp9.other hgN4).trans hS
    refine dt 8 5 (.slice a9 n9 c9) (fun v hv _ => by kernel_rfl) hS <| dt 9 6 (.bool true) (fun v hv _ => by kernel_rfl) hS <| Zar (by kernel_rfl) <| Zab <| Zam <| Za5 <| Zaj ?_
    have hfo : foP N p = some (N.c, p.drop N.p.length) := by simp [foP, hk2, hpp]
    exact Zae (.tuple #[.agg z.c.cells.toArray, .slice a9 n9 c9, .bool true]) (fun _ => Zc3 rfl _ g4 z.c hzl (by kernel_rfl) (by kernel_rfl) (by kernel_rfl) h9) ⟨_, rfl, ⟨z.c, a9, n9, c9, by rw [hfo]; rfl, hzl, fun r p' h => by rw [hfo] at h; cases h; exact ⟨hz0.c.go (Zfr hB), hs9.go hB⟩⟩, hB⟩
   ·skip
    rw [show decide (p.take N.p.length = N.p) = false from by simp [hpp]]
    refine Zah (fun _ => by kernel_rfl) <| Zap <| Za4 <| Zab <| Zac ?_
    have hfo : foP N p = none := by simp [foP, *]
    refine Zaa <| rp 47 (.agg rz.cells.toArray) <| Zbg g4 rz.cells.toArray (fun _ => by kernel_rfl) (fun _ => Zat 65 _ _ _ _ _ _ rfl (by kernel_rfl) (by kernel_rfl) h4 (by rw [Zbe, Za3 Zew]) rfl (Zbs _)) ?_
    intro w9 hp9
    have h9 : Rw g4 w9 rz.cells.toArray 65 := hp9.row h4
    replace hB : Bl w w9 := hp9.below hB hg4 hB.size
    refine rp 5 (.slice none 0 0) <| rp 6 (.bool false) <| Zad <| Zab <| Zam ?_
    exact Zae (.tuple #[.agg rz.cells.toArray, .slice none 0 0, .bool false]) (fun _ => Zc3 rfl _ g4 rz Zew (by kernel_rfl) (by kernel_rfl) (by kernel_rfl) h9) ⟨_, rfl, ⟨rz, none, 0, 0, by rw [hfo]; rfl, Zew, fun r p' h => by rw [hfo] at h; cases h⟩, hB⟩
  ·skip
   rw [show ((z.k : Int) == (2 : Int)) = false from by rw [hz0.k]; simp [hk2]]
   refine Za1 35 (fun _ => by kernel_rfl) <| Za1 36 (fun _ => by kernel_rfl) <| Za1 37 (fun _ => by kernel_rfl) <| Za1 38 (fun _ => by kernel_rfl) <| rp 39 (.bool false) <| rp 30 (.bool false) <| Zad <| Zab <| Zah (fun _ => by kernel_rfl) <| Zap <| Za4 <| Zab ?_
   refine Zac ?_
   have hfo : foP N p = none := by simp [foP, *]
   refine Zaa <| rp 47 (.agg rz.cells.toArray) <| Zbg g4 rz.cells.toArray (fun _ => by kernel_rfl) (fun _ => Zat 65 _ _ _ _ _ _ rfl (by kernel_rfl) (by kernel_rfl) h4 (by rw [Zbe, Za3 Zew]) rfl (Zbs _)) ?_
   intro w9 hp9
   have h9 : Rw g4 w9 rz.cells.toArray 65 := hp9.row h4
   replace hB : Bl w w9 := hp9.below hB hg4 hB.size
   refine rp 5 (.slice none 0 0) <| rp 6 (.bool false) <| Zad <| Zab <| Zam ?_
   exact Zae (.tuple #[.agg rz.cells.toArray, .slice none 0 0, .bool false]) (fun _ => Zc3 rfl _ g4 rz Zew (by kernel_rfl) (by kernel_rfl) (by kernel_rfl) h9) ⟨_, rfl, ⟨rz, none, 0, 0, by rw [hfo]; rfl, Zew, fun r p' h => by rw [hfo] at h; cases h⟩, hB⟩
set_option maxHeartbeats 1000000 in
theorem Zg5 {K K' : Nat -> Prop} {w : World} {z : NV} {N : PN} {a : Option Addr} {n c : Nat} {p : List Int} (hz : NodeAt K w z N) (hp : Sk K' w a n c p) :
  Calls Tryz.prog 70 #[.agg z.cells.toArray, .slice a n c] w fun e w' => ∃ u, e = .returned u /\ (fun u w' => ∃ a' n' c', u = .slice a' n' c' /\ Sk K w' a' n' c' (vaP N p) /\ Bl w w') u w' := by
 have hB := Bl.refl w
 have hzl := hz.c.len
 have hz0 := hz
 have hzp := hz0.p.sk
 refine Zal Tryz.func70 rfl 12 rfl ?_
 show CW _ _ _ _ _ _ _ [(0, .agg z.cells.toArray), (1, .slice a n c)] _
 refine Zac <| Zaa <| Zaz 2 z.cells.toArray 68 (fun _ => by kernel_rfl) (fun _ => by kernel_rfl) ?_
 intro w1 gN hnN
 have hN1 : Rw gN w1 z.cells.toArray 68 := hnN.row
 replace hB := hB.go hnN.below
 replace hp := hp.go hnN.below
 replace hzp := hzp.go hnN.below
 refine rp 4 (.slice none 0 0) <| Zad <| Zab <| Zac <| Zac <| Zaa <| rp 5 (.pointer (some ⟨gN, 1, none⟩)) <| rv 6 (.slice z.pa z.pn z.pc) (fun _ => Zag 23 _ ⟨gN, 1, none⟩ _ _ rfl (by kernel_rfl) (by rw [cell_of_row _ _ _ _ _ _ hN1]; exact Zxv z) Tryz.underlying23 rfl) <| rp 7 (.slice a n c) <| Zao 8 48 #[.slice z.pa z.pn z.pc, .slice a n c] (fun _ => by kernel_rfl) (fun _ => by kernel_rfl) (R := fun u w' => u = .bool (decide (N.p = p)) /\ Bl (w1) w') ((Zhw hzp hp)) ?_
 rintro _ u1 ⟨rfl, hb2⟩
 replace hB := hB.go hb2
 replace hp := hp.go hb2
 replace hzp := hzp.go hb2
 replace hN1 := hN1.go hb2
 refine rp 9 (.bool (!(decide (N.p = p)))) <| Zad <| Zab ?_
 by_cases hpp : N.p = p
 ·skip
  rw [show (!decide (N.p = p)) = false from by simp [hpp]]
  refine Zah (fun _ => by kernel_rfl) <| Zap <| Zab <| Zac <| Zaa <| rp 10 (.pointer (some ⟨gN, 2, none⟩)) <| rv 11 (.slice z.va z.vn z.vc) (fun _ => Zag 23 _ ⟨gN, 2, none⟩ _ _ rfl (by kernel_rfl) (by rw [cell_of_row _ _ _ _ _ _ hN1]; exact n_at2 z) Tryz.underlying23 rfl) <| rp 4 (.slice z.va z.vn z.vc) <| Zad <| Zab <| Zam ?_
  exact Zae (.slice z.va z.vn z.vc) (fun _ => by kernel_rfl) ⟨_, rfl, z.va, z.vn, z.vc, rfl, by rw [vaP, if_pos hpp]; exact hz0.v.sk.go hB, hB⟩
 ·skip
  rw [show (!decide (N.p = p)) = true from by simp [hpp]]
  refine Zak (fun _ => by kernel_rfl) <| Zac <| Zaa <| rp 4 (.slice none 0 0) <| Zad <| Zab <| Zam <| Zaj ?_
  exact Zae (.slice none 0 0) (fun _ => by kernel_rfl) ⟨_, rfl, none, 0, 0, rfl, by rw [vaP, if_neg hpp]; exact Sk.nil _ _, hB⟩
end Go.Proofs.YtefhepcplempkaaGreat
