/- What a writer writes: extensions. -/
import Derived.Test.YtefhepcplempkaaGreatG23
import Derived.Test.YtefhepcplempkaaGreatG00
import Derived.Test.YtefhepcplempkaaGreatG02
import Derived.Test.YtefhepcplempkaaGreatG03
import Derived.Test.YtefhepcplempkaaGreatG11
import Derived.Test.YtefhepcplempkaaGreatG19
import Derived.Test.YtefhepcplempkaaGreatG21
import Derived.ScopeJumps
set_option linter.unusedVariables false
set_option maxRecDepth 100000
namespace Go.Proofs.YtefhepcplempkaaGreat
open Go.RowKit
open Tr
theorem Sk.aged {X : Nat -> Prop} {w : World} {gW : Nat} {vN : Value} {a : Option Addr} {n c : Nat} {bs : List Int} (h : Sk (KW gW vN X) w a n c bs) : Sk (KW gW vN (fun b => b < w.heap.size)) w a n c bs := ⟨h.ag, fun x hx hn => by have hk := h.k x hx hn; exact ⟨hk.1, hk.2.1, h.old hx hn⟩⟩
theorem Wg.drew {a b : World} {gW : Nat} {vN vN' : Value} (h : Wg a b gW vN vN') : Wg a b.drew gW vN vN' := h.go (Below.refl _ _).drew
theorem Zmh (w : World) : AgK (fun _ => True) w none 0 0 [] := ⟨⟨.inl ⟨rfl, rfl⟩, fun _ => ⟨rfl, rfl⟩, rfl, fun x hx => by cases hx⟩, Nat.zero_le _, fun _ _ _ _ => trivial⟩
theorem Zew (y : NV) : y.cells.toArray.all (·.oneCell') = true := all_oneCell_toArray (NV.one y)
set_option maxHeartbeats 4000000 in
theorem Zr8 {w : World} {gW base : Nat} {vN : Value} {X : Nat -> Prop} {ns : List (List Int)} (hW : Wt w gW base vN X ns) {Z : Nat -> Prop} {a : Option Addr} {n c : Nat} {p : List Int} {t : Tr} {Tu : TypeId} {xu : Value} (hp : Sk (KW gW vN Z) w a n c p) (hl1 : n <= 1000) (hX : ∀ b, w.heap.size <= b -> X b) (hR : ∀ v, Bl w v -> ∀ Y : Nat -> Prop, Wt v gW base vN Y ns -> (∀ b, v.heap.size <= b -> Y b) -> Calls Tryz.prog 194 #[.pointer (some ⟨gW, 0, none⟩), .iface Tu xu] v fun e w' => ∃ u, e = .returned u /\ RRf v gW base vN Y ns t u w') :
  Calls Tryz.prog 197 #[.agg #[.slice a n c, .iface Tu xu], .pointer (some ⟨gW, 0, none⟩)] w fun e w' => ∃ u, e = .returned u /\ RNd w gW base vN X ns (ext p t) u w' := by
 have hB := Bl.refl w
 replace hp := hp.aged
 have hW0 := hW
 refine Zaj Tryz.func197 rfl 12 rfl ?_
 show CW _ _ _ _ _ _ _ [(0, .agg #[.slice a n c, .iface Tu xu]), (1, .pointer (some ⟨gW, 0, none⟩))] _
 refine Zac <| Zaa <| Zax 2 (#[.slice a n c, .iface Tu xu]) 226 (fun _ => by kernel_rfl) (fun _ => by kernel_rfl) ?_
 intro w1 g2 hn3
 replace hB := hB.go hn3.below
 replace hp := hp.go hn3.below
 replace hW := hW.go hn3.below
 have hr4 : Rw g2 w1 (#[.slice a n c, .iface Tu xu]) 226 := hn3.row
 have hgb := hn3.hg
 have hsb := hn3.size
 refine Zax 4 nz.cells.toArray 68 (fun _ => by kernel_rfl) (fun _ => by kernel_rfl) ?_
 intro wN gN hnN
 replace hB := hB.go hnN.below
 replace hp := hp.go hnN.below
 replace hW := hW.go hnN.below
 replace hr4 := hr4.go hnN.below
 have hrN : Rw gN wN nz.cells.toArray 68 := hnN.row
 have hgN := hnN.hg
 have hsN := hnN.size
 have hWX : Wt wN gW base vN (fun b => X b /\ b ≠ gN) ns := (hW0.mono (Y := fun b => X b /\ b ≠ gN) (fun b hb hx => ⟨hx, by omega⟩)).go hB
 refine Zad <| Zab <| Zac <| Zaz (fun v => Rw g2 v (#[.slice a n c, .iface Tu xu]) 226) (by kernel_rfl) (hr4.drew) ?_
 replace hB := hB.drew
 replace hp := hp.drew
 replace hW := hW.drew
 replace hr4 := hr4.drew
 replace hrN := hrN.drew
 replace hWX := hWX.drew
 refine dt 0 5 (.pointer (some ⟨g2, 0, none⟩)) (fun v hv _ => by kernel_rfl) hr4 <| dt 1 6 (.slice a n c) (fun v hv _ => Zah 23 _ ⟨g2, 0, none⟩ _ _ rfl (by kernel_rfl) (by rw [cell_of_row _ _ _ _ _ _ hv]; rfl) Tryz.underlying23 rfl) hr4 <| dt 2 7 (.pointer (some ⟨gW, 0, none⟩)) (fun v hv _ => by kernel_rfl) hr4 <| dt 3 8 (.pointer (some ⟨g2, 1, none⟩)) (fun v hv _ => by kernel_rfl) hr4 <| dt 4 9 (.iface Tu xu) (fun v hv _ => Zah 74 _ ⟨g2, 1, none⟩ _ _ rfl (by kernel_rfl) (by rw [cell_of_row _ _ _ _ _ _ hv]; rfl) Tryz.underlying74 rfl) hr4 <| Zaf [5] (by kernel_rfl) (by simp) ?_
 refine Zat 5 10 194 #[.pointer (some ⟨gW, 0, none⟩), .iface Tu xu] rfl (fun _ => by kernel_rfl) (fun _ => by kernel_rfl) (R := RRf (wN.drew) gW base vN (fun b => X b /\ b ≠ gN) ns t) (hR (wN.drew) hB (fun b => X b /\ b ≠ gN) hWX (fun b hb => ⟨hX b (Nat.le_trans hB.size hb), fun e => by have hq : gN < (wN.drew).heap.size := lt_of_get hrN; omega⟩)) (fun u w' h => by obtain ⟨_, _, _, _, _, hg⟩ := h; exact hr4.wg hg hWX (by decide) (by decide)) ?_ Zam
 rintro _ u1 ⟨y, vM, rfl, hRf, hW1, hG⟩
 have hq1 : gN < _ := lt_of_get hrN
 replace hr4 := hr4.wg hG hWX (by decide) (by decide)
 replace hrN := hrN.wg hG hWX (by decide) (by decide)
 have hGt := (Wg.of_below hB).trans hG
 replace hp := hp.wg hG
 have hyl := hRf.at'.len
 clear hB hW hWX
 refine dt 6 11 (.agg (NV.cells ⟨2, a, n, c, none, 0, 0, y, none, 0, 0⟩).toArray) (fun v hv _ => Zdb 68 _ [(0, .int .i64 2), (1, .slice a n c), (3, .agg y.cells.toArray)] _ rfl (by kernel_rfl) (Zgl _ _ _ _ hyl)) hr4 <| Zaf [7] (by kernel_rfl) (by simp) ?_
 refine Zsy 7 gN ((NV.cells ⟨2, a, n, c, none, 0, 0, y, none, 0, 0⟩).toArray) rfl (fun _ => by kernel_rfl) (fun _ => Za3 68 _ _ _ _ _ _ rfl (by kernel_rfl) (by kernel_rfl) hrN (by rw [Zc1, Zbn (y := ⟨2, a, n, c, none, 0, 0, y, none, 0, 0⟩) hyl]) (by rw [Zbn (y := ⟨2, a, n, c, none, 0, 0, y, none, 0, 0⟩) hyl]; rfl) (Zew _)) (fun w' h => (h.other (by omega)).trans hr4) ?_ Zam
 intro w5 hp6
 have hrE : Rw gN w5 (NV.cells ⟨2, a, n, c, none, 0, 0, y, none, 0, 0⟩).toArray 68 := hp6.row hrN
 have hRE := hRf.put hp6 (fun b hb => by have := hb.2.2; omega)
 have hpE := hp.put hp6 (fun b hb => by have := hb.2.2; omega)
 have hWE := (hW1.put hrN (by decide) (by decide) (fun b hb => hb.2) hp6).mono (fun b _ hb => hb.1)
 have hGE := hGt.put hp6 (by omega)
 refine Zas (by kernel_rfl) <| Zab <| Zap ?_
 have lp := hpE.len
 exact Zae (.agg (NV.cells ⟨2, a, n, c, none, 0, 0, y, none, 0, 0⟩).toArray) (fun _ => Zci Tryz.results197 _ gN ⟨2, a, n, c, none, 0, 0, y, none, 0, 0⟩ hyl (by kernel_rfl) hrE) ⟨_, rfl, ⟨2, a, n, c, none, 0, 0, y, none, 0, 0⟩, vM, rfl, ⟨rfl, hpE.agk (by omega), Zmh _, hRE.at'.go (fun b hb _ => ⟨rfl, trivial⟩), ⟨rfl, Nat.le_refl _, Nat.zero_le _, Nat.zero_le _, fun _ => ⟨rfl, rfl⟩⟩, fun j r hr => by simp [nodeP] at hr⟩, hWE, hGE⟩
end Go.Proofs.YtefhepcplempkaaGreat
namespace Go.Proofs.YtefhepcplempkaaGreat
open Go.RowKit
theorem Sk.keep {K L : Nat -> Prop} {w w' : World} {a : Option Addr} {n c : Nat} {bs : List Int} (h : Sk K w a n c bs) (hk : Keep K L w w') : Sk L w' a n c bs := by
 refine ⟨Zmi h.ag (fun g off e h0 hl => (hk g (h.k _ e h0) hl).1), fun x hx h0 => ?_⟩
 exact (hk _ (h.k x hx h0) (h.old hx h0)).2
theorem Zl3 {K : Nat -> Prop} {w w' : World} (h : Bl w w') : Keep K K w w' := fun g hg hl => ⟨Below.block h g hl, hg⟩
theorem r_at0 (y : RV) : y.cells.toArray[0]? = some (.int .i64 y.k) := by simp [RV.cells]
theorem Zzq {y : RV} (h : y.d.length = 32) : y.cells.toArray[33]? = some (.slice y.a y.n y.c) := by
 rw [List.getElem?_toArray, RV.cells, List.getElem?_cons_succ, List.getElem?_append_right (by simp [h])]
 simp [h]
theorem r_dig {w : World} {g o : Nat} {y : RV} (h : w.rangeAt g o y.cells) (hl : y.d.length = 32) : w.rangeAt g (o + 1) (y.d.map (Value.int .u8)) := fun j v hj => by
 have hlt : j < y.d.length := by have := (List.getElem?_eq_some_iff.1 hj).1; simpa using this
 rw [show o + 1 + j = o + (j + 1) from by omega]
 refine h (j + 1) v ?_
 rw [RV.cells, List.getElem?_cons_succ, List.getElem?_append_left (by simpa using hlt)]
 exact hj
theorem Zod {w : World} {g : Nat} {cs : List Value} {T : TypeId} (h : Rw g w cs.toArray T) : w.rangeAt g 0 cs := fun j v hj => by
 rw [cell_of_row _ _ _ _ _ _ h, Nat.zero_add, List.getElem?_toArray]; exact hj
theorem Zz3 (z : NV) : z.cells.toArray[0]? = some (.int .i64 z.k) := by simp [NV.cells]
theorem n_at1 (z : NV) : z.cells.toArray[1]? = some (.slice z.pa z.pn z.pc) := by simp [NV.cells]
theorem n_at2 (z : NV) : z.cells.toArray[2]? = some (.slice z.va z.vn z.vc) := by simp [NV.cells]
theorem Zv3 {z : NV} (h : z.c.d.length = 32) : z.cells.toArray[37]? = some (.slice z.ka z.kn z.kc) := by
 rw [List.getElem?_toArray, NV.cells, show (37 : Nat) = 34 + 1 + 1 + 1 from rfl, List.getElem?_cons_succ, List.getElem?_cons_succ, List.getElem?_cons_succ, List.getElem?_append_right (by rw [RV.len h]; omega)]
 simp [RV.len h]
end Go.Proofs.YtefhepcplempkaaGreat
namespace Go.Proofs.YtefhepcplempkaaGreat
open Go.RowKit
open Tr
open Di (dref)
def opP (r : PR) (l : List (List Int)) : Option (PN × List (List Int)) :=
 if r.k = 2 then (match l with
  | [] => none
  | b :: l' => if dref b = r.d then (ND b).map fun n => (n, l') else none)
 else (ND r.i).map fun n => (n, l)
def kidP (n : PN) (p : List Int) : PR := n.ks.getD (p.getD 0 0).toNat r0
def foP (n : PN) (p : List Int) : Option (PR × List Int) :=
 if n.k = 3 /\ 0 < p.length then (if (kidP n p).k = 0 then none else some (kidP n p, p.drop 1))
 else if n.k = 2 /\ p.take n.p.length = n.p then some (n.c, p.drop n.p.length) else none
def vaP (n : PN) (p : List Int) : List Int := if n.p = p then n.v else []
def veP : Nat -> PR -> List Int -> List (List Int) -> Bool -> Option (List Int)
 | 0, _, _, _, _ => none
 | f + 1, r, p, l, ex => match opP r l with
  | none => none
  | some (n, l') => if ex = true /\ n.k ≠ 3 then none else match foP n p with
   | some (r', p') => veP f r' p' l' (decide (n.k = 2))
   | none => if l' = [] then some (vaP n p) else none
theorem Zxq {ρ : Operand -> Value} {w : World} {x y : Operand} {o : Oper} {ds es : List Int} (ho : o.op = .binOp .neq 35 x y 35) (hx : ρ x = .agg (B8 ds)) (hy : ρ y = .agg (B8 es)) (h1 : ds.length = 32) (h2 : es.length = 32) : (execOp ρ o).run Tryz.prog w = .ok (.value (.bool (!(ds == es)))) w := by
 have e := eqD ds es h1 h2 w
 unfold execOp
 rw [ho]
 simp only [hx, hy]
 go_simp
theorem Zxr {ρ : Operand -> Value} {w : World} {o : Oper} {a : Option Addr} {n c : Nat} (f : Nat) (x y : Operand) (ho : o.op = .slice 28 x (some y) none none) (hx : ρ x = .slice a n c) {i : Int} (hy : ρ y = .int .i64 i) (hi : i = f) (hf : f <= n) : (execOp ρ o).run Tryz.prog w = .ok (.value (.slice (if c = f then a else a.map (·.add (f * 1))) (n - f) (c - f))) w := by
 subst hi
 unfold execOp
 rw [ho]
 simp [hx, hy, Instr.sliceAt, run_underlying Tryz.underlying28, Instr.slice, Instr.sliceBounds, Instr.sliceBound, asIntOf, hf, Result.andThen]
theorem Zof {fn : Func} {p q r : Tmp} {f : Nat -> Value} (h : fn.results = #[.cell p 68, .tmp q, .tmp r]) (w : World) (g : Nat) (y : NV) (hl : y.c.d.length = 32) (hp : f p = .pointer (some ⟨g, 0, none⟩)) {u v : Value} (hq : f q = u) (hr : f r = v) (hg : Rw g w y.cells.toArray 68) : (resF f fn.results).run Tryz.prog w = .ok (.tuple #[.agg y.cells.toArray, u, v]) w := by
 have := run_loadVar_row (P := Tryz.prog) w g 68 68 _ _ _ hg Tryz.underlying68 rfl (by rw [Zc1, Zbn hl])
 unfold resF
 rw [h]
 simp [hp, hq, hr, this, asAddr]
theorem Zoe {fn : Func} {p q r : Tmp} {f : Nat -> Value} (h : fn.results = #[.cell p 65, .tmp q, .tmp r]) (w : World) (g : Nat) (y : RV) (hl : y.d.length = 32) (hp : f p = .pointer (some ⟨g, 0, none⟩)) {u v : Value} (hq : f q = u) (hr : f r = v) (hg : Rw g w y.cells.toArray 65) : (resF f fn.results).run Tryz.prog w = .ok (.tuple #[.agg y.cells.toArray, u, v]) w := by
 have := run_loadVar_row (P := Tryz.prog) w g 65 65 _ _ _ hg Tryz.underlying65 rfl (by rw [Zbx, List.size_toArray, RV.len hl])
 unfold resF
 rw [h]
 simp [hp, hq, hr, this, asAddr]
section
variable {m : Nat} {P : Program} {ds : List Deferred} {n : Nat} {Q : Exit → Act → World → Prop} {env : Env} {w : World}
theorem Zux {c B : Code} {X : Type} (l : Nat) (E : X -> Env) (R : X -> World -> Prop) (μ : X -> Nat) (hf : findLabel c l = some (.seq .skip B))
  (first : ∀ Q', (∀ x v, R x v -> CW none m P ds n Q' B (E x) v) -> CW none m P ds n Q' c env w)
  (pass : ∀ x v, R x v -> CW none m P ds n (Exit.jump l (fun a' w' => ∃ x', μ x' < μ x /\ Frm ds n (E x') a' /\ R x' w') Q) B (E x) v) : CW none m P ds n Q (.scope c) env w := fun a ha => by
 refine wpIn_wide.2 ?_
 have hB : ∀ x v a, Frm ds n (E x) a -> R x v -> (Code.seq .skip B).wp P (Exit.jump l (fun a' w' => ∃ x', μ x' < μ x /\ Frm ds n (E x') a' /\ R x' w') Q) a v := fun x v a hF hR => wp_seq (wp_skip (wpIn_wide.1 (pass x v hR a hF)))
 have hm : ∀ {J J' : Act -> World -> Prop} {Q : Exit -> Act -> World -> Prop} {c : Code} {a w}, (∀ a w, J a w -> J' a w) -> c.wp P (Exit.jump l J Q) a w -> c.wp P (Exit.jump l J' Q) a w := fun hj h => wp_mono h (fun e a w hq => by
  cases e with
  | goto l' => exact ⟨hq.1, hj _ _ hq.2⟩
  | _ => exact hq)
 refine wp_scope_jumps l (fun a w => ∃ k x, μ x = k /\ Frm ds n (E x) a /\ R x w) (fun a w => leastOf (fun k => ∃ x, μ x = k /\ Frm ds n (E x) a /\ R x w)) hf ?_ ?_
 ·exact wpIn_wide.1 (first _ (fun x v hR a hF => wpIn_wide.2 (hm (fun a w ⟨x', _, h1, h2⟩ => ⟨_, x', rfl, h1, h2⟩) (wpIn_wide.1 (pass x v hR a hF)))) a ha)
 ·intro a w hJ
  obtain ⟨x, hx, hF, hR⟩ := (leastOf_spec (p := fun k => ∃ x, μ x = k /\ Frm ds n (E x) a /\ R x w) hJ).1
  refine hm ?_ (hB x w a hF hR)
  rintro a' w' ⟨x', hlt, h1, h2⟩
  exact ⟨⟨_, x', rfl, h1, h2⟩, Nat.lt_of_le_of_lt ((leastOf_spec (p := fun k => ∃ x, μ x = k /\ Frm ds n (E x) a' /\ R x w') ⟨_, x', rfl, h1, h2⟩).2 _ ⟨x', rfl, h1, h2⟩) (by rw [<- hx]; exact hlt)⟩
theorem Zlz {l : Nat} {J : Act -> World -> Prop} (h : NW ds n Q .ret env w) : NW ds n (Exit.jump l J Q) .ret env w := h
end
def OpR (w : World) (ai : Option Addr) (ni : Nat) (Mi : List (List Int)) (o : Option (PN × List (List Int))) : Value -> World -> Prop := fun u w' => (∃ (z : NV) (a : Option Addr) (n c : Nat), u = .tuple #[.agg z.cells.toArray, .slice a n c, .bool o.isSome] /\ z.c.d.length = 32 /\ ∀ N M, o = some (N, M) -> NodeAt (Own w.heap.size w') w' z N /\ (∀ K0 w0, Bt K0 w0 ai ni Mi -> Bt K0 w0 a n M) /\ n <= c) /\ Bl w w'
def FoR (K : Nat -> Prop) (w : World) (o : Option (PR × List Int)) : Value -> World -> Prop := fun u w' => (∃ (y : RV) (a : Option Addr) (n c : Nat), u = .tuple #[.agg y.cells.toArray, .slice a n c, .bool o.isSome] /\ y.d.length = 32 /\ ∀ r p, o = some (r, p) -> RefAt K w' y r /\ Sk K w' a n c p) /\ Bl w w'
end Go.Proofs.YtefhepcplempkaaGreat
namespace Go.Proofs.YtefhepcplempkaaGreat
open Go.RowKit
open Tr
open Di (dref)
theorem Zcj {P : Program} {ρ : Operand -> Value} {w : World} {o : Oper} {kd : IntKind} (T : TypeId) (x y : Operand) (g off j mm c sz : Nat) (E : TypeId) (ho : o.op = .indexAddr T x y) (hx : ρ x = .slice (some ⟨g, off, none⟩) mm c) {i : Int} (hy : ρ y = .int kd i) (hi' : i = (j : Nat)) (hj : j < mm) (hu : P.underlying T = some (.slice E)) (hi : (P.info? E).map (·.size) = some sz) :
  (execOp ρ o).run P w = .ok (.value (.pointer (some ⟨g, off + j * sz, none⟩))) w := by
 subst hi'
 have hs : (sizeOf E).run P w = .ok sz w := by
  cases hq : P.info? E with
  | none => simp [hq] at hi
  | some z => simp [hq] at hi; simp [sizeOf, typeInfo, hq, hi]
 unfold execOp
 rw [ho]
 simp only [hx, hy]
 have he : (if j * sz = 0 then (⟨g, off, none⟩ : Addr) else ⟨g, off + j * sz, none⟩) = ⟨g, off + j * sz, none⟩ := by split <;> simp_all
 simp [Instr.indexAt, asIntOf, run_underlying hu, hs, hj, Result.andThen, Addr.add, he]
theorem AgK.sk {K : Nat -> Prop} {w : World} {a : Option Addr} {n c : Nat} {bs : List Int} (h : AgK K w a n c bs) : Sk K w a n c bs := ⟨h.1, fun x hx h0 => by
 obtain ⟨g, off, e, _⟩ := ag_head h.1 h0
 rw [e] at hx; cases hx
 exact h.2.2 g off e h0⟩
theorem Zp6 : (rz : RV).d.length = 32 := rfl
set_option maxHeartbeats 1000000 in
theorem Zlo {K K' : Nat -> Prop} {w : World} {z : NV} {N : PN} {a : Option Addr} {n c : Nat} {p : List Int} (hz : NodeAt K w z N) (hp : Sk K' w a n c p) :
  Calls Tryz.prog 70 #[.agg z.cells.toArray, .slice a n c] w fun e w' => ∃ u, e = .returned u /\ (fun u w' => ∃ a' n' c', u = .slice a' n' c' /\ Sk K w' a' n' c' (vaP N p) /\ Bl w w') u w' := by
 have hB := Bl.refl w
 have hzl := hz.c.len
 have hz0 := hz
 have hzp := hz0.p.sk
 refine Zaj Tryz.func70 rfl 12 rfl ?_
 show CW _ _ _ _ _ _ _ [(0, .agg z.cells.toArray), (1, .slice a n c)] _
 refine Zac <| Zaa <| Zax 2 z.cells.toArray 68 (fun _ => by kernel_rfl) (fun _ => by kernel_rfl) ?_
 intro w1 gN hnN
 have hN1 : Rw gN w1 z.cells.toArray 68 := hnN.row
 replace hB := hB.go hnN.below
 replace hp := hp.go hnN.below
 replace hzp := hzp.go hnN.below
 refine rp 4 (.slice none 0 0) <| Zad <| Zab <| Zac <| Zac <| Zaa <| rp 5 (.pointer (some ⟨gN, 1, none⟩)) <| rv 6 (.slice z.pa z.pn z.pc) (fun _ => Zah 23 _ ⟨gN, 1, none⟩ _ _ rfl (by kernel_rfl) (by rw [cell_of_row _ _ _ _ _ _ hN1]; exact n_at1 z) Tryz.underlying23 rfl) <| rp 7 (.slice a n c) <| Zao 8 48 #[.slice z.pa z.pn z.pc, .slice a n c] (fun _ => by kernel_rfl) (fun _ => by kernel_rfl) (R := fun u w' => u = .bool (decide (N.p = p)) /\ Bl (w1) w') ((Ze7 hzp hp)) ?_
 rintro _ u1 ⟨rfl, hb2⟩
 replace hB := hB.go hb2
 replace hp := hp.go hb2
 replace hzp := hzp.go hb2
 replace hN1 := hN1.go hb2
 refine rp 9 (.bool (!(decide (N.p = p)))) <| Zad <| Zab ?_
 by_cases hpp : N.p = p
 ·skip
  rw [show (!decide (N.p = p)) = false from by simp [hpp]]
  refine Zai (fun _ => by kernel_rfl) <| Zan <| Zab <| Zac <| Zaa <| rp 10 (.pointer (some ⟨gN, 2, none⟩)) <| rv 11 (.slice z.va z.vn z.vc) (fun _ => Zah 23 _ ⟨gN, 2, none⟩ _ _ rfl (by kernel_rfl) (by rw [cell_of_row _ _ _ _ _ _ hN1]; exact n_at2 z) Tryz.underlying23 rfl) <| rp 4 (.slice z.va z.vn z.vc) <| Zad <| Zab <| Zap ?_
  exact Zae (.slice z.va z.vn z.vc) (fun _ => by kernel_rfl) ⟨_, rfl, z.va, z.vn, z.vc, rfl, by rw [vaP, if_pos hpp]; exact hz0.v.sk.go hB, hB⟩
 ·skip
  rw [show (!decide (N.p = p)) = true from by simp [hpp]]
  refine Zak (fun _ => by kernel_rfl) <| Zac <| Zaa <| rp 4 (.slice none 0 0) <| Zad <| Zab <| Zap <| Zaq ?_
  exact Zae (.slice none 0 0) (fun _ => by kernel_rfl) ⟨_, rfl, none, 0, 0, rfl, by rw [vaP, if_neg hpp]; exact Sk.nil _ _, hB⟩
end Go.Proofs.YtefhepcplempkaaGreat
