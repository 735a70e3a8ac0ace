/- A region that draws its order, within a round. -/
import Derived.Test.YtefhepcplempkaaGreatG29
import Derived.Test.YtefhepcplempkaaGreatG31
import Derived.Test.YtefhepcplempkaaGreatG22
import Derived.Test.YtefhepcplempkaaGreatG21
import Derived.Test.YtefhepcplempkaaGreatG01
set_option linter.unusedVariables false
set_option maxRecDepth 100000
namespace Go.Proofs.YtefhepcplempkaaGreat
open Go.RowKit
section
variable {m : Nat} {P : Program} {ds : List Deferred} {n : Nat} {Q : Exit → Act → World → Prop} {env : Env} {w : World} {ops : Array Oper} {S : World → Prop}
theorem Zok {l : Nat} {o : Oper} {a : Act} {w : World} {K : Act -> World -> Prop} (hnd : ∀ c, o.op ≠ .defer c) (h : o.wp P a w K Q) : o.wpIn (Fence.wide.inRound l) m P a w K Q := by
 refine ⟨fun f _ => trivial, ?_⟩
 rw [Oper.semAt_eq _ _ _ hnd]
 unfold Oper.wp at h
 generalize (execOp a.eval o).run P w = r at h ⊢
 cases r with
 | ok x w' =>
  cases x with
  | value v => exact h
  | skip => exact h
  | defer d => exact h
  | enter f args => exact ⟨fun e => absurd e Bool.false_ne_true, callsIn_wide.2 h⟩
  | row row args => exact ⟨fun e => absurd e Bool.false_ne_true, fun c cs _ => by obtain ⟨v, w'', r, s⟩ := h c cs; exact ⟨v, w'', r, stepsIn_wide.2 s⟩⟩
  | _ => exact h.elim
 | halt x w' =>
  cases x with
  | panic v => exact h
  | _ => exact h.elim
theorem Zpw {l : Nat} (hLO : ¬ LetsOut Q) (hnd : ops.all (fun o => match o.op with | .defer _ => false | _ => true) = true) {i : Nat} {K : Act -> World -> Prop} {a : Act} {w : World} (h : wpOp P ops Q i K a w) : wpOpIn (Fence.wide.inRound l) m P ops Q i K a w := by
 unfold wpOp at h
 unfold wpOpIn
 cases ho : ops[i]? with
 | none => simpa [ho] using h
 | some o =>
  simp only [ho] at h ⊢
  have hd : ∀ c, o.op ≠ .defer c := fun c e => by
   have := Array.all_eq_true.1 hnd i (Array.getElem?_eq_some_iff.1 ho).1
   rw [(Array.getElem?_eq_some_iff.1 ho).2, e] at this
   cases this
  split
  ·rename_i hw
   simp only [hw, if_true] at h
   rcases h with h | h
   ·exact Zok hd h
   ·exact absurd h.2 hLO
  ·rename_i hw
   simp only [hw] at h
   exact ⟨fun f _ => trivial, h⟩
theorem Ziw {l : Nat} (hLO : ¬ LetsOut Q) (hnd : ops.all (fun o => match o.op with | .defer _ => false | _ => true) = true) : ∀ (fuel : Nat) (listed : Array Bool) (a : Act) (w : World), wpAnyH P .any ops Q S fuel listed a w -> wpAnyIn (Fence.wide.inRound l) m P .any ops Q fuel listed a w
 | 0, _, _, _, h => h
 | fuel + 1, _, _, _, h => ⟨h.1, fun i hi => wpOpIn_mono (fun a' w' h' => Ziw hLO hnd fuel _ a' w' h'.2) (Zpw hLO hnd (h.2 i hi))⟩
theorem Zt5 {id l : Nat} (S : World -> Prop) (hm : P.follows .mixedOrders = true) (hnd : ops.all (fun o => match o.op with | .defer _ => false | _ => true) = true) (hLO : ¬ LetsOut Q) (hS : S w.drew) (h : DW P ds n Q ops S ops.size (Array.replicate ops.size false) env w.drew) : CW (some l) m P ds n Q (.region id ops true) env w := fun a ha =>
 wpIn_region_any (F := Fence.wide.inRound l) hm (Ziw hLO hnd _ _ _ _ (h a ha))
end
end Go.Proofs.YtefhepcplempkaaGreat
namespace Go.Proofs.YtefhepcplempkaaGreat
open Go.RowKit
open Tr
def nbE (e : List Int × List Int) : List Int × List Int := (Ni.nib e.1, e.2)
def EnR (w : World) (L : PList) : Value -> World -> Prop := fun u w' => (∃ a c vs, u = .slice a L.length c /\ PAt (fun _ => True) w' a L.length c vs (L.map nbE)) /\ Bl w w'
set_option maxHeartbeats 4000000 in
theorem Zxe {w : World} {vW : Value} {gE oE c : Nat} {a1 a2 : Option Addr} {n1 c1 n2 c2 : Nat} {p x : List Int} (hc1 : w.cell? ⟨gE, oE + 0 * 2, none⟩ = some (.slice a1 n1 c1)) (hc2 : w.cell? ⟨gE, oE + 0 * 2 + 1, none⟩ = some (.slice a2 n2 c2)) (hs1 : Sk (fun _ => True) w a1 n1 c1 p) (hs2 : Sk (fun _ => True) w a2 n2 c2 x) (hn1 : n1 <= 1000) (hn2 : n2 <= 1000) :
  Calls Tryz.prog 56 #[vW, .slice (some ⟨gE, oE, none⟩) 1 c, .int .i64 0] w fun e w' => ∃ u, e = .returned u /\ (fun u w' => (∃ z : NV, u = .agg z.cells.toArray /\ NodeAt (fun _ => True) w' z (nodeP (leaf p x))) /\ Bl w w') u w' := by
 have hB := Bl.refl w
 have ls1 := hs1.len
 have ls2 := hs2.len
 have hs2w : Sk (fun b => b < w.heap.size) w a2 n2 c2 x := ⟨hs2.ag, fun q hq hn => hs2.old hq hn⟩
 have hs1w : Sk (fun b => b < w.heap.size) w a1 n1 c1 p := ⟨hs1.ag, fun q hq hn => hs1.old hq hn⟩
 refine Zat Tryz.func56 rfl 53 rfl ?_
 show CW _ _ _ _ _ _ _ [(0, vW), (1, .slice (some ⟨gE, oE, none⟩) 1 c), (2, .int .i64 0)] _
 refine Zac <| Zaa <| Zbk 6 nz.cells.toArray 68 (fun _ => by kernel_rfl) (fun _ => by kernel_rfl) ?_
 intro w1 g6 hn6
 have h6 : Rw g6 w1 nz.cells.toArray 68 := hn6.row
 have hg6 : w.heap.size <= g6 := by rw [hn6.hg]; exact Nat.le_refl _
 replace hB := hB.go hn6.below
 replace hs1 := hs1.go hn6.below
 replace hs2 := hs2.go hn6.below
 have hB1 := hB
 refine Zad <| Zab <| Zac <| Za7 (fun v => Bl w v) (by kernel_rfl) (hB.drew) ?_
 replace hB := hB.drew
 replace hs1 := hs1.drew
 replace hs2 := hs2.drew
 replace h6 := h6.drew
 refine dt 0 10 (.slice (some ⟨gE, oE, none⟩) 1 c) (fun v hv _ => by kernel_rfl) hB <| dt 1 11 (.pointer (some ⟨gE, oE + 0 * 2, none⟩)) (fun v hv _ => Zbt 55 _ _ gE oE 0 1 c 2 95 rfl (by kernel_rfl) (by kernel_rfl) (by omega) Tryz.underlying55 (by kernel_rfl)) hB <| dt 2 12 (.pointer (some ⟨gE, oE + 0 * 2, none⟩)) (fun v hv _ => by kernel_rfl) hB <| dt 3 13 (.slice a1 n1 c1) (fun v hv _ => Zai 23 _ _ _ _ rfl (by kernel_rfl) ((Below.cell hv (block_lt_of_cell hc1)).trans hc1) Tryz.underlying23 rfl) hB <| dt 4 14 (.slice (some ⟨gE, oE, none⟩) 1 c) (fun v hv _ => by kernel_rfl) hB <| dt 5 15 (.slice (some ⟨gE, oE, none⟩) 1 c) (fun v hv _ => by kernel_rfl) hB <| dt 6 16 (.int .i64 1) (fun v hv _ => by kernel_rfl) hB <| dt 7 17 (.int .i64 0) (fun v hv _ => by kernel_rfl) hB <| dt 8 18 (.pointer (some ⟨gE, oE + 0 * 2, none⟩)) (fun v hv _ => Zbt 55 _ _ gE oE 0 1 c 2 95 rfl (by kernel_rfl) (by kernel_rfl) (by omega) Tryz.underlying55 (by kernel_rfl)) hB <| dt 9 19 (.pointer (some ⟨gE, oE + 0 * 2, none⟩)) (fun v hv _ => by kernel_rfl) hB <| dt 10 20 (.slice a1 n1 c1) (fun v hv _ => Zai 23 _ _ _ _ rfl (by kernel_rfl) ((Below.cell hv (block_lt_of_cell hc1)).trans hc1) Tryz.underlying23 rfl) hB <| dt 11 7 (.slice a1 n1 c1) (fun v hv _ => by kernel_rfl) hB ?_
 refine dt 12 8 (.slice a1 n1 c1) (fun v hv _ => by kernel_rfl) hB <| Zax (by kernel_rfl) <| Zab <| Zac <| Zaa <| rp 21 (.slice a1 n1 c1) <| rp 22 (.slice a1 n1 c1) <| Zav 23 81 #[.slice a1 n1 c1, .slice a1 n1 c1] (fun _ => by kernel_rfl) (fun _ => by kernel_rfl) (R := fun u w' => u = .int .i64 (Ni.com p p : Nat) /\ Bl (w1.drew) w') (((Ni.common_any _ _ _ _ _ _ p p _ hs1.ag hs1.ag (by omega) (by omega)).mono (fun e w' h => ⟨_, h.1, rfl, h.2⟩))) ?_
 rintro _ u2 ⟨rfl, hb2⟩
 replace hB := hB.go hb2
 replace hs1 := hs1.go hb2
 replace hs2 := hs2.go hb2
 replace h6 := h6.go hb2
 refine rp 9 (.int .i64 ((Ni.com p p : Nat) : Int)) <| Zad <| Zab <| Zac <| Zbc <| Zac <| Zaa <| rp 25 (.slice (some ⟨gE, oE, none⟩) 1 c) <| rp 26 (.int .i64 1) <| rp 27 (.bool true) <| rp 24 (.bool true) <| Zad ?_
 refine Zab <| Zam (fun _ => by kernel_rfl) <| Zac ?_
 have hSE := hB
 obtain ⟨a9, n9, c9, hr9, hs9w⟩ := hs1w.cutFrom 0 (by omega)
 rw [List.drop_zero] at hs9w
 have ls9 := hs9w.len
 refine Za7 (fun v => Bl w v) (by kernel_rfl) (hB.drew) ?_
 replace hB := hB.drew
 replace hs1 := hs1.drew
 replace hs2 := hs2.drew
 replace h6 := h6.drew
 refine dt 0 28 (.slice a1 n1 c1) (fun v hv _ => by kernel_rfl) hB <| dt 1 29 (.int .i64 0) (fun v hv _ => by kernel_rfl) hB <| dt 2 30 (.slice a9 n9 c9) (fun v hv _ => hr9 _ _ _ _ _ _ rfl (by kernel_rfl) (by kernel_rfl) rfl) hB <| dt 3 31 (.slice (some ⟨gE, oE, none⟩) 1 c) (fun v hv _ => by kernel_rfl) hB <| dt 4 32 (.pointer (some ⟨gE, oE + 0 * 2, none⟩)) (fun v hv _ => Zbt 55 _ _ gE oE 0 1 c 2 95 rfl (by kernel_rfl) (by kernel_rfl) (by omega) Tryz.underlying55 (by kernel_rfl)) hB <| dt 5 33 (.pointer (some ⟨gE, oE + 0 * 2 + 1, none⟩)) (fun v hv _ => by kernel_rfl) hB <| dt 6 34 (.slice a2 n2 c2) (fun v hv _ => Zai 23 _ _ _ _ rfl (by kernel_rfl) ((Below.cell hv (block_lt_of_cell hc2)).trans hc2) Tryz.underlying23 rfl) hB <| dt 7 35 (.agg (NV.cells ⟨1, a9, n9, c9, a2, n2, c2, rz, none, 0, 0⟩).toArray) (fun v hv _ => Zfk 68 _ [(0, .int .i64 1), (1, .slice a9 n9 c9), (2, .slice a2 n2 c2)] _ rfl (by kernel_rfl) (Zg2 _ _ _ _ _ _)) hB <| Zak [8] (by kernel_rfl) (by simp) ?_
 refine Zjs 8 g6 (NV.cells ⟨1, a9, n9, c9, a2, n2, c2, rz, none, 0, 0⟩).toArray rfl (fun _ => by kernel_rfl) (fun _ => Za9 68 _ _ _ _ _ _ rfl (by kernel_rfl) (by kernel_rfl) h6 (by kernel_rfl) (by kernel_rfl) (by kernel_rfl)) (fun w' h => h.below hB hg6 hB.size) ?_ Zaw
 intro w9 hp9
 have h9 : Rw g6 w9 (NV.cells ⟨1, a9, n9, c9, a2, n2, c2, rz, none, 0, 0⟩).toArray 68 := hp9.row h6
 have hk9 : ∀ {a : Option Addr} {n c : Nat} {bs : List Int}, Sk (fun b => b < w.heap.size) w a n c bs -> Sk (fun _ => True) w9 a n c bs := fun h => (h.go (hp9.below hB hg6 hB.size)).mono (fun _ _ => trivial)
 replace hB : Bl w w9 := hp9.below hB hg6 hB.size
 refine Zax (by kernel_rfl) <| Zab <| Zao <| Zbv <| Zah ?_
 exact Zae (.agg (NV.cells ⟨1, a9, n9, c9, a2, n2, c2, rz, none, 0, 0⟩).toArray) (fun _ => Zk8 Tryz.results56 _ g6 ⟨1, a9, n9, c9, a2, n2, c2, rz, none, 0, 0⟩ rfl (by kernel_rfl) h9) ⟨_, rfl, ⟨⟨1, a9, n9, c9, a2, n2, c2, rz, none, 0, 0⟩, rfl, ⟨rfl, (hk9 (show Sk _ w a9 n9 c9 p from hs9w)).agk (by omega), (hk9 hs2w).agk (by omega), Zne _, ⟨rfl, Nat.le_refl _, Nat.zero_le _, Nat.zero_le _, fun _ => ⟨rfl, rfl⟩⟩, fun j r hr => by simp [nodeP] at hr⟩⟩, hB⟩
set_option maxHeartbeats 4000000 in
theorem wenc1 {w : World} {vW : Value} {gE oE c : Nat} {a1 a2 : Option Addr} {n1 c1 n2 c2 : Nat} {p x : List Int} (hc1 : w.cell? ⟨gE, oE + 0 * 2, none⟩ = some (.slice a1 n1 c1)) (hc2 : w.cell? ⟨gE, oE + 0 * 2 + 1, none⟩ = some (.slice a2 n2 c2)) (hs1 : Sk (fun _ => True) w a1 n1 c1 p) (hs2 : Sk (fun _ => True) w a2 n2 c2 x) (hn1 : n1 <= 1000) (hn2 : n2 <= 1000) :
  Calls Tryz.prog 29 #[vW, .slice (some ⟨gE, oE, none⟩) 1 c, .int .i64 0] w fun e w' => ∃ u, e = .returned u /\ (fun u w' => (∃ a n c, u = .slice a n c /\ Sk (fun b => w.heap.size <= b) w' a n c (encT (leaf p x))) /\ Bl w w') u w' := by
 have hB := Bl.refl w
 refine Zat Tryz.func29 rfl 18 rfl ?_
 show CW _ _ _ _ _ _ _ [(0, vW), (1, .slice (some ⟨gE, oE, none⟩) 1 c), (2, .int .i64 0)] _
 refine Zac <| Zaa <| rp 6 (.slice none 0 0) <| Zad <| Zab <| Zac <| Zaa <| rp 10 (vW) <| rp 11 (.slice (some ⟨gE, oE, none⟩) 1 c) <| rp 12 (.int .i64 0) <| Zav 13 56 #[vW, .slice (some ⟨gE, oE, none⟩) 1 c, .int .i64 0] (fun _ => by kernel_rfl) (fun _ => by kernel_rfl) (R := fun u w' => (∃ z : NV, u = .agg z.cells.toArray /\ NodeAt (fun _ => True) w' z (nodeP (leaf p x))) /\ Bl w w') (Zxe hc1 hc2 hs1 hs2 hn1 hn2) ?_
 rintro _ u1 ⟨⟨y, rfl, hN⟩, hb1⟩
 replace hB := hB.go hb1
 refine Zav 14 55 #[.agg y.cells.toArray] (fun _ => by kernel_rfl) (fun _ => by kernel_rfl) (R := fun u w' => ∃ a m c, u = .tuple #[.slice a m c, .int .i64 ((NEP (nodeP (leaf p x))).2 : Nat)] /\ Sk (fun b => u1.heap.size <= b) w' a m c (NEP (nodeP (leaf p x))).1 /\ Bl u1 w') ((Zh2 (fun _ => True) y (nodeP (leaf p x)) u1 hN).mono (fun e w' h => by obtain ⟨⟨a, m, c, e1, h1, h2⟩, h3⟩ := h; exact ⟨_, e1, a, m, c, rfl, ⟨h1, fun q hq hn => by rcases h1.i with ⟨q1, q2⟩ | ⟨gb, off, q1, _⟩; omega; rw [hq] at q1; cases q1; exact (h2 gb off hq hn).1⟩, h3⟩)) ?_
 rintro _ u2 ⟨a3, n3, c3, rfl, hs3, hb2⟩
 have hz2 := hB.size
 replace hB := hB.go hb2
 refine rp 9 (.tuple #[.slice a3 n3 c3, .int .i64 ((NEP (nodeP (leaf p x))).2 : Nat)]) <| rp 15 (.slice a3 n3 c3) <| rp 16 (.int .i64 ((NEP (nodeP (leaf p x))).2 : Nat)) <| rp 7 (.slice a3 n3 c3) <| rp 8 (.int .i64 ((NEP (nodeP (leaf p x))).2 : Nat)) <| Zad <| Zab <| Zac <| Zaa <| rp 17 (.slice a3 n3 c3) <| rp 6 (.slice a3 n3 c3) <| Zad ?_
 refine Zab <| Zao ?_
 exact Zae (.slice a3 n3 c3) (fun _ => by kernel_rfl) ⟨_, rfl, ⟨a3, n3, c3, rfl, by rw [Zif (t := leaf p x) (by simp)]; exact hs3.mono (fun b hb => by have : _ <= b := hb; omega)⟩, hB⟩
theorem rev1 {w : World} {g c : Nat} :
  Calls Tryz.prog 30 #[.slice (some ⟨g, 0, none⟩) 1 c] w fun e w' => ∃ u, e = .returned u /\ Bl w w' := by
 have hB := Bl.refl w
 refine Zat Tryz.func30 rfl 28 rfl ?_
 show CW _ _ _ _ _ _ _ [(0, .slice (some ⟨g, 0, none⟩) 1 c)] _
 refine Zac <| Zaa <| rp 4 (.slice (some ⟨g, 0, none⟩) 1 c) <| rp 5 (.int .i64 1) <| rp 6 (.int .i64 0) <| rp 2 (.int .i64 0) <| rp 3 (.int .i64 0) <| Zad <| Zab <| Zbc <| Ze6 (X := Unit) (fun _ => [(2, .int .i64 0), (3, .int .i64 0), (0, .slice (some ⟨g, 0, none⟩) 1 c)]) (fun _ v => Bl w v) (fun _ => 0) () (by exact ⟨fun _ => by kernel_rfl, ⟨fun _ => by kernel_rfl, ⟨fun _ => by kernel_rfl, trivial⟩⟩⟩) hB ?_
 clear hB
 intro _ v hB
 show CW _ _ _ _ _ _ _ [(2, .int .i64 0), (3, .int .i64 0), (0, .slice (some ⟨g, 0, none⟩) 1 c)] _
 refine Zac <| Zac <| Zaa <| rp 7 (.int .i64 0) <| rp 8 (.int .i64 0) <| rp 9 (.bool false) <| Zad <| Zab <| Zag (fun _ => by kernel_rfl) <| Ze7 <| Za1 <| Za1 ?_
 refine Zbw ?_
 exact Ze1 (.tuple #[]) (fun _ => by kernel_rfl) ⟨_, rfl, hB⟩
theorem Zw4 {w : World} {gN : Nat} {u : Value} {T : TypeId} (hr : Rw gN w #[u] T) : ∃ v' w' cV, (∀ ty, (Builtin.append_ #[28, 28] ty #[.slice none 0 0, .slice (some ⟨gN, 0, none⟩) 1 1]).run Tryz.prog w = .ok v' w') /\ (∃ g, v' = .slice (some ⟨g, 0, none⟩) 1 cV /\ w'.cell? ⟨g, 0 + 0 * 1, none⟩ = some u /\ 1 <= cV) /\ Below w.heap.size w w' := by
 obtain ⟨i, hi, hz, hsz, hby⟩ : ∃ i, Tryz.prog.info? 23 = some i /\ i.zero = some (.slice none 0 0) /\ i.size = 1 /\ i.bytes = 24 := by
  have h : (Tryz.prog.info? 23).map (fun i => (i.zero, i.size, i.bytes)) = some (some (.slice none 0 0), 1, 24) := by kernel_rfl
  cases hq : Tryz.prog.info? 23 with
  | none => rw [hq] at h; simp at h
  | some i => rw [hq] at h; simp at h; exact ⟨i, rfl, h.1, h.2.1, h.2.2⟩
 have hq := fun ty => run_append_nil (P := Tryz.prog) w 28 ty 23 i _ Tryz.underlying28 hi hz ⟨gN, 0, none⟩ 1 1 [u] (by simp [hsz]) (fun j v hj => by
  cases j with
  | zero => cases hj; rw [Zaz]; exact (by rw [cell_of_row _ _ _ _ _ _ hr]; rfl)
  | succ j => simp at hj) (by omega) (by omega) (by rw [hby]; omega)
 refine ⟨_, _, _, hq, ⟨_, rfl, ?_, grownCap_ge w 1 0 _⟩, (Below.refl _ _).drew.alloc (Nat.le_refl _) _⟩
 exact (cell_of_row _ _ _ _ _ _ (show (w.drew.alloc (.cells _ _ _)).heap[w.heap.size]? = some _ from heap_alloc_new w.drew _)).trans (by rw [Nat.zero_mul, Nat.add_zero, Array.getElem?_append_left (by simp)]; rfl)
structure St (w w' : World) (g : Nat) : Prop where
 other : ∀ k, k ≠ g -> w'.heap[k]? = w.heap[k]?
 os : w'.os = w.os
 tape : w'.tape = w.tape
 output : w'.output = w.output
 size : w'.heap.size = w.heap.size
def kz : Array Value := (Array.range 544).map (fun x => rz.cells.toArray[x % 34]!)
def updR (ys : Nat -> RV) (i : Nat) (y : RV) : Nat -> RV := fun j => if j = i then y else ys j
structure Kr (gK : Nat) (w : World) (ys : Nat -> RV) : Prop where
 row : ∃ cur : Array Value, w.heap[gK]? = some (.cells cur 65 (0, 0)) /\ cur.size = 544
 rng : ∀ i, i < 16 -> w.rangeAt gK (0 + i * 34) (ys i).cells
 ln : ∀ i, (ys i).d.length = 32
def rP (k : Nat -> Tr) (i : Nat) : PR := if (k i).isNo then r0 else referP (encT (k i))
def nmK (k : Nat -> Tr) (i : Nat) : List (List Int) := if (k i).isNo then [] else nmd (k i) ++ nm1 (encT (k i))
def nmJ (k : Nat -> Tr) (j : Nat) : List (List Int) := (List.range j).flatMap (nmK k)
def RFS (t : Tr) : Prop := ∀ {v : World} {gW base : Nat} {vM : Value} {Y Z : Nat -> Prop} {ns : List (List Int)} {val : Value}, TA (KW gW vM Z) v t val -> Wt v gW base vM Y ns -> (∀ b, v.heap.size <= b -> Y b) -> (ns ++ nmd t).length + 1 <= 8800000000000 -> Calls Tryz.prog 194 #[.pointer (some ⟨gW, 0, none⟩), val] v fun e w' => ∃ u, e = .returned u /\ RRf v gW base vM Y ns t u w'
structure BI (w : World) (gW base : Nat) (vN : Value) (X : Nat -> Prop) (ns : List (List Int)) (k : Nat -> Tr) (vs : Nat -> Value) (a : Option Addr) (n c : Nat) (x : List Int) (gB gN gK : Nat) (j : Nat) (vM : Value) (ys : Nat -> RV) (v : World) : Prop where
 hrB : Rw gB v (brc vs (.slice a n c)) 221
 hrN : Rw gN v nz.cells.toArray 68
 hK : Kr gK v ys
 hk : TK (KW gW vM (fun b => b < w.heap.size)) v k vs
 hx : Sk (KW gW vM (fun b => b < w.heap.size)) v a n c x
 hr : ∀ i, i < 16 -> Rf (KW gW vM (fun b => gK < b)) v (ys i) (if i < j then rP k i else r0)
 hW : Wt v gW base vM (fun b => X b /\ b ≠ gN /\ b ≠ gK) (ns ++ nmJ k j)
 hG : Wg w v gW vN vM
end Go.Proofs.YtefhepcplempkaaGreat
