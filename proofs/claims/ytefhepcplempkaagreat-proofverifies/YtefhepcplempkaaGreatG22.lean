/- What a proof says of a key: the node of a name. -/
import Derived.Test.YtefhepcplempkaaGreatG21
import Derived.Test.YtefhepcplempkaaGreatG01
import Derived.Test.YtefhepcplempkaaGreatG20
import Derived.Test.YtefhepcplempkaaGreatG18
import Derived.Test.YtefhepcplempkaaGreatG12
set_option linter.unusedVariables false
set_option maxRecDepth 100000
namespace Go.Proofs.YtefhepcplempkaaGreat
open Go.RowKit
open Tr
open Di (dref)
theorem Zyc {w w' : World} {b : List Int} {e : Ending} (h : DPost w (ND b) e w') : ∃ u, e = .returned u /\ (∃ (z : NV) (er : Int), u = .tuple #[.agg z.cells.toArray, .int .i64 er] /\ z.c.d.length = 32 /\ (er == 0) = (ND b).isSome /\ ∀ N, ND b = some N -> NodeAt (Own w.heap.size w') w' z N) /\ Bl w w' := by
 obtain ⟨hb, hm⟩ := h
 cases hd : ND b with
 | none => rw [hd] at hm; exact ⟨_, hm, ⟨nz, 50, rfl, rfl, rfl, fun N h => by cases h⟩, hb⟩
 | some n =>
  rw [hd] at hm
  obtain ⟨y, e1, hy⟩ := hm
  exact ⟨_, e1, ⟨y, 0, rfl, hy.c.len, rfl, fun N h => by cases h; exact hy⟩, hb⟩
set_option maxHeartbeats 4000000 in
theorem Ztk {K K1 : Nat -> Prop} {w : World} {y : RV} {r : PR} {a : Option Addr} {n c : Nat} {M : List (List Int)} (hy : RefAt K1 w y r) (hL : Bt K w a n M) (hnc : n <= c) (hM : ∀ b ∈ M, b.length <= 140737488351232) :
  Calls Tryz.prog 68 #[.agg y.cells.toArray, .slice a n c] w fun e w' => ∃ u, e = .returned u /\ OpR w a n M (opP r M) u w' := by
 have hB := Bl.refl w
 have hyl := hy.len
 have hyn := hy.2.2.2.2.2.1
 have hys : Sk K1 w y.a y.n y.c r.i := hy.2.2.2.2.1 |> fun h => ⟨h, fun x hx h0 => by obtain ⟨g, off, e, _⟩ := ag_head h h0; rw [e] at hx; cases hx; exact hy.2.2.2.2.2.2 g off e h0⟩
 have hL0 := hL
 refine Zat Tryz.func68 rfl 42 rfl ?_
 show CW _ _ _ _ _ _ _ [(0, .agg y.cells.toArray), (1, .slice a n c)] _
 refine Zac <| Zaa <| Zbk 2 y.cells.toArray 65 (fun _ => by kernel_rfl) (fun _ => by kernel_rfl) ?_
 intro w1 gR hnR
 have hR : Rw gR w1 y.cells.toArray 65 := hnR.row
 replace hB := hB.go hnR.below
 replace hL := hL.go hnR.below
 replace hys := hys.go hnR.below
 refine Zbk 4 nz.cells.toArray 68 (fun _ => by kernel_rfl) (fun _ => by kernel_rfl) ?_
 intro w2 g4 hn4
 have h4 : Rw g4 w2 nz.cells.toArray 68 := hn4.row
 have hg4 : w.heap.size <= g4 := by rw [hn4.hg]; exact hB.size
 replace hB := hB.go hn4.below
 replace hL := hL.go hn4.below
 replace hys := hys.go hn4.below
 replace hR := hR.go hn4.below
 refine rp 5 (.slice none 0 0) <| rp 6 (.bool false) <| Zad <| Zab <| Zac <| Zaa <| rp 10 (.pointer (some ⟨gR, 33, none⟩)) <| rv 11 (.slice y.a y.n y.c) (fun _ => Zai 23 _ ⟨gR, 33, none⟩ _ _ rfl (by kernel_rfl) (by rw [cell_of_row _ _ _ _ _ _ hR]; exact Zuu hyl) Tryz.underlying23 rfl) <| rp 7 (.slice y.a y.n y.c) <| Zad <| Zab <| Zac ?_
 refine Zac <| Zaa <| rp 12 (.pointer (some ⟨gR, 0, none⟩)) <| rv 13 (.int .i64 y.k) (fun _ => Zai 3 _ ⟨gR, 0, none⟩ _ _ rfl (by kernel_rfl) (by rw [cell_of_row _ _ _ _ _ _ hR]; exact Zv3 y) Tryz.underlying3 rfl) <| rp 14 (.bool ((y.k : Int) == (2 : Int))) <| Zad <| Zab ?_
 refine Zsc (fun E v => ∃ ab nb cb al nl cl b M', E = [(7, .slice ab nb cb), (1, .slice al nl cl), (4, .pointer (some ⟨g4, 0, none⟩)), (2, .pointer (some ⟨gR, 0, none⟩))] /\ Bl w v /\ Sk (fun _ => True) v ab nb cb b /\ nb <= 140737488351232 /\ (∀ K0 w0, Bt K0 w0 a n M -> Bt K0 w0 al nl M') /\ nl <= cl /\ opP r M = (ND b).map (fun n => (n, M')) /\ Rw g4 v nz.cells.toArray 68) ?_ ?_
 ·skip
  by_cases hk2 : r.k = 2
  ·skip
   rw [show ((y.k : Int) == (2 : Int)) = true from beq_iff_eq.2 (by rw [hy.1, hk2])]
   refine Zam (fun _ => by kernel_rfl) ?_
   have hV := Bl.refl w2
   cases M with
   | nil =>
    have hn0 : n = 0 := hL.len.symm
    refine Zac <| Zac ?_
    have hR0 := hR
    refine Za7 (fun v => Bl w2 v) (by kernel_rfl) ((Bl.refl w2).drew) ?_
    replace hB := hB.drew
    replace hL := hL.drew
    replace hys := hys.drew
    replace hR := hR.drew
    replace h4 := h4.drew
    replace hV := hV.drew
    refine dt 0 15 (.slice a n c) (fun v hv _ => by kernel_rfl) hV <| dt 1 16 (.int .i64 n) (fun v hv _ => by kernel_rfl) hV <| dt 2 17 (.bool true) (fun v hv => (fun _ => Zaq (v := .bool ((n : Int) == (0 : Int))) (by kernel_rfl) (congrArg Value.bool (beq_iff_eq.2 (by omega))))) hV <| dt 3 18 (.bool true) (fun v hv _ => by kernel_rfl) hV <| df 4 19 hV <| df 5 20 hV <| df 6 21 hV <| df 7 22 hV <| df 8 23 hV <| df 9 24 hV <| df 10 25 hV <| dt 11 26 (.bool true) (fun v hv _ => by kernel_rfl) hV ?_
    refine Zax (by kernel_rfl) <| Zab <| Zam (fun _ => by kernel_rfl) <| Zac <| Zaa <| rp 27 (.agg nz.cells.toArray) <| Zcy g4 nz.cells.toArray (fun _ => by kernel_rfl) (fun _ => Za9 68 _ _ _ _ _ _ rfl (by kernel_rfl) (by kernel_rfl) h4 (by rw [Zdz, Zcl rfl]) (rfl) (Zjf _)) ?_
    intro w7 hp4
    replace hB : Bl w w7 := hp4.below hB hg4 hB.size
    have h4z : Rw g4 w7 nz.cells.toArray 68 := hp4.row h4
    refine rp 5 (.slice none 0 0) <| rp 6 (.bool false) <| Zad <| Zab <| Zao <| Zah <| Zah <| Zah ?_
    exact Zae (.tuple #[.agg nz.cells.toArray, .slice none 0 0, .bool false]) (fun _ => Zfy rfl _ g4 nz rfl (by kernel_rfl) (by kernel_rfl) (by kernel_rfl) h4z) ⟨_, rfl, ⟨nz, none, 0, 0, by rw [show opP r [] = none from by simp [opP, hk2]]; rfl, rfl, fun N M' h => by rw [show opP r [] = none from by simp [opP, hk2]] at h; cases h⟩, hB⟩
   | cons b M1 =>
    have hn1 := hL.len
    rw [List.length_cons] at hn1
    have hbl := hM b (List.mem_cons_self)
    obtain ⟨g1, o1, a1, n1, c1, rfl, hc1, hs1⟩ := hL.row 0 (by omega)
    rw [List.getD_cons_zero] at hs1
    have hl1 := hs1.len
    rw [Nat.zero_mul, Nat.add_zero] at hc1
    refine Zac <| Zac ?_
    have hR0 := hR
    refine Za7 (fun v => Bl w2 v) (by kernel_rfl) ((Bl.refl w2).drew) ?_
    replace hB := hB.drew
    replace hL := hL.drew
    replace hys := hys.drew
    replace hR := hR.drew
    replace h4 := h4.drew
    replace hV := hV.drew
    replace hs1 := hs1.drew
    refine dt 0 15 (.slice (some ⟨g1, o1, none⟩) n c) (fun v hv _ => by kernel_rfl) hV <| dt 1 16 (.int .i64 n) (fun v hv _ => by kernel_rfl) hV <| dt 2 17 (.bool false) (fun v hv => (fun _ => Zaq (v := .bool ((n : Int) == (0 : Int))) (by kernel_rfl) (congrArg Value.bool (beq_eq_false_iff_ne.2 (by omega))))) hV <| dt 3 18 (.bool false) (fun v hv _ => by kernel_rfl) hV <| dt 4 19 (.slice (some ⟨g1, o1, none⟩) n c) (fun v hv _ => by kernel_rfl) hV <| dt 5 20 (.pointer (some ⟨g1, o1 + 0 * 1, none⟩)) (fun v hv _ => Zbt 28 _ _ g1 o1 0 n c 1 23 rfl (by kernel_rfl) (by kernel_rfl) (by omega) Tryz.underlying28 (by kernel_rfl)) hV <| dt 6 21 (.slice a1 n1 c1) (fun v hv _ => Zai 23 _ _ _ _ rfl (by kernel_rfl) ((Below.cell hv (block_lt_of_cell hc1)).trans hc1) Tryz.underlying23 rfl) hV <| dt 8 23 (.pointer (some ⟨gR, 1, none⟩)) (fun v hv _ => by kernel_rfl) hV <| dt 9 24 (.agg (B8 y.d)) (fun v hv _ => Zjd 35 _ gR 1 (y.d.map (Value.int .u8)) _ rfl (by kernel_rfl) (Zxq (Zi4 (hR0.go hv)) hyl) Tryz.underlying35 rfl (by rw [Ztt, List.length_map, hyl])) hV <| Zak [7] (by kernel_rfl) (by simp) ?_
    refine Za4 7 22 39 #[.slice a1 n1 c1] rfl (fun _ => by kernel_rfl) (fun _ => by kernel_rfl) (R := fun u w' => u = .agg (B8 (dref b)) /\ Bl (w2.drew) w') ((Zmx a1 n1 c1 b (w2.drew) hs1.ag (by omega)).mono (fun e w' h => ⟨_, h.1, rfl, h.2⟩)) (fun u w' h => hV.go h.2) ?_ Zaw
    rintro _ u3 ⟨rfl, hb3⟩
    replace hB := hB.go hb3
    replace hL := hL.go hb3
    replace hys := hys.go hb3
    replace hR := hR.go hb3
    replace h4 := h4.go hb3
    replace hV := hV.go hb3
    replace hs1 := hs1.go hb3
    refine dt 10 25 (.bool (!(dref b == y.d))) (fun v hv _ => Zq0 rfl (by kernel_rfl) (by kernel_rfl) (dref_len _) hyl) hV <| dt 11 26 (.bool (!(dref b == y.d))) (fun v hv _ => by kernel_rfl) hV <| Zax (by kernel_rfl) <| Zab ?_
    by_cases hxy : dref b = r.d
    ·skip
     rw [show (!(dref b == y.d)) = false from by rw [hy.2.1]; simp [hxy]]
     refine Zag (fun _ => by kernel_rfl) <| Zar <| Zab <| Za7 (fun v => Bl w2 v) (by kernel_rfl) (hV.drew) ?_
     replace hB := hB.drew
     replace hL := hL.drew
     replace hys := hys.drew
     replace hR := hR.drew
     replace h4 := h4.drew
     replace hV := hV.drew
     replace hs1 := hs1.drew
     refine dt 0 28 (.slice (some ⟨g1, o1, none⟩) n c) (fun v hv _ => by kernel_rfl) hV <| dt 1 29 (.pointer (some ⟨g1, o1 + 0 * 1, none⟩)) (fun v hv _ => Zbt 28 _ _ g1 o1 0 n c 1 23 rfl (by kernel_rfl) (by kernel_rfl) (by omega) Tryz.underlying28 (by kernel_rfl)) hV <| dt 2 30 (.slice a1 n1 c1) (fun v hv _ => Zai 23 _ _ _ _ rfl (by kernel_rfl) ((Below.cell hv (block_lt_of_cell hc1)).trans hc1) Tryz.underlying23 rfl) hV <| dt 3 31 (.slice (some ⟨g1, o1, none⟩) n c) (fun v hv _ => by kernel_rfl) hV <| dt 4 32 (.slice (if c = 1 then some ⟨g1, o1, none⟩ else (some ⟨g1, o1, none⟩ : Option Addr).map (·.add (1 * 1))) (n - 1) (c - 1)) (fun v hv _ => Zq3 1 _ _ rfl (by kernel_rfl) (by kernel_rfl) rfl (by omega)) hV <| dt 5 7 (.slice a1 n1 c1) (fun v hv _ => by kernel_rfl) hV <| dt 6 1 (.slice (if c = 1 then some ⟨g1, o1, none⟩ else (some ⟨g1, o1, none⟩ : Option Addr).map (·.add (1 * 1))) (n - 1) (c - 1)) (fun v hv _ => by kernel_rfl) hV <| Zax (by kernel_rfl) ?_
     exact Zje [(7, .slice a1 n1 c1), (1, .slice (if c = 1 then some ⟨g1, o1, none⟩ else (some ⟨g1, o1, none⟩ : Option Addr).map (·.add (1 * 1))) (n - 1) (c - 1)), (4, .pointer (some ⟨g4, 0, none⟩)), (2, .pointer (some ⟨gR, 0, none⟩))] (by exact ⟨fun _ => by kernel_rfl, ⟨fun _ => by kernel_rfl, ⟨fun _ => by kernel_rfl, ⟨fun _ => by kernel_rfl, trivial⟩⟩⟩⟩) ⟨_, _, _, _, _, _, b, M1, rfl, hB, hs1.mono (fun _ _ => trivial), by omega, fun _ _ h => h.tail hnc, by omega, by simp [opP, hk2, hxy], h4⟩
    ·skip
     rw [show (!(dref b == y.d)) = true from by rw [hy.2.1]; simp [hxy]]
     refine Zam (fun _ => by kernel_rfl) <| Zac <| Zaa <| rp 27 (.agg nz.cells.toArray) <| Zcy g4 nz.cells.toArray (fun _ => by kernel_rfl) (fun _ => Za9 68 _ _ _ _ _ _ rfl (by kernel_rfl) (by kernel_rfl) h4 (by rw [Zdz, Zcl rfl]) (rfl) (Zjf _)) ?_
     intro w7 hp4
     replace hB : Bl w w7 := hp4.below hB hg4 hB.size
     have h4z : Rw g4 w7 nz.cells.toArray 68 := hp4.row h4
     refine rp 5 (.slice none 0 0) <| rp 6 (.bool false) <| Zad <| Zab <| Zao <| Zah <| Zah <| Zah ?_
     exact Zae (.tuple #[.agg nz.cells.toArray, .slice none 0 0, .bool false]) (fun _ => Zfy rfl _ g4 nz rfl (by kernel_rfl) (by kernel_rfl) (by kernel_rfl) h4z) ⟨_, rfl, ⟨nz, none, 0, 0, by rw [show opP r (b :: M1) = none from by simp [opP, hk2, hxy]]; rfl, rfl, fun N M' h => by rw [show opP r (b :: M1) = none from by simp [opP, hk2, hxy]] at h; cases h⟩, hB⟩
  ·skip
   rw [show ((y.k : Int) == (2 : Int)) = false from beq_eq_false_iff_ne.2 (by rw [hy.1]; exact hk2)]
   refine Zag (fun _ => by kernel_rfl) <| Zar ?_
   exact Zje [(7, .slice y.a y.n y.c), (1, .slice a n c), (4, .pointer (some ⟨g4, 0, none⟩)), (2, .pointer (some ⟨gR, 0, none⟩))] (by exact ⟨fun _ => by kernel_rfl, ⟨fun _ => by kernel_rfl, ⟨fun _ => by kernel_rfl, ⟨fun _ => by kernel_rfl, trivial⟩⟩⟩⟩) ⟨_, _, _, _, _, _, r.i, M, rfl, hB, hys.mono (fun _ _ => trivial), hyn, fun _ _ h => h, hnc, by simp [opP, hk2], h4⟩
 rintro _ v ⟨ab, nb, cb, al, nl, cl, b, M', rfl, hB, hb, hnb, hL', hnl, ho, h4⟩
 clear hL hys hR
 refine Zab <| Zac <| Zaa <| rp 34 (.slice ab nb cb) ?_
 have hBv := hB
 have hgl4 : g4 < v.heap.size := lt_of_get h4
 refine Zav 35 94 #[.slice ab nb cb] (fun _ => by kernel_rfl) (fun _ => by kernel_rfl) (R := fun u w' => (∃ (z : NV) (er : Int), u = .tuple #[.agg z.cells.toArray, .int .i64 er] /\ z.c.d.length = 32 /\ (er == 0) = (ND b).isSome /\ ∀ N, ND b = some N -> NodeAt (Own v.heap.size w') w' z N) /\ Bl v w') ((Zh3 b ab nb cb v hb.ag hnb).mono (fun e w' h => Zyc h)) ?_
 rintro _ u4 ⟨⟨z, er, rfl, hzl, her, hz⟩, hb4⟩
 replace hB := hB.go hb4
 replace hb := hb.go hb4
 replace h4 := h4.go hb4
 have hBu := hB
 have h4u := h4
 refine rp 33 (.tuple #[.agg z.cells.toArray, .int .i64 er]) <| rp 36 (.agg z.cells.toArray) <| rp 37 (.int .i64 er) <| Zbk 8 nz.cells.toArray 68 (fun _ => by kernel_rfl) (fun _ => by kernel_rfl) ?_
 intro w5 g8 hn8
 have h8 : Rw g8 w5 nz.cells.toArray 68 := hn8.row
 have hg8 := hn8.hg
 replace hB := hB.go hn8.below
 replace hb := hb.go hn8.below
 replace h4 := h4.go hn8.below
 refine Zcy g8 z.cells.toArray (fun _ => by kernel_rfl) (fun _ => Za9 68 _ _ _ _ _ _ rfl (by kernel_rfl) (by kernel_rfl) h8 (by rw [Zdz, Zcl hzl]) (by rw [Zcl hzl]; rfl) (Zjf _)) ?_
 intro w6 hp8
 replace h8 : Rw g8 w6 z.cells.toArray 68 := hp8.row h8
 have hb6 : Bl u4 w6 := hp8.below hn8.below (by rw [hg8]; exact Nat.le_refl _) hn8.below.size
 replace hB : Bl w w6 := hBu.go hb6
 replace h4 := h4u.go hb6
 refine rp 9 (.int .i64 er) <| Zad <| Zab <| Zac <| Zaa <| rv 38 (.agg z.cells.toArray) (fun _ => Zcf 68 _ _ _ _ _ _ rfl (by kernel_rfl) h8 Tryz.underlying68 rfl (by rw [Zdz, Zcl hzl])) <| rp 39 (.slice al nl cl) <| rp 40 (.int .i64 er) <| rp 41 (.bool ((er : Int) == (0 : Int))) <| Zcy g4 z.cells.toArray (fun _ => by kernel_rfl) (fun _ => Za9 68 _ _ _ _ _ _ rfl (by kernel_rfl) (by kernel_rfl) h4 (by rw [Zdz, Zcl hzl]) (by rw [Zcl hzl]; rfl) (Zjf _)) ?_
 intro w7 hp4
 have hB7 : Bl w w7 := hp4.below hB hg4 hB.size
 have h4z : Rw g4 w7 z.cells.toArray 68 := hp4.row h4
 refine rp 5 (.slice al nl cl) <| rp 6 (.bool ((er : Int) == (0 : Int))) <| Zad <| Zab <| Zao ?_
 refine Zae (.tuple #[.agg z.cells.toArray, .slice al nl cl, .bool (er == 0)]) (fun _ => Zfy rfl _ g4 z hzl (by kernel_rfl) (by kernel_rfl) (by kernel_rfl) h4z) ⟨_, rfl, ⟨z, al, nl, cl, by rw [ho, her]; cases ND b <;> rfl, hzl, fun N M1 h => ?_⟩, hB7⟩
 rw [ho] at h
 cases hd : ND b with
 | none => rw [hd] at h; cases h
 | some N1 =>
  rw [hd] at h
  simp only [Option.map_some, Option.some.injEq, Prod.mk.injEq] at h
  obtain ⟨rfl, rfl⟩ := h
  refine ⟨(hz _ hd).go (fun g hg hl => ⟨(hp4.other (by have := hg.1; omega)).trans (Below.block hb6 g hl), by have := hg.1; have := hBv.size; omega, fun o => ?_⟩), hL', hnl⟩
  have he : w7.heap[g]? = u4.heap[g]? := (hp4.other (by have := hg.1; omega)).trans (Below.block hb6 g hl)
  exact (World.frozen?_of_block (w := u4) he).trans (hg.2 o)
theorem Zhz {P : Program} {ρ : Operand -> Value} {w : World} {o : Oper} {kd : IntKind} (T : TypeId) (x y : Operand) (g off j mm c sz : Nat) (E : TypeId) (ho : o.op = .indexAddr T x y) (hx : ρ x = .slice (some ⟨g, off, none⟩) mm c) {i : Int} (hy : ρ y = .int kd i) (hi' : i = (j : Nat)) (hj : j < mm) (hu : P.underlying T = some (.slice E)) (hi : (P.info? E).map (·.size) = some sz) :
  (execOp ρ o).run P w = .ok (.value (.pointer (some ⟨g, off + j * sz, none⟩))) w := by
 subst hi'
 have hs : (sizeOf E).run P w = .ok sz w := by
  cases hq : P.info? E with
  | none => simp [hq] at hi
  | some z => simp [hq] at hi; simp [sizeOf, typeInfo, hq, hi]
 unfold execOp
 rw [ho]
 simp only [hx, hy]
 have he : (if j * sz = 0 then (⟨g, off, none⟩ : Addr) else ⟨g, off + j * sz, none⟩) = ⟨g, off + j * sz, none⟩ := by split <;> simp_all
 simp [Instr.indexAt, asIntOf, run_underlying hu, hs, hj, Result.andThen, Addr.add, he]
theorem AgK.sk {K : Nat -> Prop} {w : World} {a : Option Addr} {n c : Nat} {bs : List Int} (h : AgK K w a n c bs) : Sk K w a n c bs := ⟨h.1, fun x hx h0 => by
 obtain ⟨g, off, e, _⟩ := ag_head h.1 h0
 rw [e] at hx; cases hx
 exact h.2.2 g off e h0⟩
theorem Zyp {n : PN} (h : NR n = true) (hk : n.k = 3) : n.ks.length = 16 := by
 unfold NR nright at h
 simp only [Bool.and_eq_true] at h
 have h2 := h.2
 unfold rkidsP at h2
 rw [if_neg (by simp [hk])] at h2
 by_cases h16 : n.ks.length ≠ 16
 ·rw [if_pos h16] at h2; cases h2
 ·omega
theorem Zss {n : PN} (h : NR n = true) (hk : n.k = 2) : 0 < n.p.length := by
 unfold NR nright at h
 simp only [Bool.and_eq_true] at h
 have h2 := h.1.1.1.2
 unfold rpathP at h2
 rw [if_pos hk] at h2
 by_cases h0 : n.p.length = 0
 ·rw [if_pos h0] at h2; cases h2
 ·omega
theorem Zfa : (rz : RV).d.length = 32 := rfl
set_option maxHeartbeats 4000000 in
theorem Zjk {K : Nat -> Prop} {w : World} {z : NV} {N : PN} {a : Option Addr} {n c : Nat} {p : List Int} (hz : NodeAt K w z N) (hR : NR N = true) (hp : Sk K w a n c p) (hnb : Nb p) :
  Calls Tryz.prog 69 #[.agg z.cells.toArray, .slice a n c] w fun e w' => ∃ u, e = .returned u /\ FoR K w (foP N p) u w' := by
 have hB := Bl.refl w
 have hzl := hz.c.len
 have hp0 := hp
 have hz0 := hz
 have lp := hp.len
 refine Zat Tryz.func69 rfl 48 rfl ?_
 show CW _ _ _ _ _ _ _ [(0, .agg z.cells.toArray), (1, .slice a n c)] _
 refine Zac <| Zaa <| Zbk 2 z.cells.toArray 68 (fun _ => by kernel_rfl) (fun _ => by kernel_rfl) ?_
 intro w1 gN hnN
 have hN1 : Rw gN w1 z.cells.toArray 68 := hnN.row
 replace hB := hB.go hnN.below
 replace hp := hp.go hnN.below
 refine Zbk 4 rz.cells.toArray 65 (fun _ => by kernel_rfl) (fun _ => by kernel_rfl) ?_
 intro w2 g4 hn4
 have h4 : Rw g4 w2 rz.cells.toArray 65 := hn4.row
 have hg4 : w.heap.size <= g4 := by rw [hn4.hg]; exact hB.size
 replace hB := hB.go hn4.below
 replace hp := hp.go hn4.below
 replace hN1 := hN1.go hn4.below
 have hV := Bl.refl w2
 have hN2 := hN1
 have hB2 := hB
 have hgN4 : gN ≠ g4 := by have := lt_of_get (show Rw gN w1 z.cells.toArray 68 from hnN.row); have := hn4.hg; omega
 refine rp 5 (.slice none 0 0) <| rp 6 (.bool false) <| Zad <| Zab <| Zac <| Zbc <| Zac <| Zaa <| rp 9 (.pointer (some ⟨gN, 0, none⟩)) <| rv 10 (.int .i64 z.k) (fun _ => Zai 3 _ ⟨gN, 0, none⟩ _ _ rfl (by kernel_rfl) (by rw [cell_of_row _ _ _ _ _ _ hN1]; exact Zc6 z) Tryz.underlying3 rfl) <| rp 11 (.bool ((z.k : Int) == (3 : Int))) <| rp 12 (.bool ((z.k : Int) == (3 : Int))) ?_
 by_cases hk3 : N.k = 3
 ·skip
  rw [show ((z.k : Int) == (3 : Int)) = true from by rw [hz0.k]; simp [hk3]]
  refine rp 13 (.slice a n c) <| rp 14 (.int .i64 n) <| rp 15 (.bool (decide ((n : Int) > (0 : Int)))) <| rp 16 (.bool (decide ((n : Int) > (0 : Int)))) <| rp 8 (.bool (decide ((n : Int) > (0 : Int)))) <| Zad <| Zab ?_
  cases p with
  | nil =>
   rw [List.length_nil] at lp
   rw [show (decide ((n : Int) > (0 : Int))) = false from decide_eq_false (by omega)]
   refine Zag (fun _ => by kernel_rfl) <| Zac <| Zaa <| rp 31 (.pointer (some ⟨gN, 0, none⟩)) <| rv 32 (.int .i64 z.k) (fun _ => Zai 3 _ ⟨gN, 0, none⟩ _ _ rfl (by kernel_rfl) (by rw [cell_of_row _ _ _ _ _ _ hN1]; exact Zc6 z) Tryz.underlying3 rfl) <| rv 33 (.bool false) (fun _ => Zaq (v := .bool ((z.k : Int) == (2 : Int))) (by kernel_rfl) (congrArg Value.bool (by rw [hz0.k, hk3]; rfl))) <| rp 34 (.bool false) <| Zan 35 (fun _ => by kernel_rfl) <| Zan 36 (fun _ => by kernel_rfl) <| Zan 37 (fun _ => by kernel_rfl) <| Zan 38 (fun _ => by kernel_rfl) <| rp 39 (.bool false) ?_
   refine rp 30 (.bool false) <| Zad <| Zab <| Zag (fun _ => by kernel_rfl) <| Zar <| Zbf <| Zab <| Zac ?_
   have hfo : foP N [] = none := by simp [foP, *]
   refine Zaa <| rp 47 (.agg rz.cells.toArray) <| Zcy g4 rz.cells.toArray (fun _ => by kernel_rfl) (fun _ => Za9 65 _ _ _ _ _ _ rfl (by kernel_rfl) (by kernel_rfl) h4 (by rw [Zb9, Zb2 Zfa]) rfl (Zd8 _)) ?_
   intro w9 hp9
   have h9 : Rw g4 w9 rz.cells.toArray 65 := hp9.row h4
   replace hB : Bl w w9 := hp9.below hB hg4 hB.size
   refine rp 5 (.slice none 0 0) <| rp 6 (.bool false) <| Zad <| Zab <| Zao ?_
   exact Zae (.tuple #[.agg rz.cells.toArray, .slice none 0 0, .bool false]) (fun _ => Zdg rfl _ g4 rz Zfa (by kernel_rfl) (by kernel_rfl) (by kernel_rfl) h9) ⟨_, rfl, ⟨rz, none, 0, 0, by rw [hfo]; rfl, Zfa, fun r p' h => by rw [hfo] at h; cases h⟩, hB⟩
  | cons x p1 =>
   rw [List.length_cons] at lp
   rw [show (decide ((n : Int) > (0 : Int))) = true from decide_eq_true (by omega)]
   obtain ⟨g1, o1, rfl, hc1, _⟩ := hp0.head
   have hx16 := hnb x (List.mem_cons_self)
   have h16 := Zyp hR hk3
   obtain ⟨j, hj⟩ : ∃ j : Nat, x = (j : Int) := ⟨x.toNat, by omega⟩
   have hkid : N.ks[j]? = some (kidP N (x :: p1)) := by unfold kidP; rw [List.getD_cons_zero, hj, Int.toNat_natCast, List.getD_eq_getElem?_getD]; rw [List.getElem?_eq_getElem (by omega)]; rfl
   obtain ⟨gK, oK, y, eK, hKg, hrg, hRf⟩ := hz0.ks j _ hkid
   have hyl := hRf.len
   have hzm := hz0.m.1
   refine Zam (fun _ => by kernel_rfl) <| Zac <| Za7 (fun v => Bl w2 v) (by kernel_rfl) (hV.drew) ?_
   replace hB := hB.drew
   replace hp := hp.drew
   replace hN1 := hN1.drew
   replace h4 := h4.drew
   replace hV := hV.drew
   refine dt 0 17 (.pointer (some ⟨gN, 37, none⟩)) (fun v hv _ => by kernel_rfl) hV <| dt 1 18 (.slice (some ⟨gK, oK, none⟩) z.kn z.kc) (fun v hv _ => Zaq (Zai 66 _ ⟨gN, 37, none⟩ _ _ rfl (by kernel_rfl) (by rw [cell_of_row _ _ _ _ _ _ (hN2.go hv)]; exact Zre hzl) Tryz.underlying66 rfl) (by rw [eK])) hV <| dt 2 19 (.slice (some ⟨g1, o1, none⟩) n c) (fun v hv _ => by kernel_rfl) hV <| dt 3 20 (.pointer (some ⟨g1, o1 + 0 * 1, none⟩)) (fun v hv _ => Zbt 23 _ _ g1 o1 0 n c 1 5 rfl (by kernel_rfl) (by kernel_rfl) (by omega) Tryz.underlying23 (by kernel_rfl)) hV <| dt 4 21 (.int .u8 x) (fun v hv _ => Zai 5 _ _ _ _ rfl (by kernel_rfl) ((Below.cell (hB2.go hv) (block_lt_of_cell hc1)).trans hc1) Tryz.underlying5 rfl) hV <| dt 5 22 (.pointer (some ⟨gK, oK + j * 34, none⟩)) (fun v hv _ => Zhz (kd := .u8) 66 _ _ gK oK j z.kn z.kc 34 65 rfl (by kernel_rfl) (by kernel_rfl) hj (by omega) Tryz.underlying66 Zb9) hV <| dt 6 23 (.agg y.cells.toArray) (fun v hv _ => Zjd 65 _ gK (oK + j * 34) y.cells _ rfl (by kernel_rfl) (Zbr hrg (fun h => Below.block (hB2.go hv) gK h)) Tryz.underlying65 rfl (by rw [Zb9, RV.len hyl])) hV <| Zak [7] (by kernel_rfl) (by simp) ?_
   refine Zyj 7 7 rz.cells.toArray 65 rfl (fun _ => by kernel_rfl) (fun _ => by kernel_rfl) (fun w' g h => hV.go h.below) ?_ Zaw
   intro w7 g7 hn7
   have hz7 : Rw g7 w7 rz.cells.toArray 65 := hn7.row
   have hgn : g7 = (w2.drew).heap.size := hn7.hg
   have hVo := hV
   have h4o := h4
   have hBo := hB
   replace hB := hB.go hn7.below
   replace hp := hp.go hn7.below
   replace hN1 := hN1.go hn7.below
   replace h4 := h4.go hn7.below
   replace hV := hV.go hn7.below
   refine Zak [8] (by kernel_rfl) (by simp) ?_
   refine Zjs 8 g7 y.cells.toArray rfl (fun _ => by kernel_rfl) (fun _ => Za9 65 _ _ _ _ _ _ rfl (by kernel_rfl) (by kernel_rfl) hz7 (by rw [Zb9, Zb2 hyl]) (by rw [Zb2 hyl]; rfl) (Zd8 _)) (fun w' h => h.below hV (by rw [hgn]; exact hVo.size) hV.size) ?_ Zaw
   intro w8 hp7
   have h7 : Rw g7 w8 y.cells.toArray 65 := hp7.row hz7
   have hb8 : Bl (w2.drew) w8 := hp7.below hn7.below (by rw [hgn]; exact Nat.le_refl _) hn7.below.size
   replace hV := hVo.go hb8
   replace hB := hBo.go hb8
   replace h4 := h4o.go hb8
   replace hp := hp0.go hB
   replace hN1 := hN2.go hV
   refine Zax (by kernel_rfl) <| Zab <| Zac ?_
   have hg74 : g7 ≠ g4 := by have := lt_of_get h4o; omega
   obtain ⟨a9, n9, c9, hr9, hs9⟩ := hp0.cutFrom 1 (by omega)
   refine Za7 (fun v => Rw g7 v y.cells.toArray 65) (by kernel_rfl) (h7.drew) ?_
   replace hB := hB.drew
   replace hp := hp.drew
   replace hN1 := hN1.drew
   replace h4 := h4.drew
   replace hV := hV.drew
   replace h7 := h7.drew
   have hS := h7
   refine dt 0 24 (.agg y.cells.toArray) (fun v hv _ => Zcf 65 _ _ _ _ _ _ rfl (by kernel_rfl) hv Tryz.underlying65 rfl (by rw [Zb9, List.size_toArray, RV.len hyl])) hS <| dt 1 25 (.slice (some ⟨g1, o1, none⟩) n c) (fun v hv _ => by kernel_rfl) hS <| dt 2 26 (.slice a9 n9 c9) (fun v hv _ => hr9 _ _ _ _ _ _ rfl (by kernel_rfl) (by kernel_rfl) rfl) hS <| dt 3 27 (.pointer (some ⟨g7, 0, none⟩)) (fun v hv _ => by kernel_rfl) hS <| dt 4 28 (.int .i64 y.k) (fun v hv _ => Zai 3 _ ⟨g7, 0, none⟩ _ _ rfl (by kernel_rfl) (by rw [cell_of_row _ _ _ _ _ _ hv]; exact Zv3 y) Tryz.underlying3 rfl) hS <| dt 5 29 (.bool (!((y.k : Int) == (0 : Int)))) (fun v hv _ => by kernel_rfl) hS <| Zak [6] (by kernel_rfl) (by simp) ?_
   refine Zjs 6 g4 y.cells.toArray rfl (fun _ => by kernel_rfl) (fun _ => Za9 65 _ _ _ _ _ _ rfl (by kernel_rfl) (by kernel_rfl) h4 (by rw [Zb9, Zb2 hyl]) (by rw [Zb2 hyl]; rfl) (Zd8 _)) (fun w' h => (h.other hg74).trans hS) ?_ Zaw
   intro w9 hp9
   have h9 : Rw g4 w9 y.cells.toArray 65 := hp9.row h4
   replace hB : Bl w w9 := hp9.below hB hg4 hB.size
   replace hS := (hp9.other hg74).trans hS
   refine dt 7 5 (.slice a9 n9 c9) (fun v hv _ => by kernel_rfl) hS <| dt 8 6 (.bool (!((y.k : Int) == (0 : Int)))) (fun v hv _ => by kernel_rfl) hS <| Zax (by kernel_rfl) <| Zab <| Zao <| Zbv <| Zah ?_
   have hfo : foP N (x :: p1) = if (kidP N (x :: p1)).k = 0 then none else some (kidP N (x :: p1), (x :: p1).drop 1) := by simp [foP, hk3]
   exact Zae (.tuple #[.agg y.cells.toArray, .slice a9 n9 c9, .bool (!((y.k : Int) == (0 : Int)))]) (fun _ => Zdg rfl _ g4 y hyl (by kernel_rfl) (by kernel_rfl) (by kernel_rfl) h9) ⟨_, rfl, ⟨y, a9, n9, c9, by rw [hfo, hRf.1]; by_cases h0 : (kidP N (x :: p1)).k = 0 <;> simp [h0], hyl, fun r p' h => by rw [hfo] at h; split at h <;> cases h; exact ⟨hRf.go (Zdy hB), hs9.go hB⟩⟩, hB⟩
 ·skip
  rw [show ((z.k : Int) == (3 : Int)) = false from by rw [hz0.k]; simp [hk3]]
  refine Zan 13 (fun _ => by kernel_rfl) <| Zan 14 (fun _ => by kernel_rfl) <| Zan 15 (fun _ => by kernel_rfl) <| rp 16 (.bool false) <| rp 8 (.bool false) <| Zad <| Zab <| Zag (fun _ => by kernel_rfl) <| Zac <| Zaa <| rp 31 (.pointer (some ⟨gN, 0, none⟩)) <| rv 32 (.int .i64 z.k) (fun _ => Zai 3 _ ⟨gN, 0, none⟩ _ _ rfl (by kernel_rfl) (by rw [cell_of_row _ _ _ _ _ _ hN1]; exact Zc6 z) Tryz.underlying3 rfl) ?_
  refine rp 33 (.bool ((z.k : Int) == (2 : Int))) <| rp 34 (.bool ((z.k : Int) == (2 : Int))) ?_
  by_cases hk2 : N.k = 2
  ·skip
   rw [show ((z.k : Int) == (2 : Int)) = true from by rw [hz0.k]; simp [hk2]]
   have hzp := hz0.p.sk.go hB
   refine rp 35 (.slice a n c) <| rp 36 (.pointer (some ⟨gN, 1, none⟩)) <| rv 37 (.slice z.pa z.pn z.pc) (fun _ => Zai 23 _ ⟨gN, 1, none⟩ _ _ rfl (by kernel_rfl) (by rw [cell_of_row _ _ _ _ _ _ hN1]; exact Zll z) Tryz.underlying23 rfl) <| Zav 38 95 #[.slice a n c, .slice z.pa z.pn z.pc] (fun _ => by kernel_rfl) (fun _ => by kernel_rfl) (R := fun u w' => u = .bool (decide (p.take N.p.length = N.p)) /\ Bl (w2) w') ((Zkg hp hzp)) ?_
   rintro _ u1 ⟨rfl, hb2⟩
   replace hB := hB.go hb2
   replace hp := hp.go hb2
   replace hN1 := hN1.go hb2
   replace h4 := h4.go hb2
   replace hV := hV.go hb2
   replace hzp := hzp.go hb2
   refine rp 39 (.bool (decide (p.take N.p.length = N.p))) <| rp 30 (.bool (decide (p.take N.p.length = N.p))) <| Zad <| Zab ?_
   by_cases hpp : p.take N.p.length = N.p
   ·skip
    rw [show decide (p.take N.p.length = N.p) = true from by simp [hpp]]
    refine Zam (fun _ => by kernel_rfl) <| Zac ?_
    have hpl : N.p.length <= n := by have := congrArg List.length hpp; rw [List.length_take] at this; omega
    obtain ⟨a9, n9, c9, hr9, hs9⟩ := hp0.cutFrom N.p.length hpl
    have hzpn : N.p.length = z.pn := hz0.p.l
    refine Za7 (fun v => Rw gN v z.cells.toArray 68) (by kernel_rfl) (hN1.drew) ?_
    replace hB := hB.drew
    replace hp := hp.drew
    replace hN1 := hN1.drew
    replace h4 := h4.drew
    replace hV := hV.drew
    replace hzp := hzp.drew
    have hS := hN1
    refine dt 0 40 (.pointer (some ⟨gN, 3, none⟩)) (fun v hv _ => by kernel_rfl) hS <| dt 1 41 (.agg z.c.cells.toArray) (fun v hv _ => Zjd 65 _ gN 3 z.c.cells _ rfl (by kernel_rfl) (Zrd hv hzl) Tryz.underlying65 rfl (by rw [Zb9, RV.len hzl])) hS <| dt 2 42 (.slice a n c) (fun v hv _ => by kernel_rfl) hS <| dt 3 43 (.pointer (some ⟨gN, 1, none⟩)) (fun v hv _ => by kernel_rfl) hS <| dt 4 44 (.slice z.pa z.pn z.pc) (fun v hv _ => Zai 23 _ ⟨gN, 1, none⟩ _ _ rfl (by kernel_rfl) (by rw [cell_of_row _ _ _ _ _ _ hv]; exact Zll z) Tryz.underlying23 rfl) hS <| dt 5 45 (.int .i64 z.pn) (fun v hv _ => by kernel_rfl) hS <| dt 6 46 (.slice a9 n9 c9) (fun v hv _ => hr9 _ _ _ _ _ _ rfl (by kernel_rfl) (by kernel_rfl) (by rw [hzpn])) hS <| Zak [7] (by kernel_rfl) (by simp) ?_
    refine Zjs 7 g4 z.c.cells.toArray rfl (fun _ => by kernel_rfl) (fun _ => Za9 65 _ _ _ _ _ _ rfl (by kernel_rfl) (by kernel_rfl) h4 (by rw [Zb9, Zb2 hzl]) (by rw [Zb2 hzl]; rfl) (Zd8 _)) (fun w' h => (h.other hgN4).trans hS) ?_ Zaw
    intro w9 hp9
    have h9 : Rw g4 w9 z.c.cells.toArray 65 := hp9.row h4
    replace hB : Bl w w9 := hp9.below hB hg4 hB.size
    replace hS := (hp9.other hgN4).trans hS
    refine dt 8 5 (.slice a9 n9 c9) (fun v hv _ => by kernel_rfl) hS <| dt 9 6 (.bool true) (fun v hv _ => by kernel_rfl) hS <| Zax (by kernel_rfl) <| Zab <| Zao <| Zbv <| Zah ?_
    have hfo : foP N p = some (N.c, p.drop N.p.length) := by simp [foP, hk2, hpp]
    exact Zae (.tuple #[.agg z.c.cells.toArray, .slice a9 n9 c9, .bool true]) (fun _ => Zdg rfl _ g4 z.c hzl (by kernel_rfl) (by kernel_rfl) (by kernel_rfl) h9) ⟨_, rfl, ⟨z.c, a9, n9, c9, by rw [hfo]; rfl, hzl, fun r p' h => by rw [hfo] at h; cases h; exact ⟨hz0.c.go (Zdy hB), hs9.go hB⟩⟩, hB⟩
   ·skip
    rw [show decide (p.take N.p.length = N.p) = false from by simp [hpp]]
    refine Zag (fun _ => by kernel_rfl) <| Zar <| Zbf <| Zab <| Zac ?_
    have hfo : foP N p = none := by simp [foP, *]
    refine Zaa <| rp 47 (.agg rz.cells.toArray) <| Zcy g4 rz.cells.toArray (fun _ => by kernel_rfl) (fun _ => Za9 65 _ _ _ _ _ _ rfl (by kernel_rfl) (by kernel_rfl) h4 (by rw [Zb9, Zb2 Zfa]) rfl (Zd8 _)) ?_
    intro w9 hp9
    have h9 : Rw g4 w9 rz.cells.toArray 65 := hp9.row h4
    replace hB : Bl w w9 := hp9.below hB hg4 hB.size
    refine rp 5 (.slice none 0 0) <| rp 6 (.bool false) <| Zad <| Zab <| Zao ?_
    exact Zae (.tuple #[.agg rz.cells.toArray, .slice none 0 0, .bool false]) (fun _ => Zdg rfl _ g4 rz Zfa (by kernel_rfl) (by kernel_rfl) (by kernel_rfl) h9) ⟨_, rfl, ⟨rz, none, 0, 0, by rw [hfo]; rfl, Zfa, fun r p' h => by rw [hfo] at h; cases h⟩, hB⟩
  ·skip
   rw [show ((z.k : Int) == (2 : Int)) = false from by rw [hz0.k]; simp [hk2]]
   refine Zan 35 (fun _ => by kernel_rfl) <| Zan 36 (fun _ => by kernel_rfl) <| Zan 37 (fun _ => by kernel_rfl) <| Zan 38 (fun _ => by kernel_rfl) <| rp 39 (.bool false) <| rp 30 (.bool false) <| Zad <| Zab <| Zag (fun _ => by kernel_rfl) <| Zar <| Zbf <| Zab ?_
   refine Zac ?_
   have hfo : foP N p = none := by simp [foP, *]
   refine Zaa <| rp 47 (.agg rz.cells.toArray) <| Zcy g4 rz.cells.toArray (fun _ => by kernel_rfl) (fun _ => Za9 65 _ _ _ _ _ _ rfl (by kernel_rfl) (by kernel_rfl) h4 (by rw [Zb9, Zb2 Zfa]) rfl (Zd8 _)) ?_
   intro w9 hp9
   have h9 : Rw g4 w9 rz.cells.toArray 65 := hp9.row h4
   replace hB : Bl w w9 := hp9.below hB hg4 hB.size
   refine rp 5 (.slice none 0 0) <| rp 6 (.bool false) <| Zad <| Zab <| Zao ?_
   exact Zae (.tuple #[.agg rz.cells.toArray, .slice none 0 0, .bool false]) (fun _ => Zdg rfl _ g4 rz Zfa (by kernel_rfl) (by kernel_rfl) (by kernel_rfl) h9) ⟨_, rfl, ⟨rz, none, 0, 0, by rw [hfo]; rfl, Zfa, fun r p' h => by rw [hfo] at h; cases h⟩, hB⟩
set_option maxHeartbeats 1000000 in
theorem Zhd {K K' : Nat -> Prop} {w : World} {z : NV} {N : PN} {a : Option Addr} {n c : Nat} {p : List Int} (hz : NodeAt K w z N) (hp : Sk K' w a n c p) :
  Calls Tryz.prog 70 #[.agg z.cells.toArray, .slice a n c] w fun e w' => ∃ u, e = .returned u /\ (fun u w' => ∃ a' n' c', u = .slice a' n' c' /\ Sk K w' a' n' c' (vaP N p) /\ Bl w w') u w' := by
 have hB := Bl.refl w
 have hzl := hz.c.len
 have hz0 := hz
 have hzp := hz0.p.sk
 refine Zat Tryz.func70 rfl 12 rfl ?_
 show CW _ _ _ _ _ _ _ [(0, .agg z.cells.toArray), (1, .slice a n c)] _
 refine Zac <| Zaa <| Zbk 2 z.cells.toArray 68 (fun _ => by kernel_rfl) (fun _ => by kernel_rfl) ?_
 intro w1 gN hnN
 have hN1 : Rw gN w1 z.cells.toArray 68 := hnN.row
 replace hB := hB.go hnN.below
 replace hp := hp.go hnN.below
 replace hzp := hzp.go hnN.below
 refine rp 4 (.slice none 0 0) <| Zad <| Zab <| Zac <| Zac <| Zaa <| rp 5 (.pointer (some ⟨gN, 1, none⟩)) <| rv 6 (.slice z.pa z.pn z.pc) (fun _ => Zai 23 _ ⟨gN, 1, none⟩ _ _ rfl (by kernel_rfl) (by rw [cell_of_row _ _ _ _ _ _ hN1]; exact Zll z) Tryz.underlying23 rfl) <| rp 7 (.slice a n c) <| Zav 8 48 #[.slice z.pa z.pn z.pc, .slice a n c] (fun _ => by kernel_rfl) (fun _ => by kernel_rfl) (R := fun u w' => u = .bool (decide (N.p = p)) /\ Bl (w1) w') ((Zlx hzp hp)) ?_
 rintro _ u1 ⟨rfl, hb2⟩
 replace hB := hB.go hb2
 replace hp := hp.go hb2
 replace hzp := hzp.go hb2
 replace hN1 := hN1.go hb2
 refine rp 9 (.bool (!(decide (N.p = p)))) <| Zad <| Zab ?_
 by_cases hpp : N.p = p
 ·skip
  rw [show (!decide (N.p = p)) = false from by simp [hpp]]
  refine Zag (fun _ => by kernel_rfl) <| Zar <| Zab <| Zac <| Zaa <| rp 10 (.pointer (some ⟨gN, 2, none⟩)) <| rv 11 (.slice z.va z.vn z.vc) (fun _ => Zai 23 _ ⟨gN, 2, none⟩ _ _ rfl (by kernel_rfl) (by rw [cell_of_row _ _ _ _ _ _ hN1]; exact Zto z) Tryz.underlying23 rfl) <| rp 4 (.slice z.va z.vn z.vc) <| Zad <| Zab <| Zao ?_
  exact Zae (.slice z.va z.vn z.vc) (fun _ => by kernel_rfl) ⟨_, rfl, z.va, z.vn, z.vc, rfl, by rw [vaP, if_pos hpp]; exact hz0.v.sk.go hB, hB⟩
 ·skip
  rw [show (!decide (N.p = p)) = true from by simp [hpp]]
  refine Zam (fun _ => by kernel_rfl) <| Zac <| Zaa <| rp 4 (.slice none 0 0) <| Zad <| Zab <| Zao <| Zah ?_
  exact Zae (.slice none 0 0) (fun _ => by kernel_rfl) ⟨_, rfl, none, 0, 0, rfl, by rw [vaP, if_neg hpp]; exact Sk.nil _ _, hB⟩
def VbR (w : World) (o : Option (List Int)) : Value -> World -> Prop := fun u w' => (∃ (a : Option Addr) (n c : Nat), u = .tuple #[.slice a n c, .bool o.isSome] /\ (o = none -> a = none /\ n = 0 /\ c = 0) /\ ∀ v, o = some v -> Sk (Own w.heap.size w') w' a n c v) /\ Bl w w'
abbrev SlX := (Option Addr × Nat × Nat) × (Option Addr × Nat × Nat) × Bool
structure VbI (w : World) (gR : Nat) (K : Nat -> Prop) (A : Option (List Int)) (x : SlX) (v : World) : Prop where
 r : ∃ (y : RV) (r : PR) (p : List Int) (M : List (List Int)) (f : Nat), Rw gR v y.cells.toArray 65 /\ RefAt (fun b => b ≠ gR) v y r /\ Sk (fun b => b ≠ gR) v x.1.1 x.1.2.1 x.1.2.2 p /\ Nb p /\ Bt K w x.2.1.1 x.2.1.2.1 M /\ x.2.1.2.1 <= x.2.1.2.2 /\ (∀ b ∈ M, b.length <= 140737488351232) /\ x.1.2.1 < f /\ veP f r p M x.2.2 = A
 b : Bl w v
 g : w.heap.size <= gR
theorem Nb.drop {p : List Int} (h : Nb p) (k : Nat) : Nb (p.drop k) := fun i hi => h i (List.mem_of_mem_drop hi)
theorem Zn5 {n : PN} {p p' : List Int} {r : PR} (hR : NR n = true) (h : foP n p = some (r, p')) : p'.length < p.length /\ ∃ k, p' = p.drop k := by
 unfold foP at h
 split at h
 ·rename_i h3
  split at h
  ·cases h
  ·cases h; exact ⟨by rw [List.length_drop]; omega, 1, rfl⟩
 ·split at h
  ·rename_i h2
   cases h
   have := Zss hR h2.1
   have h4 := congrArg List.length h2.2
   rw [List.length_take] at h4
   exact ⟨by rw [List.length_drop]; omega, _, rfl⟩
  ·cases h
theorem Zxv {r : PR} {M M' : List (List Int)} {N : PN} (hb : ∀ b ∈ M, isB b) (hi : isB r.i) (h : opP r M = some (N, M')) : NR N = true := by
 unfold opP at h
 have hs : ∀ {b : List Int}, isB b -> ∀ {X : List (List Int)}, (ND b).map (fun n => (n, X)) = some (N, M') -> NR N = true := fun {b} hb {X} h => by
  cases hd : ND b with
  | none => rw [hd] at h; cases h
  | some n => rw [hd] at h; cases h; obtain ⟨_, _, _, h⟩ := Zdd hb hd; exact h
 split at h
 ·split at h
  ·cases h
  ·split at h
   ·exact hs (hb _ List.mem_cons_self) h
   ·cases h
 ·exact hs hi h
theorem Zv9 {r : PR} {M M' : List (List Int)} {N : PN} (h : opP r M = some (N, M')) : ∀ b ∈ M', b ∈ M := by
 unfold opP at h
 have hs : ∀ {b : List Int} {X : List (List Int)}, (ND b).map (fun n => (n, X)) = some (N, M') -> M' = X := fun {b} {X} h => by
  cases hd : ND b with
  | none => rw [hd] at h; cases h
  | some n => rw [hd] at h; cases h; rfl
 split at h
 ·split at h
  ·cases h
  ·split at h
   ·rw [hs h]; exact fun b hb => List.mem_cons_of_mem _ hb
   ·cases h
 ·rw [hs h]; exact fun b hb => hb
theorem Zuk {f : Nat} {r r' : PR} {p p' : List Int} {M M' : List (List Int)} {N : PN} {ex : Bool} (ho : opP r M = some (N, M')) (hex : ¬ (ex = true /\ N.k ≠ 3)) (hfp : foP N p = some (r', p')) : veP (f + 1) r p M ex = veP f r' p' M' (decide (N.k = 2)) := by
 simp only [veP, ho, hfp]; rw [if_neg hex]
theorem Zp5 {f : Nat} {r : PR} {p : List Int} {M M' : List (List Int)} {N : PN} {ex : Bool} (ho : opP r M = some (N, M')) (hex : ¬ (ex = true /\ N.k ≠ 3)) (hfp : foP N p = none) : veP (f + 1) r p M ex = if M' = [] then some (vaP N p) else none := by
 simp only [veP, ho, hfp]; rw [if_neg hex]
theorem Bt.isB {K : Nat -> Prop} {w : World} {a : Option Addr} {n : Nat} {M : List (List Int)} (h : Bt K w a n M) : ∀ b ∈ M, isB b := fun b hb => by
 obtain ⟨j, hj, rfl⟩ := List.getElem_of_mem hb
 obtain ⟨g, off, a', n', c', _, _, h3⟩ := h.row j (by have := h.len; omega)
 rw [show M.getD j [] = M[j] from by simp [List.getD, hj]] at h3
 exact h3.ag.b
set_option maxHeartbeats 4000000 in
theorem Zhc {K : Nat -> Prop} {w : World} {d : List Int} {a0 al0 : Option Addr} {n0 c0 nl0 cl0 : Nat} {p0 : List Int} {M0 : List (List Int)} (hd : d.length = 32) (hdb : isB d) (hp : Sk (fun b => b < w.heap.size) w a0 n0 c0 p0) (hnb0 : Nb p0) (hL : Bt K w al0 nl0 M0) (hnc : nl0 <= cl0) (hM : ∀ b ∈ M0, b.length <= 140737488351232) :
  Calls Tryz.prog 42 #[.agg (B8 d), .slice a0 n0 c0, .slice al0 nl0 cl0] w fun e w' => ∃ u, e = .returned u /\ VbR w (veP (n0 + 1) ⟨2, d, []⟩ p0 M0 false) u w' := by
 have hB := Bl.refl w
 obtain ⟨A, hA⟩ : ∃ A, veP (n0 + 1) ⟨2, d, []⟩ p0 M0 false = A := ⟨_, rfl⟩
 rw [hA]
 have hL0 := hL
 refine Zat Tryz.func42 rfl 53 rfl ?_
 show CW _ _ _ _ _ _ _ [(0, .agg (B8 d)), (1, .slice a0 n0 c0), (2, .slice al0 nl0 cl0)] _
 refine Zac <| Zaa <| Zbk 3 (B8 d) 35 (fun _ => by kernel_rfl) (fun _ => by kernel_rfl) ?_
 intro w1 gD hnD
 have hD1 : Rw gD w1 (B8 d) 35 := hnD.row
 replace hB := hB.go hnD.below
 replace hp := hp.go hnD.below
 refine rp 6 (.slice none 0 0) <| rp 7 (.bool false) <| Zad <| Zab ?_
 refine Zt3 (X := Nat × SlX) 0 (fun x => [(8, .pointer (some ⟨x.1, 0, none⟩)), (1, .slice x.2.1.1 x.2.1.2.1 x.2.1.2.2), (2, .slice x.2.2.1.1 x.2.2.1.2.1 x.2.2.1.2.2), (9, .bool x.2.2.2)]) (fun x v => VbI w x.1 K A x.2 v) (fun x => x.2.1.2.1) rfl ?_ ?_
 ·intro Q' hQ
  refine Zac <| Zaa <| rv 15 (.agg (B8 d)) (fun _ => Zcf 35 _ _ _ _ _ _ rfl (by kernel_rfl) hD1 Tryz.underlying35 rfl (Zc2 hd)) <| rv 16 (.agg (RV.cells ⟨2, d, none, 0, 0⟩).toArray) (fun _ => Zfk 65 _ [(0, .int .i64 2), (1, .agg (B8 d))] _ rfl (by kernel_rfl) (Zij d hd)) <| Zbk 8 rz.cells.toArray 65 (fun _ => by kernel_rfl) (fun _ => by kernel_rfl) ?_
  intro w2 gR hnR
  have hgR := hnR.hg
  have hgw : w.heap.size <= gR := by rw [hgR]; exact hB.size
  have hpo := hp
  have hBo := hB
  refine Zcy gR (RV.cells ⟨2, d, none, 0, 0⟩).toArray (fun _ => by kernel_rfl) (fun _ => Za9 65 _ _ _ _ _ _ rfl (by kernel_rfl) (by kernel_rfl) hnR.row (by rw [Zb9, Zb2 hd]) (by rw [Zb2 (y := ⟨2, d, none, 0, 0⟩) hd]; rfl) (Zd8 _)) ?_
  intro w2 hpR
  have hRR : Rw gR w2 (RV.cells ⟨2, d, none, 0, 0⟩).toArray 65 := hpR.row hnR.row
  have hb2 : Bl w1 w2 := hpR.below hnR.below (by rw [hgR]; exact Nat.le_refl _) hnR.below.size
  replace hB := hBo.go hb2
  replace hp : Sk (fun b => b ≠ gR) w2 a0 n0 c0 p0 := (hpo.go hb2).mono (fun b hb => by have : b < w.heap.size := hb; omega)
  refine Zad <| Zab <| Zac <| Zaa <| rp 9 (.bool false) <| Zad <| Zab <| Zac <| Zt4 <| Zab <| Zd1 [(8, .pointer (some ⟨gR, 0, none⟩)), (1, .slice a0 n0 c0), (2, .slice al0 nl0 cl0), (9, .bool false)] (by exact ⟨fun _ => by kernel_rfl, ⟨fun _ => by kernel_rfl, ⟨fun _ => by kernel_rfl, ⟨fun _ => by kernel_rfl, trivial⟩⟩⟩⟩) ?_
  exact hQ (gR, (a0, n0, c0), (al0, nl0, cl0), false) _ ⟨⟨_, _, p0, M0, n0 + 1, hRR, ⟨rfl, rfl, hdb, hd, ⟨(Sk.nil (fun b => b ≠ gR) w2).ag, Nat.zero_le _, fun g off e => by cases e⟩⟩, hp, hnb0, hL, hnc, hM, Nat.lt_succ_self _, hA⟩, hB, hgw⟩
 ·rintro ⟨gR, ⟨a, n, c⟩, ⟨al, nl, cl⟩, ex⟩ v ⟨⟨y, r, p, M, f, hRR, hy, hp, hnb, hL, hnl, hMl, hf, hv⟩, hB, hgw⟩
  simp only at hRR hy hp hL hnl hf hv hB hgw
  show CW _ _ _ _ _ _ _ [(8, .pointer (some ⟨gR, 0, none⟩)), (1, .slice a n c), (2, .slice al nl cl), (9, .bool ex)] _
  have hyl := hy.len
  have hgRv := lt_of_get hRR
  have hsw : w.heap.size <= v.heap.size := hB.size
  obtain ⟨f, rfl⟩ : ∃ k, f = k + 1 := ⟨f - 1, by omega⟩
  have lp := hp.len
  refine Zac <| Zaa <| rv 18 (.agg y.cells.toArray) (fun _ => Zcf 65 _ _ _ _ _ _ rfl (by kernel_rfl) hRR Tryz.underlying65 rfl (by rw [Zb9, List.size_toArray, RV.len hyl])) <| rp 19 (.slice al nl cl) <| Zav 20 68 #[.agg y.cells.toArray, .slice al nl cl] (fun _ => by kernel_rfl) (fun _ => by kernel_rfl) (R := OpR v al nl M (opP r M)) (Ztk hy (hL.go hB) hnl hMl) ?_
  rintro _ u1 ⟨⟨z, a1, n1, c1, rfl, hzl, hz⟩, hb1⟩
  replace hB := hB.go hb1
  replace hp := hp.go hb1
  replace hRR := hRR.go hb1
  refine rp 17 (.tuple #[.agg z.cells.toArray, .slice a1 n1 c1, .bool (opP r M).isSome]) <| rp 21 (.agg z.cells.toArray) <| rp 22 (.slice a1 n1 c1) <| rp 23 (.bool (opP r M).isSome) <| Zbk 10 nz.cells.toArray 68 (fun _ => by kernel_rfl) (fun _ => by kernel_rfl) ?_
  intro w3 gN hnN
  refine Zcy gN z.cells.toArray (fun _ => by kernel_rfl) (fun _ => Za9 68 _ _ _ _ _ _ rfl (by kernel_rfl) (by kernel_rfl) hnN.row (by rw [Zdz, Zcl hzl]) (by rw [Zcl hzl]; rfl) (Zjf _)) ?_
  intro w4 hpN
  have hN1 : Rw gN w4 z.cells.toArray 68 := hpN.row hnN.row
  have hb4 : Bl u1 w4 := hpN.below hnN.below (by rw [hnN.hg]; exact Nat.le_refl _) hnN.below.size
  have hgN := hnN.hg
  clear hpN hnN
  replace hB := hB.go hb4
  replace hp := hp.go hb4
  replace hRR := hRR.go hb4
  refine rp 2 (.slice a1 n1 c1) <| rp 11 (.bool (opP r M).isSome) <| Zad <| Zab <| Zac <| Zac ?_
  cases ho : opP r M with
  | none =>
   have hv0 : A = none := by rw [<- hv]; simp [veP, ho]
   rw [hv0]
   refine Zd1 [(11, .bool false), (2, .slice a1 n1 c1), (10, .pointer (some ⟨gN, 0, none⟩)), (23, .bool false), (22, .slice a1 n1 c1), (21, .agg z.cells.toArray), (17, .tuple #[.agg z.cells.toArray, .slice a1 n1 c1, .bool false]), (20, .tuple #[.agg z.cells.toArray, .slice a1 n1 c1, .bool false]), (19, .slice al nl cl), (18, .agg y.cells.toArray), (8, .pointer (some ⟨gR, 0, none⟩)), (1, .slice a n c), (9, .bool ex)] (by exact ⟨fun _ => by kernel_rfl, ⟨fun _ => by kernel_rfl, ⟨fun _ => by kernel_rfl, ⟨fun _ => by kernel_rfl, ⟨fun _ => by kernel_rfl, ⟨fun _ => by kernel_rfl, ⟨fun _ => by kernel_rfl, ⟨fun _ => by kernel_rfl, ⟨fun _ => by kernel_rfl, ⟨fun _ => by kernel_rfl, ⟨fun _ => by kernel_rfl, ⟨fun _ => by kernel_rfl, ⟨fun _ => by kernel_rfl, trivial⟩⟩⟩⟩⟩⟩⟩⟩⟩⟩⟩⟩⟩) <| Zaa <| rp 24 (.bool false) <| rp 25 (.bool true) <| rp 26 (.bool true) <| Zan 27 (fun _ => by kernel_rfl) <| Zan 28 (fun _ => by kernel_rfl) <| Zan 29 (fun _ => by kernel_rfl) <| Zan 30 (fun _ => by kernel_rfl) <| Zan 31 (fun _ => by kernel_rfl) <| Zan 32 (fun _ => by kernel_rfl) <| rp 33 (.bool true) ?_
   refine Zad <| Zab <| Zam (fun _ => by kernel_rfl) <| Zac <| Zaa <| rp 6 (.slice none 0 0) <| rp 7 (.bool false) <| Zad <| Zab <| Zao <| Zah <| Zcj ?_
   exact Zae (.tuple #[.slice none 0 0, .bool false]) (fun _ => by kernel_rfl) ⟨_, rfl, ⟨none, 0, 0, rfl, fun _ => ⟨rfl, rfl, rfl⟩, fun v h => by cases h⟩, hB⟩
  | some NM =>
   obtain ⟨N, M'⟩ := NM
   refine Zd1 [(11, .bool true), (2, .slice a1 n1 c1), (10, .pointer (some ⟨gN, 0, none⟩)), (23, .bool true), (22, .slice a1 n1 c1), (21, .agg z.cells.toArray), (17, .tuple #[.agg z.cells.toArray, .slice a1 n1 c1, .bool true]), (20, .tuple #[.agg z.cells.toArray, .slice a1 n1 c1, .bool true]), (19, .slice al nl cl), (18, .agg y.cells.toArray), (8, .pointer (some ⟨gR, 0, none⟩)), (1, .slice a n c), (9, .bool ex)] (by exact ⟨fun _ => by kernel_rfl, ⟨fun _ => by kernel_rfl, ⟨fun _ => by kernel_rfl, ⟨fun _ => by kernel_rfl, ⟨fun _ => by kernel_rfl, ⟨fun _ => by kernel_rfl, ⟨fun _ => by kernel_rfl, ⟨fun _ => by kernel_rfl, ⟨fun _ => by kernel_rfl, ⟨fun _ => by kernel_rfl, ⟨fun _ => by kernel_rfl, ⟨fun _ => by kernel_rfl, ⟨fun _ => by kernel_rfl, trivial⟩⟩⟩⟩⟩⟩⟩⟩⟩⟩⟩⟩⟩) ?_
   obtain ⟨hzN, hL1, hn1c⟩ := hz N M' ho
   have hNR := Zxv hL.isB hy.2.2.2.2.1.b ho
   have hMl' : ∀ b ∈ M', b.length <= 140737488351232 := fun b hb => hMl b (Zv9 ho b hb)
   have hzk := hzN.k
   cases ex with
   | false =>
    have hex : ¬ (false = true /\ N.k ≠ 3) := by simp
    refine Zaa <| rp 24 (.bool true) <| rp 25 (.bool false) <| rp 26 (.bool false) <| rp 27 (.bool false) <| rp 28 (.bool false) <| Zan 29 (fun _ => by kernel_rfl) <| Zan 30 (fun _ => by kernel_rfl) <| Zan 31 (fun _ => by kernel_rfl) <| rp 32 (.bool false) <| rp 33 (.bool false) <| Zad ?_
    refine Zab <| Zag (fun _ => by kernel_rfl) <| Zar <| Zab <| Zac <| Zac <| Zaa <| rv 35 (.agg z.cells.toArray) (fun _ => Zcf 68 _ _ _ _ _ _ rfl (by kernel_rfl) hN1 Tryz.underlying68 rfl (by rw [Zdz, Zcl hzl])) <| rp 36 (.slice a n c) ?_
    have hzK : NodeAt (fun b => b ≠ gR) w4 z N := (hzN.go (L := fun b => b ≠ gR) (fun g hg hl => ⟨Below.block hb4 g hl, by have := hg.1; omega⟩))
    refine Zav 37 69 #[.agg z.cells.toArray, .slice a n c] (fun _ => by kernel_rfl) (fun _ => by kernel_rfl) (R := FoR (fun b => b ≠ gR) w4 (foP N p)) (Zjk hzK hNR hp hnb) ?_
    rintro _ u2 ⟨⟨y1, a2, n2, c2, rfl, hyl1, hfo⟩, hb5⟩
    replace hB := hB.go hb5
    replace hp := hp.go hb5
    replace hRR := hRR.go hb5
    replace hN1 := hN1.go hb5
    refine rp 34 (.tuple #[.agg y1.cells.toArray, .slice a2 n2 c2, .bool (foP N p).isSome]) <| rp 38 (.agg y1.cells.toArray) <| rp 39 (.slice a2 n2 c2) <| rp 40 (.bool (foP N p).isSome) <| Zbk 12 rz.cells.toArray 65 (fun _ => by kernel_rfl) (fun _ => by kernel_rfl) ?_
    intro w5 gF hnF
    refine Zcy gF y1.cells.toArray (fun _ => by kernel_rfl) (fun _ => Za9 65 _ _ _ _ _ _ rfl (by kernel_rfl) (by kernel_rfl) hnF.row (by rw [Zb9, Zb2 hyl1]) (by rw [Zb2 hyl1]; rfl) (Zd8 _)) ?_
    intro w6 hpF
    have hF1 : Rw gF w6 y1.cells.toArray 65 := hpF.row hnF.row
    have hb6 : Bl u2 w6 := hpF.below hnF.below (by rw [hnF.hg]; exact Nat.le_refl _) hnF.below.size
    have hgF := hnF.hg
    clear hpF hnF
    replace hB := hB.go hb6
    replace hp := hp.go hb6
    replace hRR := hRR.go hb6
    replace hN1 := hN1.go hb6
    refine rp 13 (.slice a2 n2 c2) <| rp 14 (.bool (foP N p).isSome) <| Zad <| Zab <| Zac <| Zaa <| rp 41 (.bool (foP N p).isSome) <| Zad <| Zab ?_
    cases hfp : foP N p with
    | none =>
     refine Zd1 [(41, .bool false), (14, .bool false), (13, .slice a2 n2 c2), (12, .pointer (some ⟨gF, 0, none⟩)), (40, .bool false), (39, .slice a2 n2 c2), (38, .agg y1.cells.toArray), (34, .tuple #[.agg y1.cells.toArray, .slice a2 n2 c2, .bool false]), (37, .tuple #[.agg y1.cells.toArray, .slice a2 n2 c2, .bool false]), (36, .slice a n c), (35, .agg z.cells.toArray), (33, .bool false), (32, .bool false), (31, undef), (30, undef), (29, undef), (28, .bool false), (27, .bool false), (26, .bool false), (25, .bool false), (24, .bool true), (11, .bool true), (2, .slice a1 n1 c1), (10, .pointer (some ⟨gN, 0, none⟩)), (23, .bool true), (22, .slice a1 n1 c1), (21, .agg z.cells.toArray), (17, .tuple #[.agg z.cells.toArray, .slice a1 n1 c1, .bool true]), (20, .tuple #[.agg z.cells.toArray, .slice a1 n1 c1, .bool true]), (19, .slice al nl cl), (18, .agg y.cells.toArray), (8, .pointer (some ⟨gR, 0, none⟩)), (1, .slice a n c), (9, .bool false)] (by exact ⟨fun _ => by kernel_rfl, ⟨fun _ => by kernel_rfl, ⟨fun _ => by kernel_rfl, ⟨fun _ => by kernel_rfl, ⟨fun _ => by kernel_rfl, ⟨fun _ => by kernel_rfl, ⟨fun _ => by kernel_rfl, ⟨fun _ => by kernel_rfl, ⟨fun _ => by kernel_rfl, ⟨fun _ => by kernel_rfl, ⟨fun _ => by kernel_rfl, ⟨fun _ => by kernel_rfl, ⟨fun _ => by kernel_rfl, ⟨fun _ => by kernel_rfl, ⟨fun _ => by kernel_rfl, ⟨fun _ => by kernel_rfl, ⟨fun _ => by kernel_rfl, ⟨fun _ => by kernel_rfl, ⟨fun _ => by kernel_rfl, ⟨fun _ => by kernel_rfl, ⟨fun _ => by kernel_rfl, ⟨fun _ => by kernel_rfl, ⟨fun _ => by kernel_rfl, ⟨fun _ => by kernel_rfl, ⟨fun _ => by kernel_rfl, ⟨fun _ => by kernel_rfl, ⟨fun _ => by kernel_rfl, ⟨fun _ => by kernel_rfl, ⟨fun _ => by kernel_rfl, ⟨fun _ => by kernel_rfl, ⟨fun _ => by kernel_rfl, ⟨fun _ => by kernel_rfl, ⟨fun _ => by kernel_rfl, ⟨fun _ => by kernel_rfl, trivial⟩⟩⟩⟩⟩⟩⟩⟩⟩⟩⟩⟩⟩⟩⟩⟩⟩⟩⟩⟩⟩⟩⟩⟩⟩⟩⟩⟩⟩⟩⟩⟩⟩⟩) ?_
     have hv1 : (if M' = [] then some (vaP N p) else none) = A := (Zp5 ho hex hfp).symm.trans hv
     refine Zag (fun _ => by kernel_rfl) <| Zar <| Zab <| Zac <| Zac <| Zaa <| rp 47 (.slice a1 n1 c1) <| rp 48 (.int .i64 n1) <| rp 49 (.bool (decide ((n1 : Int) > (0 : Int)))) <| Zad <| Zab ?_
     cases M' with
     | nil =>
      have hl1 := (hL1 _ _ hL).len
      rw [List.length_nil] at hl1
      rw [show (decide ((n1 : Int) > (0 : Int))) = false from decide_eq_false (by omega)]
      rw [if_pos rfl] at hv1
      rw [<- hv1]
      refine Zag (fun _ => by kernel_rfl) <| Zar <| Zab <| Zac <| Zaa <| rv 50 (.agg z.cells.toArray) (fun _ => Zcf 68 _ _ _ _ _ _ rfl (by kernel_rfl) hN1 Tryz.underlying68 rfl (by rw [Zdz, Zcl hzl])) <| rp 51 (.slice a n c) ?_
      have hbz : ∀ g, g < u1.heap.size -> w6.heap[g]? = u1.heap[g]? := fun g hl => (Below.block hb6 g (by have := hb4.size; have := hb5.size; omega)).trans ((Below.block hb5 g (by have := hb4.size; omega)).trans (Below.block hb4 g hl))
      have hzW : NodeAt (fun b => Own w.heap.size w6 b /\ b < w6.heap.size) w6 z N := hzN.go (fun g hg hl => ⟨hbz g hl, ⟨by have := hg.1; omega, fun o => (World.frozen?_of_block (w := u1) (hbz g hl)).trans (hg.2 o)⟩, by have := hb4.size; have := hb5.size; have := hb6.size; omega⟩)
      refine Zav 52 70 #[.agg z.cells.toArray, .slice a n c] (fun _ => by kernel_rfl) (fun _ => by kernel_rfl) (R := fun u w' => ∃ a' n' c', u = .slice a' n' c' /\ Sk (fun b => Own w.heap.size w6 b /\ b < w6.heap.size) w' a' n' c' (vaP N p) /\ Bl w6 w') (Zhd hzW hp) ?_
      rintro _ u3 ⟨a3, n3, c3, rfl, hs3, hb7⟩
      replace hB := hB.go hb7
      replace hp := hp.go hb7
      replace hRR := hRR.go hb7
      replace hN1 := hN1.go hb7
      replace hF1 := hF1.go hb7
      replace hs3 : Sk (Own w.heap.size u3) u3 a3 n3 c3 (vaP N p) := hs3.mono (fun b hb => ⟨hb.1.1, fun o => (World.frozen?_of_block (w := w6) (Below.block hb7 b hb.2)).trans (hb.1.2 o)⟩)
      refine rp 6 (.slice a3 n3 c3) <| rp 7 (.bool true) <| Zad <| Zab <| Zao <| Zcj ?_
      exact Zae (.tuple #[.slice a3 n3 c3, .bool true]) (fun _ => by kernel_rfl) ⟨_, rfl, ⟨a3, n3, c3, rfl, fun h => (by cases h), fun v h => by cases h; exact hs3⟩, hB⟩
     | cons m1 M1 =>
      have hl1 := (hL1 _ _ hL).len
      rw [List.length_cons] at hl1
      rw [show (decide ((n1 : Int) > (0 : Int))) = true from decide_eq_true (by omega)]
      rw [if_neg (by simp)] at hv1
      rw [<- hv1]
      refine Zam (fun _ => by kernel_rfl) <| Zac <| Zaa <| rp 6 (.slice none 0 0) <| rp 7 (.bool false) <| Zad <| Zab <| Zao <| Zah <| Zcj ?_
      exact Zae (.tuple #[.slice none 0 0, .bool false]) (fun _ => by kernel_rfl) ⟨_, rfl, ⟨none, 0, 0, rfl, fun _ => ⟨rfl, rfl, rfl⟩, fun v h => by cases h⟩, hB⟩
    | some rp =>
     refine Zd1 [(41, .bool true), (14, .bool true), (13, .slice a2 n2 c2), (12, .pointer (some ⟨gF, 0, none⟩)), (40, .bool true), (39, .slice a2 n2 c2), (38, .agg y1.cells.toArray), (34, .tuple #[.agg y1.cells.toArray, .slice a2 n2 c2, .bool true]), (37, .tuple #[.agg y1.cells.toArray, .slice a2 n2 c2, .bool true]), (36, .slice a n c), (35, .agg z.cells.toArray), (33, .bool false), (32, .bool false), (31, undef), (30, undef), (29, undef), (28, .bool false), (27, .bool false), (26, .bool false), (25, .bool false), (24, .bool true), (11, .bool true), (2, .slice a1 n1 c1), (10, .pointer (some ⟨gN, 0, none⟩)), (23, .bool true), (22, .slice a1 n1 c1), (21, .agg z.cells.toArray), (17, .tuple #[.agg z.cells.toArray, .slice a1 n1 c1, .bool true]), (20, .tuple #[.agg z.cells.toArray, .slice a1 n1 c1, .bool true]), (19, .slice al nl cl), (18, .agg y.cells.toArray), (8, .pointer (some ⟨gR, 0, none⟩)), (1, .slice a n c), (9, .bool false)] (by exact ⟨fun _ => by kernel_rfl, ⟨fun _ => by kernel_rfl, ⟨fun _ => by kernel_rfl, ⟨fun _ => by kernel_rfl, ⟨fun _ => by kernel_rfl, ⟨fun _ => by kernel_rfl, ⟨fun _ => by kernel_rfl, ⟨fun _ => by kernel_rfl, ⟨fun _ => by kernel_rfl, ⟨fun _ => by kernel_rfl, ⟨fun _ => by kernel_rfl, ⟨fun _ => by kernel_rfl, ⟨fun _ => by kernel_rfl, ⟨fun _ => by kernel_rfl, ⟨fun _ => by kernel_rfl, ⟨fun _ => by kernel_rfl, ⟨fun _ => by kernel_rfl, ⟨fun _ => by kernel_rfl, ⟨fun _ => by kernel_rfl, ⟨fun _ => by kernel_rfl, ⟨fun _ => by kernel_rfl, ⟨fun _ => by kernel_rfl, ⟨fun _ => by kernel_rfl, ⟨fun _ => by kernel_rfl, ⟨fun _ => by kernel_rfl, ⟨fun _ => by kernel_rfl, ⟨fun _ => by kernel_rfl, ⟨fun _ => by kernel_rfl, ⟨fun _ => by kernel_rfl, ⟨fun _ => by kernel_rfl, ⟨fun _ => by kernel_rfl, ⟨fun _ => by kernel_rfl, ⟨fun _ => by kernel_rfl, ⟨fun _ => by kernel_rfl, trivial⟩⟩⟩⟩⟩⟩⟩⟩⟩⟩⟩⟩⟩⟩⟩⟩⟩⟩⟩⟩⟩⟩⟩⟩⟩⟩⟩⟩⟩⟩⟩⟩⟩⟩) ?_
     obtain ⟨r', p'⟩ := rp
     obtain ⟨hRf, hs2⟩ := hfo r' p' hfp
     obtain ⟨hlt, kk, hkk⟩ := Zn5 hNR hfp
     have l2 := hs2.len
     have hv1 : veP f r' p' M' (decide (N.k = 2)) = A := (Zuk ho hex hfp).symm.trans hv
     refine Zam (fun _ => by kernel_rfl) <| Zac ?_
     have hgFR : gF ≠ gR := by have := hb1.size; have := hb4.size; have := hb5.size; omega
     have hgNR : gN ≠ gR := by have := hb1.size; omega
     replace hs2 := hs2.go hb6
     replace hRf := hRf.go (Zdy hb6)
     have hgRw : w.heap.size <= gR := hgw
     refine Za7 (fun v => Rw gF v y1.cells.toArray 65 /\ Rw gN v z.cells.toArray 68) (by kernel_rfl) (⟨hF1.drew, hN1.drew⟩) ?_
     replace hB := hB.drew
     replace hp := hp.drew
     replace hRR := hRR.drew
     replace hN1 := hN1.drew
     replace hF1 := hF1.drew
     have hS := And.intro hF1 hN1
     replace hs2 := hs2.drew
     replace hRf := hRf.go (Zdy (Below.refl _ _).drew)
     refine dt 0 42 (.agg y1.cells.toArray) (fun v hv _ => Zcf 65 _ _ _ _ _ _ rfl (by kernel_rfl) hv.1 Tryz.underlying65 rfl (by rw [Zb9, List.size_toArray, RV.len hyl1])) hS <| dt 1 43 (.slice a2 n2 c2) (fun v hv _ => by kernel_rfl) hS <| dt 2 44 (.pointer (some ⟨gN, 0, none⟩)) (fun v hv _ => by kernel_rfl) hS <| dt 3 45 (.int .i64 z.k) (fun v hv _ => Zai 3 _ ⟨gN, 0, none⟩ _ _ rfl (by kernel_rfl) (by rw [cell_of_row _ _ _ _ _ _ hv.2]; exact Zc6 z) Tryz.underlying3 rfl) hS <| dt 4 46 (.bool ((z.k : Int) == (2 : Int))) (fun v hv _ => by kernel_rfl) hS <| Zak [5] (by kernel_rfl) (by simp) ?_
     refine Zjs 5 gR y1.cells.toArray rfl (fun _ => by kernel_rfl) (fun _ => Za9 65 _ _ _ _ _ _ rfl (by kernel_rfl) (by kernel_rfl) hRR (by rw [Zb9, Zb2 hyl1]) (by rw [Zb2 hyl1, Zb2 hyl]) (Zd8 _)) (fun w' h => ⟨(h.other hgFR).trans hS.1, (h.other hgNR).trans hS.2⟩) ?_ Zaw
     intro w8 hp8
     have hRR8 : Rw gR w8 y1.cells.toArray 65 := hp8.row hRR
     have hB8 : Bl w w8 := hp8.below hB hgRw hB.size
     have hs8 : Sk (fun b => b ≠ gR) w8 a2 n2 c2 p' := hs2.keep (fun g hg hl => ⟨hp8.other hg, hg⟩)
     have hRf8 : RefAt (fun b => b ≠ gR) w8 y1 r' := hRf.go (fun g hg hl => ⟨hp8.other hg, hg⟩)
     replace hS := And.intro ((hp8.other hgFR).trans hS.1) ((hp8.other hgNR).trans hS.2)
     refine dt 6 1 (.slice a2 n2 c2) (fun v hv _ => by kernel_rfl) hS <| dt 7 9 (.bool ((z.k : Int) == (2 : Int))) (fun v hv _ => by kernel_rfl) hS <| Zax (by kernel_rfl) <| Zab <| Zsa <| Zgf ?_
     exact Zq6 (x := (gR, (a, n, c), (al, nl, cl), _)) (gR, (a2, n2, c2), (a1, n1, c1), ((z.k : Int) == (2 : Int))) (by exact ⟨fun _ => by kernel_rfl, ⟨fun _ => by kernel_rfl, ⟨fun _ => by kernel_rfl, ⟨fun _ => by kernel_rfl, trivial⟩⟩⟩⟩) ⟨⟨y1, r', p', M', f, hRR8, hRf8, hs8, by rw [hkk]; exact hnb.drop kk, hL1 _ _ hL, hn1c, hMl', by simp only; omega, (by show veP f r' p' M' ((z.k : Int) == (2 : Int)) = A; rw [hzk, show ((N.k : Int) == (2 : Int)) = decide (N.k = 2) from by by_cases h : N.k = 2 <;> simp [h]]; exact hv1)⟩, hB8, hgw⟩ (by simp only; omega)
   | true =>
    by_cases hk3 : N.k = 3
    ·skip
     have hex : ¬ (true = true /\ N.k ≠ 3) := by simp [hk3]
     refine Zaa <| rp 24 (.bool true) <| rp 25 (.bool false) <| rp 26 (.bool false) <| rp 27 (.bool true) <| rp 28 (.bool true) <| rp 29 (.pointer (some ⟨gN, 0, none⟩)) <| rv 30 (.int .i64 z.k) (fun _ => Zai 3 _ ⟨gN, 0, none⟩ _ _ rfl (by kernel_rfl) (by rw [cell_of_row _ _ _ _ _ _ hN1]; exact Zc6 z) Tryz.underlying3 rfl) <| rv 31 (.bool false) (fun _ => Zaq (v := .bool (!((z.k : Int) == (3 : Int)))) (by kernel_rfl) (congrArg Value.bool (by rw [hzk, hk3]; rfl))) <| rp 32 (.bool false) <| rp 33 (.bool false) <| Zad ?_
     refine Zab <| Zag (fun _ => by kernel_rfl) <| Zar <| Zab <| Zac <| Zac <| Zaa <| rv 35 (.agg z.cells.toArray) (fun _ => Zcf 68 _ _ _ _ _ _ rfl (by kernel_rfl) hN1 Tryz.underlying68 rfl (by rw [Zdz, Zcl hzl])) <| rp 36 (.slice a n c) ?_
     have hzK : NodeAt (fun b => b ≠ gR) w4 z N := (hzN.go (L := fun b => b ≠ gR) (fun g hg hl => ⟨Below.block hb4 g hl, by have := hg.1; omega⟩))
     refine Zav 37 69 #[.agg z.cells.toArray, .slice a n c] (fun _ => by kernel_rfl) (fun _ => by kernel_rfl) (R := FoR (fun b => b ≠ gR) w4 (foP N p)) (Zjk hzK hNR hp hnb) ?_
     rintro _ u2 ⟨⟨y1, a2, n2, c2, rfl, hyl1, hfo⟩, hb5⟩
     replace hB := hB.go hb5
     replace hp := hp.go hb5
     replace hRR := hRR.go hb5
     replace hN1 := hN1.go hb5
     refine rp 34 (.tuple #[.agg y1.cells.toArray, .slice a2 n2 c2, .bool (foP N p).isSome]) <| rp 38 (.agg y1.cells.toArray) <| rp 39 (.slice a2 n2 c2) <| rp 40 (.bool (foP N p).isSome) <| Zbk 12 rz.cells.toArray 65 (fun _ => by kernel_rfl) (fun _ => by kernel_rfl) ?_
     intro w5 gF hnF
     refine Zcy gF y1.cells.toArray (fun _ => by kernel_rfl) (fun _ => Za9 65 _ _ _ _ _ _ rfl (by kernel_rfl) (by kernel_rfl) hnF.row (by rw [Zb9, Zb2 hyl1]) (by rw [Zb2 hyl1]; rfl) (Zd8 _)) ?_
     intro w6 hpF
     have hF1 : Rw gF w6 y1.cells.toArray 65 := hpF.row hnF.row
     have hb6 : Bl u2 w6 := hpF.below hnF.below (by rw [hnF.hg]; exact Nat.le_refl _) hnF.below.size
     have hgF := hnF.hg
     clear hpF hnF
     replace hB := hB.go hb6
     replace hp := hp.go hb6
     replace hRR := hRR.go hb6
     replace hN1 := hN1.go hb6
     refine rp 13 (.slice a2 n2 c2) <| rp 14 (.bool (foP N p).isSome) <| Zad <| Zab <| Zac <| Zaa <| rp 41 (.bool (foP N p).isSome) <| Zad <| Zab ?_
     cases hfp : foP N p with
     | none =>
      refine Zd1 [(41, .bool false), (14, .bool false), (13, .slice a2 n2 c2), (12, .pointer (some ⟨gF, 0, none⟩)), (40, .bool false), (39, .slice a2 n2 c2), (38, .agg y1.cells.toArray), (34, .tuple #[.agg y1.cells.toArray, .slice a2 n2 c2, .bool false]), (37, .tuple #[.agg y1.cells.toArray, .slice a2 n2 c2, .bool false]), (36, .slice a n c), (35, .agg z.cells.toArray), (33, .bool false), (32, .bool false), (31, .bool false), (30, .int .i64 z.k), (29, .pointer (some ⟨gN, 0, none⟩)), (28, .bool true), (27, .bool true), (26, .bool false), (25, .bool false), (24, .bool true), (11, .bool true), (2, .slice a1 n1 c1), (10, .pointer (some ⟨gN, 0, none⟩)), (23, .bool true), (22, .slice a1 n1 c1), (21, .agg z.cells.toArray), (17, .tuple #[.agg z.cells.toArray, .slice a1 n1 c1, .bool true]), (20, .tuple #[.agg z.cells.toArray, .slice a1 n1 c1, .bool true]), (19, .slice al nl cl), (18, .agg y.cells.toArray), (8, .pointer (some ⟨gR, 0, none⟩)), (1, .slice a n c), (9, .bool true)] (by exact ⟨fun _ => by kernel_rfl, ⟨fun _ => by kernel_rfl, ⟨fun _ => by kernel_rfl, ⟨fun _ => by kernel_rfl, ⟨fun _ => by kernel_rfl, ⟨fun _ => by kernel_rfl, ⟨fun _ => by kernel_rfl, ⟨fun _ => by kernel_rfl, ⟨fun _ => by kernel_rfl, ⟨fun _ => by kernel_rfl, ⟨fun _ => by kernel_rfl, ⟨fun _ => by kernel_rfl, ⟨fun _ => by kernel_rfl, ⟨fun _ => by kernel_rfl, ⟨fun _ => by kernel_rfl, ⟨fun _ => by kernel_rfl, ⟨fun _ => by kernel_rfl, ⟨fun _ => by kernel_rfl, ⟨fun _ => by kernel_rfl, ⟨fun _ => by kernel_rfl, ⟨fun _ => by kernel_rfl, ⟨fun _ => by kernel_rfl, ⟨fun _ => by kernel_rfl, ⟨fun _ => by kernel_rfl, ⟨fun _ => by kernel_rfl, ⟨fun _ => by kernel_rfl, ⟨fun _ => by kernel_rfl, ⟨fun _ => by kernel_rfl, ⟨fun _ => by kernel_rfl, ⟨fun _ => by kernel_rfl, ⟨fun _ => by kernel_rfl, ⟨fun _ => by kernel_rfl, ⟨fun _ => by kernel_rfl, ⟨fun _ => by kernel_rfl, trivial⟩⟩⟩⟩⟩⟩⟩⟩⟩⟩⟩⟩⟩⟩⟩⟩⟩⟩⟩⟩⟩⟩⟩⟩⟩⟩⟩⟩⟩⟩⟩⟩⟩⟩) ?_
      have hv1 : (if M' = [] then some (vaP N p) else none) = A := (Zp5 ho hex hfp).symm.trans hv
      refine Zag (fun _ => by kernel_rfl) <| Zar <| Zab <| Zac <| Zac <| Zaa <| rp 47 (.slice a1 n1 c1) <| rp 48 (.int .i64 n1) <| rp 49 (.bool (decide ((n1 : Int) > (0 : Int)))) <| Zad <| Zab ?_
      cases M' with
      | nil =>
       have hl1 := (hL1 _ _ hL).len
       rw [List.length_nil] at hl1
       rw [show (decide ((n1 : Int) > (0 : Int))) = false from decide_eq_false (by omega)]
       rw [if_pos rfl] at hv1
       rw [<- hv1]
       refine Zag (fun _ => by kernel_rfl) <| Zar <| Zab <| Zac <| Zaa <| rv 50 (.agg z.cells.toArray) (fun _ => Zcf 68 _ _ _ _ _ _ rfl (by kernel_rfl) hN1 Tryz.underlying68 rfl (by rw [Zdz, Zcl hzl])) <| rp 51 (.slice a n c) ?_
       have hbz : ∀ g, g < u1.heap.size -> w6.heap[g]? = u1.heap[g]? := fun g hl => (Below.block hb6 g (by have := hb4.size; have := hb5.size; omega)).trans ((Below.block hb5 g (by have := hb4.size; omega)).trans (Below.block hb4 g hl))
       have hzW : NodeAt (fun b => Own w.heap.size w6 b /\ b < w6.heap.size) w6 z N := hzN.go (fun g hg hl => ⟨hbz g hl, ⟨by have := hg.1; omega, fun o => (World.frozen?_of_block (w := u1) (hbz g hl)).trans (hg.2 o)⟩, by have := hb4.size; have := hb5.size; have := hb6.size; omega⟩)
       refine Zav 52 70 #[.agg z.cells.toArray, .slice a n c] (fun _ => by kernel_rfl) (fun _ => by kernel_rfl) (R := fun u w' => ∃ a' n' c', u = .slice a' n' c' /\ Sk (fun b => Own w.heap.size w6 b /\ b < w6.heap.size) w' a' n' c' (vaP N p) /\ Bl w6 w') (Zhd hzW hp) ?_
       rintro _ u3 ⟨a3, n3, c3, rfl, hs3, hb7⟩
       replace hB := hB.go hb7
       replace hp := hp.go hb7
       replace hRR := hRR.go hb7
       replace hN1 := hN1.go hb7
       replace hF1 := hF1.go hb7
       replace hs3 : Sk (Own w.heap.size u3) u3 a3 n3 c3 (vaP N p) := hs3.mono (fun b hb => ⟨hb.1.1, fun o => (World.frozen?_of_block (w := w6) (Below.block hb7 b hb.2)).trans (hb.1.2 o)⟩)
       refine rp 6 (.slice a3 n3 c3) <| rp 7 (.bool true) <| Zad <| Zab <| Zao <| Zcj ?_
       exact Zae (.tuple #[.slice a3 n3 c3, .bool true]) (fun _ => by kernel_rfl) ⟨_, rfl, ⟨a3, n3, c3, rfl, fun h => (by cases h), fun v h => by cases h; exact hs3⟩, hB⟩
      | cons m1 M1 =>
       have hl1 := (hL1 _ _ hL).len
       rw [List.length_cons] at hl1
       rw [show (decide ((n1 : Int) > (0 : Int))) = true from decide_eq_true (by omega)]
       rw [if_neg (by simp)] at hv1
       rw [<- hv1]
       refine Zam (fun _ => by kernel_rfl) <| Zac <| Zaa <| rp 6 (.slice none 0 0) <| rp 7 (.bool false) <| Zad <| Zab <| Zao <| Zah <| Zcj ?_
       exact Zae (.tuple #[.slice none 0 0, .bool false]) (fun _ => by kernel_rfl) ⟨_, rfl, ⟨none, 0, 0, rfl, fun _ => ⟨rfl, rfl, rfl⟩, fun v h => by cases h⟩, hB⟩
     | some rp =>
      refine Zd1 [(41, .bool true), (14, .bool true), (13, .slice a2 n2 c2), (12, .pointer (some ⟨gF, 0, none⟩)), (40, .bool true), (39, .slice a2 n2 c2), (38, .agg y1.cells.toArray), (34, .tuple #[.agg y1.cells.toArray, .slice a2 n2 c2, .bool true]), (37, .tuple #[.agg y1.cells.toArray, .slice a2 n2 c2, .bool true]), (36, .slice a n c), (35, .agg z.cells.toArray), (33, .bool false), (32, .bool false), (31, .bool false), (30, .int .i64 z.k), (29, .pointer (some ⟨gN, 0, none⟩)), (28, .bool true), (27, .bool true), (26, .bool false), (25, .bool false), (24, .bool true), (11, .bool true), (2, .slice a1 n1 c1), (10, .pointer (some ⟨gN, 0, none⟩)), (23, .bool true), (22, .slice a1 n1 c1), (21, .agg z.cells.toArray), (17, .tuple #[.agg z.cells.toArray, .slice a1 n1 c1, .bool true]), (20, .tuple #[.agg z.cells.toArray, .slice a1 n1 c1, .bool true]), (19, .slice al nl cl), (18, .agg y.cells.toArray), (8, .pointer (some ⟨gR, 0, none⟩)), (1, .slice a n c), (9, .bool true)] (by exact ⟨fun _ => by kernel_rfl, ⟨fun _ => by kernel_rfl, ⟨fun _ => by kernel_rfl, ⟨fun _ => by kernel_rfl, ⟨fun _ => by kernel_rfl, ⟨fun _ => by kernel_rfl, ⟨fun _ => by kernel_rfl, ⟨fun _ => by kernel_rfl, ⟨fun _ => by kernel_rfl, ⟨fun _ => by kernel_rfl, ⟨fun _ => by kernel_rfl, ⟨fun _ => by kernel_rfl, ⟨fun _ => by kernel_rfl, ⟨fun _ => by kernel_rfl, ⟨fun _ => by kernel_rfl, ⟨fun _ => by kernel_rfl, ⟨fun _ => by kernel_rfl, ⟨fun _ => by kernel_rfl, ⟨fun _ => by kernel_rfl, ⟨fun _ => by kernel_rfl, ⟨fun _ => by kernel_rfl, ⟨fun _ => by kernel_rfl, ⟨fun _ => by kernel_rfl, ⟨fun _ => by kernel_rfl, ⟨fun _ => by kernel_rfl, ⟨fun _ => by kernel_rfl, ⟨fun _ => by kernel_rfl, ⟨fun _ => by kernel_rfl, ⟨fun _ => by kernel_rfl, ⟨fun _ => by kernel_rfl, ⟨fun _ => by kernel_rfl, ⟨fun _ => by kernel_rfl, ⟨fun _ => by kernel_rfl, ⟨fun _ => by kernel_rfl, trivial⟩⟩⟩⟩⟩⟩⟩⟩⟩⟩⟩⟩⟩⟩⟩⟩⟩⟩⟩⟩⟩⟩⟩⟩⟩⟩⟩⟩⟩⟩⟩⟩⟩⟩) ?_
      obtain ⟨r', p'⟩ := rp
      obtain ⟨hRf, hs2⟩ := hfo r' p' hfp
      obtain ⟨hlt, kk, hkk⟩ := Zn5 hNR hfp
      have l2 := hs2.len
      have hv1 : veP f r' p' M' (decide (N.k = 2)) = A := (Zuk ho hex hfp).symm.trans hv
      refine Zam (fun _ => by kernel_rfl) <| Zac ?_
      have hgFR : gF ≠ gR := by have := hb1.size; have := hb4.size; have := hb5.size; omega
      have hgNR : gN ≠ gR := by have := hb1.size; omega
      replace hs2 := hs2.go hb6
      replace hRf := hRf.go (Zdy hb6)
      have hgRw : w.heap.size <= gR := hgw
      refine Za7 (fun v => Rw gF v y1.cells.toArray 65 /\ Rw gN v z.cells.toArray 68) (by kernel_rfl) (⟨hF1.drew, hN1.drew⟩) ?_
      replace hB := hB.drew
      replace hp := hp.drew
      replace hRR := hRR.drew
      replace hN1 := hN1.drew
      replace hF1 := hF1.drew
      have hS := And.intro hF1 hN1
      replace hs2 := hs2.drew
      replace hRf := hRf.go (Zdy (Below.refl _ _).drew)
      refine dt 0 42 (.agg y1.cells.toArray) (fun v hv _ => Zcf 65 _ _ _ _ _ _ rfl (by kernel_rfl) hv.1 Tryz.underlying65 rfl (by rw [Zb9, List.size_toArray, RV.len hyl1])) hS <| dt 1 43 (.slice a2 n2 c2) (fun v hv _ => by kernel_rfl) hS <| dt 2 44 (.pointer (some ⟨gN, 0, none⟩)) (fun v hv _ => by kernel_rfl) hS <| dt 3 45 (.int .i64 z.k) (fun v hv _ => Zai 3 _ ⟨gN, 0, none⟩ _ _ rfl (by kernel_rfl) (by rw [cell_of_row _ _ _ _ _ _ hv.2]; exact Zc6 z) Tryz.underlying3 rfl) hS <| dt 4 46 (.bool ((z.k : Int) == (2 : Int))) (fun v hv _ => by kernel_rfl) hS <| Zak [5] (by kernel_rfl) (by simp) ?_
      refine Zjs 5 gR y1.cells.toArray rfl (fun _ => by kernel_rfl) (fun _ => Za9 65 _ _ _ _ _ _ rfl (by kernel_rfl) (by kernel_rfl) hRR (by rw [Zb9, Zb2 hyl1]) (by rw [Zb2 hyl1, Zb2 hyl]) (Zd8 _)) (fun w' h => ⟨(h.other hgFR).trans hS.1, (h.other hgNR).trans hS.2⟩) ?_ Zaw
      intro w8 hp8
      have hRR8 : Rw gR w8 y1.cells.toArray 65 := hp8.row hRR
      have hB8 : Bl w w8 := hp8.below hB hgRw hB.size
      have hs8 : Sk (fun b => b ≠ gR) w8 a2 n2 c2 p' := hs2.keep (fun g hg hl => ⟨hp8.other hg, hg⟩)
      have hRf8 : RefAt (fun b => b ≠ gR) w8 y1 r' := hRf.go (fun g hg hl => ⟨hp8.other hg, hg⟩)
      replace hS := And.intro ((hp8.other hgFR).trans hS.1) ((hp8.other hgNR).trans hS.2)
      refine dt 6 1 (.slice a2 n2 c2) (fun v hv _ => by kernel_rfl) hS <| dt 7 9 (.bool ((z.k : Int) == (2 : Int))) (fun v hv _ => by kernel_rfl) hS <| Zax (by kernel_rfl) <| Zab <| Zsa <| Zgf ?_
      exact Zq6 (x := (gR, (a, n, c), (al, nl, cl), _)) (gR, (a2, n2, c2), (a1, n1, c1), ((z.k : Int) == (2 : Int))) (by exact ⟨fun _ => by kernel_rfl, ⟨fun _ => by kernel_rfl, ⟨fun _ => by kernel_rfl, ⟨fun _ => by kernel_rfl, trivial⟩⟩⟩⟩) ⟨⟨y1, r', p', M', f, hRR8, hRf8, hs8, by rw [hkk]; exact hnb.drop kk, hL1 _ _ hL, hn1c, hMl', by simp only; omega, (by show veP f r' p' M' ((z.k : Int) == (2 : Int)) = A; rw [hzk, show ((N.k : Int) == (2 : Int)) = decide (N.k = 2) from by by_cases h : N.k = 2 <;> simp [h]]; exact hv1)⟩, hB8, hgw⟩ (by simp only; omega)
    ·skip
     have hv0 : A = none := by rw [<- hv]; simp [veP, ho, hk3]
     rw [hv0]
     refine Zaa <| rp 24 (.bool true) <| rp 25 (.bool false) <| rp 26 (.bool false) <| rp 27 (.bool true) <| rp 28 (.bool true) <| rp 29 (.pointer (some ⟨gN, 0, none⟩)) <| rv 30 (.int .i64 z.k) (fun _ => Zai 3 _ ⟨gN, 0, none⟩ _ _ rfl (by kernel_rfl) (by rw [cell_of_row _ _ _ _ _ _ hN1]; exact Zc6 z) Tryz.underlying3 rfl) <| rv 31 (.bool true) (fun _ => Zaq (v := .bool (!((z.k : Int) == (3 : Int)))) (by kernel_rfl) (congrArg Value.bool (by rw [hzk]; simp [hk3]))) <| rp 32 (.bool true) <| rp 33 (.bool true) <| Zad ?_
     refine Zab <| Zam (fun _ => by kernel_rfl) <| Zac <| Zaa <| rp 6 (.slice none 0 0) <| rp 7 (.bool false) <| Zad <| Zab <| Zao <| Zah <| Zcj ?_
     exact Zae (.tuple #[.slice none 0 0, .bool false]) (fun _ => by kernel_rfl) ⟨_, rfl, ⟨none, 0, 0, rfl, fun _ => ⟨rfl, rfl, rfl⟩, fun v h => by cases h⟩, hB⟩
def vfP (d k : List Int) (M : List (List Int)) : Int × List Int :=
 if 32 < k.length then (70, []) else if M = [] /\ d = dref [128] then (0, []) else
  match veP (2 * k.length + 1) ⟨2, d, []⟩ (Ni.nib k) M false with
  | none => (90, [])
  | some v => (0, v)
def VfR (w : World) (o : Int × List Int) : Value -> World -> Prop := fun u w' => (∃ (a : Option Addr) (n c : Nat), u = .tuple #[.slice a n c, .bool (decide (0 < n)), .int .i64 o.1] /\ Sk (Own w.heap.size w') w' a n c o.2) /\ Bl w w'
theorem Cut.skb {w : World} {base : Nat} {a : Option Addr} {n : Nat} {bs : List Int} (h : Ni.Cut w base a n bs) : Sk (fun b => base <= b /\ b < w.heap.size) w a n n bs := ⟨h.ag, fun x hx hn => by
 obtain ⟨g, off, cur, e1, e2, e3⟩ := h.own hn
 rw [e1] at hx; cases hx
 exact ⟨e2, lt_of_get e3⟩⟩
set_option maxHeartbeats 1000000 in
theorem isKey_any {w : World} {a : Option Addr} {n c : Nat} :
  Calls Tryz.prog 26 #[.slice a n c] w fun e w' => ∃ u, e = .returned u /\ (fun u w' => u = .bool (decide ((n : Int) <= (32 : Int))) /\ Bl w w') u w' := by
 have hB := Bl.refl w
 refine Zat Tryz.func26 rfl 6 rfl ?_
 show CW _ _ _ _ _ _ _ [(0, .slice a n c)] _
 refine Zac <| Zaa <| rp 2 (.bool false) <| Zad <| Zab <| Zac <| Zaa <| rp 3 (.slice a n c) <| rp 4 (.int .i64 n) <| rp 5 (.bool (decide ((n : Int) <= (32 : Int)))) <| rp 2 (.bool (decide ((n : Int) <= (32 : Int)))) <| Zad ?_
 refine Zab <| Zao ?_
 exact Zae (.bool (decide ((n : Int) <= (32 : Int)))) (fun _ => by kernel_rfl) ⟨_, rfl, rfl, hB⟩
set_option maxHeartbeats 4000000 in
theorem Zfv {K K1 : Nat -> Prop} {w : World} {d : List Int} {a al : Option Addr} {n c nl cl : Nat} {k : List Int} {M : List (List Int)} (hd : d.length = 32) (hdb : isB d) (hk : Sk K1 w a n c k) (hL : Bt K w al nl M) (hnc : nl <= cl) (hM : ∀ b ∈ M, b.length <= 140737488351232) :
  Calls Tryz.prog 17 #[.agg (B8 d), .slice a n c, .slice al nl cl] w fun e w' => ∃ u, e = .returned u /\ VfR w (vfP d k M) u w' := by
 have hB := Bl.refl w
 have lk := hk.len
 have hk0 := hk
 have hL0 := hL
 obtain ⟨A, hA⟩ : ∃ A, vfP d k M = A := ⟨_, rfl⟩
 rw [hA]
 unfold vfP at hA
 refine Zat Tryz.func17 rfl 38 rfl ?_
 show CW _ _ _ _ _ _ _ [(0, .agg (B8 d)), (1, .slice a n c), (2, .slice al nl cl)] _
 refine Zac <| Zaa <| Zbk 3 (B8 d) 35 (fun _ => by kernel_rfl) (fun _ => by kernel_rfl) ?_
 intro w1 gD hnD
 have hD1 : Rw gD w1 (B8 d) 35 := hnD.row
 replace hB := hB.go hnD.below
 replace hk := hk.go hnD.below
 replace hL := hL.go hnD.below
 refine rp 6 (.slice none 0 0) <| rp 7 (.bool false) <| rp 8 (.int .i64 0) <| Zad <| Zab <| Zac <| Zbc <| Zac <| Zaa <| rp 12 (.slice a n c) <| Zav 13 26 #[.slice a n c] (fun _ => by kernel_rfl) (fun _ => by kernel_rfl) (R := fun u w' => u = .bool (decide ((n : Int) <= (32 : Int))) /\ Bl (w1) w') (isKey_any) ?_
 rintro _ u1 ⟨rfl, hb1⟩
 replace hB := hB.go hb1
 replace hk := hk.go hb1
 replace hL := hL.go hb1
 replace hD1 := hD1.go hb1
 refine rp 14 (.bool (!(decide ((n : Int) <= (32 : Int))))) <| rp 11 (.bool (!(decide ((n : Int) <= (32 : Int))))) <| Zad <| Zab ?_
 by_cases hn32 : n <= 32
 ·skip
  rw [show (!decide ((n : Int) <= (32 : Int))) = false from by rw [decide_eq_true (by omega)]; rfl]
  rw [if_neg (by omega)] at hA
  have hn32b : 2 * n <= 140737488355328 := by omega
  refine Zag (fun _ => by kernel_rfl) <| Zac ?_
  have hV := Bl.refl u1
  have hDu := hD1
  cases M with
  | nil =>
   have hn0 : nl = 0 := hL0.len.symm
   refine Za7 (fun v => Bl u1 v) (by kernel_rfl) (hV.drew) ?_
   replace hB := hB.drew
   replace hk := hk.drew
   replace hL := hL.drew
   replace hD1 := hD1.drew
   replace hV := hV.drew
   refine dt 0 16 (.slice al nl cl) (fun v hv _ => by kernel_rfl) hV <| dt 1 17 (.int .i64 nl) (fun v hv _ => by kernel_rfl) hV <| dt 2 18 (.bool true) (fun v hv => (fun _ => Zaq (v := .bool ((nl : Int) == (0 : Int))) (by kernel_rfl) (congrArg Value.bool (beq_iff_eq.2 (by omega))))) hV <| dt 3 19 (.bool true) (fun v hv _ => by kernel_rfl) hV <| dt 4 20 (.agg (B8 d)) (fun v hv _ => Zcf 35 _ _ _ _ _ _ rfl (by kernel_rfl) (hDu.go hv) Tryz.underlying35 rfl (Zc2 hd)) hV <| Zak [5] (by kernel_rfl) (by simp) ?_
   refine Za4 5 21 38 #[] rfl (fun _ => by kernel_rfl) (fun _ => by kernel_rfl) (R := fun u w' => u = .agg (B8 (dref [128])) /\ Bl (u1.drew) w') (((Zkk (u1.drew)).mono (fun e w' h => ⟨_, h.1, rfl, h.2⟩))) (fun u w' h => hV.go h.2) ?_ Zaw
   rintro _ u2 ⟨rfl, hb2⟩
   replace hB := hB.go hb2
   replace hk := hk.go hb2
   replace hL := hL.go hb2
   replace hD1 := hD1.go hb2
   replace hV := hV.go hb2
   refine dt 6 22 (.bool (d == dref [128])) (fun v hv _ => Zq2 rfl (by kernel_rfl) (by kernel_rfl) hd (dref_len _)) hV <| dt 7 23 (.bool (d == dref [128])) (fun v hv _ => by kernel_rfl) hV <| dt 8 15 (.bool (d == dref [128])) (fun v hv _ => by kernel_rfl) hV <| Zax (by kernel_rfl) <| Zab ?_
   by_cases hde : d = dref [128]
   ·skip
    rw [show (d == dref [128]) = true from by simp [hde]]
    rw [if_pos ⟨rfl, hde⟩] at hA
    refine Zam (fun _ => by kernel_rfl) <| Zac <| Zaa <| rp 6 (.slice none 0 0) <| rp 7 (.bool false) <| rp 8 (.int .i64 0) <| Zad <| Zab <| Zao <| Zbv <| Zah ?_
    subst hA
    exact Zae (.tuple #[.slice none 0 0, .bool false, .int .i64 0]) (fun _ => by kernel_rfl) ⟨_, rfl, ⟨none, 0, 0, rfl, Sk.nil _ _⟩, hB⟩
   ·skip
    rw [show (d == dref [128]) = false from by simp [hde]]
    rw [if_neg (fun h => hde h.2)] at hA
    refine Zag (fun _ => by kernel_rfl) <| Zar <| Zbf <| Zab <| Zac ?_
    replace hV := Bl.refl u2
    have hD5 := hD1
    have hkB : isB k := hk.ag.b
    refine Za7 (fun v => Bl (u2) v) (by kernel_rfl) (hV.drew) ?_
    replace hB := hB.drew
    replace hk := hk.drew
    replace hL := hL.drew
    replace hD1 := hD1.drew
    replace hV := hV.drew
    refine dt 0 25 (.agg (B8 d)) (fun v hv _ => Zcf 35 _ _ _ _ _ _ rfl (by kernel_rfl) (hD5.go hv) Tryz.underlying35 rfl (Zc2 hd)) hV <| dt 1 26 (.slice a n c) (fun v hv _ => by kernel_rfl) hV <| dt 3 28 (.slice al nl cl) (fun v hv _ => by kernel_rfl) hV <| Zak [2] (by kernel_rfl) (by simp) ?_
    refine Za4 2 27 28 #[.slice a n c] rfl (fun _ => by kernel_rfl) (fun _ => by kernel_rfl) (R := fun u w' => (∃ a', u = .slice a' (2 * n) (2 * n) /\ Ni.Cut w' (u2.drew).heap.size a' (2 * n) (Ni.nib k)) /\ Bl (u2.drew) w') (((Ni.of_any a n c k (u2.drew) hk.ag hn32b).mono (fun e w' ⟨⟨a', e1, e2⟩, e3⟩ => ⟨_, e1, ⟨a', rfl, e2⟩, e3⟩))) (fun u w' h => hV.go h.2) ?_ Zaw
    rintro _ u3 ⟨⟨a3, rfl, hc3⟩, hb3⟩
    replace hB := hB.go hb3
    replace hk := hk.go hb3
    replace hL := hL.go hb3
    replace hD1 := hD1.go hb3
    replace hV := hV.go hb3
    have hp3 := Cut.skb hc3
    refine Zak [4] (by kernel_rfl) (by simp) ?_
    refine Za4 4 29 42 #[.agg (B8 d), .slice a3 (2 * n) (2 * n), .slice al nl cl] rfl (fun _ => by kernel_rfl) (fun _ => by kernel_rfl) (R := VbR (u3) (veP (2 * k.length + 1) ⟨2, d, []⟩ (Ni.nib k) [] false)) ((by rw [lk]; exact Zhc hd hdb (hp3.mono (fun b hb => hb.2)) (Zlk hkB) hL hnc hM)) (fun u w' h => hV.go h.2) ?_ Zaw
    rintro _ u4 ⟨⟨a4, n4, c4, rfl, hvs⟩, hb4⟩
    have hz4 := hB.size
    replace hB := hB.go hb4
    replace hk := hk.go hb4
    replace hL := hL.go hb4
    replace hD1 := hD1.go hb4
    replace hV := hV.go hb4
    refine dt 5 24 (.tuple #[.slice a4 n4 c4, .bool (veP (2 * k.length + 1) ⟨2, d, []⟩ (Ni.nib k) [] false).isSome]) (fun v hv _ => by kernel_rfl) hV <| dt 6 30 (.slice a4 n4 c4) (fun v hv _ => by kernel_rfl) hV <| dt 7 31 (.bool (veP (2 * k.length + 1) ⟨2, d, []⟩ (Ni.nib k) [] false).isSome) (fun v hv _ => by kernel_rfl) hV <| dt 8 9 (.slice a4 n4 c4) (fun v hv _ => by kernel_rfl) hV <| dt 9 10 (.bool (veP (2 * k.length + 1) ⟨2, d, []⟩ (Ni.nib k) [] false).isSome) (fun v hv _ => by kernel_rfl) hV <| Zax (by kernel_rfl) <| Zab <| Zac <| Zac ?_
    cases hv : veP (2 * k.length + 1) ⟨2, d, []⟩ (Ni.nib k) [] false with
    | none =>
     rw [hv] at hA hvs
     subst hA
     refine Zd1 [(10, .bool false), (9, .slice a4 n4 c4), (31, .bool false), (30, .slice a4 n4 c4), (24, .tuple #[.slice a4 n4 c4, .bool false]), (29, .tuple #[.slice a4 n4 c4, .bool false]), (27, .slice a3 (2 * n) (2 * n)), (28, .slice al nl cl), (26, .slice a n c), (25, .agg (B8 d)), (15, .bool false), (23, .bool false), (22, .bool false), (21, .agg (B8 (dref [128]))), (20, .agg (B8 d)), (19, .bool true), (18, .bool true), (17, .int .i64 nl), (16, .slice al nl cl), (11, .bool false), (14, .bool false), (13, .bool (decide ((n : Int) <= (32 : Int)))), (12, .slice a n c), (8, .int .i64 0), (7, .bool false), (6, .slice none 0 0), (3, .pointer (some ⟨gD, 0, none⟩)), (0, .agg (B8 d)), (1, .slice a n c), (2, .slice al nl cl)] (by exact ⟨fun _ => by kernel_rfl, ⟨fun _ => by kernel_rfl, ⟨fun _ => by kernel_rfl, ⟨fun _ => by kernel_rfl, ⟨fun _ => by kernel_rfl, ⟨fun _ => by kernel_rfl, ⟨fun _ => by kernel_rfl, ⟨fun _ => by kernel_rfl, ⟨fun _ => by kernel_rfl, ⟨fun _ => by kernel_rfl, ⟨fun _ => by kernel_rfl, ⟨fun _ => by kernel_rfl, ⟨fun _ => by kernel_rfl, ⟨fun _ => by kernel_rfl, ⟨fun _ => by kernel_rfl, ⟨fun _ => by kernel_rfl, ⟨fun _ => by kernel_rfl, ⟨fun _ => by kernel_rfl, ⟨fun _ => by kernel_rfl, ⟨fun _ => by kernel_rfl, ⟨fun _ => by kernel_rfl, ⟨fun _ => by kernel_rfl, ⟨fun _ => by kernel_rfl, ⟨fun _ => by kernel_rfl, ⟨fun _ => by kernel_rfl, ⟨fun _ => by kernel_rfl, ⟨fun _ => by kernel_rfl, ⟨fun _ => by kernel_rfl, ⟨fun _ => by kernel_rfl, ⟨fun _ => by kernel_rfl, trivial⟩⟩⟩⟩⟩⟩⟩⟩⟩⟩⟩⟩⟩⟩⟩⟩⟩⟩⟩⟩⟩⟩⟩⟩⟩⟩⟩⟩⟩⟩) <| Zaa <| rp 32 (.bool false) <| rp 33 (.bool true) <| Zad <| Zab <| Zam (fun _ => by kernel_rfl) <| Zac <| Zaa <| rp 6 (.slice none 0 0) <| rp 7 (.bool false) <| rp 8 (.int .i64 90) ?_
     refine Zad <| Zab <| Zao <| Zah ?_
     exact Zae (.tuple #[.slice none 0 0, .bool false, .int .i64 90]) (fun _ => by kernel_rfl) ⟨_, rfl, ⟨none, 0, 0, rfl, Sk.nil _ _⟩, hB⟩
    | some v =>
     rw [hv] at hA hvs
     subst hA
     refine Zd1 [(10, .bool true), (9, .slice a4 n4 c4), (31, .bool true), (30, .slice a4 n4 c4), (24, .tuple #[.slice a4 n4 c4, .bool true]), (29, .tuple #[.slice a4 n4 c4, .bool true]), (27, .slice a3 (2 * n) (2 * n)), (28, .slice al nl cl), (26, .slice a n c), (25, .agg (B8 d)), (15, .bool false), (23, .bool false), (22, .bool false), (21, .agg (B8 (dref [128]))), (20, .agg (B8 d)), (19, .bool true), (18, .bool true), (17, .int .i64 nl), (16, .slice al nl cl), (11, .bool false), (14, .bool false), (13, .bool (decide ((n : Int) <= (32 : Int)))), (12, .slice a n c), (8, .int .i64 0), (7, .bool false), (6, .slice none 0 0), (3, .pointer (some ⟨gD, 0, none⟩)), (0, .agg (B8 d)), (1, .slice a n c), (2, .slice al nl cl)] (by exact ⟨fun _ => by kernel_rfl, ⟨fun _ => by kernel_rfl, ⟨fun _ => by kernel_rfl, ⟨fun _ => by kernel_rfl, ⟨fun _ => by kernel_rfl, ⟨fun _ => by kernel_rfl, ⟨fun _ => by kernel_rfl, ⟨fun _ => by kernel_rfl, ⟨fun _ => by kernel_rfl, ⟨fun _ => by kernel_rfl, ⟨fun _ => by kernel_rfl, ⟨fun _ => by kernel_rfl, ⟨fun _ => by kernel_rfl, ⟨fun _ => by kernel_rfl, ⟨fun _ => by kernel_rfl, ⟨fun _ => by kernel_rfl, ⟨fun _ => by kernel_rfl, ⟨fun _ => by kernel_rfl, ⟨fun _ => by kernel_rfl, ⟨fun _ => by kernel_rfl, ⟨fun _ => by kernel_rfl, ⟨fun _ => by kernel_rfl, ⟨fun _ => by kernel_rfl, ⟨fun _ => by kernel_rfl, ⟨fun _ => by kernel_rfl, ⟨fun _ => by kernel_rfl, ⟨fun _ => by kernel_rfl, ⟨fun _ => by kernel_rfl, ⟨fun _ => by kernel_rfl, ⟨fun _ => by kernel_rfl, trivial⟩⟩⟩⟩⟩⟩⟩⟩⟩⟩⟩⟩⟩⟩⟩⟩⟩⟩⟩⟩⟩⟩⟩⟩⟩⟩⟩⟩⟩⟩) ?_
     have hs9 := hvs.2 v rfl
     have hl9 := hs9.len
     refine Zaa <| rp 32 (.bool true) <| rp 33 (.bool false) <| Zad <| Zab <| Zag (fun _ => by kernel_rfl) <| Zar <| Zab <| Zac <| Zaa <| rp 34 (.slice a4 n4 c4) <| rp 35 (.slice a4 n4 c4) ?_
     refine rp 36 (.int .i64 n4) <| rv 37 (.bool (decide (0 < n4))) (fun _ => Zaq (v := .bool (decide ((n4 : Int) > (0 : Int)))) (by kernel_rfl) (congrArg Value.bool (decide_eq_decide.2 (by omega)))) <| rp 6 (.slice a4 n4 c4) <| rp 7 (.bool (decide (0 < n4))) <| rp 8 (.int .i64 0) <| Zad <| Zab <| Zao ?_
     exact Zae (.tuple #[.slice a4 n4 c4, .bool (decide (0 < n4)), .int .i64 0]) (fun _ => by kernel_rfl) ⟨_, rfl, ⟨a4, n4, c4, rfl, hs9.mono (fun b hb => ⟨by have := hb.1; omega, hb.2⟩)⟩, hB⟩
  | cons m1 M1 =>
   have hn0 := hL0.len
   rw [List.length_cons] at hn0
   rw [if_neg (fun h => by cases h.1)] at hA
   refine Za7 (fun v => Bl u1 v) (by kernel_rfl) (hV.drew) ?_
   replace hB := hB.drew
   replace hk := hk.drew
   replace hL := hL.drew
   replace hD1 := hD1.drew
   replace hV := hV.drew
   refine dt 0 16 (.slice al nl cl) (fun v hv _ => by kernel_rfl) hV <| dt 1 17 (.int .i64 nl) (fun v hv _ => by kernel_rfl) hV <| dt 2 18 (.bool false) (fun v hv => (fun _ => Zaq (v := .bool ((nl : Int) == (0 : Int))) (by kernel_rfl) (congrArg Value.bool (beq_eq_false_iff_ne.2 (by omega))))) hV <| dt 3 19 (.bool false) (fun v hv _ => by kernel_rfl) hV <| df 4 20 hV <| df 5 21 hV <| df 6 22 hV <| dt 7 23 (.bool false) (fun v hv _ => by kernel_rfl) hV <| dt 8 15 (.bool false) (fun v hv _ => by kernel_rfl) hV <| Zax (by kernel_rfl) <| Zab <| Zag (fun _ => by kernel_rfl) ?_
   refine Zar <| Zbf <| Zab <| Zac ?_
   replace hV := Bl.refl u1.drew
   have hD5 := hD1
   have hkB : isB k := hk.ag.b
   refine Za7 (fun v => Bl (u1.drew) v) (by kernel_rfl) (hV.drew) ?_
   replace hB := hB.drew
   replace hk := hk.drew
   replace hL := hL.drew
   replace hD1 := hD1.drew
   replace hV := hV.drew
   refine dt 0 25 (.agg (B8 d)) (fun v hv _ => Zcf 35 _ _ _ _ _ _ rfl (by kernel_rfl) (hD5.go hv) Tryz.underlying35 rfl (Zc2 hd)) hV <| dt 1 26 (.slice a n c) (fun v hv _ => by kernel_rfl) hV <| dt 3 28 (.slice al nl cl) (fun v hv _ => by kernel_rfl) hV <| Zak [2] (by kernel_rfl) (by simp) ?_
   refine Za4 2 27 28 #[.slice a n c] rfl (fun _ => by kernel_rfl) (fun _ => by kernel_rfl) (R := fun u w' => (∃ a', u = .slice a' (2 * n) (2 * n) /\ Ni.Cut w' (u1.drew.drew).heap.size a' (2 * n) (Ni.nib k)) /\ Bl (u1.drew.drew) w') (((Ni.of_any a n c k (u1.drew.drew) hk.ag hn32b).mono (fun e w' ⟨⟨a', e1, e2⟩, e3⟩ => ⟨_, e1, ⟨a', rfl, e2⟩, e3⟩))) (fun u w' h => hV.go h.2) ?_ Zaw
   rintro _ u3 ⟨⟨a3, rfl, hc3⟩, hb3⟩
   replace hB := hB.go hb3
   replace hk := hk.go hb3
   replace hL := hL.go hb3
   replace hD1 := hD1.go hb3
   replace hV := hV.go hb3
   have hp3 := Cut.skb hc3
   refine Zak [4] (by kernel_rfl) (by simp) ?_
   refine Za4 4 29 42 #[.agg (B8 d), .slice a3 (2 * n) (2 * n), .slice al nl cl] rfl (fun _ => by kernel_rfl) (fun _ => by kernel_rfl) (R := VbR (u3) (veP (2 * k.length + 1) ⟨2, d, []⟩ (Ni.nib k) (m1 :: M1) false)) ((by rw [lk]; exact Zhc hd hdb (hp3.mono (fun b hb => hb.2)) (Zlk hkB) hL hnc hM)) (fun u w' h => hV.go h.2) ?_ Zaw
   rintro _ u4 ⟨⟨a4, n4, c4, rfl, hvs⟩, hb4⟩
   have hz4 := hB.size
   replace hB := hB.go hb4
   replace hk := hk.go hb4
   replace hL := hL.go hb4
   replace hD1 := hD1.go hb4
   replace hV := hV.go hb4
   refine dt 5 24 (.tuple #[.slice a4 n4 c4, .bool (veP (2 * k.length + 1) ⟨2, d, []⟩ (Ni.nib k) (m1 :: M1) false).isSome]) (fun v hv _ => by kernel_rfl) hV <| dt 6 30 (.slice a4 n4 c4) (fun v hv _ => by kernel_rfl) hV <| dt 7 31 (.bool (veP (2 * k.length + 1) ⟨2, d, []⟩ (Ni.nib k) (m1 :: M1) false).isSome) (fun v hv _ => by kernel_rfl) hV <| dt 8 9 (.slice a4 n4 c4) (fun v hv _ => by kernel_rfl) hV <| dt 9 10 (.bool (veP (2 * k.length + 1) ⟨2, d, []⟩ (Ni.nib k) (m1 :: M1) false).isSome) (fun v hv _ => by kernel_rfl) hV <| Zax (by kernel_rfl) <| Zab <| Zac <| Zac ?_
   cases hv : veP (2 * k.length + 1) ⟨2, d, []⟩ (Ni.nib k) (m1 :: M1) false with
   | none =>
    rw [hv] at hA hvs
    subst hA
    refine Zd1 [(10, .bool false), (9, .slice a4 n4 c4), (31, .bool false), (30, .slice a4 n4 c4), (24, .tuple #[.slice a4 n4 c4, .bool false]), (29, .tuple #[.slice a4 n4 c4, .bool false]), (27, .slice a3 (2 * n) (2 * n)), (28, .slice al nl cl), (26, .slice a n c), (25, .agg (B8 d)), (15, .bool false), (23, .bool false), (22, undef), (21, undef), (20, undef), (19, .bool false), (18, .bool false), (17, .int .i64 nl), (16, .slice al nl cl), (11, .bool false), (14, .bool false), (13, .bool (decide ((n : Int) <= (32 : Int)))), (12, .slice a n c), (8, .int .i64 0), (7, .bool false), (6, .slice none 0 0), (3, .pointer (some ⟨gD, 0, none⟩)), (0, .agg (B8 d)), (1, .slice a n c), (2, .slice al nl cl)] (by exact ⟨fun _ => by kernel_rfl, ⟨fun _ => by kernel_rfl, ⟨fun _ => by kernel_rfl, ⟨fun _ => by kernel_rfl, ⟨fun _ => by kernel_rfl, ⟨fun _ => by kernel_rfl, ⟨fun _ => by kernel_rfl, ⟨fun _ => by kernel_rfl, ⟨fun _ => by kernel_rfl, ⟨fun _ => by kernel_rfl, ⟨fun _ => by kernel_rfl, ⟨fun _ => by kernel_rfl, ⟨fun _ => by kernel_rfl, ⟨fun _ => by kernel_rfl, ⟨fun _ => by kernel_rfl, ⟨fun _ => by kernel_rfl, ⟨fun _ => by kernel_rfl, ⟨fun _ => by kernel_rfl, ⟨fun _ => by kernel_rfl, ⟨fun _ => by kernel_rfl, ⟨fun _ => by kernel_rfl, ⟨fun _ => by kernel_rfl, ⟨fun _ => by kernel_rfl, ⟨fun _ => by kernel_rfl, ⟨fun _ => by kernel_rfl, ⟨fun _ => by kernel_rfl, ⟨fun _ => by kernel_rfl, ⟨fun _ => by kernel_rfl, ⟨fun _ => by kernel_rfl, ⟨fun _ => by kernel_rfl, trivial⟩⟩⟩⟩⟩⟩⟩⟩⟩⟩⟩⟩⟩⟩⟩⟩⟩⟩⟩⟩⟩⟩⟩⟩⟩⟩⟩⟩⟩⟩) <| Zaa <| rp 32 (.bool false) <| rp 33 (.bool true) <| Zad <| Zab <| Zam (fun _ => by kernel_rfl) <| Zac <| Zaa <| rp 6 (.slice none 0 0) <| rp 7 (.bool false) <| rp 8 (.int .i64 90) ?_
    refine Zad <| Zab <| Zao <| Zah ?_
    exact Zae (.tuple #[.slice none 0 0, .bool false, .int .i64 90]) (fun _ => by kernel_rfl) ⟨_, rfl, ⟨none, 0, 0, rfl, Sk.nil _ _⟩, hB⟩
   | some v =>
    rw [hv] at hA hvs
    subst hA
    refine Zd1 [(10, .bool true), (9, .slice a4 n4 c4), (31, .bool true), (30, .slice a4 n4 c4), (24, .tuple #[.slice a4 n4 c4, .bool true]), (29, .tuple #[.slice a4 n4 c4, .bool true]), (27, .slice a3 (2 * n) (2 * n)), (28, .slice al nl cl), (26, .slice a n c), (25, .agg (B8 d)), (15, .bool false), (23, .bool false), (22, undef), (21, undef), (20, undef), (19, .bool false), (18, .bool false), (17, .int .i64 nl), (16, .slice al nl cl), (11, .bool false), (14, .bool false), (13, .bool (decide ((n : Int) <= (32 : Int)))), (12, .slice a n c), (8, .int .i64 0), (7, .bool false), (6, .slice none 0 0), (3, .pointer (some ⟨gD, 0, none⟩)), (0, .agg (B8 d)), (1, .slice a n c), (2, .slice al nl cl)] (by exact ⟨fun _ => by kernel_rfl, ⟨fun _ => by kernel_rfl, ⟨fun _ => by kernel_rfl, ⟨fun _ => by kernel_rfl, ⟨fun _ => by kernel_rfl, ⟨fun _ => by kernel_rfl, ⟨fun _ => by kernel_rfl, ⟨fun _ => by kernel_rfl, ⟨fun _ => by kernel_rfl, ⟨fun _ => by kernel_rfl, ⟨fun _ => by kernel_rfl, ⟨fun _ => by kernel_rfl, ⟨fun _ => by kernel_rfl, ⟨fun _ => by kernel_rfl, ⟨fun _ => by kernel_rfl, ⟨fun _ => by kernel_rfl, ⟨fun _ => by kernel_rfl, ⟨fun _ => by kernel_rfl, ⟨fun _ => by kernel_rfl, ⟨fun _ => by kernel_rfl, ⟨fun _ => by kernel_rfl, ⟨fun _ => by kernel_rfl, ⟨fun _ => by kernel_rfl, ⟨fun _ => by kernel_rfl, ⟨fun _ => by kernel_rfl, ⟨fun _ => by kernel_rfl, ⟨fun _ => by kernel_rfl, ⟨fun _ => by kernel_rfl, ⟨fun _ => by kernel_rfl, ⟨fun _ => by kernel_rfl, trivial⟩⟩⟩⟩⟩⟩⟩⟩⟩⟩⟩⟩⟩⟩⟩⟩⟩⟩⟩⟩⟩⟩⟩⟩⟩⟩⟩⟩⟩⟩) ?_
    have hs9 := hvs.2 v rfl
    have hl9 := hs9.len
    refine Zaa <| rp 32 (.bool true) <| rp 33 (.bool false) <| Zad <| Zab <| Zag (fun _ => by kernel_rfl) <| Zar <| Zab <| Zac <| Zaa <| rp 34 (.slice a4 n4 c4) <| rp 35 (.slice a4 n4 c4) ?_
    refine rp 36 (.int .i64 n4) <| rv 37 (.bool (decide (0 < n4))) (fun _ => Zaq (v := .bool (decide ((n4 : Int) > (0 : Int)))) (by kernel_rfl) (congrArg Value.bool (decide_eq_decide.2 (by omega)))) <| rp 6 (.slice a4 n4 c4) <| rp 7 (.bool (decide (0 < n4))) <| rp 8 (.int .i64 0) <| Zad <| Zab <| Zao ?_
    exact Zae (.tuple #[.slice a4 n4 c4, .bool (decide (0 < n4)), .int .i64 0]) (fun _ => by kernel_rfl) ⟨_, rfl, ⟨a4, n4, c4, rfl, hs9.mono (fun b hb => ⟨by have := hb.1; omega, hb.2⟩)⟩, hB⟩
 ·skip
  rw [show (!decide ((n : Int) <= (32 : Int))) = true from by rw [decide_eq_false (by omega)]; rfl]
  rw [if_pos (by omega)] at hA
  refine Zam (fun _ => by kernel_rfl) <| Zac <| Zaa <| rp 6 (.slice none 0 0) <| rp 7 (.bool false) <| rp 8 (.int .i64 70) <| Zad <| Zab <| Zao <| Zbv <| Zah ?_
  subst hA
  exact Zae (.tuple #[.slice none 0 0, .bool false, .int .i64 70]) (fun _ => by kernel_rfl) ⟨_, rfl, ⟨none, 0, 0, rfl, Sk.nil _ _⟩, hB⟩
end Go.Proofs.YtefhepcplempkaaGreat
namespace Go.Proofs.YtefhepcplempkaaGreat
open Go.RowKit
open Ni (rightP)
def emptyP (r : PR) : Bool := decide (r.k = 0) && decide (r.d = z32) && decide (r.i.length = 0)
def refersP (dk : List Int -> Int) (r : PR) (br : Bool) : Bool :=
 if r.k = 0 then emptyP r && !br
 else if r.k = 2 then decide (r.i.length = 0)
 else if r.k = 1 then (if 32 <= r.i.length \/ r.d ≠ z32 then false else decide (dk r.i ≠ 0) && (!br || decide (dk r.i = 3)))
 else false
def refers16 (dk : List Int -> Int) (ks : List PR) : Bool := ks.all fun r => refersP dk r false
def drightP (dk : List Int -> Int) (n : PN) : Bool :=
 if rightP n.p = false \/ 64 < n.p.length \/ 256 < n.v.length then false
 else if n.k = 1 then decide (1 <= n.v.length) && emptyP n.c && decide (n.ks.length = 0)
 else if n.k = 2 then refersP dk n.c true && decide (1 <= n.p.length) && decide (n.v.length = 0) && decide (n.ks.length = 0)
 else if n.k ≠ 3 \/ n.ks.length ≠ 16 \/ n.p.length ≠ 0 \/ emptyP n.c = false then false
 else refers16 dk n.ks && (decide (2 <= ways n.ks) || (decide (ways n.ks = 1) && decide (0 < n.v.length)))
theorem Zk9 (dk : List Int -> Int) (r : PR) : refersP dk r false = rrefP dk r := by
 unfold refersP rrefP emptyP
 by_cases h0 : r.k = 0
 ·simp [h0]
 ·by_cases h2 : r.k = 2
  ·simp [h2]
  ·by_cases h1 : r.k = 1
   ·by_cases h32 : 32 <= r.i.length
    ·simp [h1, h32, show ¬ r.i.length < 32 from by omega]
    ·by_cases hd : r.d = z32
     ·simp [h1, hd, show r.i.length < 32 from by omega, show ¬ 32 <= r.i.length from h32]
     ·simp [h1, hd]
   ·simp [h0, h1, h2]
theorem Zr3 (dk : List Int -> Int) (r : PR) : emptyP r = (rrefP dk r && decide (r.k = 0)) := by
 unfold emptyP rrefP
 by_cases h0 : r.k = 0
 ·simp [h0]
 ·simp [h0]
theorem Zml (dk : List Int -> Int) (h0 : dk [] = 0) (r : PR) : refersP dk r true = (rrefP dk r && (decide (r.k = 2) || decide (dk r.i = 3))) := by
 unfold refersP rrefP emptyP
 by_cases hk0 : r.k = 0
 ·by_cases hi : r.i = []
  ·simp [hk0, hi, h0]
  ·simp [hk0, hi]
 ·by_cases h2 : r.k = 2
  ·simp [h2]
  ·by_cases h1 : r.k = 1
   ·by_cases h32 : 32 <= r.i.length
    ·simp [h1, h32, show ¬ r.i.length < 32 from by omega]
    ·by_cases hd : r.d = z32
     ·simp [h1, hd, show r.i.length < 32 from by omega, show ¬ 32 <= r.i.length from h32]
     ·simp [h1, hd]
   ·simp [hk0, h1, h2]
theorem Zr4 (dk : List Int -> Int) (h0 : dk [] = 0) (n : PN) : drightP dk n = nright dk n := by
 unfold drightP nright knownP rpathP rvalueP rchildP rkidsP refers16
 rw [Zml dk h0, Zr3 dk]
 have hall : (n.ks.all fun r => refersP dk r false) = n.ks.all (rrefP dk) := by congr 1; funext r; exact Zk9 dk r
 rw [hall]
 have hp0 : n.p.length = 0 -> rightP n.p = true := fun h => by rw [List.eq_nil_of_length_eq_zero h]; rfl
 by_cases k1 : n.k = 1
 ·by_cases hp : rightP n.p = true
  ·by_cases hl : n.p.length <= 64
   ·by_cases hv : n.v.length <= 256
    ·cases hr : rrefP dk n.c
     ·simp [k1, hp]
     ·by_cases hv0 : n.v = []
      ·simp [k1, hp, hv0]
      ·have : 1 <= n.v.length := List.length_pos_iff.2 hv0
       by_cases hc : n.c.k = 0
       ·simp [k1, hp, hv0, hl, hv, this, hc, show ¬ 64 < n.p.length from by omega, show ¬ 256 < n.v.length from by omega]
       ·simp [k1, hp, hv0, hl, hv, this, hc]
    ·simp [k1, hv, show 256 < n.v.length from by omega]
   ·simp [k1, hl, show 64 < n.p.length from by omega]
  ·simp [k1, hp]
 ·by_cases k2 : n.k = 2
  ·by_cases hp : rightP n.p = true
   ·by_cases hl : n.p.length <= 64
    ·by_cases hp0' : n.p = []
     ·simp [k2, hp0']
     ·have h1 : 1 <= n.p.length := List.length_pos_iff.2 hp0'
      by_cases hv0 : n.v = []
      ·cases hr : rrefP dk n.c
       ·simp [k2, hp, hv0]
       ·simp [k2, hp, hv0, hl, hp0', h1, show ¬ 64 < n.p.length from by omega]
      ·simp [k2, hv0]
    ·simp [k2, hl, show 64 < n.p.length from by omega]
   ·simp [k2, hp]
  ·by_cases k3 : n.k = 3
   ·by_cases hp0' : n.p = []
    ·have hp : rightP n.p = true := hp0 (by rw [hp0']; rfl)
     rw [hp0'] at hp
     by_cases hv : n.v.length <= 256
     ·cases hr : rrefP dk n.c
      ·simp [k3, hp0']
      ·by_cases hc : n.c.k = 0
       ·by_cases h16 : n.ks.length = 16
        ·by_cases hvp : 0 < n.v.length
         ·simp only [k3, hp0', hp, hc, h16, hvp]
          simp [hv, show ¬ 256 < n.v.length from by omega]
          congr 1
          rw [Bool.eq_iff_iff]
          simp
          omega
         ·simp only [k3, hp0', hp, hc, h16, hvp]
          simp [hv, show ¬ 256 < n.v.length from by omega]
        ·simp [k3, hp0', h16]
       ·simp [k3, hp0', hc]
     ·simp [k3, hv, show 256 < n.v.length from by omega]
    ·simp [k3, hp0']
   ·simp [k1, k2, k3]
end Go.Proofs.YtefhepcplempkaaGreat
