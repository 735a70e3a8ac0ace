/- What a proof says of a key: its whole way. -/
import Derived.Test.YtefhepcplempkaaGreatG24
import Derived.Test.YtefhepcplempkaaGreatG23
import Derived.Test.YtefhepcplempkaaGreatG00
import Derived.Test.YtefhepcplempkaaGreatG15
import Derived.Test.YtefhepcplempkaaGreatG01
import Derived.Test.YtefhepcplempkaaGreatG19
set_option linter.unusedVariables false
set_option maxRecDepth 100000
namespace Go.Proofs.YtefhepcplempkaaGreat
open Go.RowKit
open Tr
open Di (dref)
def VbR (w : World) (o : Option (List Int)) : Value -> World -> Prop := fun u w' => (∃ (a : Option Addr) (n c : Nat), u = .tuple #[.slice a n c, .bool o.isSome] /\ (o = none -> a = none /\ n = 0 /\ c = 0) /\ ∀ v, o = some v -> Sk (fun b => w.heap.size <= b) w' a n c v) /\ Bl w w'
abbrev SlX := (Option Addr × Nat × Nat) × (Option Addr × Nat × Nat) × Bool
structure VbI (w : World) (gR : Nat) (K : Nat -> Prop) (A : Option (List Int)) (x : SlX) (v : World) : Prop where
 r : ∃ (y : RV) (r : PR) (p : List Int) (M : List (List Int)) (f : Nat), Rw gR v y.cells.toArray 65 /\ RefAt (fun b => b ≠ gR) v y r /\ Sk (fun b => b ≠ gR) v x.1.1 x.1.2.1 x.1.2.2 p /\ Nb p /\ Bt K w x.2.1.1 x.2.1.2.1 M /\ x.2.1.2.1 <= x.2.1.2.2 /\ (∀ b ∈ M, b.length <= 140737488351232) /\ x.1.2.1 < f /\ veP f r p M x.2.2 = A
 b : Bl w v
 g : w.heap.size <= gR
theorem Nb.drop {p : List Int} (h : Nb p) (k : Nat) : Nb (p.drop k) := fun i hi => h i (List.mem_of_mem_drop hi)
theorem Znr {n : PN} {p p' : List Int} {r : PR} (hR : NR n = true) (h : foP n p = some (r, p')) : p'.length < p.length /\ ∃ k, p' = p.drop k := by
 unfold foP at h
 split at h
 ·rename_i h3
  split at h
  ·cases h
  ·cases h; exact ⟨by rw [List.length_drop]; omega, 1, rfl⟩
 ·split at h
  ·rename_i h2
   cases h
   have := Zyv hR h2.1
   have h4 := congrArg List.length h2.2
   rw [List.length_take] at h4
   exact ⟨by rw [List.length_drop]; omega, _, rfl⟩
  ·cases h
theorem Zzp {r : PR} {M M' : List (List Int)} {N : PN} (hb : ∀ b ∈ M, isB b) (hi : isB r.i) (h : opP r M = some (N, M')) : NR N = true := by
 unfold opP at h
 have hs : ∀ {b : List Int}, isB b -> ∀ {X : List (List Int)}, (ND b).map (fun n => (n, X)) = some (N, M') -> NR N = true := fun {b} hb {X} h => by
  cases hd : ND b with
  | none => rw [hd] at h; cases h
  | some n => rw [hd] at h; cases h; obtain ⟨_, _, _, h⟩ := Zh8 hb hd; exact h
 split at h
 ·split at h
  ·cases h
  ·split at h
   ·exact hs (hb _ List.mem_cons_self) h
   ·cases h
 ·exact hs hi h
theorem Zxi {r : PR} {M M' : List (List Int)} {N : PN} (h : opP r M = some (N, M')) : ∀ b ∈ M', b ∈ M := by
 unfold opP at h
 have hs : ∀ {b : List Int} {X : List (List Int)}, (ND b).map (fun n => (n, X)) = some (N, M') -> M' = X := fun {b} {X} h => by
  cases hd : ND b with
  | none => rw [hd] at h; cases h
  | some n => rw [hd] at h; cases h; rfl
 split at h
 ·split at h
  ·cases h
  ·split at h
   ·rw [hs h]; exact fun b hb => List.mem_cons_of_mem _ hb
   ·cases h
 ·rw [hs h]; exact fun b hb => hb
theorem Zmn {f : Nat} {r r' : PR} {p p' : List Int} {M M' : List (List Int)} {N : PN} {ex : Bool} (ho : opP r M = some (N, M')) (hex : ¬ (ex = true /\ N.k ≠ 3)) (hfp : foP N p = some (r', p')) : veP (f + 1) r p M ex = veP f r' p' M' (decide (N.k = 2)) := by
 simp only [veP, ho, hfp]; rw [if_neg hex]
theorem Zfj {f : Nat} {r : PR} {p : List Int} {M M' : List (List Int)} {N : PN} {ex : Bool} (ho : opP r M = some (N, M')) (hex : ¬ (ex = true /\ N.k ≠ 3)) (hfp : foP N p = none) : veP (f + 1) r p M ex = if M' = [] then some (vaP N p) else none := by
 simp only [veP, ho, hfp]; rw [if_neg hex]
theorem Bt.isB {K : Nat -> Prop} {w : World} {a : Option Addr} {n : Nat} {M : List (List Int)} (h : Bt K w a n M) : ∀ b ∈ M, isB b := fun b hb => by
 obtain ⟨j, hj, rfl⟩ := List.getElem_of_mem hb
 obtain ⟨g, off, a', n', c', _, _, h3⟩ := h.row j (by have := h.len; omega)
 rw [show M.getD j [] = M[j] from by simp [List.getD, hj]] at h3
 exact h3.ag.b
set_option maxHeartbeats 4000000 in
theorem Zg4 {K : Nat -> Prop} {w : World} {d : List Int} {a0 al0 : Option Addr} {n0 c0 nl0 cl0 : Nat} {p0 : List Int} {M0 : List (List Int)} (hd : d.length = 32) (hdb : isB d) (hp : Sk (fun b => b < w.heap.size) w a0 n0 c0 p0) (hnb0 : Nb p0) (hL : Bt K w al0 nl0 M0) (hnc : nl0 <= cl0) (hM : ∀ b ∈ M0, b.length <= 140737488351232) :
  Calls Tryz.prog 42 #[.agg (B8 d), .slice a0 n0 c0, .slice al0 nl0 cl0] w fun e w' => ∃ u, e = .returned u /\ VbR w (veP (n0 + 1) ⟨2, d, []⟩ p0 M0 false) u w' := by
 have hB := Bl.refl w
 obtain ⟨A, hA⟩ : ∃ A, veP (n0 + 1) ⟨2, d, []⟩ p0 M0 false = A := ⟨_, rfl⟩
 rw [hA]
 have hL0 := hL
 refine Zal Tryz.func42 rfl 53 rfl ?_
 show CW _ _ _ _ _ _ _ [(0, .agg (B8 d)), (1, .slice a0 n0 c0), (2, .slice al0 nl0 cl0)] _
 refine Zac <| Zaa <| Zaz 3 (B8 d) 35 (fun _ => by kernel_rfl) (fun _ => by kernel_rfl) ?_
 intro w1 gD hnD
 have hD1 : Rw gD w1 (B8 d) 35 := hnD.row
 replace hB := hB.go hnD.below
 replace hp := hp.go hnD.below
 refine rp 6 (.slice none 0 0) <| rp 7 (.bool false) <| Zad <| Zab ?_
 refine Zus (X := Nat × SlX) 0 (fun x => [(8, .pointer (some ⟨x.1, 0, none⟩)), (1, .slice x.2.1.1 x.2.1.2.1 x.2.1.2.2), (2, .slice x.2.2.1.1 x.2.2.1.2.1 x.2.2.1.2.2), (9, .bool x.2.2.2)]) (fun x v => VbI w x.1 K A x.2 v) (fun x => x.2.1.2.1) rfl ?_ ?_
 ·intro Q' hQ
  refine Zac <| Zaa <| rv 15 (.agg (B8 d)) (fun _ => Zbp 35 _ _ _ _ _ _ rfl (by kernel_rfl) hD1 Tryz.underlying35 rfl (Zd0 hd)) <| rv 16 (.agg (RV.cells ⟨2, d, none, 0, 0⟩).toArray) (fun _ => Zdh 65 _ [(0, .int .i64 2), (1, .agg (B8 d))] _ rfl (by kernel_rfl) (Zlm d hd)) <| Zaz 8 rz.cells.toArray 65 (fun _ => by kernel_rfl) (fun _ => by kernel_rfl) ?_
  intro w2 gR hnR
  have hgR := hnR.hg
  have hgw : w.heap.size <= gR := by rw [hgR]; exact hB.size
  have hpo := hp
  have hBo := hB
  refine Zbg gR (RV.cells ⟨2, d, none, 0, 0⟩).toArray (fun _ => by kernel_rfl) (fun _ => Zat 65 _ _ _ _ _ _ rfl (by kernel_rfl) (by kernel_rfl) hnR.row (by rw [Zbe, Za3 hd]) (by rw [Za3 (y := ⟨2, d, none, 0, 0⟩) hd]; rfl) (Zbs _)) ?_
  intro w2 hpR
  have hRR : Rw gR w2 (RV.cells ⟨2, d, none, 0, 0⟩).toArray 65 := hpR.row hnR.row
  have hb2 : Bl w1 w2 := hpR.below hnR.below (by rw [hgR]; exact Nat.le_refl _) hnR.below.size
  replace hB := hBo.go hb2
  replace hp : Sk (fun b => b ≠ gR) w2 a0 n0 c0 p0 := (hpo.go hb2).mono (fun b hb => by have : b < w.heap.size := hb; omega)
  refine Zad <| Zab <| Zac <| Zaa <| rp 9 (.bool false) <| Zad <| Zab <| Zac <| Zut <| Zab <| Zcx [(8, .pointer (some ⟨gR, 0, none⟩)), (1, .slice a0 n0 c0), (2, .slice al0 nl0 cl0), (9, .bool false)] (by exact ⟨fun _ => by kernel_rfl, ⟨fun _ => by kernel_rfl, ⟨fun _ => by kernel_rfl, ⟨fun _ => by kernel_rfl, trivial⟩⟩⟩⟩) ?_
  exact hQ (gR, (a0, n0, c0), (al0, nl0, cl0), false) _ ⟨⟨_, _, p0, M0, n0 + 1, hRR, ⟨rfl, rfl, hdb, hd, ⟨(Sk.nil (fun b => b ≠ gR) w2).ag, Nat.zero_le _, fun g off e => by cases e⟩⟩, hp, hnb0, hL, hnc, hM, Nat.lt_succ_self _, hA⟩, hB, hgw⟩
 ·rintro ⟨gR, ⟨a, n, c⟩, ⟨al, nl, cl⟩, ex⟩ v ⟨⟨y, r, p, M, f, hRR, hy, hp, hnb, hL, hnl, hMl, hf, hv⟩, hB, hgw⟩
  simp only at hRR hy hp hL hnl hf hv hB hgw
  show CW _ _ _ _ _ _ _ [(8, .pointer (some ⟨gR, 0, none⟩)), (1, .slice a n c), (2, .slice al nl cl), (9, .bool ex)] _
  have hyl := hy.len
  have hgRv := lt_of_get hRR
  have hsw : w.heap.size <= v.heap.size := hB.size
  obtain ⟨f, rfl⟩ : ∃ k, f = k + 1 := ⟨f - 1, by omega⟩
  have lp := hp.len
  refine Zac <| Zaa <| rv 18 (.agg y.cells.toArray) (fun _ => Zbp 65 _ _ _ _ _ _ rfl (by kernel_rfl) hRR Tryz.underlying65 rfl (by rw [Zbe, List.size_toArray, RV.len hyl])) <| rp 19 (.slice al nl cl) <| Zao 20 68 #[.agg y.cells.toArray, .slice al nl cl] (fun _ => by kernel_rfl) (fun _ => by kernel_rfl) (R := OpR v al nl M (opP r M)) (Zt4 hy (hL.go hB) hnl hMl) ?_
  rintro _ u1 ⟨⟨z, a1, n1, c1, rfl, hzl, hz⟩, hb1⟩
  replace hB := hB.go hb1
  replace hp := hp.go hb1
  replace hRR := hRR.go hb1
  refine rp 17 (.tuple #[.agg z.cells.toArray, .slice a1 n1 c1, .bool (opP r M).isSome]) <| rp 21 (.agg z.cells.toArray) <| rp 22 (.slice a1 n1 c1) <| rp 23 (.bool (opP r M).isSome) <| Zaz 10 nz.cells.toArray 68 (fun _ => by kernel_rfl) (fun _ => by kernel_rfl) ?_
  intro w3 gN hnN
  refine Zbg gN z.cells.toArray (fun _ => by kernel_rfl) (fun _ => Zat 68 _ _ _ _ _ _ rfl (by kernel_rfl) (by kernel_rfl) hnN.row (by rw [Zcd, Zbi hzl]) (by rw [Zbi hzl]; rfl) (Zdy _)) ?_
  intro w4 hpN
  have hN1 : Rw gN w4 z.cells.toArray 68 := hpN.row hnN.row
  have hb4 : Bl u1 w4 := hpN.below hnN.below (by rw [hnN.hg]; exact Nat.le_refl _) hnN.below.size
  have hgN := hnN.hg
  clear hpN hnN
  replace hB := hB.go hb4
  replace hp := hp.go hb4
  replace hRR := hRR.go hb4
  refine rp 2 (.slice a1 n1 c1) <| rp 11 (.bool (opP r M).isSome) <| Zad <| Zab <| Zac <| Zac ?_
  cases ho : opP r M with
  | none =>
   have hv0 : A = none := by rw [<- hv]; simp [veP, ho]
   rw [hv0]
   refine Zcx [(11, .bool false), (2, .slice a1 n1 c1), (10, .pointer (some ⟨gN, 0, none⟩)), (23, .bool false), (22, .slice a1 n1 c1), (21, .agg z.cells.toArray), (17, .tuple #[.agg z.cells.toArray, .slice a1 n1 c1, .bool false]), (20, .tuple #[.agg z.cells.toArray, .slice a1 n1 c1, .bool false]), (19, .slice al nl cl), (18, .agg y.cells.toArray), (8, .pointer (some ⟨gR, 0, none⟩)), (1, .slice a n c), (9, .bool ex)] (by exact ⟨fun _ => by kernel_rfl, ⟨fun _ => by kernel_rfl, ⟨fun _ => by kernel_rfl, ⟨fun _ => by kernel_rfl, ⟨fun _ => by kernel_rfl, ⟨fun _ => by kernel_rfl, ⟨fun _ => by kernel_rfl, ⟨fun _ => by kernel_rfl, ⟨fun _ => by kernel_rfl, ⟨fun _ => by kernel_rfl, ⟨fun _ => by kernel_rfl, ⟨fun _ => by kernel_rfl, ⟨fun _ => by kernel_rfl, trivial⟩⟩⟩⟩⟩⟩⟩⟩⟩⟩⟩⟩⟩) <| Zaa <| rp 24 (.bool false) <| rp 25 (.bool true) <| rp 26 (.bool true) <| Za1 27 (fun _ => by kernel_rfl) <| Za1 28 (fun _ => by kernel_rfl) <| Za1 29 (fun _ => by kernel_rfl) <| Za1 30 (fun _ => by kernel_rfl) <| Za1 31 (fun _ => by kernel_rfl) <| Za1 32 (fun _ => by kernel_rfl) <| rp 33 (.bool true) ?_
   refine Zad <| Zab <| Zak (fun _ => by kernel_rfl) <| Zac <| Zaa <| rp 6 (.slice none 0 0) <| rp 7 (.bool false) <| Zad <| Zab <| Zam <| Zaj <| Zb4 ?_
   exact Zae (.tuple #[.slice none 0 0, .bool false]) (fun _ => by kernel_rfl) ⟨_, rfl, ⟨none, 0, 0, rfl, fun _ => ⟨rfl, rfl, rfl⟩, fun v h => by cases h⟩, hB⟩
  | some NM =>
   obtain ⟨N, M'⟩ := NM
   refine Zcx [(11, .bool true), (2, .slice a1 n1 c1), (10, .pointer (some ⟨gN, 0, none⟩)), (23, .bool true), (22, .slice a1 n1 c1), (21, .agg z.cells.toArray), (17, .tuple #[.agg z.cells.toArray, .slice a1 n1 c1, .bool true]), (20, .tuple #[.agg z.cells.toArray, .slice a1 n1 c1, .bool true]), (19, .slice al nl cl), (18, .agg y.cells.toArray), (8, .pointer (some ⟨gR, 0, none⟩)), (1, .slice a n c), (9, .bool ex)] (by exact ⟨fun _ => by kernel_rfl, ⟨fun _ => by kernel_rfl, ⟨fun _ => by kernel_rfl, ⟨fun _ => by kernel_rfl, ⟨fun _ => by kernel_rfl, ⟨fun _ => by kernel_rfl, ⟨fun _ => by kernel_rfl, ⟨fun _ => by kernel_rfl, ⟨fun _ => by kernel_rfl, ⟨fun _ => by kernel_rfl, ⟨fun _ => by kernel_rfl, ⟨fun _ => by kernel_rfl, ⟨fun _ => by kernel_rfl, trivial⟩⟩⟩⟩⟩⟩⟩⟩⟩⟩⟩⟩⟩) ?_
   obtain ⟨hzN, hL1, hn1c⟩ := hz N M' ho
   have hNR := Zzp hL.isB hy.2.2.2.2.1.b ho
   have hMl' : ∀ b ∈ M', b.length <= 140737488351232 := fun b hb => hMl b (Zxi ho b hb)
   have hzk := hzN.k
   cases ex with
   | false =>
    have hex : ¬ (false = true /\ N.k ≠ 3) := by simp
    refine Zaa <| rp 24 (.bool true) <| rp 25 (.bool false) <| rp 26 (.bool false) <| rp 27 (.bool false) <| rp 28 (.bool false) <| Za1 29 (fun _ => by kernel_rfl) <| Za1 30 (fun _ => by kernel_rfl) <| Za1 31 (fun _ => by kernel_rfl) <| rp 32 (.bool false) <| rp 33 (.bool false) <| Zad ?_
    refine Zab <| Zah (fun _ => by kernel_rfl) <| Zap <| Zab <| Zac <| Zac <| Zaa <| rv 35 (.agg z.cells.toArray) (fun _ => Zbp 68 _ _ _ _ _ _ rfl (by kernel_rfl) hN1 Tryz.underlying68 rfl (by rw [Zcd, Zbi hzl])) <| rp 36 (.slice a n c) ?_
    have hzK : NodeAt (fun b => b ≠ gR) w4 z N := (hzN.go (L := fun b => b ≠ gR) (fun g hg hl => ⟨Below.block hb4 g hl, by have := hg.1; omega⟩))
    refine Zao 37 69 #[.agg z.cells.toArray, .slice a n c] (fun _ => by kernel_rfl) (fun _ => by kernel_rfl) (R := FoR (fun b => b ≠ gR) w4 (foP N p)) (Ziu hzK hNR hp hnb) ?_
    rintro _ u2 ⟨⟨y1, a2, n2, c2, rfl, hyl1, hfo⟩, hb5⟩
    replace hB := hB.go hb5
    replace hp := hp.go hb5
    replace hRR := hRR.go hb5
    replace hN1 := hN1.go hb5
    refine rp 34 (.tuple #[.agg y1.cells.toArray, .slice a2 n2 c2, .bool (foP N p).isSome]) <| rp 38 (.agg y1.cells.toArray) <| rp 39 (.slice a2 n2 c2) <| rp 40 (.bool (foP N p).isSome) <| Zaz 12 rz.cells.toArray 65 (fun _ => by kernel_rfl) (fun _ => by kernel_rfl) ?_
    intro w5 gF hnF
    refine Zbg gF y1.cells.toArray (fun _ => by kernel_rfl) (fun _ => Zat 65 _ _ _ _ _ _ rfl (by kernel_rfl) (by kernel_rfl) hnF.row (by rw [Zbe, Za3 hyl1]) (by rw [Za3 hyl1]; rfl) (Zbs _)) ?_
    intro w6 hpF
    have hF1 : Rw gF w6 y1.cells.toArray 65 := hpF.row hnF.row
    have hb6 : Bl u2 w6 := hpF.below hnF.below (by rw [hnF.hg]; exact Nat.le_refl _) hnF.below.size
    have hgF := hnF.hg
    clear hpF hnF
    replace hB := hB.go hb6
    replace hp := hp.go hb6
    replace hRR := hRR.go hb6
    replace hN1 := hN1.go hb6
    refine rp 13 (.slice a2 n2 c2) <| rp 14 (.bool (foP N p).isSome) <| Zad <| Zab <| Zac <| Zaa <| rp 41 (.bool (foP N p).isSome) <| Zad <| Zab ?_
    cases hfp : foP N p with
    | none =>
     refine Zcx [(41, .bool false), (14, .bool false), (13, .slice a2 n2 c2), (12, .pointer (some ⟨gF, 0, none⟩)), (40, .bool false), (39, .slice a2 n2 c2), (38, .agg y1.cells.toArray), (34, .tuple #[.agg y1.cells.toArray, .slice a2 n2 c2, .bool false]), (37, .tuple #[.agg y1.cells.toArray, .slice a2 n2 c2, .bool false]), (36, .slice a n c), (35, .agg z.cells.toArray), (33, .bool false), (32, .bool false), (31, undef), (30, undef), (29, undef), (28, .bool false), (27, .bool false), (26, .bool false), (25, .bool false), (24, .bool true), (11, .bool true), (2, .slice a1 n1 c1), (10, .pointer (some ⟨gN, 0, none⟩)), (23, .bool true), (22, .slice a1 n1 c1), (21, .agg z.cells.toArray), (17, .tuple #[.agg z.cells.toArray, .slice a1 n1 c1, .bool true]), (20, .tuple #[.agg z.cells.toArray, .slice a1 n1 c1, .bool true]), (19, .slice al nl cl), (18, .agg y.cells.toArray), (8, .pointer (some ⟨gR, 0, none⟩)), (1, .slice a n c), (9, .bool false)] (by exact ⟨fun _ => by kernel_rfl, ⟨fun _ => by kernel_rfl, ⟨fun _ => by kernel_rfl, ⟨fun _ => by kernel_rfl, ⟨fun _ => by kernel_rfl, ⟨fun _ => by kernel_rfl, ⟨fun _ => by kernel_rfl, ⟨fun _ => by kernel_rfl, ⟨fun _ => by kernel_rfl, ⟨fun _ => by kernel_rfl, ⟨fun _ => by kernel_rfl, ⟨fun _ => by kernel_rfl, ⟨fun _ => by kernel_rfl, ⟨fun _ => by kernel_rfl, ⟨fun _ => by kernel_rfl, ⟨fun _ => by kernel_rfl, ⟨fun _ => by kernel_rfl, ⟨fun _ => by kernel_rfl, ⟨fun _ => by kernel_rfl, ⟨fun _ => by kernel_rfl, ⟨fun _ => by kernel_rfl, ⟨fun _ => by kernel_rfl, ⟨fun _ => by kernel_rfl, ⟨fun _ => by kernel_rfl, ⟨fun _ => by kernel_rfl, ⟨fun _ => by kernel_rfl, ⟨fun _ => by kernel_rfl, ⟨fun _ => by kernel_rfl, ⟨fun _ => by kernel_rfl, ⟨fun _ => by kernel_rfl, ⟨fun _ => by kernel_rfl, ⟨fun _ => by kernel_rfl, ⟨fun _ => by kernel_rfl, ⟨fun _ => by kernel_rfl, trivial⟩⟩⟩⟩⟩⟩⟩⟩⟩⟩⟩⟩⟩⟩⟩⟩⟩⟩⟩⟩⟩⟩⟩⟩⟩⟩⟩⟩⟩⟩⟩⟩⟩⟩) ?_
     have hv1 : (if M' = [] then some (vaP N p) else none) = A := (Zfj ho hex hfp).symm.trans hv
     refine Zah (fun _ => by kernel_rfl) <| Zap <| Zab <| Zac <| Zac <| Zaa <| rp 47 (.slice a1 n1 c1) <| rp 48 (.int .i64 n1) <| rp 49 (.bool (decide ((n1 : Int) > (0 : Int)))) <| Zad <| Zab ?_
     cases M' with
     | nil =>
      have hl1 := (hL1 _ _ hL).len
      rw [List.length_nil] at hl1
      rw [show (decide ((n1 : Int) > (0 : Int))) = false from decide_eq_false (by omega)]
      rw [if_pos rfl] at hv1
      rw [<- hv1]
      refine Zah (fun _ => by kernel_rfl) <| Zap <| Zab <| Zac <| Zaa <| rv 50 (.agg z.cells.toArray) (fun _ => Zbp 68 _ _ _ _ _ _ rfl (by kernel_rfl) hN1 Tryz.underlying68 rfl (by rw [Zcd, Zbi hzl])) <| rp 51 (.slice a n c) ?_
      have hzW : NodeAt (fun b => w.heap.size <= b) w6 z N := (hzN.go (L := fun b => w.heap.size <= b) (fun g hg hl => ⟨(Below.block hb6 g (by have := hb4.size; have := hb5.size; omega)).trans ((Below.block hb5 g (by have := hb4.size; omega)).trans (Below.block hb4 g hl)), by have := hg.1; omega⟩))
      refine Zao 52 70 #[.agg z.cells.toArray, .slice a n c] (fun _ => by kernel_rfl) (fun _ => by kernel_rfl) (R := fun u w' => ∃ a' n' c', u = .slice a' n' c' /\ Sk (fun b => w.heap.size <= b) w' a' n' c' (vaP N p) /\ Bl w6 w') (Zg5 hzW hp) ?_
      rintro _ u3 ⟨a3, n3, c3, rfl, hs3, hb7⟩
      replace hB := hB.go hb7
      replace hp := hp.go hb7
      replace hRR := hRR.go hb7
      replace hN1 := hN1.go hb7
      replace hF1 := hF1.go hb7
      refine rp 6 (.slice a3 n3 c3) <| rp 7 (.bool true) <| Zad <| Zab <| Zam <| Zb4 ?_
      exact Zae (.tuple #[.slice a3 n3 c3, .bool true]) (fun _ => by kernel_rfl) ⟨_, rfl, ⟨a3, n3, c3, rfl, fun h => (by cases h), fun v h => by cases h; exact hs3⟩, hB⟩
     | cons m1 M1 =>
      have hl1 := (hL1 _ _ hL).len
      rw [List.length_cons] at hl1
      rw [show (decide ((n1 : Int) > (0 : Int))) = true from decide_eq_true (by omega)]
      rw [if_neg (by simp)] at hv1
      rw [<- hv1]
      refine Zak (fun _ => by kernel_rfl) <| Zac <| Zaa <| rp 6 (.slice none 0 0) <| rp 7 (.bool false) <| Zad <| Zab <| Zam <| Zaj <| Zb4 ?_
      exact Zae (.tuple #[.slice none 0 0, .bool false]) (fun _ => by kernel_rfl) ⟨_, rfl, ⟨none, 0, 0, rfl, fun _ => ⟨rfl, rfl, rfl⟩, fun v h => by cases h⟩, hB⟩
    | some rp =>
     refine Zcx [(41, .bool true), (14, .bool true), (13, .slice a2 n2 c2), (12, .pointer (some ⟨gF, 0, none⟩)), (40, .bool true), (39, .slice a2 n2 c2), (38, .agg y1.cells.toArray), (34, .tuple #[.agg y1.cells.toArray, .slice a2 n2 c2, .bool true]), (37, .tuple #[.agg y1.cells.toArray, .slice a2 n2 c2, .bool true]), (36, .slice a n c), (35, .agg z.cells.toArray), (33, .bool false), (32, .bool false), (31, undef), (30, undef), (29, undef), (28, .bool false), (27, .bool false), (26, .bool false), (25, .bool false), (24, .bool true), (11, .bool true), (2, .slice a1 n1 c1), (10, .pointer (some ⟨gN, 0, none⟩)), (23, .bool true), (22, .slice a1 n1 c1), (21, .agg z.cells.toArray), (17, .tuple #[.agg z.cells.toArray, .slice a1 n1 c1, .bool true]), (20, .tuple #[.agg z.cells.toArray, .slice a1 n1 c1, .bool true]), (19, .slice al nl cl), (18, .agg y.cells.toArray), (8, .pointer (some ⟨gR, 0, none⟩)), (1, .slice a n c), (9, .bool false)] (by exact ⟨fun _ => by kernel_rfl, ⟨fun _ => by kernel_rfl, ⟨fun _ => by kernel_rfl, ⟨fun _ => by kernel_rfl, ⟨fun _ => by kernel_rfl, ⟨fun _ => by kernel_rfl, ⟨fun _ => by kernel_rfl, ⟨fun _ => by kernel_rfl, ⟨fun _ => by kernel_rfl, ⟨fun _ => by kernel_rfl, ⟨fun _ => by kernel_rfl, ⟨fun _ => by kernel_rfl, ⟨fun _ => by kernel_rfl, ⟨fun _ => by kernel_rfl, ⟨fun _ => by kernel_rfl, ⟨fun _ => by kernel_rfl, ⟨fun _ => by kernel_rfl, ⟨fun _ => by kernel_rfl, ⟨fun _ => by kernel_rfl, ⟨fun _ => by kernel_rfl, ⟨fun _ => by kernel_rfl, ⟨fun _ => by kernel_rfl, ⟨fun _ => by kernel_rfl, ⟨fun _ => by kernel_rfl, ⟨fun _ => by kernel_rfl, ⟨fun _ => by kernel_rfl, ⟨fun _ => by kernel_rfl, ⟨fun _ => by kernel_rfl, ⟨fun _ => by kernel_rfl, ⟨fun _ => by kernel_rfl, ⟨fun _ => by kernel_rfl, ⟨fun _ => by kernel_rfl, ⟨fun _ => by kernel_rfl, ⟨fun _ => by kernel_rfl, trivial⟩⟩⟩⟩⟩⟩⟩⟩⟩⟩⟩⟩⟩⟩⟩⟩⟩⟩⟩⟩⟩⟩⟩⟩⟩⟩⟩⟩⟩⟩⟩⟩⟩⟩) ?_
     obtain ⟨r', p'⟩ := rp
     obtain ⟨hRf, hs2⟩ := hfo r' p' hfp
     obtain ⟨hlt, kk, hkk⟩ := Znr hNR hfp
     have l2 := hs2.len
     have hv1 : veP f r' p' M' (decide (N.k = 2)) = A := (Zmn ho hex hfp).symm.trans hv
     refine Zak (fun _ => by kernel_rfl) <| Zac ?_
     have hgFR : gF ≠ gR := by have := hb1.size; have := hb4.size; have := hb5.size; omega
     have hgNR : gN ≠ gR := by have := hb1.size; omega
     replace hs2 := hs2.go hb6
     replace hRf := hRf.go (Zfr hb6)
     have hgRw : w.heap.size <= gR := hgw
     refine Zav (fun v => Rw gF v y1.cells.toArray 65 /\ Rw gN v z.cells.toArray 68) (by kernel_rfl) (⟨hF1.drew, hN1.drew⟩) ?_
     replace hB := hB.drew
     replace hp := hp.drew
     replace hRR := hRR.drew
     replace hN1 := hN1.drew
     replace hF1 := hF1.drew
     have hS := And.intro hF1 hN1
     replace hs2 := hs2.drew
     replace hRf := hRf.go (Zfr (Below.refl _ _).drew)
     refine dt 0 42 (.agg y1.cells.toArray) (fun v hv _ => Zbp 65 _ _ _ _ _ _ rfl (by kernel_rfl) hv.1 Tryz.underlying65 rfl (by rw [Zbe, List.size_toArray, RV.len hyl1])) hS <| dt 1 43 (.slice a2 n2 c2) (fun v hv _ => by kernel_rfl) hS <| dt 2 44 (.pointer (some ⟨gN, 0, none⟩)) (fun v hv _ => by kernel_rfl) hS <| dt 3 45 (.int .i64 z.k) (fun v hv _ => Zag 3 _ ⟨gN, 0, none⟩ _ _ rfl (by kernel_rfl) (by rw [cell_of_row _ _ _ _ _ _ hv.2]; exact Zl5 z) Tryz.underlying3 rfl) hS <| dt 4 46 (.bool ((z.k : Int) == (2 : Int))) (fun v hv _ => by kernel_rfl) hS <| Zaf [5] (by kernel_rfl) (by simp) ?_
     refine Zgd 5 gR y1.cells.toArray rfl (fun _ => by kernel_rfl) (fun _ => Zat 65 _ _ _ _ _ _ rfl (by kernel_rfl) (by kernel_rfl) hRR (by rw [Zbe, Za3 hyl1]) (by rw [Za3 hyl1, Za3 hyl]) (Zbs _)) (fun w' h => ⟨(h.other hgFR).trans hS.1, (h.other hgNR).trans hS.2⟩) ?_ Zan
     intro w8 hp8
     have hRR8 : Rw gR w8 y1.cells.toArray 65 := hp8.row hRR
     have hB8 : Bl w w8 := hp8.below hB hgRw hB.size
     have hs8 : Sk (fun b => b ≠ gR) w8 a2 n2 c2 p' := hs2.keep (fun g hg hl => ⟨hp8.other hg, hg⟩)
     have hRf8 : RefAt (fun b => b ≠ gR) w8 y1 r' := hRf.go (fun g hg hl => ⟨hp8.other hg, hg⟩)
     replace hS := And.intro ((hp8.other hgFR).trans hS.1) ((hp8.other hgNR).trans hS.2)
     refine dt 6 1 (.slice a2 n2 c2) (fun v hv _ => by kernel_rfl) hS <| dt 7 9 (.bool ((z.k : Int) == (2 : Int))) (fun v hv _ => by kernel_rfl) hS <| Zar (by kernel_rfl) <| Zab <| Zsb <| Zf1 ?_
     exact Zqv (x := (gR, (a, n, c), (al, nl, cl), _)) (gR, (a2, n2, c2), (a1, n1, c1), ((z.k : Int) == (2 : Int))) (by exact ⟨fun _ => by kernel_rfl, ⟨fun _ => by kernel_rfl, ⟨fun _ => by kernel_rfl, ⟨fun _ => by kernel_rfl, trivial⟩⟩⟩⟩) ⟨⟨y1, r', p', M', f, hRR8, hRf8, hs8, by rw [hkk]; exact hnb.drop kk, hL1 _ _ hL, hn1c, hMl', by simp only; omega, (by show veP f r' p' M' ((z.k : Int) == (2 : Int)) = A; rw [hzk, show ((N.k : Int) == (2 : Int)) = decide (N.k = 2) from by by_cases h : N.k = 2 <;> simp [h]]; exact hv1)⟩, hB8, hgw⟩ (by simp only; omega)
   | true =>
    by_cases hk3 : N.k = 3
    ·skip
     have hex : ¬ (true = true /\ N.k ≠ 3) := by simp [hk3]
     refine Zaa <| rp 24 (.bool true) <| rp 25 (.bool false) <| rp 26 (.bool false) <| rp 27 (.bool true) <| rp 28 (.bool true) <| rp 29 (.pointer (some ⟨gN, 0, none⟩)) <| rv 30 (.int .i64 z.k) (fun _ => Zag 3 _ ⟨gN, 0, none⟩ _ _ rfl (by kernel_rfl) (by rw [cell_of_row _ _ _ _ _ _ hN1]; exact Zl5 z) Tryz.underlying3 rfl) <| rv 31 (.bool false) (fun _ => Zai (v := .bool (!((z.k : Int) == (3 : Int)))) (by kernel_rfl) (congrArg Value.bool (by rw [hzk, hk3]; rfl))) <| rp 32 (.bool false) <| rp 33 (.bool false) <| Zad ?_
     refine Zab <| Zah (fun _ => by kernel_rfl) <| Zap <| Zab <| Zac <| Zac <| Zaa <| rv 35 (.agg z.cells.toArray) (fun _ => Zbp 68 _ _ _ _ _ _ rfl (by kernel_rfl) hN1 Tryz.underlying68 rfl (by rw [Zcd, Zbi hzl])) <| rp 36 (.slice a n c) ?_
     have hzK : NodeAt (fun b => b ≠ gR) w4 z N := (hzN.go (L := fun b => b ≠ gR) (fun g hg hl => ⟨Below.block hb4 g hl, by have := hg.1; omega⟩))
     refine Zao 37 69 #[.agg z.cells.toArray, .slice a n c] (fun _ => by kernel_rfl) (fun _ => by kernel_rfl) (R := FoR (fun b => b ≠ gR) w4 (foP N p)) (Ziu hzK hNR hp hnb) ?_
     rintro _ u2 ⟨⟨y1, a2, n2, c2, rfl, hyl1, hfo⟩, hb5⟩
     replace hB := hB.go hb5
     replace hp := hp.go hb5
     replace hRR := hRR.go hb5
     replace hN1 := hN1.go hb5
     refine rp 34 (.tuple #[.agg y1.cells.toArray, .slice a2 n2 c2, .bool (foP N p).isSome]) <| rp 38 (.agg y1.cells.toArray) <| rp 39 (.slice a2 n2 c2) <| rp 40 (.bool (foP N p).isSome) <| Zaz 12 rz.cells.toArray 65 (fun _ => by kernel_rfl) (fun _ => by kernel_rfl) ?_
     intro w5 gF hnF
     refine Zbg gF y1.cells.toArray (fun _ => by kernel_rfl) (fun _ => Zat 65 _ _ _ _ _ _ rfl (by kernel_rfl) (by kernel_rfl) hnF.row (by rw [Zbe, Za3 hyl1]) (by rw [Za3 hyl1]; rfl) (Zbs _)) ?_
     intro w6 hpF
     have hF1 : Rw gF w6 y1.cells.toArray 65 := hpF.row hnF.row
     have hb6 : Bl u2 w6 := hpF.below hnF.below (by rw [hnF.hg]; exact Nat.le_refl _) hnF.below.size
     have hgF := hnF.hg
     clear hpF hnF
     replace hB := hB.go hb6
     replace hp := hp.go hb6
     replace hRR := hRR.go hb6
     replace hN1 := hN1.go hb6
     refine rp 13 (.slice a2 n2 c2) <| rp 14 (.bool (foP N p).isSome) <| Zad <| Zab <| Zac <| Zaa <| rp 41 (.bool (foP N p).isSome) <| Zad <| Zab ?_
     cases hfp : foP N p with
     | none =>
      refine Zcx [(41, .bool false), (14, .bool false), (13, .slice a2 n2 c2), (12, .pointer (some ⟨gF, 0, none⟩)), (40, .bool false), (39, .slice a2 n2 c2), (38, .agg y1.cells.toArray), (34, .tuple #[.agg y1.cells.toArray, .slice a2 n2 c2, .bool false]), (37, .tuple #[.agg y1.cells.toArray, .slice a2 n2 c2, .bool false]), (36, .slice a n c), (35, .agg z.cells.toArray), (33, .bool false), (32, .bool false), (31, .bool false), (30, .int .i64 z.k), (29, .pointer (some ⟨gN, 0, none⟩)), (28, .bool true), (27, .bool true), (26, .bool false), (25, .bool false), (24, .bool true), (11, .bool true), (2, .slice a1 n1 c1), (10, .pointer (some ⟨gN, 0, none⟩)), (23, .bool true), (22, .slice a1 n1 c1), (21, .agg z.cells.toArray), (17, .tuple #[.agg z.cells.toArray, .slice a1 n1 c1, .bool true]), (20, .tuple #[.agg z.cells.toArray, .slice a1 n1 c1, .bool true]), (19, .slice al nl cl), (18, .agg y.cells.toArray), (8, .pointer (some ⟨gR, 0, none⟩)), (1, .slice a n c), (9, .bool true)] (by exact ⟨fun _ => by kernel_rfl, ⟨fun _ => by kernel_rfl, ⟨fun _ => by kernel_rfl, ⟨fun _ => by kernel_rfl, ⟨fun _ => by kernel_rfl, ⟨fun _ => by kernel_rfl, ⟨fun _ => by kernel_rfl, ⟨fun _ => by kernel_rfl, ⟨fun _ => by kernel_rfl, ⟨fun _ => by kernel_rfl, ⟨fun _ => by kernel_rfl, ⟨fun _ => by kernel_rfl, ⟨fun _ => by kernel_rfl, ⟨fun _ => by kernel_rfl, ⟨fun _ => by kernel_rfl, ⟨fun _ => by kernel_rfl, ⟨fun _ => by kernel_rfl, ⟨fun _ => by kernel_rfl, ⟨fun _ => by kernel_rfl, ⟨fun _ => by kernel_rfl, ⟨fun _ => by kernel_rfl, ⟨fun _ => by kernel_rfl, ⟨fun _ => by kernel_rfl, ⟨fun _ => by kernel_rfl, ⟨fun _ => by kernel_rfl, ⟨fun _ => by kernel_rfl, ⟨fun _ => by kernel_rfl, ⟨fun _ => by kernel_rfl, ⟨fun _ => by kernel_rfl, ⟨fun _ => by kernel_rfl, ⟨fun _ => by kernel_rfl, ⟨fun _ => by kernel_rfl, ⟨fun _ => by kernel_rfl, ⟨fun _ => by kernel_rfl, trivial⟩⟩⟩⟩⟩⟩⟩⟩⟩⟩⟩⟩⟩⟩⟩⟩⟩⟩⟩⟩⟩⟩⟩⟩⟩⟩⟩⟩⟩⟩⟩⟩⟩⟩) ?_
      have hv1 : (if M' = [] then some (vaP N p) else none) = A := (Zfj ho hex hfp).symm.trans hv
      refine Zah (fun _ => by kernel_rfl) <| Zap <| Zab <| Zac <| Zac <| Zaa <| rp 47 (.slice a1 n1 c1) <| rp 48 (.int .i64 n1) <| rp 49 (.bool (decide ((n1 : Int) > (0 : Int)))) <| Zad <| Zab ?_
      cases M' with
      | nil =>
       have hl1 := (hL1 _ _ hL).len
       rw [List.length_nil] at hl1
       rw [show (decide ((n1 : Int) > (0 : Int))) = false from decide_eq_false (by omega)]
       rw [if_pos rfl] at hv1
       rw [<- hv1]
       refine Zah (fun _ => by kernel_rfl) <| Zap <| Zab <| Zac <| Zaa <| rv 50 (.agg z.cells.toArray) (fun _ => Zbp 68 _ _ _ _ _ _ rfl (by kernel_rfl) hN1 Tryz.underlying68 rfl (by rw [Zcd, Zbi hzl])) <| rp 51 (.slice a n c) ?_
       have hzW : NodeAt (fun b => w.heap.size <= b) w6 z N := (hzN.go (L := fun b => w.heap.size <= b) (fun g hg hl => ⟨(Below.block hb6 g (by have := hb4.size; have := hb5.size; omega)).trans ((Below.block hb5 g (by have := hb4.size; omega)).trans (Below.block hb4 g hl)), by have := hg.1; omega⟩))
       refine Zao 52 70 #[.agg z.cells.toArray, .slice a n c] (fun _ => by kernel_rfl) (fun _ => by kernel_rfl) (R := fun u w' => ∃ a' n' c', u = .slice a' n' c' /\ Sk (fun b => w.heap.size <= b) w' a' n' c' (vaP N p) /\ Bl w6 w') (Zg5 hzW hp) ?_
       rintro _ u3 ⟨a3, n3, c3, rfl, hs3, hb7⟩
       replace hB := hB.go hb7
       replace hp := hp.go hb7
       replace hRR := hRR.go hb7
       replace hN1 := hN1.go hb7
       replace hF1 := hF1.go hb7
       refine rp 6 (.slice a3 n3 c3) <| rp 7 (.bool true) <| Zad <| Zab <| Zam <| Zb4 ?_
       exact Zae (.tuple #[.slice a3 n3 c3, .bool true]) (fun _ => by kernel_rfl) ⟨_, rfl, ⟨a3, n3, c3, rfl, fun h => (by cases h), fun v h => by cases h; exact hs3⟩, hB⟩
      | cons m1 M1 =>
       have hl1 := (hL1 _ _ hL).len
       rw [List.length_cons] at hl1
       rw [show (decide ((n1 : Int) > (0 : Int))) = true from decide_eq_true (by omega)]
       rw [if_neg (by simp)] at hv1
       rw [<- hv1]
       refine Zak (fun _ => by kernel_rfl) <| Zac <| Zaa <| rp 6 (.slice none 0 0) <| rp 7 (.bool false) <| Zad <| Zab <| Zam <| Zaj <| Zb4 ?_
       exact Zae (.tuple #[.slice none 0 0, .bool false]) (fun _ => by kernel_rfl) ⟨_, rfl, ⟨none, 0, 0, rfl, fun _ => ⟨rfl, rfl, rfl⟩, fun v h => by cases h⟩, hB⟩
     | some rp =>
      refine Zcx [(41, .bool true), (14, .bool true), (13, .slice a2 n2 c2), (12, .pointer (some ⟨gF, 0, none⟩)), (40, .bool true), (39, .slice a2 n2 c2), (38, .agg y1.cells.toArray), (34, .tuple #[.agg y1.cells.toArray, .slice a2 n2 c2, .bool true]), (37, .tuple #[.agg y1.cells.toArray, .slice a2 n2 c2, .bool true]), (36, .slice a n c), (35, .agg z.cells.toArray), (33, .bool false), (32, .bool false), (31, .bool false), (30, .int .i64 z.k), (29, .pointer (some ⟨gN, 0, none⟩)), (28, .bool true), (27, .bool true), (26, .bool false), (25, .bool false), (24, .bool true), (11, .bool true), (2, .slice a1 n1 c1), (10, .pointer (some ⟨gN, 0, none⟩)), (23, .bool true), (22, .slice a1 n1 c1), (21, .agg z.cells.toArray), (17, .tuple #[.agg z.cells.toArray, .slice a1 n1 c1, .bool true]), (20, .tuple #[.agg z.cells.toArray, .slice a1 n1 c1, .bool true]), (19, .slice al nl cl), (18, .agg y.cells.toArray), (8, .pointer (some ⟨gR, 0, none⟩)), (1, .slice a n c), (9, .bool true)] (by exact ⟨fun _ => by kernel_rfl, ⟨fun _ => by kernel_rfl, ⟨fun _ => by kernel_rfl, ⟨fun _ => by kernel_rfl, ⟨fun _ => by kernel_rfl, ⟨fun _ => by kernel_rfl, ⟨fun _ => by kernel_rfl, ⟨fun _ => by kernel_rfl, ⟨fun _ => by kernel_rfl, ⟨fun _ => by kernel_rfl, ⟨fun _ => by kernel_rfl, ⟨fun _ => by kernel_rfl, ⟨fun _ => by kernel_rfl, ⟨fun _ => by kernel_rfl, ⟨fun _ => by kernel_rfl, ⟨fun _ => by kernel_rfl, ⟨fun _ => by kernel_rfl, ⟨fun _ => by kernel_rfl, ⟨fun _ => by kernel_rfl, ⟨fun _ => by kernel_rfl, ⟨fun _ => by kernel_rfl, ⟨fun _ => by kernel_rfl, ⟨fun _ => by kernel_rfl, ⟨fun _ => by kernel_rfl, ⟨fun _ => by kernel_rfl, ⟨fun _ => by kernel_rfl, ⟨fun _ => by kernel_rfl, ⟨fun _ => by kernel_rfl, ⟨fun _ => by kernel_rfl, ⟨fun _ => by kernel_rfl, ⟨fun _ => by kernel_rfl, ⟨fun _ => by kernel_rfl, ⟨fun _ => by kernel_rfl, ⟨fun _ => by kernel_rfl, trivial⟩⟩⟩⟩⟩⟩⟩⟩⟩⟩⟩⟩⟩⟩⟩⟩⟩⟩⟩⟩⟩⟩⟩⟩⟩⟩⟩⟩⟩⟩⟩⟩⟩⟩) ?_
      obtain ⟨r', p'⟩ := rp
      obtain ⟨hRf, hs2⟩ := hfo r' p' hfp
      obtain ⟨hlt, kk, hkk⟩ := Znr hNR hfp
      have l2 := hs2.len
      have hv1 : veP f r' p' M' (decide (N.k = 2)) = A := (Zmn ho hex hfp).symm.trans hv
      refine Zak (fun _ => by kernel_rfl) <| Zac ?_
      have hgFR : gF ≠ gR := by have := hb1.size; have := hb4.size; have := hb5.size; omega
      have hgNR : gN ≠ gR := by have := hb1.size; omega
      replace hs2 := hs2.go hb6
      replace hRf := hRf.go (Zfr hb6)
      have hgRw : w.heap.size <= gR := hgw
      refine Zav (fun v => Rw gF v y1.cells.toArray 65 /\ Rw gN v z.cells.toArray 68) (by kernel_rfl) (⟨hF1.drew, hN1.drew⟩) ?_
      replace hB := hB.drew
      replace hp := hp.drew
      replace hRR := hRR.drew
      replace hN1 := hN1.drew
      replace hF1 := hF1.drew
      have hS := And.intro hF1 hN1
      replace hs2 := hs2.drew
      replace hRf := hRf.go (Zfr (Below.refl _ _).drew)
      refine dt 0 42 (.agg y1.cells.toArray) (fun v hv _ => Zbp 65 _ _ _ _ _ _ rfl (by kernel_rfl) hv.1 Tryz.underlying65 rfl (by rw [Zbe, List.size_toArray, RV.len hyl1])) hS <| dt 1 43 (.slice a2 n2 c2) (fun v hv _ => by kernel_rfl) hS <| dt 2 44 (.pointer (some ⟨gN, 0, none⟩)) (fun v hv _ => by kernel_rfl) hS <| dt 3 45 (.int .i64 z.k) (fun v hv _ => Zag 3 _ ⟨gN, 0, none⟩ _ _ rfl (by kernel_rfl) (by rw [cell_of_row _ _ _ _ _ _ hv.2]; exact Zl5 z) Tryz.underlying3 rfl) hS <| dt 4 46 (.bool ((z.k : Int) == (2 : Int))) (fun v hv _ => by kernel_rfl) hS <| Zaf [5] (by kernel_rfl) (by simp) ?_
      refine Zgd 5 gR y1.cells.toArray rfl (fun _ => by kernel_rfl) (fun _ => Zat 65 _ _ _ _ _ _ rfl (by kernel_rfl) (by kernel_rfl) hRR (by rw [Zbe, Za3 hyl1]) (by rw [Za3 hyl1, Za3 hyl]) (Zbs _)) (fun w' h => ⟨(h.other hgFR).trans hS.1, (h.other hgNR).trans hS.2⟩) ?_ Zan
      intro w8 hp8
      have hRR8 : Rw gR w8 y1.cells.toArray 65 := hp8.row hRR
      have hB8 : Bl w w8 := hp8.below hB hgRw hB.size
      have hs8 : Sk (fun b => b ≠ gR) w8 a2 n2 c2 p' := hs2.keep (fun g hg hl => ⟨hp8.other hg, hg⟩)
      have hRf8 : RefAt (fun b => b ≠ gR) w8 y1 r' := hRf.go (fun g hg hl => ⟨hp8.other hg, hg⟩)
      replace hS := And.intro ((hp8.other hgFR).trans hS.1) ((hp8.other hgNR).trans hS.2)
      refine dt 6 1 (.slice a2 n2 c2) (fun v hv _ => by kernel_rfl) hS <| dt 7 9 (.bool ((z.k : Int) == (2 : Int))) (fun v hv _ => by kernel_rfl) hS <| Zar (by kernel_rfl) <| Zab <| Zsb <| Zf1 ?_
      exact Zqv (x := (gR, (a, n, c), (al, nl, cl), _)) (gR, (a2, n2, c2), (a1, n1, c1), ((z.k : Int) == (2 : Int))) (by exact ⟨fun _ => by kernel_rfl, ⟨fun _ => by kernel_rfl, ⟨fun _ => by kernel_rfl, ⟨fun _ => by kernel_rfl, trivial⟩⟩⟩⟩) ⟨⟨y1, r', p', M', f, hRR8, hRf8, hs8, by rw [hkk]; exact hnb.drop kk, hL1 _ _ hL, hn1c, hMl', by simp only; omega, (by show veP f r' p' M' ((z.k : Int) == (2 : Int)) = A; rw [hzk, show ((N.k : Int) == (2 : Int)) = decide (N.k = 2) from by by_cases h : N.k = 2 <;> simp [h]]; exact hv1)⟩, hB8, hgw⟩ (by simp only; omega)
    ·skip
     have hv0 : A = none := by rw [<- hv]; simp [veP, ho, hk3]
     rw [hv0]
     refine Zaa <| rp 24 (.bool true) <| rp 25 (.bool false) <| rp 26 (.bool false) <| rp 27 (.bool true) <| rp 28 (.bool true) <| rp 29 (.pointer (some ⟨gN, 0, none⟩)) <| rv 30 (.int .i64 z.k) (fun _ => Zag 3 _ ⟨gN, 0, none⟩ _ _ rfl (by kernel_rfl) (by rw [cell_of_row _ _ _ _ _ _ hN1]; exact Zl5 z) Tryz.underlying3 rfl) <| rv 31 (.bool true) (fun _ => Zai (v := .bool (!((z.k : Int) == (3 : Int)))) (by kernel_rfl) (congrArg Value.bool (by rw [hzk]; simp [hk3]))) <| rp 32 (.bool true) <| rp 33 (.bool true) <| Zad ?_
     refine Zab <| Zak (fun _ => by kernel_rfl) <| Zac <| Zaa <| rp 6 (.slice none 0 0) <| rp 7 (.bool false) <| Zad <| Zab <| Zam <| Zaj <| Zb4 ?_
     exact Zae (.tuple #[.slice none 0 0, .bool false]) (fun _ => by kernel_rfl) ⟨_, rfl, ⟨none, 0, 0, rfl, fun _ => ⟨rfl, rfl, rfl⟩, fun v h => by cases h⟩, hB⟩
def vfP (d k : List Int) (M : List (List Int)) : Int × List Int :=
 if 32 < k.length then (70, []) else if M = [] /\ d = dref [128] then (0, []) else
  match veP (2 * k.length + 1) ⟨2, d, []⟩ (Ni.nib k) M false with
  | none => (90, [])
  | some v => (0, v)
def VfR (w : World) (o : Int × List Int) : Value -> World -> Prop := fun u w' => (∃ (a : Option Addr) (n c : Nat), u = .tuple #[.slice a n c, .bool (decide (0 < n)), .int .i64 o.1] /\ Sk (fun b => w.heap.size <= b) w' a n c o.2) /\ Bl w w'
theorem Cut.skb {w : World} {base : Nat} {a : Option Addr} {n : Nat} {bs : List Int} (h : Ni.Cut w base a n bs) : Sk (fun b => base <= b /\ b < w.heap.size) w a n n bs := ⟨h.ag, fun x hx hn => by
 obtain ⟨g, off, cur, e1, e2, e3⟩ := h.own hn
 rw [e1] at hx; cases hx
 exact ⟨e2, lt_of_get e3⟩⟩
set_option maxHeartbeats 1000000 in
theorem isKey_any {w : World} {a : Option Addr} {n c : Nat} :
  Calls Tryz.prog 26 #[.slice a n c] w fun e w' => ∃ u, e = .returned u /\ (fun u w' => u = .bool (decide ((n : Int) <= (32 : Int))) /\ Bl w w') u w' := by
 have hB := Bl.refl w
 refine Zal Tryz.func26 rfl 6 rfl ?_
 show CW _ _ _ _ _ _ _ [(0, .slice a n c)] _
 refine Zac <| Zaa <| rp 2 (.bool false) <| Zad <| Zab <| Zac <| Zaa <| rp 3 (.slice a n c) <| rp 4 (.int .i64 n) <| rp 5 (.bool (decide ((n : Int) <= (32 : Int)))) <| rp 2 (.bool (decide ((n : Int) <= (32 : Int)))) <| Zad ?_
 refine Zab <| Zam ?_
 exact Zae (.bool (decide ((n : Int) <= (32 : Int)))) (fun _ => by kernel_rfl) ⟨_, rfl, rfl, hB⟩
set_option maxHeartbeats 4000000 in
theorem Zfi {K K1 : Nat -> Prop} {w : World} {d : List Int} {a al : Option Addr} {n c nl cl : Nat} {k : List Int} {M : List (List Int)} (hd : d.length = 32) (hdb : isB d) (hk : Sk K1 w a n c k) (hL : Bt K w al nl M) (hnc : nl <= cl) (hM : ∀ b ∈ M, b.length <= 140737488351232) :
  Calls Tryz.prog 17 #[.agg (B8 d), .slice a n c, .slice al nl cl] w fun e w' => ∃ u, e = .returned u /\ VfR w (vfP d k M) u w' := by
 have hB := Bl.refl w
 have lk := hk.len
 have hk0 := hk
 have hL0 := hL
 obtain ⟨A, hA⟩ : ∃ A, vfP d k M = A := ⟨_, rfl⟩
 rw [hA]
 unfold vfP at hA
 refine Zal Tryz.func17 rfl 38 rfl ?_
 show CW _ _ _ _ _ _ _ [(0, .agg (B8 d)), (1, .slice a n c), (2, .slice al nl cl)] _
 refine Zac <| Zaa <| Zaz 3 (B8 d) 35 (fun _ => by kernel_rfl) (fun _ => by kernel_rfl) ?_
 intro w1 gD hnD
 have hD1 : Rw gD w1 (B8 d) 35 := hnD.row
 replace hB := hB.go hnD.below
 replace hk := hk.go hnD.below
 replace hL := hL.go hnD.below
 refine rp 6 (.slice none 0 0) <| rp 7 (.bool false) <| rp 8 (.int .i64 0) <| Zad <| Zab <| Zac <| Zau <| Zac <| Zaa <| rp 12 (.slice a n c) <| Zao 13 26 #[.slice a n c] (fun _ => by kernel_rfl) (fun _ => by kernel_rfl) (R := fun u w' => u = .bool (decide ((n : Int) <= (32 : Int))) /\ Bl (w1) w') (isKey_any) ?_
 rintro _ u1 ⟨rfl, hb1⟩
 replace hB := hB.go hb1
 replace hk := hk.go hb1
 replace hL := hL.go hb1
 replace hD1 := hD1.go hb1
 refine rp 14 (.bool (!(decide ((n : Int) <= (32 : Int))))) <| rp 11 (.bool (!(decide ((n : Int) <= (32 : Int))))) <| Zad <| Zab ?_
 by_cases hn32 : n <= 32
 ·skip
  rw [show (!decide ((n : Int) <= (32 : Int))) = false from by rw [decide_eq_true (by omega)]; rfl]
  rw [if_neg (by omega)] at hA
  have hn32b : 2 * n <= 140737488355328 := by omega
  refine Zah (fun _ => by kernel_rfl) <| Zac ?_
  have hV := Bl.refl u1
  have hDu := hD1
  cases M with
  | nil =>
   have hn0 : nl = 0 := hL0.len.symm
   refine Zav (fun v => Bl u1 v) (by kernel_rfl) (hV.drew) ?_
   replace hB := hB.drew
   replace hk := hk.drew
   replace hL := hL.drew
   replace hD1 := hD1.drew
   replace hV := hV.drew
   refine dt 0 16 (.slice al nl cl) (fun v hv _ => by kernel_rfl) hV <| dt 1 17 (.int .i64 nl) (fun v hv _ => by kernel_rfl) hV <| dt 2 18 (.bool true) (fun v hv => (fun _ => Zai (v := .bool ((nl : Int) == (0 : Int))) (by kernel_rfl) (congrArg Value.bool (beq_iff_eq.2 (by omega))))) hV <| dt 3 19 (.bool true) (fun v hv _ => by kernel_rfl) hV <| dt 4 20 (.agg (B8 d)) (fun v hv _ => Zbp 35 _ _ _ _ _ _ rfl (by kernel_rfl) (hDu.go hv) Tryz.underlying35 rfl (Zd0 hd)) hV <| Zaf [5] (by kernel_rfl) (by simp) ?_
   refine Zas 5 21 38 #[] rfl (fun _ => by kernel_rfl) (fun _ => by kernel_rfl) (R := fun u w' => u = .agg (B8 (dref [128])) /\ Bl (u1.drew) w') (((Ze9 (u1.drew)).mono (fun e w' h => ⟨_, h.1, rfl, h.2⟩))) (fun u w' h => hV.go h.2) ?_ Zan
   rintro _ u2 ⟨rfl, hb2⟩
   replace hB := hB.go hb2
   replace hk := hk.go hb2
   replace hL := hL.go hb2
   replace hD1 := hD1.go hb2
   replace hV := hV.go hb2
   refine dt 6 22 (.bool (d == dref [128])) (fun v hv _ => Zxk rfl (by kernel_rfl) (by kernel_rfl) hd (dref_len _)) hV <| dt 7 23 (.bool (d == dref [128])) (fun v hv _ => by kernel_rfl) hV <| dt 8 15 (.bool (d == dref [128])) (fun v hv _ => by kernel_rfl) hV <| Zar (by kernel_rfl) <| Zab ?_
   by_cases hde : d = dref [128]
   ·skip
    rw [show (d == dref [128]) = true from by simp [hde]]
    rw [if_pos ⟨rfl, hde⟩] at hA
    refine Zak (fun _ => by kernel_rfl) <| Zac <| Zaa <| rp 6 (.slice none 0 0) <| rp 7 (.bool false) <| rp 8 (.int .i64 0) <| Zad <| Zab <| Zam <| Za5 <| Zaj ?_
    subst hA
    exact Zae (.tuple #[.slice none 0 0, .bool false, .int .i64 0]) (fun _ => by kernel_rfl) ⟨_, rfl, ⟨none, 0, 0, rfl, Sk.nil _ _⟩, hB⟩
   ·skip
    rw [show (d == dref [128]) = false from by simp [hde]]
    rw [if_neg (fun h => hde h.2)] at hA
    refine Zah (fun _ => by kernel_rfl) <| Zap <| Za4 <| Zab <| Zac ?_
    replace hV := Bl.refl u2
    have hD5 := hD1
    have hkB : isB k := hk.ag.b
    refine Zav (fun v => Bl (u2) v) (by kernel_rfl) (hV.drew) ?_
    replace hB := hB.drew
    replace hk := hk.drew
    replace hL := hL.drew
    replace hD1 := hD1.drew
    replace hV := hV.drew
    refine dt 0 25 (.agg (B8 d)) (fun v hv _ => Zbp 35 _ _ _ _ _ _ rfl (by kernel_rfl) (hD5.go hv) Tryz.underlying35 rfl (Zd0 hd)) hV <| dt 1 26 (.slice a n c) (fun v hv _ => by kernel_rfl) hV <| dt 3 28 (.slice al nl cl) (fun v hv _ => by kernel_rfl) hV <| Zaf [2] (by kernel_rfl) (by simp) ?_
    refine Zas 2 27 28 #[.slice a n c] rfl (fun _ => by kernel_rfl) (fun _ => by kernel_rfl) (R := fun u w' => (∃ a', u = .slice a' (2 * n) (2 * n) /\ Ni.Cut w' (u2.drew).heap.size a' (2 * n) (Ni.nib k)) /\ Bl (u2.drew) w') (((Ni.of_any a n c k (u2.drew) hk.ag hn32b).mono (fun e w' ⟨⟨a', e1, e2⟩, e3⟩ => ⟨_, e1, ⟨a', rfl, e2⟩, e3⟩))) (fun u w' h => hV.go h.2) ?_ Zan
    rintro _ u3 ⟨⟨a3, rfl, hc3⟩, hb3⟩
    replace hB := hB.go hb3
    replace hk := hk.go hb3
    replace hL := hL.go hb3
    replace hD1 := hD1.go hb3
    replace hV := hV.go hb3
    have hp3 := Cut.skb hc3
    refine Zaf [4] (by kernel_rfl) (by simp) ?_
    refine Zas 4 29 42 #[.agg (B8 d), .slice a3 (2 * n) (2 * n), .slice al nl cl] rfl (fun _ => by kernel_rfl) (fun _ => by kernel_rfl) (R := VbR (u3) (veP (2 * k.length + 1) ⟨2, d, []⟩ (Ni.nib k) [] false)) ((by rw [lk]; exact Zg4 hd hdb (hp3.mono (fun b hb => hb.2)) (Zk3 hkB) hL hnc hM)) (fun u w' h => hV.go h.2) ?_ Zan
    rintro _ u4 ⟨⟨a4, n4, c4, rfl, hvs⟩, hb4⟩
    have hz4 := hB.size
    replace hB := hB.go hb4
    replace hk := hk.go hb4
    replace hL := hL.go hb4
    replace hD1 := hD1.go hb4
    replace hV := hV.go hb4
    refine dt 5 24 (.tuple #[.slice a4 n4 c4, .bool (veP (2 * k.length + 1) ⟨2, d, []⟩ (Ni.nib k) [] false).isSome]) (fun v hv _ => by kernel_rfl) hV <| dt 6 30 (.slice a4 n4 c4) (fun v hv _ => by kernel_rfl) hV <| dt 7 31 (.bool (veP (2 * k.length + 1) ⟨2, d, []⟩ (Ni.nib k) [] false).isSome) (fun v hv _ => by kernel_rfl) hV <| dt 8 9 (.slice a4 n4 c4) (fun v hv _ => by kernel_rfl) hV <| dt 9 10 (.bool (veP (2 * k.length + 1) ⟨2, d, []⟩ (Ni.nib k) [] false).isSome) (fun v hv _ => by kernel_rfl) hV <| Zar (by kernel_rfl) <| Zab <| Zac <| Zac ?_
    cases hv : veP (2 * k.length + 1) ⟨2, d, []⟩ (Ni.nib k) [] false with
    | none =>
     rw [hv] at hA hvs
     subst hA
     refine Zcx [(10, .bool false), (9, .slice a4 n4 c4), (31, .bool false), (30, .slice a4 n4 c4), (24, .tuple #[.slice a4 n4 c4, .bool false]), (29, .tuple #[.slice a4 n4 c4, .bool false]), (27, .slice a3 (2 * n) (2 * n)), (28, .slice al nl cl), (26, .slice a n c), (25, .agg (B8 d)), (15, .bool false), (23, .bool false), (22, .bool false), (21, .agg (B8 (dref [128]))), (20, .agg (B8 d)), (19, .bool true), (18, .bool true), (17, .int .i64 nl), (16, .slice al nl cl), (11, .bool false), (14, .bool false), (13, .bool (decide ((n : Int) <= (32 : Int)))), (12, .slice a n c), (8, .int .i64 0), (7, .bool false), (6, .slice none 0 0), (3, .pointer (some ⟨gD, 0, none⟩)), (0, .agg (B8 d)), (1, .slice a n c), (2, .slice al nl cl)] (by exact ⟨fun _ => by kernel_rfl, ⟨fun _ => by kernel_rfl, ⟨fun _ => by kernel_rfl, ⟨fun _ => by kernel_rfl, ⟨fun _ => by kernel_rfl, ⟨fun _ => by kernel_rfl, ⟨fun _ => by kernel_rfl, ⟨fun _ => by kernel_rfl, ⟨fun _ => by kernel_rfl, ⟨fun _ => by kernel_rfl, ⟨fun _ => by kernel_rfl, ⟨fun _ => by kernel_rfl, ⟨fun _ => by kernel_rfl, ⟨fun _ => by kernel_rfl, ⟨fun _ => by kernel_rfl, ⟨fun _ => by kernel_rfl, ⟨fun _ => by kernel_rfl, ⟨fun _ => by kernel_rfl, ⟨fun _ => by kernel_rfl, ⟨fun _ => by kernel_rfl, ⟨fun _ => by kernel_rfl, ⟨fun _ => by kernel_rfl, ⟨fun _ => by kernel_rfl, ⟨fun _ => by kernel_rfl, ⟨fun _ => by kernel_rfl, ⟨fun _ => by kernel_rfl, ⟨fun _ => by kernel_rfl, ⟨fun _ => by kernel_rfl, ⟨fun _ => by kernel_rfl, ⟨fun _ => by kernel_rfl, trivial⟩⟩⟩⟩⟩⟩⟩⟩⟩⟩⟩⟩⟩⟩⟩⟩⟩⟩⟩⟩⟩⟩⟩⟩⟩⟩⟩⟩⟩⟩) <| Zaa <| rp 32 (.bool false) <| rp 33 (.bool true) <| Zad <| Zab <| Zak (fun _ => by kernel_rfl) <| Zac <| Zaa <| rp 6 (.slice none 0 0) <| rp 7 (.bool false) <| rp 8 (.int .i64 90) ?_
     refine Zad <| Zab <| Zam <| Zaj ?_
     exact Zae (.tuple #[.slice none 0 0, .bool false, .int .i64 90]) (fun _ => by kernel_rfl) ⟨_, rfl, ⟨none, 0, 0, rfl, Sk.nil _ _⟩, hB⟩
    | some v =>
     rw [hv] at hA hvs
     subst hA
     refine Zcx [(10, .bool true), (9, .slice a4 n4 c4), (31, .bool true), (30, .slice a4 n4 c4), (24, .tuple #[.slice a4 n4 c4, .bool true]), (29, .tuple #[.slice a4 n4 c4, .bool true]), (27, .slice a3 (2 * n) (2 * n)), (28, .slice al nl cl), (26, .slice a n c), (25, .agg (B8 d)), (15, .bool false), (23, .bool false), (22, .bool false), (21, .agg (B8 (dref [128]))), (20, .agg (B8 d)), (19, .bool true), (18, .bool true), (17, .int .i64 nl), (16, .slice al nl cl), (11, .bool false), (14, .bool false), (13, .bool (decide ((n : Int) <= (32 : Int)))), (12, .slice a n c), (8, .int .i64 0), (7, .bool false), (6, .slice none 0 0), (3, .pointer (some ⟨gD, 0, none⟩)), (0, .agg (B8 d)), (1, .slice a n c), (2, .slice al nl cl)] (by exact ⟨fun _ => by kernel_rfl, ⟨fun _ => by kernel_rfl, ⟨fun _ => by kernel_rfl, ⟨fun _ => by kernel_rfl, ⟨fun _ => by kernel_rfl, ⟨fun _ => by kernel_rfl, ⟨fun _ => by kernel_rfl, ⟨fun _ => by kernel_rfl, ⟨fun _ => by kernel_rfl, ⟨fun _ => by kernel_rfl, ⟨fun _ => by kernel_rfl, ⟨fun _ => by kernel_rfl, ⟨fun _ => by kernel_rfl, ⟨fun _ => by kernel_rfl, ⟨fun _ => by kernel_rfl, ⟨fun _ => by kernel_rfl, ⟨fun _ => by kernel_rfl, ⟨fun _ => by kernel_rfl, ⟨fun _ => by kernel_rfl, ⟨fun _ => by kernel_rfl, ⟨fun _ => by kernel_rfl, ⟨fun _ => by kernel_rfl, ⟨fun _ => by kernel_rfl, ⟨fun _ => by kernel_rfl, ⟨fun _ => by kernel_rfl, ⟨fun _ => by kernel_rfl, ⟨fun _ => by kernel_rfl, ⟨fun _ => by kernel_rfl, ⟨fun _ => by kernel_rfl, ⟨fun _ => by kernel_rfl, trivial⟩⟩⟩⟩⟩⟩⟩⟩⟩⟩⟩⟩⟩⟩⟩⟩⟩⟩⟩⟩⟩⟩⟩⟩⟩⟩⟩⟩⟩⟩) ?_
     have hs9 := hvs.2 v rfl
     have hl9 := hs9.len
     refine Zaa <| rp 32 (.bool true) <| rp 33 (.bool false) <| Zad <| Zab <| Zah (fun _ => by kernel_rfl) <| Zap <| Zab <| Zac <| Zaa <| rp 34 (.slice a4 n4 c4) <| rp 35 (.slice a4 n4 c4) ?_
     refine rp 36 (.int .i64 n4) <| rv 37 (.bool (decide (0 < n4))) (fun _ => Zai (v := .bool (decide ((n4 : Int) > (0 : Int)))) (by kernel_rfl) (congrArg Value.bool (decide_eq_decide.2 (by omega)))) <| rp 6 (.slice a4 n4 c4) <| rp 7 (.bool (decide (0 < n4))) <| rp 8 (.int .i64 0) <| Zad <| Zab <| Zam ?_
     exact Zae (.tuple #[.slice a4 n4 c4, .bool (decide (0 < n4)), .int .i64 0]) (fun _ => by kernel_rfl) ⟨_, rfl, ⟨a4, n4, c4, rfl, hs9.mono (fun b hb => by have : _ <= b := hb; omega)⟩, hB⟩
  | cons m1 M1 =>
   have hn0 := hL0.len
   rw [List.length_cons] at hn0
   rw [if_neg (fun h => by cases h.1)] at hA
   refine Zav (fun v => Bl u1 v) (by kernel_rfl) (hV.drew) ?_
   replace hB := hB.drew
   replace hk := hk.drew
   replace hL := hL.drew
   replace hD1 := hD1.drew
   replace hV := hV.drew
   refine dt 0 16 (.slice al nl cl) (fun v hv _ => by kernel_rfl) hV <| dt 1 17 (.int .i64 nl) (fun v hv _ => by kernel_rfl) hV <| dt 2 18 (.bool false) (fun v hv => (fun _ => Zai (v := .bool ((nl : Int) == (0 : Int))) (by kernel_rfl) (congrArg Value.bool (beq_eq_false_iff_ne.2 (by omega))))) hV <| dt 3 19 (.bool false) (fun v hv _ => by kernel_rfl) hV <| df 4 20 hV <| df 5 21 hV <| df 6 22 hV <| dt 7 23 (.bool false) (fun v hv _ => by kernel_rfl) hV <| dt 8 15 (.bool false) (fun v hv _ => by kernel_rfl) hV <| Zar (by kernel_rfl) <| Zab <| Zah (fun _ => by kernel_rfl) ?_
   refine Zap <| Za4 <| Zab <| Zac ?_
   replace hV := Bl.refl u1.drew
   have hD5 := hD1
   have hkB : isB k := hk.ag.b
   refine Zav (fun v => Bl (u1.drew) v) (by kernel_rfl) (hV.drew) ?_
   replace hB := hB.drew
   replace hk := hk.drew
   replace hL := hL.drew
   replace hD1 := hD1.drew
   replace hV := hV.drew
   refine dt 0 25 (.agg (B8 d)) (fun v hv _ => Zbp 35 _ _ _ _ _ _ rfl (by kernel_rfl) (hD5.go hv) Tryz.underlying35 rfl (Zd0 hd)) hV <| dt 1 26 (.slice a n c) (fun v hv _ => by kernel_rfl) hV <| dt 3 28 (.slice al nl cl) (fun v hv _ => by kernel_rfl) hV <| Zaf [2] (by kernel_rfl) (by simp) ?_
   refine Zas 2 27 28 #[.slice a n c] rfl (fun _ => by kernel_rfl) (fun _ => by kernel_rfl) (R := fun u w' => (∃ a', u = .slice a' (2 * n) (2 * n) /\ Ni.Cut w' (u1.drew.drew).heap.size a' (2 * n) (Ni.nib k)) /\ Bl (u1.drew.drew) w') (((Ni.of_any a n c k (u1.drew.drew) hk.ag hn32b).mono (fun e w' ⟨⟨a', e1, e2⟩, e3⟩ => ⟨_, e1, ⟨a', rfl, e2⟩, e3⟩))) (fun u w' h => hV.go h.2) ?_ Zan
   rintro _ u3 ⟨⟨a3, rfl, hc3⟩, hb3⟩
   replace hB := hB.go hb3
   replace hk := hk.go hb3
   replace hL := hL.go hb3
   replace hD1 := hD1.go hb3
   replace hV := hV.go hb3
   have hp3 := Cut.skb hc3
   refine Zaf [4] (by kernel_rfl) (by simp) ?_
   refine Zas 4 29 42 #[.agg (B8 d), .slice a3 (2 * n) (2 * n), .slice al nl cl] rfl (fun _ => by kernel_rfl) (fun _ => by kernel_rfl) (R := VbR (u3) (veP (2 * k.length + 1) ⟨2, d, []⟩ (Ni.nib k) (m1 :: M1) false)) ((by rw [lk]; exact Zg4 hd hdb (hp3.mono (fun b hb => hb.2)) (Zk3 hkB) hL hnc hM)) (fun u w' h => hV.go h.2) ?_ Zan
   rintro _ u4 ⟨⟨a4, n4, c4, rfl, hvs⟩, hb4⟩
   have hz4 := hB.size
   replace hB := hB.go hb4
   replace hk := hk.go hb4
   replace hL := hL.go hb4
   replace hD1 := hD1.go hb4
   replace hV := hV.go hb4
   refine dt 5 24 (.tuple #[.slice a4 n4 c4, .bool (veP (2 * k.length + 1) ⟨2, d, []⟩ (Ni.nib k) (m1 :: M1) false).isSome]) (fun v hv _ => by kernel_rfl) hV <| dt 6 30 (.slice a4 n4 c4) (fun v hv _ => by kernel_rfl) hV <| dt 7 31 (.bool (veP (2 * k.length + 1) ⟨2, d, []⟩ (Ni.nib k) (m1 :: M1) false).isSome) (fun v hv _ => by kernel_rfl) hV <| dt 8 9 (.slice a4 n4 c4) (fun v hv _ => by kernel_rfl) hV <| dt 9 10 (.bool (veP (2 * k.length + 1) ⟨2, d, []⟩ (Ni.nib k) (m1 :: M1) false).isSome) (fun v hv _ => by kernel_rfl) hV <| Zar (by kernel_rfl) <| Zab <| Zac <| Zac ?_
   cases hv : veP (2 * k.length + 1) ⟨2, d, []⟩ (Ni.nib k) (m1 :: M1) false with
   | none =>
    rw [hv] at hA hvs
    subst hA
    refine Zcx [(10, .bool false), (9, .slice a4 n4 c4), (31, .bool false), (30, .slice a4 n4 c4), (24, .tuple #[.slice a4 n4 c4, .bool false]), (29, .tuple #[.slice a4 n4 c4, .bool false]), (27, .slice a3 (2 * n) (2 * n)), (28, .slice al nl cl), (26, .slice a n c), (25, .agg (B8 d)), (15, .bool false), (23, .bool false), (22, undef), (21, undef), (20, undef), (19, .bool false), (18, .bool false), (17, .int .i64 nl), (16, .slice al nl cl), (11, .bool false), (14, .bool false), (13, .bool (decide ((n : Int) <= (32 : Int)))), (12, .slice a n c), (8, .int .i64 0), (7, .bool false), (6, .slice none 0 0), (3, .pointer (some ⟨gD, 0, none⟩)), (0, .agg (B8 d)), (1, .slice a n c), (2, .slice al nl cl)] (by exact ⟨fun _ => by kernel_rfl, ⟨fun _ => by kernel_rfl, ⟨fun _ => by kernel_rfl, ⟨fun _ => by kernel_rfl, ⟨fun _ => by kernel_rfl, ⟨fun _ => by kernel_rfl, ⟨fun _ => by kernel_rfl, ⟨fun _ => by kernel_rfl, ⟨fun _ => by kernel_rfl, ⟨fun _ => by kernel_rfl, ⟨fun _ => by kernel_rfl, ⟨fun _ => by kernel_rfl, ⟨fun _ => by kernel_rfl, ⟨fun _ => by kernel_rfl, ⟨fun _ => by kernel_rfl, ⟨fun _ => by kernel_rfl, ⟨fun _ => by kernel_rfl, ⟨fun _ => by kernel_rfl, ⟨fun _ => by kernel_rfl, ⟨fun _ => by kernel_rfl, ⟨fun _ => by kernel_rfl, ⟨fun _ => by kernel_rfl, ⟨fun _ => by kernel_rfl, ⟨fun _ => by kernel_rfl, ⟨fun _ => by kernel_rfl, ⟨fun _ => by kernel_rfl, ⟨fun _ => by kernel_rfl, ⟨fun _ => by kernel_rfl, ⟨fun _ => by kernel_rfl, ⟨fun _ => by kernel_rfl, trivial⟩⟩⟩⟩⟩⟩⟩⟩⟩⟩⟩⟩⟩⟩⟩⟩⟩⟩⟩⟩⟩⟩⟩⟩⟩⟩⟩⟩⟩⟩) <| Zaa <| rp 32 (.bool false) <| rp 33 (.bool true) <| Zad <| Zab <| Zak (fun _ => by kernel_rfl) <| Zac <| Zaa <| rp 6 (.slice none 0 0) <| rp 7 (.bool false) <| rp 8 (.int .i64 90) ?_
    refine Zad <| Zab <| Zam <| Zaj ?_
    exact Zae (.tuple #[.slice none 0 0, .bool false, .int .i64 90]) (fun _ => by kernel_rfl) ⟨_, rfl, ⟨none, 0, 0, rfl, Sk.nil _ _⟩, hB⟩
   | some v =>
    rw [hv] at hA hvs
    subst hA
    refine Zcx [(10, .bool true), (9, .slice a4 n4 c4), (31, .bool true), (30, .slice a4 n4 c4), (24, .tuple #[.slice a4 n4 c4, .bool true]), (29, .tuple #[.slice a4 n4 c4, .bool true]), (27, .slice a3 (2 * n) (2 * n)), (28, .slice al nl cl), (26, .slice a n c), (25, .agg (B8 d)), (15, .bool false), (23, .bool false), (22, undef), (21, undef), (20, undef), (19, .bool false), (18, .bool false), (17, .int .i64 nl), (16, .slice al nl cl), (11, .bool false), (14, .bool false), (13, .bool (decide ((n : Int) <= (32 : Int)))), (12, .slice a n c), (8, .int .i64 0), (7, .bool false), (6, .slice none 0 0), (3, .pointer (some ⟨gD, 0, none⟩)), (0, .agg (B8 d)), (1, .slice a n c), (2, .slice al nl cl)] (by exact ⟨fun _ => by kernel_rfl, ⟨fun _ => by kernel_rfl, ⟨fun _ => by kernel_rfl, ⟨fun _ => by kernel_rfl, ⟨fun _ => by kernel_rfl, ⟨fun _ => by kernel_rfl, ⟨fun _ => by kernel_rfl, ⟨fun _ => by kernel_rfl, ⟨fun _ => by kernel_rfl, ⟨fun _ => by kernel_rfl, ⟨fun _ => by kernel_rfl, ⟨fun _ => by kernel_rfl, ⟨fun _ => by kernel_rfl, ⟨fun _ => by kernel_rfl, ⟨fun _ => by kernel_rfl, ⟨fun _ => by kernel_rfl, ⟨fun _ => by kernel_rfl, ⟨fun _ => by kernel_rfl, ⟨fun _ => by kernel_rfl, ⟨fun _ => by kernel_rfl, ⟨fun _ => by kernel_rfl, ⟨fun _ => by kernel_rfl, ⟨fun _ => by kernel_rfl, ⟨fun _ => by kernel_rfl, ⟨fun _ => by kernel_rfl, ⟨fun _ => by kernel_rfl, ⟨fun _ => by kernel_rfl, ⟨fun _ => by kernel_rfl, ⟨fun _ => by kernel_rfl, ⟨fun _ => by kernel_rfl, trivial⟩⟩⟩⟩⟩⟩⟩⟩⟩⟩⟩⟩⟩⟩⟩⟩⟩⟩⟩⟩⟩⟩⟩⟩⟩⟩⟩⟩⟩⟩) ?_
    have hs9 := hvs.2 v rfl
    have hl9 := hs9.len
    refine Zaa <| rp 32 (.bool true) <| rp 33 (.bool false) <| Zad <| Zab <| Zah (fun _ => by kernel_rfl) <| Zap <| Zab <| Zac <| Zaa <| rp 34 (.slice a4 n4 c4) <| rp 35 (.slice a4 n4 c4) ?_
    refine rp 36 (.int .i64 n4) <| rv 37 (.bool (decide (0 < n4))) (fun _ => Zai (v := .bool (decide ((n4 : Int) > (0 : Int)))) (by kernel_rfl) (congrArg Value.bool (decide_eq_decide.2 (by omega)))) <| rp 6 (.slice a4 n4 c4) <| rp 7 (.bool (decide (0 < n4))) <| rp 8 (.int .i64 0) <| Zad <| Zab <| Zam ?_
    exact Zae (.tuple #[.slice a4 n4 c4, .bool (decide (0 < n4)), .int .i64 0]) (fun _ => by kernel_rfl) ⟨_, rfl, ⟨a4, n4, c4, rfl, hs9.mono (fun b hb => by have : _ <= b := hb; omega)⟩, hB⟩
 ·skip
  rw [show (!decide ((n : Int) <= (32 : Int))) = true from by rw [decide_eq_false (by omega)]; rfl]
  rw [if_pos (by omega)] at hA
  refine Zak (fun _ => by kernel_rfl) <| Zac <| Zaa <| rp 6 (.slice none 0 0) <| rp 7 (.bool false) <| rp 8 (.int .i64 70) <| Zad <| Zab <| Zam <| Za5 <| Zaj ?_
  subst hA
  exact Zae (.tuple #[.slice none 0 0, .bool false, .int .i64 70]) (fun _ => by kernel_rfl) ⟨_, rfl, ⟨none, 0, 0, rfl, Sk.nil _ _⟩, hB⟩
end Go.Proofs.YtefhepcplempkaaGreat
namespace Go.Proofs.YtefhepcplempkaaGreat
open Go.RowKit
section
variable {m : Nat} {P : Program} {ds : List Deferred} {n : Nat} {Q : Exit → Act → World → Prop} {env : Env} {w : World} {ops : Array Oper} {S : World → Prop}
theorem Zoa {l : Nat} {o : Oper} {a : Act} {w : World} {K : Act -> World -> Prop} (hnd : ∀ c, o.op ≠ .defer c) (h : o.wp P a w K Q) : o.wpIn (Fence.wide.inRound l) m P a w K Q := by
 refine ⟨fun f _ => trivial, ?_⟩
 rw [Oper.semAt_eq _ _ _ hnd]
 unfold Oper.wp at h
 generalize (execOp a.eval o).run P w = r at h ⊢
 cases r with
 | ok x w' =>
  cases x with
  | value v => exact h
  | skip => exact h
  | defer d => exact h
  | enter f args => exact ⟨fun e => absurd e Bool.false_ne_true, callsIn_wide.2 h⟩
  | row row args => exact ⟨fun e => absurd e Bool.false_ne_true, fun c cs _ => by obtain ⟨v, w'', r, s⟩ := h c cs; exact ⟨v, w'', r, stepsIn_wide.2 s⟩⟩
  | _ => exact h.elim
 | halt x w' =>
  cases x with
  | panic v => exact h
  | _ => exact h.elim
theorem Zpn {l : Nat} (hLO : ¬ LetsOut Q) (hnd : ops.all (fun o => match o.op with | .defer _ => false | _ => true) = true) {i : Nat} {K : Act -> World -> Prop} {a : Act} {w : World} (h : wpOp P ops Q i K a w) : wpOpIn (Fence.wide.inRound l) m P ops Q i K a w := by
 unfold wpOp at h
 unfold wpOpIn
 cases ho : ops[i]? with
 | none => simpa [ho] using h
 | some o =>
  simp only [ho] at h ⊢
  have hd : ∀ c, o.op ≠ .defer c := fun c e => by
   have := Array.all_eq_true.1 hnd i (Array.getElem?_eq_some_iff.1 ho).1
   rw [(Array.getElem?_eq_some_iff.1 ho).2, e] at this
   cases this
  split
  ·rename_i hw
   simp only [hw, if_true] at h
   rcases h with h | h
   ·exact Zoa hd h
   ·exact absurd h.2 hLO
  ·rename_i hw
   simp only [hw] at h
   exact ⟨fun f _ => trivial, h⟩
theorem Zii {l : Nat} (hLO : ¬ LetsOut Q) (hnd : ops.all (fun o => match o.op with | .defer _ => false | _ => true) = true) : ∀ (fuel : Nat) (listed : Array Bool) (a : Act) (w : World), wpAnyH P .any ops Q S fuel listed a w -> wpAnyIn (Fence.wide.inRound l) m P .any ops Q fuel listed a w
 | 0, _, _, _, h => h
 | fuel + 1, _, _, _, h => ⟨h.1, fun i hi => wpOpIn_mono (fun a' w' h' => Zii hLO hnd fuel _ a' w' h'.2) (Zpn hLO hnd (h.2 i hi))⟩
theorem Zuu {id l : Nat} (S : World -> Prop) (hm : P.follows .mixedOrders = true) (hnd : ops.all (fun o => match o.op with | .defer _ => false | _ => true) = true) (hLO : ¬ LetsOut Q) (hS : S w.drew) (h : DW P ds n Q ops S ops.size (Array.replicate ops.size false) env w.drew) : CW (some l) m P ds n Q (.region id ops true) env w := fun a ha =>
 wpIn_region_any (F := Fence.wide.inRound l) hm (Zii hLO hnd _ _ _ _ (h a ha))
end
end Go.Proofs.YtefhepcplempkaaGreat
namespace Go.Proofs.YtefhepcplempkaaGreat
open Go.RowKit
open Tr
def nbE (e : List Int × List Int) : List Int × List Int := (Ni.nib e.1, e.2)
def EnR (w : World) (L : PList) : Value -> World -> Prop := fun u w' => (∃ a c vs, u = .slice a L.length c /\ PAt (fun _ => True) w' a L.length c vs (L.map nbE)) /\ Bl w w'
set_option maxHeartbeats 8000000 in
theorem Zhy {K : Nat -> Prop} {w : World} {g : Nat} {t : Tr} (hT : Tri K w g t) (hLk : ∀ e ∈ entsF [] t, e.1.length <= 32) (hLn : (entsF [] t).length <= 2932031007390) :
  Calls Tryz.prog 27 #[.pointer (some ⟨g, 0, none⟩)] w fun e w' => ∃ u, e = .returned u /\ EnR w (entsF [] t) u w' := by
 have hB := Bl.refl w
 refine Zsc Tryz.func27 rfl 18 rfl ?_
 show CW _ _ _ _ _ _ _ [(0, .pointer (some ⟨g, 0, none⟩))] _
 have hTl := hT.lt
 have hTo := hT.old
 refine Zac <| Zaa <| rp 2 (.slice none 0 0) <| Zad <| Zab <| Zac <| Zaa <| Zaz 3 #[.slice none 0 0] 55 (fun _ => by kernel_rfl) (fun _ => by kernel_rfl) ?_
 intro w6 gL hn6
 have hgL := hn6.hg
 replace hB := hB.go hn6.below
 have hL : Rw gL w6 #[.slice none 0 0] 55 := hn6.row
 have hTk : Tri (fun b => b ≠ gL) w6 g t := (hTo.go hn6.below).mono (fun b hb => by have : b < _ := hb; omega)
 have hgne : g ≠ gL := by omega
 refine Zad <| Zab <| Zac <| Zac <| Zaa <| rp 6 (.pointer (some ⟨g, 0, none⟩)) <| Zao 7 53 #[.pointer (some ⟨g, 0, none⟩)] (fun _ => by kernel_rfl) (fun _ => by kernel_rfl) (R := fun u w' => (∃ gB, u = .func (.func 76) #[] #[.pointer (some ⟨gB, 0, none⟩)] /\ Rw gB w' #[.pointer (some ⟨g, 0, none⟩)] 25 /\ w6.heap.size <= gB) /\ Bl w6 w') (Zys (g := g)) ?_
 rintro _ w7 ⟨⟨gB, rfl, hgB, hzB⟩, hb7⟩
 replace hB := hB.go hb7
 replace hL := hL.go hb7
 replace hTk := hTk.go hb7
 refine Zad <| Zab <| Zau <| Zcx [(3, .pointer (some ⟨gL, 0, none⟩)), (7, .func (.func 76) #[] #[.pointer (some ⟨gB, 0, none⟩)])] (by exact ⟨fun _ => by kernel_rfl, ⟨fun _ => by kernel_rfl, trivial⟩⟩) ?_
 have hlL := lt_of_get hL
 obtain ⟨⟨vT, hrT, htT⟩, hok⟩ := id hTk
 obtain ⟨L, hents⟩ : ∃ L, entsF [] t = L := ⟨_, rfl⟩
 rw [hents] at hLk hLn ⊢
 refine Zsa 76 #[.pointer (some ⟨gB, 0, none⟩)] (fun _ => by kernel_rfl) (by decide) (by decide) (by decide) (fun args w => by kernel_rfl) (U := fun b => b = gL) (L := L) (fun lp J Wq hbq V hJ0 => (Zu6 V (hgB.go hbq) hJ0 (Nat.le_refl _) (hrT.go hbq) (htT.go hbq) hok (fun b hb hu => hb hu) (by rw [hents]; exact List.prefix_rfl)).mono (fun e W' ⟨u, e1, h⟩ => ⟨u, e1, by rw [<- hents]; exact h.resolve_right id⟩)) (fun b hu => by have e : b = gL := hu; omega) (fun pre => EnI w w7 gL (pre.map nbE)) (fun s W W' row h => EnI.own hB.size (s.map nbE) W W' row h) ⟨hB, ⟨_, hL, OwnE.none (fun b hb => by omega), SlB.nil _⟩, fun _ _ _ _ _ hh => hh, Nat.le_refl _⟩ (fun u v e => e = [(3, .pointer (some ⟨gL, 0, none⟩)), (4, u), (5, v)]) ?_ ?_ ?_
 ·intro lp u v W
  refine Zac <| Zaa <| rp 4 (u) <| Zad <| Zab <| Zaa <| rp 5 (v) <| Zad ?_
  exact fun a ha => ⟨rfl, _, ha.sub (env' := [(3, .pointer (some ⟨gL, 0, none⟩)), (4, u), (5, v)]) (by exact ⟨fun _ => by kernel_rfl, ⟨fun _ => by kernel_rfl, ⟨fun _ => by kernel_rfl, trivial⟩⟩⟩), rfl⟩
 ·intro lp pre W M a1 a2 n1 c1 n2 c2 k x e hlp hrec hIv hpre hM1 hM2 hs1 hs2 he
  subst he
  obtain ⟨hB, ⟨v, hL, hO, hS⟩, hkp, hsz⟩ := hIv
  have hlen : (pre.map nbE).length + 1 <= L.length := by obtain ⟨sf, hsf⟩ := hpre; rw [<- hsf]; simp
  have hlL2 := lt_of_get hL
  have hkl : k.length <= 32 := hLk (k, x) (by obtain ⟨sf, hsf⟩ := hpre; rw [<- hsf]; simp)
  have hk1 := hs1.len
  have hL0 := hL
  have hO0 := hO
  have hS0 := hS
  have hWW := Bl.refl W
  refine Zau <| Zuu (fun v => True) (by kernel_rfl) (by kernel_rfl) (fun ⟨_, _, h⟩ => h) (trivial) ?_
  replace hs1 := hs1.drew
  replace hs2 := hs2.drew
  replace hL := hL.drew
  replace hWW := hWW.drew
  refine dt 1 11 (.slice a1 n1 c1) (fun v hv _ => by kernel_rfl) trivial <| dt 3 13 (.slice a2 n2 c2) (fun v hv _ => by kernel_rfl) trivial <| Zaf [0, 2] (by kernel_rfl) (by simp) ?_
  refine ar_v 0 10 v rfl (fun _ => by kernel_rfl) (fun _ => Zag 55 _ ⟨gL, 0, none⟩ _ _ rfl (by kernel_rfl) (by rw [cell_of_row _ _ _ _ _ _ hL]; rfl) Tryz.underlying55 rfl) trivial ?_ ?_
  ·skip
   refine Zaf [2] (by kernel_rfl) (by simp) ?_
   refine Zas 2 12 28 #[.slice a1 n1 c1] rfl (fun _ => by kernel_rfl) (fun _ => by kernel_rfl) (R := fun u w' => (∃ a', u = .slice a' (2 * n1) (2 * n1) /\ Ni.Cut w' (W.drew).heap.size a' (2 * n1) (Ni.nib k)) /\ Bl (W.drew) w') (((Ni.of_any a1 n1 c1 k (W.drew) hs1.ag (by omega)).mono (fun e w' ⟨⟨a', e1, e2⟩, e3⟩ => ⟨_, e1, ⟨a', rfl, e2⟩, e3⟩))) (fun _ _ _ => trivial) ?_ Zan
   rintro _ u3 ⟨⟨a3, rfl, hc3⟩, hb3⟩
   have hz3 := hWW.size
   replace hs1 := hs1.go hb3
   replace hs2 := hs2.go hb3
   replace hL := hL.go hb3
   replace hWW := hWW.go hb3
   have hp3 := Cut.skb hc3
   refine dt 4 14 (.agg #[.slice a3 (2 * n1) (2 * n1), .slice a2 n2 c2]) (fun v hv => (fun _ => by kernel_rfl)) trivial <| Zaf [5] (by kernel_rfl) (by simp) ?_
   refine Zbx 5 15 #[.slice a3 (2 * n1) (2 * n1), .slice a2 n2 c2] 95 1 rfl (fun _ => by kernel_rfl) (fun _ => by kernel_rfl) (fun _ _ _ => trivial) ?_ Zan
   intro W1 gN hnN
   have hOw := hO0.far hWW
   have hSw := hS0.go hWW (fun k hk => (hO0.own k hk).2)
   have hP1 := PAt.oneE (K := fun b => w7.heap.size <= b /\ v.ownBlock ≠ some b) hnN ((hp3.nsl hSw).mono (fun b hb => ⟨by have := hb.1.1; omega, hb.2⟩)) ((hs2.nsl hSw).mono (fun b hb => ⟨by have := hb.1; omega, hb.2⟩)) ⟨by rw [hnN.hg]; have := hWW.size; omega, fun e => by have := (hOw.own gN e).2; have := hnN.hg; omega⟩
   have hO1 := hOw.far hnN.below
   have hS1 := hSw.go hnN.below (fun k hk => (hOw.own k hk).2)
   replace hs1 := hs1.go hnN.below
   replace hs2 := hs2.go hnN.below
   replace hL := hL.go hnN.below
   replace hWW := hWW.go hnN.below
   refine Zaf [6] (by kernel_rfl) (by simp) ?_
   obtain ⟨v2, W2, hr2, hO2, hS2, hb2_, hk2, hv2⟩ := Zyr hO1 hS1 hP1 (fun b hb => ⟨hb.2, by have := hb.1; omega⟩) (by omega) (by have := hWW.size; omega)
   refine ar_v 6 16 v2 rfl (fun _ => by kernel_rfl) (fun _ => Zei hr2 _ _ rfl (by kernel_rfl) (by kernel_rfl)) trivial ?_ Zan
   have hLo : v.ownBlock ≠ some gL := fun e => by have := (hO0.own gL e).1; omega
   have hL2 : Rw gL W2 #[v] 55 := (hk2 gL (lt_of_get hL) hLo).trans hL
   refine Zaf [7] (by kernel_rfl) (by simp) ?_
   refine Zb5 7 gL 0 v2 rfl (fun _ => by kernel_rfl) (fun _ => Zbu 55 _ _ gL 0 _ 55 _ hL2 rfl (by kernel_rfl) (by kernel_rfl) (by show 0 < 1; omega) hO2.cel hO2.one (by kernel_rfl)) (fun _ _ => trivial) ?_ Zan
   intro W3 hs3
   refine Zar (by kernel_rfl) <| Za4 ?_
   have hz3 : W3.heap.size = W2.heap.size := hs3.size
   have hz2 : W1.heap.size <= W2.heap.size := Below.size hb2_
   have hz1 : W.heap.size <= W1.heap.size := hWW.size
   have hkk : ∀ (k : Nat) (cs : Array Value) (T : TypeId) (fr : Nat × Nat), k ≠ gL -> Pr cs -> W.heap[k]? = some (Obj.cells cs T fr) -> W3.heap[k]? = some (Obj.cells cs T fr) := fun k cs T fr hk hP hh => ((hs3.other hk).trans ((hk2 k (Nat.lt_of_lt_of_le (lt_of_get hh) hz1) (fun e => Znd (hS0 k cs T fr e hh) hP)).trans (Below.block hWW k (lt_of_get hh)))).trans hh
   have hko : ∀ (k : Nat) (o : Obj), k ≠ gL -> v.ownBlock ≠ some k -> W.heap[k]? = some o -> W3.heap[k]? = some o := fun k o hk he hh => ((hs3.other hk).trans ((hk2 k (Nat.lt_of_lt_of_le (lt_of_get hh) hz1) he).trans (Below.block hWW k (lt_of_get hh)))).trans hh
   have hnc : ∀ (k : Nat) (o : Obj), W.heap[k]? = some o -> o.isCells = false -> v.ownBlock ≠ some k := fun k o hh hc e => by obtain ⟨cs, hcs⟩ := hO0.row k e; rw [hcs] at hh; cases hh; cases hc
   have hL3 : Rw gL W3 #[v2] 55 := hL2.set hs3 rfl
   have hne2 : ∀ k, v2.ownBlock = some k -> k ≠ gL := fun k hk e => by have := (hO2.own k hk).1; omega
   have hO3 : OwnE (fun b => b ≠ gL) W3 w7.heap.size v2 (pre.map nbE ++ [(Ni.nib k, x)]) := hO2.tou hs3.touch (by omega)
   have hS3 : SlB W3 v2 := fun k cur T fr hk hh => hS2 k cur T fr hk ((hs3.other (hne2 k hk)).symm.trans hh)
   refine Zqu ⟨by omega, fun q o hq ho hc => hko q o (by omega) (hnc q o ho hc) ho⟩ ⟨by omega, fun q cs T fr _ hU hP hh => hkk q cs T fr hU hP hh⟩ ⟨?_, ⟨v2, hL3, by rw [List.map_append]; exact hO3, hS3⟩, fun q cs T fr hq hh => ?_, by omega⟩
   ·refine Below.trans hB ⟨?_, ?_, ?_, by omega, fun q hq => ?_⟩
    ·rw [hs3.touch.os, Below.os hb2_, Below.os hWW]
    ·rw [hs3.touch.tape, Below.tape hb2_, Below.tape hWW]
    ·rw [hs3.touch.output, Below.output hb2_, Below.output hWW]
    ·exact (hs3.other (by omega)).trans ((Below.block hb2_ q (by omega)).trans (Below.block hWW q (by have := Below.size hB; omega)))
   ·exact hko q _ hq (fun e => by have := (hO0.own q e).1; have := lt_of_get hh; omega) (hkp q cs T fr hq hh)
  refine Zas 2 12 28 #[.slice a1 n1 c1] rfl (fun _ => by kernel_rfl) (fun _ => by kernel_rfl) (R := fun u w' => (∃ a', u = .slice a' (2 * n1) (2 * n1) /\ Ni.Cut w' (W.drew).heap.size a' (2 * n1) (Ni.nib k)) /\ Bl (W.drew) w') (((Ni.of_any a1 n1 c1 k (W.drew) hs1.ag (by omega)).mono (fun e w' ⟨⟨a', e1, e2⟩, e3⟩ => ⟨_, e1, ⟨a', rfl, e2⟩, e3⟩))) (fun _ _ _ => trivial) ?_ Zan
  rintro _ u3 ⟨⟨a3, rfl, hc3⟩, hb3⟩
  have hz3 := hWW.size
  replace hs1 := hs1.go hb3
  replace hs2 := hs2.go hb3
  replace hL := hL.go hb3
  replace hWW := hWW.go hb3
  have hp3 := Cut.skb hc3
  refine dt 4 14 (.agg #[.slice a3 (2 * n1) (2 * n1), .slice a2 n2 c2]) (fun v hv => (fun _ => by kernel_rfl)) trivial <| Zaf [0, 5] (by kernel_rfl) (by simp) ?_
  refine ar_v 0 10 v rfl (fun _ => by kernel_rfl) (fun _ => Zag 55 _ ⟨gL, 0, none⟩ _ _ rfl (by kernel_rfl) (by rw [cell_of_row _ _ _ _ _ _ hL]; rfl) Tryz.underlying55 rfl) trivial ?_ ?_
  ·skip
   refine Zaf [5] (by kernel_rfl) (by simp) ?_
   refine Zbx 5 15 #[.slice a3 (2 * n1) (2 * n1), .slice a2 n2 c2] 95 1 rfl (fun _ => by kernel_rfl) (fun _ => by kernel_rfl) (fun _ _ _ => trivial) ?_ Zan
   intro W1 gN hnN
   have hOw := hO0.far hWW
   have hSw := hS0.go hWW (fun k hk => (hO0.own k hk).2)
   have hP1 := PAt.oneE (K := fun b => w7.heap.size <= b /\ v.ownBlock ≠ some b) hnN ((hp3.nsl hSw).mono (fun b hb => ⟨by have := hb.1.1; omega, hb.2⟩)) ((hs2.nsl hSw).mono (fun b hb => ⟨by have := hb.1; omega, hb.2⟩)) ⟨by rw [hnN.hg]; have := hWW.size; omega, fun e => by have := (hOw.own gN e).2; have := hnN.hg; omega⟩
   have hO1 := hOw.far hnN.below
   have hS1 := hSw.go hnN.below (fun k hk => (hOw.own k hk).2)
   replace hs1 := hs1.go hnN.below
   replace hs2 := hs2.go hnN.below
   replace hL := hL.go hnN.below
   replace hWW := hWW.go hnN.below
   refine Zaf [6] (by kernel_rfl) (by simp) ?_
   obtain ⟨v2, W2, hr2, hO2, hS2, hb2_, hk2, hv2⟩ := Zyr hO1 hS1 hP1 (fun b hb => ⟨hb.2, by have := hb.1; omega⟩) (by omega) (by have := hWW.size; omega)
   refine ar_v 6 16 v2 rfl (fun _ => by kernel_rfl) (fun _ => Zei hr2 _ _ rfl (by kernel_rfl) (by kernel_rfl)) trivial ?_ Zan
   have hLo : v.ownBlock ≠ some gL := fun e => by have := (hO0.own gL e).1; omega
   have hL2 : Rw gL W2 #[v] 55 := (hk2 gL (lt_of_get hL) hLo).trans hL
   refine Zaf [7] (by kernel_rfl) (by simp) ?_
   refine Zb5 7 gL 0 v2 rfl (fun _ => by kernel_rfl) (fun _ => Zbu 55 _ _ gL 0 _ 55 _ hL2 rfl (by kernel_rfl) (by kernel_rfl) (by show 0 < 1; omega) hO2.cel hO2.one (by kernel_rfl)) (fun _ _ => trivial) ?_ Zan
   intro W3 hs3
   refine Zar (by kernel_rfl) <| Za4 ?_
   have hz3 : W3.heap.size = W2.heap.size := hs3.size
   have hz2 : W1.heap.size <= W2.heap.size := Below.size hb2_
   have hz1 : W.heap.size <= W1.heap.size := hWW.size
   have hkk : ∀ (k : Nat) (cs : Array Value) (T : TypeId) (fr : Nat × Nat), k ≠ gL -> Pr cs -> W.heap[k]? = some (Obj.cells cs T fr) -> W3.heap[k]? = some (Obj.cells cs T fr) := fun k cs T fr hk hP hh => ((hs3.other hk).trans ((hk2 k (Nat.lt_of_lt_of_le (lt_of_get hh) hz1) (fun e => Znd (hS0 k cs T fr e hh) hP)).trans (Below.block hWW k (lt_of_get hh)))).trans hh
   have hko : ∀ (k : Nat) (o : Obj), k ≠ gL -> v.ownBlock ≠ some k -> W.heap[k]? = some o -> W3.heap[k]? = some o := fun k o hk he hh => ((hs3.other hk).trans ((hk2 k (Nat.lt_of_lt_of_le (lt_of_get hh) hz1) he).trans (Below.block hWW k (lt_of_get hh)))).trans hh
   have hnc : ∀ (k : Nat) (o : Obj), W.heap[k]? = some o -> o.isCells = false -> v.ownBlock ≠ some k := fun k o hh hc e => by obtain ⟨cs, hcs⟩ := hO0.row k e; rw [hcs] at hh; cases hh; cases hc
   have hL3 : Rw gL W3 #[v2] 55 := hL2.set hs3 rfl
   have hne2 : ∀ k, v2.ownBlock = some k -> k ≠ gL := fun k hk e => by have := (hO2.own k hk).1; omega
   have hO3 : OwnE (fun b => b ≠ gL) W3 w7.heap.size v2 (pre.map nbE ++ [(Ni.nib k, x)]) := hO2.tou hs3.touch (by omega)
   have hS3 : SlB W3 v2 := fun k cur T fr hk hh => hS2 k cur T fr hk ((hs3.other (hne2 k hk)).symm.trans hh)
   refine Zqu ⟨by omega, fun q o hq ho hc => hko q o (by omega) (hnc q o ho hc) ho⟩ ⟨by omega, fun q cs T fr _ hU hP hh => hkk q cs T fr hU hP hh⟩ ⟨?_, ⟨v2, hL3, by rw [List.map_append]; exact hO3, hS3⟩, fun q cs T fr hq hh => ?_, by omega⟩
   ·refine Below.trans hB ⟨?_, ?_, ?_, by omega, fun q hq => ?_⟩
    ·rw [hs3.touch.os, Below.os hb2_, Below.os hWW]
    ·rw [hs3.touch.tape, Below.tape hb2_, Below.tape hWW]
    ·rw [hs3.touch.output, Below.output hb2_, Below.output hWW]
    ·exact (hs3.other (by omega)).trans ((Below.block hb2_ q (by omega)).trans (Below.block hWW q (by have := Below.size hB; omega)))
   ·exact hko q _ hq (fun e => by have := (hO0.own q e).1; have := lt_of_get hh; omega) (hkp q cs T fr hq hh)
  refine Zbx 5 15 #[.slice a3 (2 * n1) (2 * n1), .slice a2 n2 c2] 95 1 rfl (fun _ => by kernel_rfl) (fun _ => by kernel_rfl) (fun _ _ _ => trivial) ?_ Zan
  intro W1 gN hnN
  have hOw := hO0.far hWW
  have hSw := hS0.go hWW (fun k hk => (hO0.own k hk).2)
  have hP1 := PAt.oneE (K := fun b => w7.heap.size <= b /\ v.ownBlock ≠ some b) hnN ((hp3.nsl hSw).mono (fun b hb => ⟨by have := hb.1.1; omega, hb.2⟩)) ((hs2.nsl hSw).mono (fun b hb => ⟨by have := hb.1; omega, hb.2⟩)) ⟨by rw [hnN.hg]; have := hWW.size; omega, fun e => by have := (hOw.own gN e).2; have := hnN.hg; omega⟩
  have hO1 := hOw.far hnN.below
  have hS1 := hSw.go hnN.below (fun k hk => (hOw.own k hk).2)
  replace hs1 := hs1.go hnN.below
  replace hs2 := hs2.go hnN.below
  replace hL := hL.go hnN.below
  replace hWW := hWW.go hnN.below
  refine Zaf [0] (by kernel_rfl) (by simp) ?_
  refine ar_v 0 10 v rfl (fun _ => by kernel_rfl) (fun _ => Zag 55 _ ⟨gL, 0, none⟩ _ _ rfl (by kernel_rfl) (by rw [cell_of_row _ _ _ _ _ _ hL]; rfl) Tryz.underlying55 rfl) trivial ?_ Zan
  refine Zaf [6] (by kernel_rfl) (by simp) ?_
  obtain ⟨v2, W2, hr2, hO2, hS2, hb2_, hk2, hv2⟩ := Zyr hO1 hS1 hP1 (fun b hb => ⟨hb.2, by have := hb.1; omega⟩) (by omega) (by have := hWW.size; omega)
  refine ar_v 6 16 v2 rfl (fun _ => by kernel_rfl) (fun _ => Zei hr2 _ _ rfl (by kernel_rfl) (by kernel_rfl)) trivial ?_ Zan
  have hLo : v.ownBlock ≠ some gL := fun e => by have := (hO0.own gL e).1; omega
  have hL2 : Rw gL W2 #[v] 55 := (hk2 gL (lt_of_get hL) hLo).trans hL
  refine Zaf [7] (by kernel_rfl) (by simp) ?_
  refine Zb5 7 gL 0 v2 rfl (fun _ => by kernel_rfl) (fun _ => Zbu 55 _ _ gL 0 _ 55 _ hL2 rfl (by kernel_rfl) (by kernel_rfl) (by show 0 < 1; omega) hO2.cel hO2.one (by kernel_rfl)) (fun _ _ => trivial) ?_ Zan
  intro W3 hs3
  refine Zar (by kernel_rfl) <| Za4 ?_
  have hz3 : W3.heap.size = W2.heap.size := hs3.size
  have hz2 : W1.heap.size <= W2.heap.size := Below.size hb2_
  have hz1 : W.heap.size <= W1.heap.size := hWW.size
  have hkk : ∀ (k : Nat) (cs : Array Value) (T : TypeId) (fr : Nat × Nat), k ≠ gL -> Pr cs -> W.heap[k]? = some (Obj.cells cs T fr) -> W3.heap[k]? = some (Obj.cells cs T fr) := fun k cs T fr hk hP hh => ((hs3.other hk).trans ((hk2 k (Nat.lt_of_lt_of_le (lt_of_get hh) hz1) (fun e => Znd (hS0 k cs T fr e hh) hP)).trans (Below.block hWW k (lt_of_get hh)))).trans hh
  have hko : ∀ (k : Nat) (o : Obj), k ≠ gL -> v.ownBlock ≠ some k -> W.heap[k]? = some o -> W3.heap[k]? = some o := fun k o hk he hh => ((hs3.other hk).trans ((hk2 k (Nat.lt_of_lt_of_le (lt_of_get hh) hz1) he).trans (Below.block hWW k (lt_of_get hh)))).trans hh
  have hnc : ∀ (k : Nat) (o : Obj), W.heap[k]? = some o -> o.isCells = false -> v.ownBlock ≠ some k := fun k o hh hc e => by obtain ⟨cs, hcs⟩ := hO0.row k e; rw [hcs] at hh; cases hh; cases hc
  have hL3 : Rw gL W3 #[v2] 55 := hL2.set hs3 rfl
  have hne2 : ∀ k, v2.ownBlock = some k -> k ≠ gL := fun k hk e => by have := (hO2.own k hk).1; omega
  have hO3 : OwnE (fun b => b ≠ gL) W3 w7.heap.size v2 (pre.map nbE ++ [(Ni.nib k, x)]) := hO2.tou hs3.touch (by omega)
  have hS3 : SlB W3 v2 := fun k cur T fr hk hh => hS2 k cur T fr hk ((hs3.other (hne2 k hk)).symm.trans hh)
  refine Zqu ⟨by omega, fun q o hq ho hc => hko q o (by omega) (hnc q o ho hc) ho⟩ ⟨by omega, fun q cs T fr _ hU hP hh => hkk q cs T fr hU hP hh⟩ ⟨?_, ⟨v2, hL3, by rw [List.map_append]; exact hO3, hS3⟩, fun q cs T fr hq hh => ?_, by omega⟩
  ·refine Below.trans hB ⟨?_, ?_, ?_, by omega, fun q hq => ?_⟩
   ·rw [hs3.touch.os, Below.os hb2_, Below.os hWW]
   ·rw [hs3.touch.tape, Below.tape hb2_, Below.tape hWW]
   ·rw [hs3.touch.output, Below.output hb2_, Below.output hWW]
   ·exact (hs3.other (by omega)).trans ((Below.block hb2_ q (by omega)).trans (Below.block hWW q (by have := Below.size hB; omega)))
  ·exact hko q _ hq (fun e => by have := (hO0.own q e).1; have := lt_of_get hh; omega) (hkp q cs T fr hq hh)
 intro D W hD hIv hdd
 have hB7 := hB
 obtain ⟨hB, ⟨v, hL, hO, hS⟩, hkp, hsz⟩ := hIv
 obtain ⟨aV, cV, vsV, rfl, _⟩ := OwnE.pat hO
 rw [List.length_map] at hL
 refine Za4 <| Zab <| Zac <| Zaa <| rv 17 (.slice aV L.length cV) (fun _ => Zag 55 _ ⟨gL, 0, none⟩ _ _ rfl (by kernel_rfl) (by rw [cell_of_row _ _ _ _ _ _ hL]; rfl) Tryz.underlying55 rfl) <| rp 2 (.slice aV L.length cV) <| Zad <| Zab <| Zam ?_
 have hO' := hO.cells (w' := W.putObj D (.deferred none)) (by simp) (fun k cs T fr hh => (World.putObj_heap_other (fun e => by subst e; rw [hdd] at hh; cases hh)).trans hh)
 obtain ⟨a', c', vs', e', hPt⟩ := OwnE.pat hO'
 cases e'
 rw [List.length_map] at hPt
 exact Zk0 hdd (.slice aV L.length cV) (fun _ => by kernel_rfl) ⟨_, rfl, ⟨aV, cV, vs', rfl, hPt.mono (fun _ _ => trivial)⟩, Below.grown hB (grownBy_putObj' _ _ _) hB.size (fun k e => by cases e; exact Nat.le_trans hB7.size hD)⟩
end Go.Proofs.YtefhepcplempkaaGreat
