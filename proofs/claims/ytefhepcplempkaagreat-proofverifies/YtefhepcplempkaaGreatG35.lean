/- Every Verify is what the document says; what is handed in stays as it is. -/
import Derived.Test.YtefhepcplempkaaGreatG29
import Derived.Test.YtefhepcplempkaaGreatG34
import Derived.Test.YtefhepcplempkaaGreatG01
import Derived.ProofKit
import Derived.OpenShut
import Derived.ShutString
import Derived.ChangeOld
import Derived.SizedLaws
import Derived.Test.YtefhepcplempkaaGreatG10
import Derived.Test.YtefhepcplempkaaGreatG03
import Derived.Test.YtefhepcplempkaaGreatG18
set_option linter.unusedVariables false
set_option maxRecDepth 100000
namespace Go.Proofs.YtefhepcplempkaaGreat
open Go.RowKit
open Tr
open Di (dref)
structure Sft (w : World) (g o n : Nat) : Prop where
 c : ∀ j, j < n -> ∃ x : Int, w.cell? ⟨g, o + j, none⟩ = some (.int .u8 x)
 f : ∀ q, w.frozen? ⟨g, q, none⟩ = false
theorem Sft.set {w w' : World} {g o n i : Nat} (h : Sft w g o n) (hi : i < n) {x : Int} (hs : Set1 w w' g (o + i) (.int .u8 x)) : Sft w' g o n := by
 refine ⟨fun j hj => ?_, fun q => by rw [hs.hw, World.frozen?_setCell]; exact h.f q⟩
 rw [hs.hw]
 by_cases e : j = i
 ·subst e
  obtain ⟨y, hy⟩ := h.c j hj
  exact ⟨x, World.cell?_setCell_same _ _ _ hy⟩
 ·obtain ⟨y, hy⟩ := h.c j hj
  exact ⟨y, by rw [World.cell?_setCell_other _ _ _ _ (by intro q; injection q with _ q2; omega)]; exact hy⟩
theorem Sft.of {K : Nat -> Prop} {w : World} {g o n c : Nat} {bs : List Int} (h : Sk K w (some ⟨g, o, none⟩) n c bs) (h0 : 0 < n) (hf : ∀ q, w.frozen? ⟨g, q, none⟩ = false) : Sft w g o n := by
 refine ⟨fun j hj => ?_, hf⟩
 rcases h.ag.i with ⟨q, _⟩ | ⟨gb, off, e, hl, _, _, _, hc⟩
 ·omega
 ·cases e
  exact ⟨_, hc j (by omega)⟩
theorem Ztm {ρ : Operand -> Value} {w : World} {o : Oper} {x y : Operand} {g k : Nat} {z old : Int} (ho : o.op = .store 5 x y) (hx : ρ x = .pointer (some ⟨g, k, none⟩)) (hy : ρ y = .int .u8 z) (hc : w.cell? ⟨g, k, none⟩ = some (.int .u8 old)) (hf : ∀ q, w.frozen? ⟨g, q, none⟩ = false) :
  (execOp ρ o).run Tryz.prog w = .ok .skip (w.setCell ⟨g, k, none⟩ (.int .u8 z)) := by
 unfold execOp
 rw [ho]
 simp only [hx, hy]
 go_simp
set_option maxHeartbeats 4000000 in
theorem Zom {K1 : Nat -> Prop} {w : World} {d : List Int} {a al : Option Addr} {n c nl cl : Nat} {k : List Int} {M : List (List Int)} (hd : d.length = 32) (hdb : isB d) (hk : Sk K1 w a n c k) (hL : Bt (fun _ => True) w al nl M) (hle : nl <= 5864062014700) (hnc : nl <= cl) (hM : ∀ b ∈ M, b.length <= 140737488351232) :
  Calls Tryz.prog 4 #[.agg (B8 d), .slice a n c, .slice al nl cl] w fun e w' => ∃ u, e = .returned u /\ (fun u w' => u = .bool true /\ Bl w w') u w' := by
 have hB := Bl.refl w
 obtain ⟨A, hA⟩ : ∃ A, vfP d k M = A := ⟨_, rfl⟩
 refine Zat Tryz.func4 rfl 64 rfl ?_
 show CW _ _ _ _ _ _ _ [(0, .agg (B8 d)), (1, .slice a n c), (2, .slice al nl cl)] _
 refine Zac <| Zaa <| Zbk 3 (B8 d) 35 (fun _ => by kernel_rfl) (fun _ => by kernel_rfl) ?_
 intro w1 gD hnD
 have hD1 : Rw gD w1 (B8 d) 35 := hnD.row
 replace hB := hB.go hnD.below
 replace hk := hk.go hnD.below
 replace hL := hL.go hnD.below
 refine rp 6 (.bool false) <| Zad <| Zab <| Zac <| Zaa <| rp 15 (.slice al nl cl) <| Zav 16 16 #[.slice al nl cl] (fun _ => by kernel_rfl) (fun _ => by kernel_rfl) (R := fun u w' => OwnS w' w1.heap.size u M /\ Bl w1 w') (Zwz hL hM hle) ?_
 rintro vC u7 ⟨hO, hb7⟩
 replace hB := hB.go hb7
 replace hk := hk.go hb7
 replace hL := hL.go hb7
 replace hD1 := hD1.go hb7
 obtain ⟨aG, cG, eG, hG, hcG⟩ := hO.bt
 subst eG
 have hL7 := hL
 have hG7 := hG
 have hV := Bl.refl u7
 refine rp 7 (.slice aG M.length cG) <| Zad <| Zab <| Zac <| Zaa <| rv 18 (.agg (B8 d)) (fun _ => Zcf 35 _ _ _ _ _ _ rfl (by kernel_rfl) hD1 Tryz.underlying35 rfl (Zc2 hd)) <| rp 19 (.slice a n c) <| rp 20 (.slice aG M.length cG) <| Zav 21 17 #[.agg (B8 d), .slice a n c, .slice aG M.length cG] (fun _ => by kernel_rfl) (fun _ => by kernel_rfl) (R := VfR u7 A) ((by rw [<- hA]; exact Zfv hd hdb hk hG hcG hM)) ?_
 rintro _ u8 ⟨⟨a4, n4, c4, rfl, hs4⟩, hb8⟩
 replace hB := hB.go hb8
 replace hk := hk.go hb8
 replace hL := hL.go hb8
 replace hD1 := hD1.go hb8
 replace hV := hV.go hb8
 have hs48 := hs4
 have hV8 := Bl.refl u8
 refine rp 17 (.tuple #[.slice a4 n4 c4, .bool (decide (0 < n4)), .int .i64 A.1]) <| rp 22 (.slice a4 n4 c4) <| rp 23 (.bool (decide (0 < n4))) <| rp 24 (.int .i64 A.1) <| rp 8 (.slice a4 n4 c4) <| rp 9 (.bool (decide (0 < n4))) <| rp 10 (.int .i64 A.1) <| Zad <| Zab <| Zac <| Zaa <| rv 26 (.agg (B8 d)) (fun _ => Zcf 35 _ _ _ _ _ _ rfl (by kernel_rfl) hD1 Tryz.underlying35 rfl (Zc2 hd)) ?_
 refine rp 27 (.slice a n c) <| rp 28 (.slice al nl cl) <| Zav 29 18 #[.agg (B8 d), .slice a n c, .slice al nl cl] (fun _ => by kernel_rfl) (fun _ => by kernel_rfl) (R := VfD u8 A) ((by rw [<- hA]; exact Zmg hd hdb hk hL hnc hM)) ?_
 rintro _ u9 ⟨⟨a5, n5, c5, rfl, hs5⟩, hb9⟩
 replace hB := hB.go hb9
 replace hk := hk.go hb9
 replace hL := hL.go hb9
 replace hD1 := hD1.go hb9
 replace hV := hV.go hb9
 replace hV8 := hV8.go hb9
 replace hs4 := hs4.go hb9
 have l4 := hs4.len
 have l5 := hs5.len
 obtain rfl : n4 = n5 := by omega
 refine rp 25 (.tuple #[.slice a5 n4 c5, .bool (decide (0 < n4)), .int .i64 A.1]) <| rp 30 (.slice a5 n4 c5) <| rp 31 (.bool (decide (0 < n4))) <| rp 32 (.int .i64 A.1) <| rp 11 (.slice a5 n4 c5) <| rp 12 (.bool (decide (0 < n4))) <| rp 13 (.int .i64 A.1) <| Zad <| Zab <| Zac <| Zac <| Zaa ?_
 refine Zav 33 9 #[] (fun _ => by kernel_rfl) (fun _ => by kernel_rfl) (R := fun u w' => u = .bool true /\ Bl (u9) w') (Zpr) ?_
 rintro _ u10 ⟨rfl, hb10⟩
 replace hB := hB.go hb10
 replace hk := hk.go hb10
 replace hL := hL.go hb10
 replace hD1 := hD1.go hb10
 replace hV := hV.go hb10
 replace hV8 := hV8.go hb10
 replace hs4 := hs4.go hb10
 replace hs5 := hs5.go hb10
 refine rp 34 (.bool false) <| rp 35 (.bool false) <| rp 36 (.bool (decide (0 < n4))) <| rp 37 (.bool (decide (0 < n4))) <| rv 38 (.bool false) (fun _ => Zaq (v := .bool (!(decide (0 < n4) == decide (0 < n4)))) (by kernel_rfl) (congrArg Value.bool (by simp))) <| rp 39 (.bool false) <| rp 40 (.bool false) <| rp 41 (.int .i64 A.1) <| rp 42 (.int .i64 A.1) <| rv 43 (.bool false) (fun _ => Zaq (v := .bool (!((A.1 : Int) == (A.1 : Int)))) (by kernel_rfl) (congrArg Value.bool (by simp))) <| rp 44 (.bool false) <| rp 45 (.bool false) ?_
 refine rp 46 (.slice a4 n4 c4) <| rv 47 (.string (strOfNums A.2)) (fun _ => hs4.run_str _ _ _ rfl (by kernel_rfl)) <| rp 48 (.slice a5 n4 c5) <| rv 49 (.string (strOfNums A.2)) (fun _ => hs5.run_str _ _ _ rfl (by kernel_rfl)) <| rv 50 (.bool false) (fun _ => Zaq (Zuz 9 _ _ _ _ _ rfl (by kernel_rfl) (by kernel_rfl) (congrArg Bool.not (Zhi hs4.ag.b hs5.ag.b))) (congrArg Value.bool (by simp))) <| rp 51 (.bool false) <| Zad <| Zab <| Zag (fun _ => by kernel_rfl) <| Zar <| Zab <| Zac ?_
 refine Zac <| Zaa <| rp 52 (.slice a4 n4 c4) <| rp 53 (.int .i64 n4) <| rp 54 (.int .i64 0) <| Zad <| Zab <| Zbc ?_
 rcases Nat.eq_zero_or_pos n4 with h0 | h0
 ·skip
  refine Ze6 (X := Nat) (fun q => [(54, .int .i64 ((q : Nat) : Int)), (53, .int .i64 n4), (8, .slice a4 n4 c4), (7, .slice aG M.length cG), (2, .slice al nl cl)]) (fun q v => Bl w v /\ Bl u7 v) (fun q => 0) 0 (by exact ⟨fun _ => by kernel_rfl, ⟨fun _ => by kernel_rfl, ⟨fun _ => by kernel_rfl, ⟨fun _ => by kernel_rfl, ⟨fun _ => by kernel_rfl, trivial⟩⟩⟩⟩⟩) ⟨hB, hV⟩ ?_
  rintro j v ⟨hB, hV⟩
  show CW _ _ _ _ _ _ _ [(54, .int .i64 ((j : Nat) : Int)), (53, .int .i64 n4), (8, .slice a4 n4 c4), (7, .slice aG M.length cG), (2, .slice al nl cl)] _
  refine Zac <| Zaa <| rv 55 (.bool false) (fun _ => Zaq (v := .bool (decide (((j : Nat) : Int) < (n4 : Int)))) (by kernel_rfl) (congrArg Value.bool (decide_eq_false (by omega)))) <| Zad <| Zab <| Zac <| Zag (fun _ => by kernel_rfl) <| Ze7 <| Za1 <| Za1 <| Zbw <| Zab ?_
  refine Zac <| Zaa <| rp 61 (.slice aG M.length cG) <| rp 62 (.slice al nl cl) <| Zav 63 13 #[.slice aG M.length cG, .slice al nl cl] (fun _ => by kernel_rfl) (fun _ => by kernel_rfl) (R := fun u w' => u = .bool true /\ Bl (v) w') (((Zhj (hG7.go hV) (hL7.go hV) (by have := hL7.len; omega)).mono (fun e w' ⟨u, e1, e2, e3⟩ => ⟨u, e1, by rw [e2]; simp, e3⟩))) ?_
  rintro _ u11 ⟨rfl, hb11⟩
  replace hB := hB.go hb11
  replace hV := hV.go hb11
  refine rp 6 (.bool true) <| Zad <| Zab <| Zao ?_
  exact Zae (.bool true) (fun _ => by kernel_rfl) ⟨_, rfl, rfl, hB⟩
 ·skip
  obtain ⟨g4, o4, rfl, hg4, hf4, hmx⟩ : ∃ g o, a4 = some ⟨g, o, none⟩ /\ u7.heap.size <= g /\ (∀ q, u8.frozen? ⟨g, q, none⟩ = false) /\ n4 <= maxLen := by
   rcases hs48.ag.i with ⟨q, _⟩ | ⟨g, o, e, _, _, hm1, hm2, _⟩
   ·omega
   ·exact ⟨g, o, e, (hs48.k _ e h0).1, (hs48.k _ e h0).2, Nat.le_trans hm1 hm2⟩
  unfold maxLen at hmx
  have hg8 : g4 < u8.heap.size := hs48.old rfl h0
  have hSf : Sft u10 g4 o4 n4 := Sft.of hs4 h0 (fun q => (World.frozen?_of_block (w := u8) (Below.block hV8 g4 hg8)).trans (hf4 q))
  have hzw : w.heap.size <= u7.heap.size := by have := hb7.size; have := hnD.below.size; omega
  refine Ze6 (X := Nat) (fun q => [(54, .int .i64 ((q : Nat) : Int)), (53, .int .i64 n4), (8, .slice (some ⟨g4, o4, none⟩) n4 c4), (7, .slice aG M.length cG), (2, .slice al nl cl)]) (fun q v => Bl w v /\ Bl u7 v /\ Sft v g4 o4 n4 /\ q <= n4) (fun q => n4 - q) 0 (by exact ⟨fun _ => by kernel_rfl, ⟨fun _ => by kernel_rfl, ⟨fun _ => by kernel_rfl, ⟨fun _ => by kernel_rfl, ⟨fun _ => by kernel_rfl, trivial⟩⟩⟩⟩⟩) ⟨hB, hV, hSf, Nat.zero_le _⟩ ?_
  clear hB hV hSf
  rintro j v ⟨hB, hV, hSf, hj⟩
  show CW _ _ _ _ _ _ _ [(54, .int .i64 ((j : Nat) : Int)), (53, .int .i64 n4), (8, .slice (some ⟨g4, o4, none⟩) n4 c4), (7, .slice aG M.length cG), (2, .slice al nl cl)] _
  by_cases hlt : j < n4
  ·skip
   refine Zac <| Zaa <| rv 55 (.bool true) (fun _ => Zaq (v := .bool (decide (((j : Nat) : Int) < (n4 : Int)))) (by kernel_rfl) (congrArg Value.bool (decide_eq_true (by omega)))) <| Zad <| Zab <| Zac <| Zam (fun _ => by kernel_rfl) <| Zar <| Zab <| Zac <| Zbc <| Zac ?_
   refine Zaa <| rp 56 (.int .i64 ((j : Nat) : Int)) <| rp 14 (.int .i64 ((j : Nat) : Int)) <| Zad <| Zab <| Zaa <| rp 57 (.slice (some ⟨g4, o4, none⟩) n4 c4) <| rp 58 (.int .i64 ((j : Nat) : Int)) <| rv 59 (.pointer (some ⟨g4, o4 + j * 1, none⟩)) (fun _ => Zbt 23 _ _ g4 o4 j n4 c4 1 5 rfl (by kernel_rfl) (by kernel_rfl) hlt Tryz.underlying23 (by kernel_rfl)) ?_
   obtain ⟨x4, hx4⟩ := hSf.c j hlt
   refine Zvw g4 (o4 + j * 1) (.int .u8 99) (fun _ => by kernel_rfl) (fun _ => Ztm (old := x4) rfl (by kernel_rfl) (by kernel_rfl) (by rw [Nat.mul_one]; exact hx4) hSf.f) ?_
   intro v2 hs2
   replace hB : Bl w v2 := hs2.touch.below hB (by omega) hB.size
   replace hV : Bl u7 v2 := hs2.touch.below hV hg4 hV.size
   rw [Nat.mul_one] at hs2
   replace hSf := hSf.set hlt hs2
   refine Zad <| Zbf <| Zab <| Zaa <| rv 60 (.int .i64 (((j : Nat) : Int) + 1)) (fun _ => Zaq (v := .int .i64 (IntKind.i64.wrap (((j : Nat) : Int) + 1))) (by kernel_rfl) (congrArg (Value.int .i64) (Ziv (by omega) (by omega)))) <| rp 54 (.int .i64 (((j : Nat) : Int) + 1)) <| Zad ?_
   exact Zdv (E := fun q => [(54, .int .i64 ((q : Nat) : Int)), (53, .int .i64 n4), (8, .slice (some ⟨g4, o4, none⟩) n4 c4), (7, .slice aG M.length cG), (2, .slice al nl cl)]) (R := fun q v => Bl w v /\ Bl u7 v /\ Sft v g4 o4 n4 /\ q <= n4) (μ := fun q => n4 - q) (x := j) (j + 1) (by exact ⟨fun _ => by kernel_rfl, ⟨fun _ => by kernel_rfl, ⟨fun _ => by kernel_rfl, ⟨fun _ => by kernel_rfl, ⟨fun _ => by kernel_rfl, trivial⟩⟩⟩⟩⟩) ⟨hB, hV, hSf, hlt⟩ (by omega)
  refine Zac <| Zaa <| rv 55 (.bool false) (fun _ => Zaq (v := .bool (decide (((j : Nat) : Int) < (n4 : Int)))) (by kernel_rfl) (congrArg Value.bool (decide_eq_false (by omega)))) <| Zad <| Zab <| Zac <| Zag (fun _ => by kernel_rfl) <| Ze7 <| Za1 <| Za1 <| Zbw <| Zab ?_
  refine Zac <| Zaa <| rp 61 (.slice aG M.length cG) <| rp 62 (.slice al nl cl) <| Zav 63 13 #[.slice aG M.length cG, .slice al nl cl] (fun _ => by kernel_rfl) (fun _ => by kernel_rfl) (R := fun u w' => u = .bool true /\ Bl (v) w') (((Zhj (hG7.go hV) (hL7.go hV) (by have := hL7.len; omega)).mono (fun e w' ⟨u, e1, e2, e3⟩ => ⟨u, e1, by rw [e2]; simp, e3⟩))) ?_
  rintro _ u11 ⟨rfl, hb11⟩
  replace hB := hB.go hb11
  replace hV := hV.go hb11
  refine rp 6 (.bool true) <| Zad <| Zab <| Zao ?_
  exact Zae (.bool true) (fun _ => by kernel_rfl) ⟨_, rfl, rfl, hB⟩
theorem Zku {K1 : Nat -> Prop} (d : List Int) (a : Option Addr) (n c : Nat) (k : List Int) (al : Option Addr) (nl cl : Nat) (M : List (List Int)) (w : World) (hd : d.length = 32) (hdb : isB d) (hk : Sk K1 w a n c k) (hL : Bt (fun _ => True) w al nl M) (hle : nl <= 5864062014700) (hnc : nl <= cl) (hM : ∀ b ∈ M, b.length <= 140737488351232) :
  Calls Tryz.prog 4 #[.agg (B8 d), .slice a n c, .slice al nl cl] w fun e w' => e = .returned (.bool true) /\ Below w.heap.size w w' :=
 (Zom hd hdb hk hL hle hnc hM).mono (fun e w' ⟨u, e1, e2, e3⟩ => ⟨by rw [e1, e2], e3⟩)
end Go.Proofs.YtefhepcplempkaaGreat
namespace Go.Proofs.YtefhepcplempkaaGreat
open Go.ChangeShapes Go.WideShapes Go.ChangeAt Go.RowKit
open Go.ChangeMaps (open_string shut_string)
theorem own : ownKnob Tryz.prog.godebug = none := by kernel_rfl
theorem Zms : laidOutB Tryz.prog = true := by kernel_rfl
theorem Zsf : Tryz.prog.cellsOf 5 = 1 := by kernel_rfl
theorem Zvb : Tryz.prog.bytesOf 5 = 1 := by kernel_rfl
theorem Zo2 {H : Type} {enc : TypeId × Value -> H} {w : World} {base b0 : Nat} {r : Reach} {held : Bool} {v : Value} {d : DataW H} {p : List MemPlace}
  (hv : Value.okWide Tryz.prog w r b0 23 v) (h : DataW.Trod enc Tryz.prog w base (fun _ => true) held 23 v d p)
  (hsz : ∀ elems spare, d = .slice elems spare -> (elems.length + spare.length) * Tryz.prog.bytesOf 5 <= reachBytes) :
  ∃ a len cap bs, v = .slice a len cap /\ In0 w a len cap bs /\ (a = none -> len = 0 /\ cap = 0) /\ bs.length = len /\ (∀ x ∈ bs, 0 <= x /\ x < 256) /\ len <= 140737488351232 := by
 obtain ⟨a, len, cap, rfl⟩ := okWide_slice Tryz.underlying23 hv
 obtain ⟨fuel, hf⟩ := h
 rcases open_ints Tryz.underlying23 Tryz.underlying5 Zsf hf with ⟨hcs, _⟩ | ⟨x, l, c, zs, hcs, _, hl, hm, hz, hx, hcell, hwz⟩
 ·simp [Value.cells] at hcs
  obtain ⟨rfl, rfl, rfl⟩ := hcs
  exact ⟨none, 0, 0, [], rfl, .inl ⟨rfl, rfl⟩, fun _ => ⟨rfl, rfl⟩, rfl, (fun x hx => by cases hx), by omega⟩
 ·simp [Value.cells] at hcs
  obtain ⟨rfl, rfl, rfl⟩ := hcs
  have hz2 : zs.length = cap := by simpa using hz
  have hsz2 := hsz _ _ (Prod.mk.inj hx).1
  rw [Zvb] at hsz2
  simp only [lits, List.length_map, List.length_take, List.length_drop, reachBytes] at hsz2
  have hlen : (zs.take len).length = len := by rw [List.length_take]; omega
  have hbd : ∀ n ∈ zs.take len, 0 <= n /\ n < 256 := fun n hn => by
   have := bounds_u8 (hwz n (List.mem_of_mem_take hn))
   omega
  refine ⟨some x, len, cap, zs.take len, rfl, ?_, (fun h => by cases h), hlen, hbd, by omega⟩
  by_cases h0 : len = 0
  ·subst h0
   exact .inl ⟨rfl, by simp⟩
  ·obtain ⟨b, off, spot⟩ := x
   have hc := hcell 0 (by omega)
   have hspot : spot = none := by simpa [Addr.add] using World.cell?_spot hc
   subst hspot
   refine .inr ⟨b, off, rfl, hlen, by omega, hl, hm, fun j hj => ?_⟩
   rw [hlen] at hj
   have := hcell j (by omega)
   rw [Zaz] at this
   rw [this, List.getD, List.getD, List.getElem?_take_of_lt hj]
theorem Zv8 {H : Type} {enc : TypeId × Value -> H} {w : World} {base b0 : Nat} {r : Reach} {held : Bool} {v : Value} {d : DataW H} {p : List MemPlace}
  (hv : Value.okWide Tryz.prog w r b0 23 v) (h : DataW.Trod enc Tryz.prog w base (fun _ => true) held 23 v d p)
  (hsz : ∀ elems spare, d = .slice elems spare -> (elems.length + spare.length) * Tryz.prog.bytesOf 5 <= reachBytes) :
  ∃ a len cap bs, v = .slice a len cap /\ Ag w a len cap bs /\ len <= 140737488351232 := by
 obtain ⟨a, len, cap, bs, h1, h2, h3, h4, h5, h6⟩ := Zo2 hv h hsz
 exact ⟨a, len, cap, bs, h1, ⟨h2, h3, h4, h5⟩, h6⟩
end Go.Proofs.YtefhepcplempkaaGreat
namespace Go.Proofs.YtefhepcplempkaaGreat
open Go.ChangeShapes Go.WideShapes Go.ChangeAt Go.RowKit
theorem Zyf : Tryz.prog.cellsOf 35 = 32 := by kernel_rfl
theorem Zyg : Tryz.prog.cellsOf 23 = 1 := by kernel_rfl
section
variable {H : Type} {enc : TypeId × Value → H} {w : World} {held : Bool}
theorem Ztl {fuel : Nat} {cs : List Value} {x : DataW H × List MemPlace} (hf : DataW.trod enc Tryz.prog w 0 (fun _ => true) held fuel 23 cs = some x)
  (hsz : ∀ n ∈ x.1.weights Tryz.prog 23, n <= reachBytes) : ∃ a len cap bs, cs = [.slice a len cap] /\ Ag w a len cap bs /\ len <= 140737488351232 := by
 rcases open_ints Tryz.underlying23 Tryz.underlying5 Zsf hf with ⟨hcs, _⟩ | ⟨p, len, cap, zs, hcs, _, hl, hm, hz, hx, hcell, hwz⟩
 ·exact ⟨none, 0, 0, [], hcs, ⟨.inl ⟨rfl, rfl⟩, fun _ => ⟨rfl, rfl⟩, rfl, fun x hx => by cases hx⟩, by omega⟩
 ·have hz2 : zs.length = cap := by simpa using hz
  have hsz2 := hsz ((zs.take len).length + (zs.drop len).length) (by
   rw [hx]
   simp only [DataW.weights, Tryz.underlying23, lits, List.length_map, Zvb, Nat.mul_one]
   exact List.mem_cons_self ..)
  simp only [List.length_take, List.length_drop, reachBytes] at hsz2
  have hlen : (zs.take len).length = len := by rw [List.length_take]; omega
  have hbd : ∀ n ∈ zs.take len, 0 <= n /\ n < 256 := fun n hn => by
   have := bounds_u8 (hwz n (List.mem_of_mem_take hn))
   omega
  refine ⟨some p, len, cap, zs.take len, hcs, ⟨?_, (fun h => by cases h), hlen, hbd⟩, by omega⟩
  by_cases h0 : len = 0
  ·subst h0
   exact .inl ⟨rfl, by simp⟩
  ·obtain ⟨b, off, spot⟩ := p
   have hc := hcell 0 (by omega)
   have hspot : spot = none := by simpa [Addr.add] using World.cell?_spot hc
   subst hspot
   refine .inr ⟨b, off, rfl, hlen, by omega, hl, hm, fun j hj => ?_⟩
   rw [hlen] at hj
   have := hcell j (by omega)
   rw [Zaz] at this
   rw [this, List.getD, List.getD, List.getElem?_take_of_lt hj]
theorem Zhb {e : TypeId} : ∀ {ds : List (DataW H)} {d : DataW H}, d ∈ ds -> ∀ n ∈ d.weights Tryz.prog e, n ∈ DataW.weightsAll Tryz.prog e ds
 | [], d, h, _, _ => by cases h
 | d0 :: r, d, h, n, hn => by
  rw [DataW.weightsAll, List.mem_append]
  rcases List.mem_cons.1 h with rfl | h
  ·exact .inl hn
  ·exact .inr (Zhb h n hn)
end
theorem Zs7 {H : Type} {ts : List TypeId} {ds : List (DataW H)} (h : (DataW.weightsEach Tryz.prog ts ds).all (· <= reachBytes) = true) {j : Nat} {t : TypeId} {d : DataW H} (ht : ts[j]? = some t) (hd : ds[j]? = some d) : ∀ n ∈ d.weights Tryz.prog t, n <= reachBytes := by
 intro n hn
 have := List.all_eq_true.1 h n (DataW.weights_mem_each ht hd n hn)
 simpa using this
theorem Zo3 {P : Program} {w : World} {r : Reach} {base : Nat} {t n e : TypeId} {v : Value} (ht : P.underlying t = some (.array n e)) (h : Value.okWide P w r base t v) : ∃ cs, v = .agg cs /\ cs.size = P.cellsOf t := by
 simp only [Value.okWide, ht] at h
 obtain ⟨cs, h1, h2, _⟩ := h
 exact ⟨cs, h1, h2⟩
theorem Ztj {H : Type} {enc : TypeId × Value -> H} {w : World} {base b0 : Nat} {r : Reach} {spare : Nat -> Bool} {held : Bool} {v : Value} {d : DataW H} {p : List MemPlace}
  (hv : Value.okWide Tryz.prog w r b0 35 v) (h : DataW.Trod enc Tryz.prog w base spare held 35 v d p) : ∃ xs : List Int, v = .agg (B8 xs) /\ xs.length = 32 /\ ∀ x ∈ xs, 0 <= x /\ x < 256 := by
 obtain ⟨cs, rfl, hsz⟩ := Zo3 Tryz.underlying35 hv
 rw [Zyf] at hsz
 obtain ⟨fuel, hf⟩ := h
 obtain ⟨ys, m, _, _, hlen, hyl, hel⟩ := DataW.trod_array Tryz.underlying35 hf
 have hc : ∀ i, i < 32 -> ∃ n : Int, cs.toList[i]? = some (.int .u8 n) /\ 0 <= n /\ n < 256 := by
  intro i hi
  have hy : i < ys.length := by omega
  have e := hel i hi
  rw [Zsf, List.getElem?_eq_getElem hy, Nat.mul_one] at e
  obtain ⟨n, hn, _, hwf⟩ := DataW.trod_int Tryz.underlying5 e
  have hcells : (Value.agg cs).cells.toList = cs.toList := by simp [Value.cells]
  rw [hcells] at hn
  have h0 : ((cs.toList.drop i).take 1)[0]? = some (.int .u8 n) := by rw [hn]; rfl
  rw [List.getElem?_take_of_lt (by omega), List.getElem?_drop] at h0
  exact ⟨n, by simpa using h0, by have := bounds_u8 hwf; omega, by have := bounds_u8 hwf; omega⟩
 refine ⟨cs.toList.map fun v => match v with | .int _ n => n | _ => 0, ?_, by simp [hsz], ?_⟩
 ·congr 1
  apply Array.ext'
  unfold B8
  apply List.ext_getElem
  ·simp
  ·intro i h1 h2
   obtain ⟨n, hn, _⟩ := hc i (by simpa [hsz] using h1)
   have e := (List.getElem?_eq_some_iff.1 hn).2
   simp only [List.getElem_map]
   rw [e]
 ·intro x hx
  obtain ⟨v, hv, rfl⟩ := List.mem_map.1 hx
  obtain ⟨i, hi, he⟩ := List.mem_iff_getElem.1 hv
  obtain ⟨n, hn, h0, h1⟩ := hc i (by simpa [hsz] using hi)
  have e := (List.getElem?_eq_some_iff.1 hn).2
  rw [<- he, e]
  exact ⟨h0, h1⟩
theorem Zv7 {H : Type} {enc : TypeId × Value -> H} {w : World} {b0 : Nat} {r : Reach} {held : Bool} {v : Value} {d : DataW H} {p : List MemPlace}
  (hv : Value.okWide Tryz.prog w r b0 28 v) (h : DataW.Trod enc Tryz.prog w 0 (fun _ => true) held 28 v d p)
  (hsz : ∀ n ∈ d.weights Tryz.prog 28, n <= reachBytes) : ∃ a m c M, v = .slice a m c /\ Bt (fun _ => True) w a m M /\ m <= 5864062014700 /\ m <= c /\ ∀ b ∈ M, b.length <= 140737488351232 := by
 obtain ⟨a0, len0, cap0, rfl⟩ := okWide_slice Tryz.underlying28 hv
 obtain ⟨fuel, hf⟩ := h
 rcases DataW.trod_slice Tryz.underlying28 hf with ⟨hcs, _⟩ | ⟨p, len, cap, elems, rest, n, hfu, hcs, hx, _, hl, hm, hlen, hel, hrl, _⟩
 ·simp [Value.cells] at hcs
  obtain ⟨rfl, rfl, rfl⟩ := hcs
  exact ⟨none, 0, 0, [], rfl, ⟨rfl, fun j hj => by omega⟩, by omega, by omega, fun b hb => by cases hb⟩
 ·simp [Value.cells] at hcs
  obtain ⟨rfl, rfl, rfl⟩ := hcs
  have hd : d = DataW.slice (elems.map (·.1)) (rest.map (·.1)) := congrArg Prod.fst hx
  rw [hd] at hsz
  have hw : (DataW.slice (elems.map (·.1)) (rest.map (·.1))).weights Tryz.prog 28 = ((elems.map (·.1)).length + (rest.map (·.1)).length) * Tryz.prog.bytesOf 23 :: (DataW.weightsAll Tryz.prog 23 (elems.map (·.1)) ++ DataW.weightsAll Tryz.prog 23 (rest.map (·.1))) := by
   simp only [DataW.weights, Tryz.underlying28]
  rw [hw] at hsz
  have hsz1 := hsz _ (List.mem_cons_self ..)
  rw [show Tryz.prog.bytesOf 23 = 24 from by kernel_rfl, List.length_map, List.length_map, hlen] at hsz1
  unfold reachBytes at hsz1
  have hthing : ∀ i, i < len0 -> ∃ a' n' c' bs, w.cell? ((p.add (i * 1)).add 0) = some (.slice a' n' c') /\ Ag w a' n' c' bs /\ n' <= 140737488351232 := by
   intro i hi
   have he := hel i hi
   rw [Zyg, List.getElem?_eq_getElem (by omega), Option.bind_eq_some_iff] at he
   obtain ⟨cs', hc1, hc2⟩ := he
   obtain ⟨_, hc3, hc4⟩ := World.cells?_some hc1
   obtain ⟨a', n', c', bs, hs, hag, hle'⟩ := Ztl hc2 (fun k hk => hsz k (List.mem_cons_of_mem _ (List.mem_append_left _ (Zhb (List.mem_map_of_mem (List.getElem_mem _)) k hk))))
   refine ⟨a', n', c', bs, ?_, hag, hle'⟩
   have := hc4 0 (by omega)
   rw [hs] at this
   exact this
  have hall : ∀ d k, k + d = len0 -> ∃ M : List (List Int), M.length = d /\ ∀ j, j < d -> ∃ a' n' c', w.cell? ((p.add ((k + j) * 1)).add 0) = some (.slice a' n' c') /\ Ag w a' n' c' (M.getD j []) /\ n' <= 140737488351232 := by
   intro d
   induction d with
   | zero => intro k _; exact ⟨[], rfl, fun j hj => by omega⟩
   | succ d ihd =>
    intro k hk
    obtain ⟨M, h1, h2⟩ := ihd (k + 1) (by omega)
    obtain ⟨a', n', c', bs, h3, h4, h4l⟩ := hthing k (by omega)
    refine ⟨bs :: M, by simp [h1], fun j hj => ?_⟩
    cases j with
    | zero => exact ⟨a', n', c', h3, by simpa using h4, h4l⟩
    | succ j =>
     obtain ⟨a2, n2, c2, h5, h6, h6l⟩ := h2 j (by omega)
     rw [show k + 1 + j = k + (j + 1) from by omega] at h5
     exact ⟨a2, n2, c2, h5, by simpa using h6, h6l⟩
  obtain ⟨M, h1, h2⟩ := hall len0 0 (by omega)
  refine ⟨some p, len0, cap0, M, rfl, ⟨h1, fun j hj => ?_⟩, by omega, hl, fun b hb => ?_⟩
  case refine_2 =>
   obtain ⟨j, hj, rfl⟩ := List.mem_iff_getElem.1 hb
   obtain ⟨a', n', c', h5, h6, h6l⟩ := h2 j (by omega)
   rw [show M.getD j [] = M[j] from by simp [List.getD, hj]] at h6
   have := h6.l
   omega
  obtain ⟨a', n', c', h5, h6, _⟩ := h2 j hj
  rw [Nat.zero_add] at h5
  have hsp0 : p.spot = none := by
   obtain ⟨_, _, _, _, h7, _, _⟩ := hthing 0 (by omega)
   simpa [Addr.add] using World.cell?_spot h7
  obtain ⟨g, off, spot⟩ := p
  have hsp : spot = none := hsp0
  subst hsp
  rw [Zaz, Zaz] at h5
  exact ⟨g, off, a', n', c', rfl, h5, ⟨h6, fun _ _ _ => trivial⟩⟩
end Go.Proofs.YtefhepcplempkaaGreat
