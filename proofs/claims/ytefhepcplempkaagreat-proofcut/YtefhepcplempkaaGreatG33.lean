/- The statement ProofCut: a proof that was cut, or has one thing more, is none. -/
import Derived.Test.YtefhepcplempkaaGreatG32
import Derived.Test.YtefhepcplempkaaGreatG00
import Derived.ProofKit
import Derived.OpenShut
import Derived.ShutString
import Derived.ChangeOld
import Derived.SizedLaws
import Derived.Test.YtefhepcplempkaaGreatG18
set_option linter.unusedVariables false
set_option maxRecDepth 100000
namespace Go.Proofs.YtefhepcplempkaaGreat
open Go.RowKit
open Tr
open Di (dref)
theorem three_sk {K : Nat -> Prop} {w w' : World} {g : Nat} (h : New w w' g #[.int .u8 194, .int .u8 32, .int .u8 5] 5) (hK : ∀ b, w.heap.size <= b -> K b) : Sk K w' (some ⟨g, 0, none⟩) 3 3 [194, 32, 5] := by
 refine ⟨⟨.inr ⟨g, 0, rfl, rfl, by omega, by omega, by unfold maxLen; omega, fun j hj => ?_⟩, (fun e => by cases e), rfl, fun y hy => by simp at hy; omega⟩, fun y hy _ => ?_⟩
 ·rw [cell_of_row _ _ _ _ _ _ h.row]
  match j, hj with
  | 0, _ => rfl
  | 1, _ => rfl
  | 2, _ => rfl
  | j + 3, hj => simp at hj; omega
 ·cases hy
  exact hK _ (by rw [h.hg]; exact Nat.le_refl _)
theorem Bt.to {K : Nat -> Prop} {w : World} {a : Option Addr} {n : Nat} {M : List (List Int)} (h : Bt K w a n M) {m : Nat} (hm : m <= n) : Bt K w a m (M.take m) := by
 have hl := h.len
 refine ⟨by rw [List.length_take]; omega, fun j hj => ?_⟩
 obtain ⟨g, off, a', n', c', h1, h2, h3⟩ := h.row j (by omega)
 exact ⟨g, off, a', n', c', h1, h2, by rw [List.getD_eq_getElem?_getD, List.getElem?_take_of_lt hj, <- List.getD_eq_getElem?_getD]; exact h3⟩
set_option maxHeartbeats 8000000 in
theorem cut9_any {K K1 : Nat -> Prop} (a : Option Addr) (n c : Nat) (vs : List (Value × Value)) (l : PList) (ak : Option Addr) (nk ck : Nat) (k : List Int) (x : Int) (w : World) (hl : PAt K w a n c vs l) (hn : n <= 2932031007317) (hk : Sk K1 w ak nk ck k) :
  Calls Tryz.prog 8 #[.slice a n c, .slice ak nk ck, .int .i64 x] w fun e w' => e = .returned (.bool true) /\ Bl w w' := by
 have hB := Bl.refl w
 have lk := hk.len
 have hkB : isB k := hk.ag.b
 refine Zal Tryz.func8 rfl 75 rfl ?_
 show CW _ _ _ _ _ _ _ [(0, .slice a n c), (1, .slice ak nk ck), (2, .int .i64 x)] _
 refine Zac <| Zaa <| rp 6 (.bool false) <| Zad <| Zab <| Zac <| Zac <| Zaa <| Zao 17 9 #[] (fun _ => by kernel_rfl) (fun _ => by kernel_rfl) (R := fun u w' => u = .bool true /\ Bl w w') (Zpi) ?_
 rintro _ u1 ⟨rfl, hb1⟩
 replace hB := hB.go hb1
 replace hl := hl.go hb1
 replace hk := hk.go hb1
 refine rp 18 (.bool false) <| Zad <| Zab <| Zah (fun _ => by kernel_rfl) <| Zap <| Zab <| Zac <| Zaa <| rp 20 (.slice a n c) <| Zao 21 10 #[.slice a n c] (fun _ => by kernel_rfl) (fun _ => by kernel_rfl) (R := StR u1 n) (Zoc hl (by omega)) ?_
 rintro _ u2 ⟨⟨g, aS, mS, cS, vsS, t, L, rfl, hgT, hT, hP, hRel, hLn, hsz⟩, hb2⟩
 replace hB := hB.go hb2
 replace hl := hl.go hb2
 replace hk := hk.go hb2
 have hMn : (nmd t).length + 1 <= 8800000000000 := by have := Zzu t; omega
 have hdl := Zoe t
 have hdb := Zp9 t
 have hOk := hRel.ok
 have hVb : Vb t := by obtain ⟨⟨v, _, h2⟩, _⟩ := hT; exact h2.vb
 obtain ⟨hps, hpl⟩ := Zqi hOk hVb k
 refine rp 19 (.tuple #[.pointer (some ⟨g, 0, none⟩), .slice aS mS cS]) <| rp 22 (.pointer (some ⟨g, 0, none⟩)) <| rp 23 (.slice aS mS cS) <| rp 7 (.pointer (some ⟨g, 0, none⟩)) <| rp 8 (.slice aS mS cS) <| Zad <| Zab <| Zac ?_
 by_cases hk32 : nk <= 32
 ·skip
  refine Zaa <| rp 25 (.pointer (some ⟨g, 0, none⟩)) <| rp 26 (.slice ak nk ck) <| Zao 27 11 #[.pointer (some ⟨g, 0, none⟩), .slice ak nk ck] (fun _ => by kernel_rfl) (fun _ => by kernel_rfl) (R := fun u w' => (∃ v base, u = .tuple #[v, .int .i64 0] /\ (u2).heap.size <= base /\ OwnS w' base v (prvP t k)) /\ Bl (u2) w') (Zqj hT hRel (by omega) hk hk32) ?_
  rintro _ u3 ⟨⟨vP, bP, rfl, hbP, hO⟩, hb3⟩
  replace hB := hB.go hb3
  replace hk := hk.go hb3
  replace hT := hT.go hb3
  obtain ⟨aP, cP, rfl, hBt, hcP⟩ := hO.bt
  clear hO
  refine rp 24 (.tuple #[.slice aP (prvP t k).length cP, .int .i64 0]) <| rp 28 (.slice aP (prvP t k).length cP) <| rp 29 (.int .i64 0) <| rp 9 (.slice aP (prvP t k).length cP) <| rp 10 (.int .i64 0) <| Zad <| Zab <| Zac <| Zac <| Zaa <| rp 30 (.int .i64 0) <| rp 31 (.bool false) ?_
  refine Zad <| Zab <| Zah (fun _ => by kernel_rfl) <| Zap <| Zab <| Zac <| Zaa <| rp 33 (.pointer (some ⟨g, 0, none⟩)) <| Zao 34 14 #[.pointer (some ⟨g, 0, none⟩)] (fun _ => by kernel_rfl) (fun _ => by kernel_rfl) (R := fun u w' => u = .agg (B8 (rootP t)) /\ Bl (u3) w') ((Zjd hT hMn)) ?_
  rintro _ uR1 ⟨rfl, hbR2⟩
  replace hB := hB.go hbR2
  replace hk := hk.go hbR2
  replace hT := hT.go hbR2
  replace hBt := hBt.go hbR2
  refine rp 35 (.slice ak nk ck) <| rp 36 (.slice aP (prvP t k).length cP) ?_
  have hB0 := hB
  have hk0 := hk
  have hT0 := hT
  have hBt0 := hBt
  have hX : Bl (uR1) (uR1) := Below.refl _ _
  refine Zao 37 16 #[.slice aP (prvP t k).length cP] (fun _ => by kernel_rfl) (fun _ => by kernel_rfl) (R := fun u w' => OwnS w' (uR1).heap.size u (prvP t k) /\ Bl (uR1) w') (copied_any hBt (fun b hb => by have := hps b hb; omega) (by omega)) ?_
  rintro vC u7 ⟨hO, hb7⟩
  have hz7 := hb7.size
  replace hB := hB.go hb7
  replace hk := hk.go hb7
  replace hT := hT.go hb7
  replace hBt := hBt.go hb7
  replace hX := hX.go hb7
  refine Zbl 38 #[.int .u8 194, .int .u8 32, .int .u8 5] 5 3 (fun _ => by kernel_rfl) (fun _ => by kernel_rfl) ?_
  intro w8 g8 hn8
  have h3 : Sk (fun b => vC.ownBlock ≠ some b) w8 (some ⟨g8, 0, none⟩) 3 3 [194, 32, 5] := three_sk hn8 (fun b hb e => by have := (hO.own b e).2; omega)
  replace hB := hB.go hn8.below
  replace hk := hk.go hn8.below
  replace hT := hT.go hn8.below
  replace hBt := hBt.go hn8.below
  replace hX := hX.go hn8.below
  replace hO := hO.far hn8.below
  refine Zbl 39 #[.slice (some ⟨g8, 0, none⟩) 3 3] 23 1 (fun _ => by kernel_rfl) (fun _ => by kernel_rfl) ?_
  intro w9 g9 hn9
  have hB9 := Bt.one hn9 h3
  replace hB := hB.go hn9.below
  replace hk := hk.go hn9.below
  replace hT := hT.go hn9.below
  replace hBt := hBt.go hn9.below
  replace hX := hX.go hn9.below
  replace hO := hO.far hn9.below
  obtain ⟨vQ, wA, hrA, hO2, hbA⟩ := appT (c := 1) hO hB9 (fun b hb => hb) (by omega) (by have := hn8.below.size; have := hn9.below.size; omega)
  refine rw_v 40 vQ (fun _ => by kernel_rfl) (fun _ => Zei hrA _ _ rfl (by kernel_rfl) (by kernel_rfl)) ?_
  replace hX := Below.trans hX hbA
  replace hB := hB0.go hX
  replace hk := hk0.go hX
  replace hT := hT0.go hX
  replace hBt := hBt0.go hX
  clear hX
  obtain ⟨aQ, cQ, rfl, hBq, hcQ⟩ := hO2.bt
  refine Zao 41 17 #[.agg (B8 (rootP t)), .slice ak nk ck, .slice aQ (prvP t k ++ [[194, 32, 5]]).length cQ] (fun _ => by kernel_rfl) (fun _ => by kernel_rfl) (R := VfR wA (90, [])) ((by have := Zfi hdl hdb hk hBq hcQ (fun b hb => by exact (List.mem_append.1 hb).elim (fun h => by have := hps b h; omega) (fun h => by rw [List.mem_singleton.1 h]; decide)); rw [vf_more hOk hVb hkB (by omega)] at this; exact this)) ?_
  rintro _ u8 ⟨⟨a9, n9, c9, rfl, hs9⟩, hb8⟩
  replace hB := hB.go hb8
  replace hk := hk.go hb8
  replace hT := hT.go hb8
  replace hBt := hBt.go hb8
  refine rp 32 (.tuple #[.slice a9 n9 c9, .bool (decide (0 < n9)), .int .i64 90]) <| rp 42 (.slice a9 n9 c9) <| rp 43 (.bool (decide (0 < n9))) <| rp 44 (.int .i64 90) <| rp 11 (.slice a9 n9 c9) <| rp 12 (.bool (decide (0 < n9))) <| rp 13 (.int .i64 90) <| Zad <| Zab <| Zac <| Zac <| Zaa ?_
  refine rp 45 (.int .i64 90) <| rp 46 (.bool false) <| Zad <| Zab <| Zah (fun _ => by kernel_rfl) <| Zap <| Zab <| Zac <| Zac <| Zaa <| rp 47 (.int .i64 x) <| rp 48 (.bool (decide ((x : Int) < (0 : Int)))) ?_
  refine rp 49 (.bool (decide ((x : Int) < (0 : Int)))) ?_
  cases hq3 : (decide ((x : Int) < (0 : Int))) with
  | true =>
   refine Za1 50 (fun _ => by kernel_rfl) <| Za1 51 (fun _ => by kernel_rfl) <| Za1 52 (fun _ => by kernel_rfl) <| Za1 53 (fun _ => by kernel_rfl) <| rp 54 (.bool true) <| rp 55 (.bool true) <| Za1 56 (fun _ => by kernel_rfl) <| Za1 57 (fun _ => by kernel_rfl) <| Za1 58 (fun _ => by kernel_rfl) <| Za1 59 (fun _ => by kernel_rfl) <| rp 60 (.bool true) <| Zad ?_
   refine Zab <| Zak (fun _ => by kernel_rfl) <| Zac <| Zaa <| rp 6 (.bool true) <| Zad <| Zab <| Zam <| Zaj ?_
   exact Zae (.bool true) (fun _ => by kernel_rfl) ⟨rfl, hB⟩
  | false =>
   refine rp 50 (.int .i64 x) <| rp 51 (.slice aP (prvP t k).length cP) <| rp 52 (.int .i64 ((prvP t k).length)) <| rp 53 (.bool (decide ((x : Int) ≥ ((prvP t k).length : Int)))) <| rp 54 (.bool (decide ((x : Int) ≥ ((prvP t k).length : Int)))) <| rp 55 (.bool (decide ((x : Int) ≥ ((prvP t k).length : Int)))) ?_
   cases hq4 : (decide ((x : Int) ≥ ((prvP t k).length : Int))) with
   | true =>
    refine Za1 56 (fun _ => by kernel_rfl) <| Za1 57 (fun _ => by kernel_rfl) <| Za1 58 (fun _ => by kernel_rfl) <| Za1 59 (fun _ => by kernel_rfl) <| rp 60 (.bool true) <| Zad <| Zab <| Zak (fun _ => by kernel_rfl) <| Zac <| Zaa <| rp 6 (.bool true) <| Zad ?_
    refine Zab <| Zam <| Zaj ?_
    exact Zae (.bool true) (fun _ => by kernel_rfl) ⟨rfl, hB⟩
   | false =>
    refine rp 56 (.pointer (some ⟨g, 0, none⟩)) <| Zao 57 14 #[.pointer (some ⟨g, 0, none⟩)] (fun _ => by kernel_rfl) (fun _ => by kernel_rfl) (R := fun u w' => u = .agg (B8 (rootP t)) /\ Bl (u8) w') ((Zjd hT hMn)) ?_
    rintro _ uR5 ⟨rfl, hbR6⟩
    replace hB := hB.go hbR6
    replace hk := hk.go hbR6
    replace hT := hT.go hbR6
    replace hBt := hBt.go hbR6
    refine Zao 58 22 #[] (fun _ => by kernel_rfl) (fun _ => by kernel_rfl) (R := fun u w' => u = .agg (B8 (dref [128])) /\ Bl (uR5) w') (((Zs4 (uR5)).mono (fun e w' h => ⟨_, h.1, rfl, h.2⟩))) ?_
    rintro _ u10 ⟨rfl, hb10⟩
    replace hB := hB.go hb10
    replace hk := hk.go hb10
    replace hT := hT.go hb10
    replace hBt := hBt.go hb10
    refine rv 59 (.bool (rootP t == dref [128])) (fun _ => Zxk rfl (by kernel_rfl) (by kernel_rfl) hdl (Di.dref_len _)) <| rp 60 (.bool (rootP t == dref [128])) <| Zad <| Zab ?_
    cases hq7 : (rootP t == dref [128]) with
    | true =>
     refine Zak (fun _ => by kernel_rfl) <| Zac <| Zaa <| rp 6 (.bool true) <| Zad <| Zab <| Zam <| Zaj ?_
     exact Zae (.bool true) (fun _ => by kernel_rfl) ⟨rfl, hB⟩
    | false =>
     refine Zah (fun _ => by kernel_rfl) <| Zap <| Zab <| Zac ?_
     replace hq3 := of_decide_eq_false hq3
     replace hq4 := of_decide_eq_false hq4
     obtain ⟨m, rfl⟩ : ∃ m : Nat, x = ((m : Nat) : Int) := ⟨x.toNat, by omega⟩
     have hm : m < (prvP t k).length := by omega
     have hre : ¬ rootP t = dref [128] := by simpa using hq7
     obtain ⟨gp, fp, _, _, _, hap, _, _⟩ := hBt.row 0 (by omega)
     subst hap
     have hBm := hBt.to (m := m) (by omega)
     refine Zcx [(9, .slice (some ⟨gp, fp, none⟩) (prvP t k).length cP), (7, .pointer (some ⟨g, 0, none⟩)), (6, .bool false), (0, .slice a n c), (1, .slice ak nk ck), (2, .int .i64 ((m : Nat) : Int))] (by exact ⟨fun _ => by kernel_rfl, ⟨fun _ => by kernel_rfl, ⟨fun _ => by kernel_rfl, ⟨fun _ => by kernel_rfl, ⟨fun _ => by kernel_rfl, ⟨fun _ => by kernel_rfl, trivial⟩⟩⟩⟩⟩⟩) <| Zav (fun v => Bl w v) (by kernel_rfl) (hB.drew) ?_
     replace hB := hB.drew
     replace hk := hk.drew
     replace hT := hT.drew
     replace hBt := hBt.drew
     replace hBm := hBm.drew
     refine dt 0 62 (.pointer (some ⟨g, 0, none⟩)) (fun v hv _ => by kernel_rfl) hB <| dt 2 64 (.slice ak nk ck) (fun v hv _ => by kernel_rfl) hB <| dt 3 65 (.slice (some ⟨gp, fp, none⟩) (prvP t k).length cP) (fun v hv _ => by kernel_rfl) hB <| dt 4 66 (.int .i64 ((m : Nat) : Int)) (fun v hv _ => by kernel_rfl) hB <| dt 5 67 (.slice (some ⟨gp, fp, none⟩) m cP) (fun v hv _ => ol_to41 _ _ gp fp m (prvP t k).length cP rfl (by kernel_rfl) (by kernel_rfl) (by omega) (by omega)) hB <| Zaf [1] (by kernel_rfl) (by simp) ?_
     refine Zas 1 63 14 #[.pointer (some ⟨g, 0, none⟩)] rfl (fun _ => by kernel_rfl) (fun _ => by kernel_rfl) (R := fun u w' => u = .agg (B8 (rootP t)) /\ Bl (u10.drew) w') ((Zjd hT hMn)) (fun u w' h => hB.go h.2) ?_ Zan
     rintro _ u11 ⟨rfl, hb11⟩
     replace hB := hB.go hb11
     replace hk := hk.go hb11
     replace hT := hT.go hb11
     replace hBt := hBt.go hb11
     replace hBm := hBm.go hb11
     refine Zaf [6] (by kernel_rfl) (by simp) ?_
     refine Zas 6 68 16 #[.slice (some ⟨gp, fp, none⟩) m cP] rfl (fun _ => by kernel_rfl) (fun _ => by kernel_rfl) (R := fun u w' => OwnS w' (u11).heap.size u ((prvP t k).take m) /\ Bl (u11) w') ((copied_any hBm (fun b hb => by have := hps b (List.mem_of_mem_take hb); omega) (by omega))) (fun u w' h => hB.go h.2) ?_ Zan
     rintro vR u12 ⟨hO, hb12⟩
     replace hB := hB.go hb12
     replace hk := hk.go hb12
     replace hT := hT.go hb12
     replace hBt := hBt.go hb12
     replace hBm := hBm.go hb12
     obtain ⟨aR, cR, rfl, hBr, hcR⟩ := hO.bt
     refine Zaf [7] (by kernel_rfl) (by simp) ?_
     refine Zas 7 69 17 #[.agg (B8 (rootP t)), .slice ak nk ck, .slice aR ((prvP t k).take m).length cR] rfl (fun _ => by kernel_rfl) (fun _ => by kernel_rfl) (R := VfR (u12) (90, [])) ((by have := Zfi hdl hdb hk hBr hcR (fun b hb => by have := hps b (List.mem_of_mem_take hb); omega); rw [vf_less hOk hVb hkB (by omega) hre hm] at this; exact this)) (fun u w' h => hB.go h.2) ?_ Zan
     rintro _ u13 ⟨⟨a13, n13, c13, rfl, hs13⟩, hb13⟩
     replace hB := hB.go hb13
     replace hk := hk.go hb13
     replace hT := hT.go hb13
     replace hBt := hBt.go hb13
     replace hBm := hBm.go hb13
     replace hBr := hBr.go hb13
     refine dt 8 61 (.tuple #[.slice a13 n13 c13, .bool (decide (0 < n13)), .int .i64 90]) (fun v hv _ => by kernel_rfl) hB <| dt 9 70 (.slice a13 n13 c13) (fun v hv _ => by kernel_rfl) hB <| dt 10 71 (.bool (decide (0 < n13))) (fun v hv _ => by kernel_rfl) hB <| dt 11 72 (.int .i64 90) (fun v hv _ => by kernel_rfl) hB <| dt 12 14 (.slice a13 n13 c13) (fun v hv _ => by kernel_rfl) hB <| dt 13 15 (.bool (decide (0 < n13))) (fun v hv _ => by kernel_rfl) hB <| dt 14 16 (.int .i64 90) (fun v hv _ => by kernel_rfl) hB <| Zar (by kernel_rfl) <| Zab <| Zac <| Zaa <| rp 73 (.int .i64 90) ?_
     refine rp 74 (.bool true) <| rp 6 (.bool true) <| Zad <| Zab <| Zam ?_
     exact Zae (.bool true) (fun _ => by kernel_rfl) ⟨rfl, hB⟩
 ·skip
  refine Zaa <| rp 25 (.pointer (some ⟨g, 0, none⟩)) <| rp 26 (.slice ak nk ck) <| Zao 27 11 #[.pointer (some ⟨g, 0, none⟩), .slice ak nk ck] (fun _ => by kernel_rfl) (fun _ => by kernel_rfl) (R := fun u w' => u = .tuple #[.slice none 0 0, .int .i64 70] /\ Bl (u2) w') (Zoi hT hRel (by omega) hk (by omega)) ?_
  rintro _ u3 ⟨rfl, hb3⟩
  replace hB := hB.go hb3
  replace hk := hk.go hb3
  replace hT := hT.go hb3
  refine rp 24 (.tuple #[.slice none 0 0, .int .i64 70]) <| rp 28 (.slice none 0 0) <| rp 29 (.int .i64 70) <| rp 9 (.slice none 0 0) <| rp 10 (.int .i64 70) <| Zad <| Zab <| Zac <| Zac <| Zaa <| rp 30 (.int .i64 70) <| rp 31 (.bool true) ?_
  refine Zad <| Zab <| Zak (fun _ => by kernel_rfl) <| Zac <| Zaa <| rp 6 (.bool true) <| Zad <| Zab <| Zam <| Zaj ?_
  exact Zae (.bool true) (fun _ => by kernel_rfl) ⟨rfl, hB⟩
end Go.Proofs.YtefhepcplempkaaGreat
namespace Go.Proofs.YtefhepcplempkaaGreat
open Go.ChangeShapes Go.WideShapes Go.ChangeAt Go.RowKit
open Go.ChangeMaps (open_string shut_string)
theorem own : ownKnob Tryz.prog.godebug = none := by kernel_rfl
theorem Zrg : laidOutB Tryz.prog = true := by kernel_rfl
theorem Zv8 : Tryz.prog.cellsOf 5 = 1 := by kernel_rfl
theorem Zv9 : Tryz.prog.bytesOf 5 = 1 := by kernel_rfl
theorem Zop {H : Type} {enc : TypeId × Value -> H} {w : World} {base b0 : Nat} {r : Reach} {held : Bool} {v : Value} {d : DataW H} {p : List MemPlace}
  (hv : Value.okWide Tryz.prog w r b0 23 v) (h : DataW.Trod enc Tryz.prog w base (fun _ => true) held 23 v d p)
  (hsz : ∀ elems spare, d = .slice elems spare -> (elems.length + spare.length) * Tryz.prog.bytesOf 5 <= reachBytes) :
  ∃ a len cap bs, v = .slice a len cap /\ In0 w a len cap bs /\ (a = none -> len = 0 /\ cap = 0) /\ bs.length = len /\ (∀ x ∈ bs, 0 <= x /\ x < 256) /\ len <= 140737488351232 := by
 obtain ⟨a, len, cap, rfl⟩ := okWide_slice Tryz.underlying23 hv
 obtain ⟨fuel, hf⟩ := h
 rcases open_ints Tryz.underlying23 Tryz.underlying5 Zv8 hf with ⟨hcs, _⟩ | ⟨x, l, c, zs, hcs, _, hl, hm, hz, hx, hcell, hwz⟩
 ·simp [Value.cells] at hcs
  obtain ⟨rfl, rfl, rfl⟩ := hcs
  exact ⟨none, 0, 0, [], rfl, .inl ⟨rfl, rfl⟩, fun _ => ⟨rfl, rfl⟩, rfl, (fun x hx => by cases hx), by omega⟩
 ·simp [Value.cells] at hcs
  obtain ⟨rfl, rfl, rfl⟩ := hcs
  have hz2 : zs.length = cap := by simpa using hz
  have hsz2 := hsz _ _ (Prod.mk.inj hx).1
  rw [Zv9] at hsz2
  simp only [lits, List.length_map, List.length_take, List.length_drop, reachBytes] at hsz2
  have hlen : (zs.take len).length = len := by rw [List.length_take]; omega
  have hbd : ∀ n ∈ zs.take len, 0 <= n /\ n < 256 := fun n hn => by
   have := bounds_u8 (hwz n (List.mem_of_mem_take hn))
   omega
  refine ⟨some x, len, cap, zs.take len, rfl, ?_, (fun h => by cases h), hlen, hbd, by omega⟩
  by_cases h0 : len = 0
  ·subst h0
   exact .inl ⟨rfl, by simp⟩
  ·obtain ⟨b, off, spot⟩ := x
   have hc := hcell 0 (by omega)
   have hspot : spot = none := by simpa [Addr.add] using World.cell?_spot hc
   subst hspot
   refine .inr ⟨b, off, rfl, hlen, by omega, hl, hm, fun j hj => ?_⟩
   rw [hlen] at hj
   have := hcell j (by omega)
   rw [Za2] at this
   rw [this, List.getD, List.getD, List.getElem?_take_of_lt hj]
theorem Zxg {H : Type} {enc : TypeId × Value -> H} {w : World} {base b0 : Nat} {r : Reach} {held : Bool} {v : Value} {d : DataW H} {p : List MemPlace}
  (hv : Value.okWide Tryz.prog w r b0 23 v) (h : DataW.Trod enc Tryz.prog w base (fun _ => true) held 23 v d p)
  (hsz : ∀ elems spare, d = .slice elems spare -> (elems.length + spare.length) * Tryz.prog.bytesOf 5 <= reachBytes) :
  ∃ a len cap bs, v = .slice a len cap /\ Ag w a len cap bs /\ len <= 140737488351232 := by
 obtain ⟨a, len, cap, bs, h1, h2, h3, h4, h5, h6⟩ := Zop hv h hsz
 exact ⟨a, len, cap, bs, h1, ⟨h2, h3, h4, h5⟩, h6⟩
end Go.Proofs.YtefhepcplempkaaGreat
namespace Go.Proofs.YtefhepcplempkaaGreat
open Go.ChangeShapes Go.WideShapes Go.ChangeAt Go.RowKit
theorem Zsf : Tryz.prog.cellsOf 51 = 2 := by kernel_rfl
theorem Zv7 : Tryz.prog.cellsOf 23 = 1 := by kernel_rfl
theorem Zym : Tryz.prog.bytesOf 51 = 48 := by kernel_rfl
structure Pax where
 ka : Option Addr
 kn : Nat
 kc : Nat
 va : Option Addr
 vn : Nat
 vc : Nat
 k : List Int
 x : List Int
def Pax.pv (y : Pax) : Value × Value := (.slice y.ka y.kn y.kc, .slice y.va y.vn y.vc)
section
variable {H : Type} {enc : TypeId × Value → H} {w : World} {held : Bool}
theorem Zm8 {fuel : Nat} {cs : List Value} {x : DataW H × List MemPlace} (hf : DataW.trod enc Tryz.prog w 0 (fun _ => true) held fuel 23 cs = some x)
  (hsz : ∀ n ∈ x.1.weights Tryz.prog 23, n <= reachBytes) : ∃ a len cap bs, cs = [.slice a len cap] /\ Ag w a len cap bs /\ len <= 140737488351232 := by
 rcases open_ints Tryz.underlying23 Tryz.underlying5 Zv8 hf with ⟨hcs, _⟩ | ⟨p, len, cap, zs, hcs, _, hl, hm, hz, hx, hcell, hwz⟩
 ·exact ⟨none, 0, 0, [], hcs, ⟨.inl ⟨rfl, rfl⟩, fun _ => ⟨rfl, rfl⟩, rfl, fun x hx => by cases hx⟩, by omega⟩
 ·have hz2 : zs.length = cap := by simpa using hz
  have hsz2 := hsz ((zs.take len).length + (zs.drop len).length) (by
   rw [hx]
   simp only [DataW.weights, Tryz.underlying23, lits, List.length_map, Zv9, Nat.mul_one]
   exact List.mem_cons_self ..)
  simp only [List.length_take, List.length_drop, reachBytes] at hsz2
  have hlen : (zs.take len).length = len := by rw [List.length_take]; omega
  have hbd : ∀ n ∈ zs.take len, 0 <= n /\ n < 256 := fun n hn => by
   have := bounds_u8 (hwz n (List.mem_of_mem_take hn))
   omega
  refine ⟨some p, len, cap, zs.take len, hcs, ⟨?_, (fun h => by cases h), hlen, hbd⟩, by omega⟩
  by_cases h0 : len = 0
  ·subst h0
   exact .inl ⟨rfl, by simp⟩
  ·obtain ⟨b, off, spot⟩ := p
   have hc := hcell 0 (by omega)
   have hspot : spot = none := by simpa [Addr.add] using World.cell?_spot hc
   subst hspot
   refine .inr ⟨b, off, rfl, hlen, by omega, hl, hm, fun j hj => ?_⟩
   rw [hlen] at hj
   have := hcell j (by omega)
   rw [Za2] at this
   rw [this, List.getD, List.getD, List.getElem?_take_of_lt hj]
theorem Zg1 {e : TypeId} : ∀ {ds : List (DataW H)} {d : DataW H}, d ∈ ds -> ∀ n ∈ d.weights Tryz.prog e, n ∈ DataW.weightsAll Tryz.prog e ds
 | [], d, h, _, _ => by cases h
 | d0 :: r, d, h, n, hn => by
  rw [DataW.weightsAll, List.mem_append]
  rcases List.mem_cons.1 h with rfl | h
  ·exact .inl hn
  ·exact .inr (Zg1 h n hn)
theorem Zwy {cs : List Value} (h : cs.length = 2) : cs = (cs.drop 0).take 1 ++ (cs.drop 1).take 1 := by
 match cs, h with
 | [a, b], _ => rfl
theorem Zoo {fuel : Nat} {cs : List Value} {x : DataW H × List MemPlace} (hf : DataW.trod enc Tryz.prog w 0 (fun _ => true) held fuel 51 cs = some x)
  (hsz : ∀ n ∈ x.1.weights Tryz.prog 51, n <= reachBytes) : ∃ y : Pax, cs = [y.pv.1, y.pv.2] /\ Ag w y.ka y.kn y.kc y.k /\ Ag w y.va y.vn y.vc y.x := by
 obtain ⟨xs, n, hfu, hx, hcl, hxl, hel⟩ := DataW.trod_struct Tryz.underlying51 hf
 rw [Zsf] at hcl
 have e1 := hel 0 _ rfl
 have e2 := hel 1 _ rfl
 have hxl3 : xs.length = 2 := hxl
 obtain ⟨x1, x2, rfl⟩ : ∃ x1 x2, xs = [x1, x2] := by
  match xs, hxl3 with
  | [a, b], _ => exact ⟨a, b, rfl⟩
 subst hx
 have f1 : DataW.trod enc Tryz.prog w 0 (fun _ => true) held n 23 ((cs.drop 0).take (Tryz.prog.cellsOf 23)) = some x1 := e1
 have f2 : DataW.trod enc Tryz.prog w 0 (fun _ => true) held n 23 ((cs.drop 1).take (Tryz.prog.cellsOf 23)) = some x2 := e2
 rw [Zv7] at f1
 rw [Zv7] at f2
 obtain ⟨a1, m1, c1, b1, hb1, hag1, hl1⟩ := Zm8 f1 (fun k hk => hsz k (by
  show k ∈ (DataW.agg [x1.1, x2.1]).weights Tryz.prog 51
  simp only [DataW.weights, Tryz.underlying51]
  simp only [List.map, DataW.weightsEach, List.mem_append]
  exact .inl hk))
 obtain ⟨a2, m2, c2, b2, hb2, hag2, hl2⟩ := Zm8 f2 (fun k hk => hsz k (by
  show k ∈ (DataW.agg [x1.1, x2.1]).weights Tryz.prog 51
  simp only [DataW.weights, Tryz.underlying51]
  simp only [List.map, DataW.weightsEach, List.mem_append]
  exact .inr (.inl hk)))
 refine ⟨⟨a1, m1, c1, a2, m2, c2, b1, b2⟩, ?_, hag1, hag2⟩
 rw [Zwy (cs := cs) hcl, hb1, hb2]
 rfl
theorem Zl4 {fuel : Nat} {cs : List Value} {x : DataW H × List MemPlace} (hf : DataW.trod enc Tryz.prog w 0 (fun _ => true) held fuel 22 cs = some x)
  (hsz : ∀ n ∈ x.1.weights Tryz.prog 22, n <= reachBytes) : ∃ a m c vs l, cs = [.slice a m c] /\ PAt (fun _ => True) w a m c vs l /\ m <= 2932031007317 := by
 rcases DataW.trod_slice Tryz.underlying22 hf with ⟨hcs, _⟩ | ⟨p, len, cap, elems, rest, n, hfu, hcs, hx, _, hl, hm, hlen, hel, _, _⟩
 ·exact ⟨none, 0, 0, [], [], hcs, PAt.empty _ _, by omega⟩
 ·subst hx
  have hw : (DataW.slice (elems.map (·.1)) (rest.map (·.1))).weights Tryz.prog 22 = ((elems.map (·.1)).length + (rest.map (·.1)).length) * Tryz.prog.bytesOf 51 :: (DataW.weightsAll Tryz.prog 51 (elems.map (·.1)) ++ DataW.weightsAll Tryz.prog 51 (rest.map (·.1))) := by
   simp only [DataW.weights, Tryz.underlying22]
  have hszw : ∀ n ∈ (DataW.slice (elems.map (·.1)) (rest.map (·.1))).weights Tryz.prog 22, n <= reachBytes := hsz
  rw [hw] at hszw
  clear hsz
  have hsz1 := hszw _ (List.mem_cons_self ..)
  rw [Zym, List.length_map, List.length_map, hlen] at hsz1
  unfold reachBytes at hsz1
  have hthing : ∀ i, i < len -> ∃ y : Pax, (∀ k, k < 2 -> w.cell? ((p.add (i * 2)).add k) = [y.pv.1, y.pv.2][k]?) /\ Ag w y.ka y.kn y.kc y.k /\ Ag w y.va y.vn y.vc y.x := by
   intro i hi
   have he := hel i hi
   rw [Zsf, List.getElem?_eq_getElem (by omega), Option.bind_eq_some_iff] at he
   obtain ⟨cs', hc1, hc2⟩ := he
   obtain ⟨_, hc3, hc4⟩ := World.cells?_some hc1
   obtain ⟨y, hcs', hr⟩ := Zoo hc2 (fun k hk => hszw k (List.mem_cons_of_mem _ (List.mem_append_left _ (Zg1 (List.mem_map_of_mem (List.getElem_mem _)) k hk))))
   refine ⟨y, ?_, hr⟩
   rw [hcs'] at hc4
   exact hc4
  have hspot : 0 < len -> p.spot = none := by
   intro h
   obtain ⟨y, hc, hr⟩ := hthing 0 h
   have c0 := hc 0 (by omega)
   rw [show [y.pv.1, y.pv.2][0]? = some y.pv.1 from rfl] at c0
   simpa [Addr.add] using World.cell?_spot c0
  have hall : ∀ d k, k + d = len -> ∃ ks : List Pax, ks.length = d /\ (∀ j u, (flatP (ks.map Pax.pv))[j]? = some u -> ∃ g off, (some p : Option Addr) = some ⟨g, off, none⟩ /\ w.cell? ⟨g, off + k * 2 + j, none⟩ = some u) /\ ∀ y ∈ ks, Ag w y.ka y.kn y.kc y.k /\ Ag w y.va y.vn y.vc y.x := by
   intro d
   induction d with
   | zero => intro k _; exact ⟨[], rfl, (fun j r hr => by simp [flatP] at hr), fun x hx => by cases hx⟩
   | succ d ihd =>
    intro k hk
    obtain ⟨ks, h1, h2, h3⟩ := ihd (k + 1) (by omega)
    obtain ⟨y, hc, hr⟩ := hthing k (by omega)
    refine ⟨y :: ks, by rw [List.length_cons, h1], fun j u hu => ?_, fun x hx => ?_⟩
    ·obtain ⟨g, off, spot⟩ := p
     have hsp : spot = none := hspot (by omega)
     subst hsp
     refine ⟨g, off, rfl, ?_⟩
     have hu2 : ([y.pv.1, y.pv.2] ++ flatP (ks.map Pax.pv))[j]? = some u := hu
     match j, hu2 with
     | 0, hu2 =>
      have := hc 0 (by omega)
      rw [Za2, Za2] at this
      exact this.trans hu2
     | 1, hu2 =>
      have := hc 1 (by omega)
      rw [Za2, Za2] at this
      exact this.trans hu2
     | j + 2, hu2 =>
      obtain ⟨g', off', e, h4⟩ := h2 j u (by simpa using hu2)
      cases e
      rw [show off + k * 2 + (j + 2) = off + (k + 1) * 2 + j from by omega]
      exact h4
    ·rcases List.mem_cons.1 hx with rfl | hx
     ·exact hr
     ·exact h3 x hx
  obtain ⟨ks, h1, h2, h3⟩ := hall len 0 (by omega)
  refine ⟨some p, len, cap, ks.map Pax.pv, ks.map (fun y => (y.k, y.x)), hcs, ⟨by rw [List.length_map, h1], by rw [List.length_map, h1], hl, (fun e => by cases e), fun j u hu => ?_, fun j q e hq he => ?_, fun _ _ _ => trivial⟩, by omega⟩
  ·obtain ⟨g, off, e, h4⟩ := h2 j u hu
   exact ⟨g, off, e, by rw [show off + j = off + 0 * 2 + j from by omega]; exact h4⟩
  ·rw [List.getElem?_map] at hq he
   obtain ⟨y, hy, rfl⟩ := Option.map_eq_some_iff.1 hq
   rw [hy] at he
   cases he
   have hm := h3 y (List.mem_of_getElem? hy)
   exact ⟨_, _, _, _, _, _, rfl, rfl, ⟨hm.1, fun _ _ _ => trivial⟩, ⟨hm.2, fun _ _ _ => trivial⟩⟩
end
theorem Zon {H : Type} {enc : TypeId × Value -> H} {w : World} {b0 : Nat} {r : Reach} {held : Bool} {v : Value} {d : DataW H} {p : List MemPlace}
  (hv : Value.okWide Tryz.prog w r b0 22 v) (h : DataW.Trod enc Tryz.prog w 0 (fun _ => true) held 22 v d p)
  (hsz : ∀ n ∈ d.weights Tryz.prog 22, n <= reachBytes) : ∃ a m c vs l, v = .slice a m c /\ PAt (fun _ => True) w a m c vs l /\ m <= 2932031007317 := by
 obtain ⟨a, len, cap, rfl⟩ := okWide_slice Tryz.underlying22 hv
 obtain ⟨fuel, hf⟩ := h
 obtain ⟨a', m, c, vs, l, hcs, hx⟩ := Zl4 hf hsz
 simp [Value.cells] at hcs
 obtain ⟨rfl, rfl, rfl⟩ := hcs
 exact ⟨_, _, _, vs, l, rfl, hx⟩
theorem Ztl {H : Type} {ts : List TypeId} {ds : List (DataW H)} (h : (DataW.weightsEach Tryz.prog ts ds).all (· <= reachBytes) = true) {j : Nat} {t : TypeId} {d : DataW H} (ht : ts[j]? = some t) (hd : ds[j]? = some d) : ∀ n ∈ d.weights Tryz.prog t, n <= reachBytes := by
 intro n hn
 have := List.all_eq_true.1 h n (DataW.weights_mem_each ht hd n hn)
 simpa using this
end Go.Proofs.YtefhepcplempkaaGreat
