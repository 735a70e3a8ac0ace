/- With more nodes behind the others all is answered alike. -/
import Derived.Test.YtchgejomcgoaeaaGreatG36
import Derived.Test.YtchgejomcgoaeaaGreatG14
import Derived.Test.YtchgejomcgoaeaaGreatG00
import Derived.ProofKit
import Derived.OpenShut
import Derived.ShutString
import Derived.ChangeOld
import Derived.SizedLaws
import Derived.Test.YtchgejomcgoaeaaGreatRows
import Derived.JoinedCond
set_option linter.unusedVariables false
set_option maxRecDepth 100000
namespace Go.Proofs.YtchgejomcgoaeaaGreat
open Go.RowKit
open Di (dref)
open Pt
theorem Xaq (ns ms : List (List Int)) : KLe (knP ns []) (knP (ns ++ ms) []) := by rw [Xak]; exact Xap _ _
set_option maxHeartbeats 1000000 in
theorem Xav {w : World} {d : List Int} {a a2 aS : Option Addr} {n c n2 c2 ms cs : Nat} {ns ns2 : List (List Int)} {xs : List Opx} (hd : d.length = 32) (hdb : isB d) (hN : NsA w a n c ns) (hN2 : NsA w a2 n2 c2 ns2) (hc1 : a = none → c = 0) (hc2 : a2 = none → c2 = 0) (hn : n + n2 ≤ 4194304) (hO : OAt w aS ms xs) (hms : ms ≤ 2520000000000) : Calls Tryz.prog 4 #[.agg (B8 d), .agg #[.slice a n c, .slice a2 n2 c2], .slice aS ms cs] w fun e w' => ∃ v', e = .returned v' ∧ RVl w (.bool true) v' w' := by
  have hB : Bl w w := Bl.refl w
  refine Zaj Tryz.func4 rfl 62 rfl ?_
  show CW _ _ _ _ _ _ _ [(0, .agg (B8 d)), (1, .agg #[.slice a n c, .slice a2 n2 c2]), (2, .slice aS ms cs)] _
  refine Zac ?_
  refine Zaa ?_
  refine Zar 3 (B8 d) 23 (fun _ => by kernel_rfl) (fun _ => by kernel_rfl) ?_
  intro w1 g2 hn3
  have hzg2 : w.heap.size ≤ g2 := by have := hB.size; have := hn3.hg; omega
  replace hB := hB.go hn3.below
  have hr4 : Rw g2 w1 (B8 d) 23 := hn3.row
  refine Zar 4 (#[.slice a n c, .slice a2 n2 c2]) 41 (fun _ => by kernel_rfl) (fun _ => by kernel_rfl) ?_
  intro w5 g6 hn7
  have hlg2g6 : g2 < g6 := by have := hr4.lt; have := hn7.hg; omega
  have hzg6 : w.heap.size ≤ g6 := by have := hB.size; have := hn7.hg; omega
  replace hB := hB.go hn7.below
  replace hr4 := hr4.go hn7.below
  have hr8 : Rw g6 w5 (#[.slice a n c, .slice a2 n2 c2]) 41 := hn7.row
  refine rp 6 (.bool false) ?_
  refine Zad ?_
  refine Zab ?_
  refine Zac ?_
  refine Zaa ?_
  refine rp 7 (.slice none 0 0) ?_
  refine Zad ?_
  refine Zab ?_
  refine Zac ?_
  refine Zaa ?_
  refine rp 13 (.slice none 0 0) ?_
  refine rp 14 (.pointer (some ⟨g6, 0, none⟩)) ?_
  refine rv 15 (.slice a n c) (fun _ => Zag 24 _ ⟨g6, 0, none⟩ _ _ rfl (by kernel_rfl) (by rw [cell_of_row _ _ _ _ _ _ hr8]; rfl) Tryz.underlying24 rfl) ?_
  have hbz := hB.size
  have hlAg2 := hr4.lt
  have hlAg6 := hr8.lt
  have hA0 := World.ownsRow_nil w5 w5.heap.size 29 1
  obtain ⟨vA, wA, ysA, hAr, hAo, hAV, hAB, hAg⟩ := apps hB hbz (Nat.le_refl _) hA0 hN hc1 (by omega)
  refine rw_v 16 vA (fun _ => by kernel_rfl) (fun _ => Zvj hAr _ _ rfl (by kernel_rfl) (by kernel_rfl)) ?_
  replace hr4 := hr4.grown hAg hA0 (by omega)
  replace hr8 := hr8.grown hAg hA0 (by omega)
  replace hB := hAB
  refine rp 7 (vA) ?_
  refine Zad ?_
  refine Zab ?_
  refine Zac ?_
  refine Zaa ?_
  refine rp 17 (vA) ?_
  refine rp 18 (.pointer (some ⟨g6, 1, none⟩)) ?_
  refine rv 19 (.slice a2 n2 c2) (fun _ => Zag 24 _ ⟨g6, 1, none⟩ _ _ rfl (by kernel_rfl) (by rw [cell_of_row _ _ _ _ _ _ hr8]; rfl) Tryz.underlying24 rfl) ?_
  have hbz2 := hAg.size
  obtain ⟨vB, wB, ysB, hBr, hBo, hBV, hBB, hBg⟩ := apps hB hbz (by omega) hAo hN2 hc2 (by omega)
  refine rw_v 20 vB (fun _ => by kernel_rfl) (fun _ => Zvj hBr _ _ rfl (by kernel_rfl) (by kernel_rfl)) ?_
  replace hr4 := hr4.grown hBg hAo (by omega)
  replace hr8 := hr8.grown hBg hAo (by omega)
  replace hB := hBB
  obtain ⟨aF, cF, hvF, hNF⟩ := NsV.ns (ms := ns ++ ns2) hB (((NsV.nil w).app hAV).app hBV) hBo
  subst hvF
  refine rp 7 (.slice aF (0 + n + n2) cF) ?_
  refine Zad ?_
  refine Zab ?_
  refine Zac ?_
  refine Zaa ?_
  refine rv 21 (.agg (B8 d)) (fun _ => Za2 23 _ _ _ _ _ _ rfl (by kernel_rfl) hr4 Tryz.underlying23 rfl (Zbm hd)) ?_
  refine rp 22 (.pointer (some ⟨g6, 0, none⟩)) ?_
  refine rv 23 (.slice a n c) (fun _ => Zag 24 _ ⟨g6, 0, none⟩ _ _ rfl (by kernel_rfl) (by rw [cell_of_row _ _ _ _ _ _ hr8]; rfl) Tryz.underlying24 rfl) ?_
  refine Zak 24 6 #[.agg (B8 d), .slice a n c] (fun _ => by kernel_rfl) (fun _ => by kernel_rfl) (R := RNw wB (topP d) (knP ns []) []) (Zkw hd hdb (hN.go hB) (by omega)) ?_
  rintro _ w9 ⟨⟨g, gK, gU, rfl, hP, hf1, hf2, hf3⟩, hb10⟩
  have hzg : w.heap.size ≤ g ∧ w.heap.size ≤ gK ∧ w.heap.size ≤ gU := by have := hB.size; omega
  replace hB := hB.go hb10
  replace hr4 := hr4.go hb10
  replace hr8 := hr8.go hb10
  replace hNF := hNF.go hb10
  refine rp 8 (.pointer (some ⟨g, 0, none⟩)) ?_
  refine Zad ?_
  refine Zab ?_
  refine Zac ?_
  refine Zaa ?_
  refine rv 25 (.agg (B8 d)) (fun _ => Za2 23 _ _ _ _ _ _ rfl (by kernel_rfl) hr4 Tryz.underlying23 rfl (Zbm hd)) ?_
  refine rp 26 (.slice aF (0 + n + n2) cF) ?_
  refine Zak 27 6 #[.agg (B8 d), .slice aF (0 + n + n2) cF] (fun _ => by kernel_rfl) (fun _ => by kernel_rfl) (R := RNw w9 (topP d) (knP (ns ++ ns2) []) []) (Zkw hd hdb hNF (by omega)) ?_
  rintro _ w11 ⟨⟨gQ, gL, gV, rfl, hQ, hf4, hf5, hf6⟩, hb12⟩
  have hzQ : w.heap.size ≤ gQ ∧ w.heap.size ≤ gV := by have := hB.size; omega
  have hltQ : g < gQ ∧ g < gV ∧ g < gL ∧ gK < gQ ∧ gK < gV ∧ gK < gL ∧ gU < gQ ∧ gU < gV ∧ gU < gL := by have := hP.lt; have := hP.km.lt; have := hP.um.lt; omega
  replace hB := hB.go hb12
  replace hr4 := hr4.go hb12
  replace hr8 := hr8.go hb12
  replace hNF := hNF.go hb12
  replace hP := hP.go hb12
  refine rp 9 (.pointer (some ⟨gQ, 0, none⟩)) ?_
  refine Zad ?_
  refine Zab ?_
  refine Zac ?_
  refine Zac ?_
  refine Zaa ?_
  refine rp 28 (.pointer (some ⟨g, 0, none⟩)) ?_
  refine rp 29 (.bool false) ?_
  refine rp 30 (.bool false) ?_
  refine rp 31 (.pointer (some ⟨gQ, 0, none⟩)) ?_
  refine rp 32 (.bool false) ?_
  refine rp 33 (.bool false) ?_
  refine rp 34 (.bool false) ?_
  refine Zak 35 7 #[] (fun _ => by kernel_rfl) (fun _ => by kernel_rfl) (R := RVl w11 (.bool true)) (Zq9) ?_
  rintro _ w13 ⟨rfl, hb14⟩
  replace hB := hB.go hb14
  replace hr4 := hr4.go hb14
  replace hr8 := hr8.go hb14
  replace hNF := hNF.go hb14
  replace hP := hP.go hb14
  replace hQ := hQ.go hb14
  refine rp 36 (.bool false) ?_
  refine rp 37 (.bool false) ?_
  refine Zad ?_
  refine Zab ?_
  refine Zaf (fun _ => by kernel_rfl) ?_
  refine Zam ?_
  refine Zab ?_
  refine Zac ?_
  refine Zac ?_
  refine Zaa ?_
  refine rp 38 (.slice aS ms cs) ?_
  refine rp 39 (.int .i64 ms) ?_
  refine rp 40 (.int .i64 0) ?_
  refine Zad ?_
  refine Zab ?_
  refine Zan ?_
  have hneK := hP.neK
  have hneU := hP.ne
  have hneL := hQ.neK
  have hneV := hQ.ne
  refine Zb8 (X := Nat × Pt) (fun x => [(40, .int .i64 ((x.1 : Nat) : Int)), (39, .int .i64 ms), (38, .slice aS ms cs), (8, .pointer (some ⟨g, 0, none⟩)), (9, .pointer (some ⟨gQ, 0, none⟩)), (6, .bool false)]) (fun x v => Bl w v ∧ x.1 ≤ ms ∧ (∃ us, PAt v g gK gU x.2 (knP ns []) us) ∧ ∃ us, PAt v gQ gL gV x.2 (knP (ns ++ ns2) []) us) (fun x => ms - x.1) (0, topP d) (by exact ⟨fun _ => by kernel_rfl, ⟨fun _ => by kernel_rfl, ⟨fun _ => by kernel_rfl, ⟨fun _ => by kernel_rfl, ⟨fun _ => by kernel_rfl, ⟨fun _ => by kernel_rfl, trivial⟩⟩⟩⟩⟩⟩) ⟨hB, Nat.zero_le _, ⟨_, hP⟩, ⟨_, hQ⟩⟩ ?_
  clear hB hP hQ hN hN2 hNF hr4 hr8
  rintro ⟨j, t⟩ v ⟨hB, hj, ⟨us, hP⟩, ⟨us2, hQ⟩⟩
  simp only at hj hP hQ
  show CW _ _ _ _ _ _ _ [(40, .int .i64 ((j : Nat) : Int)), (39, .int .i64 ms), (38, .slice aS ms cs), (8, .pointer (some ⟨g, 0, none⟩)), (9, .pointer (some ⟨gQ, 0, none⟩)), (6, .bool false)] _
  have hrl : (rtP t).length = 32 := by obtain ⟨vt, _, htt⟩ := hP.row; exact Zhr htt
  by_cases hltj : j < ms
  · skip
    obtain ⟨y, gs, off, has, hrng, hky, hvy⟩ := hO.one hB hltj
    have hcl : (callP (knP ns []) t y.z y.k y.x).2.d.length = 32 := by obtain ⟨vt, _, htt⟩ := hP.row; exact Zkd htt _ _ _
    refine Zac ?_
    refine Zaa ?_
    refine rv 41 (.bool true) (fun _ => Zal (v := .bool (decide (((j : Nat) : Int) < (ms : Int)))) (by kernel_rfl) (congrArg Value.bool (decide_eq_true (by omega)))) ?_
    refine Zad ?_
    refine Zab ?_
    refine Zac ?_
    refine Zai (fun _ => by kernel_rfl) ?_
    refine Zam ?_
    refine Zab ?_
    refine Zac ?_
    refine Zan ?_
    refine Zac ?_
    refine Zaa ?_
    refine rv 42 (.pointer (some ⟨gs, off + j * 3, none⟩)) (fun _ => Za0 25 _ _ gs off j ms cs 3 31 rfl (by rw [← has]; kernel_rfl) (by kernel_rfl) hltj Tryz.underlying25 (by kernel_rfl)) ?_
    refine rv 43 (.agg #[.int .i64 y.z, .slice y.ka y.kn y.kc, .slice y.va y.vn y.vc]) (fun _ => Zb2 31 _ _ _ _ _ rfl (by kernel_rfl) hrng Tryz.underlying31 rfl (by kernel_rfl)) ?_
    refine Zar 11 (#[.int .i64 0, .slice none 0 0, .slice none 0 0]) 31 (fun _ => by kernel_rfl) (fun _ => by kernel_rfl) ?_
    intro w15 g16 hn17
    have hr18 : Rw g16 w15 (#[.int .i64 0, .slice none 0 0, .slice none 0 0]) 31 := hn17.row
    refine Zav g16 (#[.int .i64 y.z, .slice y.ka y.kn y.kc, .slice y.va y.vn y.vc]) (fun _ => by kernel_rfl) (fun _ => Zao 31 _ _ _ _ _ 31 rfl (by kernel_rfl) (by kernel_rfl) hr18 (by kernel_rfl) (by kernel_rfl) (by kernel_rfl)) ?_
    intro w19 hp20
    replace hn17 := hn17.put hp20
    clear hr18
    have hlgg16 : g < g16 := by have := hP.lt; have := hn17.hg; omega
    have hlgKg16 : gK < g16 := by have := hP.km.lt; have := hn17.hg; omega
    have hlgUg16 : gU < g16 := by have := hP.um.lt; have := hn17.hg; omega
    have hlgQg16 : gQ < g16 := by have := hQ.lt; have := hn17.hg; omega
    have hlgLg16 : gL < g16 := by have := hQ.km.lt; have := hn17.hg; omega
    have hlgVg16 : gV < g16 := by have := hQ.um.lt; have := hn17.hg; omega
    have hzg16 : w.heap.size ≤ g16 := by have := hB.size; have := hn17.hg; omega
    replace hB := hB.go hn17.below
    replace hP := hP.go hn17.below
    replace hQ := hQ.go hn17.below
    replace hky := hky.go hn17.below
    replace hvy := hvy.go hn17.below
    have hr22 : Rw g16 w19 (#[.int .i64 y.z, .slice y.ka y.kn y.kc, .slice y.va y.vn y.vc]) 31 := hn17.row
    refine Zad ?_
    refine Zab ?_
    refine Zac ?_
    refine Zaa ?_
    refine rp 44 (.pointer (some ⟨g, 0, none⟩)) ?_
    refine rv 45 (.agg (#[.int .i64 y.z, .slice y.ka y.kn y.kc, .slice y.va y.vn y.vc])) (fun _ => Za2 31 _ _ _ _ _ _ rfl (by kernel_rfl) hr22 Tryz.underlying31 rfl (by kernel_rfl)) ?_
    refine Zak 46 8 #[.pointer (some ⟨g, 0, none⟩), .agg (#[.int .i64 y.z, .slice y.ka y.kn y.kc, .slice y.va y.vn y.vc])] (fun _ => by kernel_rfl) (fun _ => by kernel_rfl) (R := RCa w19 g gK gU (knP ns []) (callP (knP ns []) t y.z y.k y.x)) (Zg0 hP hky hvy) ?_
    rintro _ w23 ⟨⟨us24, hP25⟩, ⟨a26, n27, c28, rfl, hs29⟩, hT30⟩
    have hlenhP25 := hP25
    replace hB := hB.t2 hT30 hzg.1 hzg.2.2
    replace hQ := hQ.t2 hT30 (by omega) (by omega)
    replace hky := hky.nt hT30.n
    replace hvy := hvy.nt hT30.n
    replace hr22 := hr22.t2 hT30 (by omega) (by omega)
    replace hP := hP25
    clear hlenhP25
    refine Zar 12 (tdc (.slice none 0 0) false 0 z32) 34 (fun _ => by kernel_rfl) (fun _ => by kernel_rfl) ?_
    intro w31 g32 hn33
    have hr34 : Rw g32 w31 (tdc (.slice none 0 0) false 0 z32) 34 := hn33.row
    refine Zav g32 (tdc (.slice a26 n27 c28) (callP (knP ns []) t y.z y.k y.x).2.b (callP (knP ns []) t y.z y.k y.x).2.e (callP (knP ns []) t y.z y.k y.x).2.d) (fun _ => by kernel_rfl) (fun _ => Zao 34 _ _ _ _ _ 34 rfl (by kernel_rfl) (by kernel_rfl) hr34 (Zc6 hcl) (Zja (show z32.length = 32 from rfl) hcl) (Zgd rfl)) ?_
    intro w35 hp36
    replace hn33 := hn33.put hp36
    clear hr34
    have hlg16g32 : g16 < g32 := by have := hr22.lt; have := hn33.hg; omega
    have hlgg32 : g < g32 := by have := hP.lt; have := hn33.hg; omega
    have hlgKg32 : gK < g32 := by have := hP.km.lt; have := hn33.hg; omega
    have hlgUg32 : gU < g32 := by have := hP.um.lt; have := hn33.hg; omega
    have hlgQg32 : gQ < g32 := by have := hQ.lt; have := hn33.hg; omega
    have hlgLg32 : gL < g32 := by have := hQ.km.lt; have := hn33.hg; omega
    have hlgVg32 : gV < g32 := by have := hQ.um.lt; have := hn33.hg; omega
    have hzg32 : w.heap.size ≤ g32 := by have := hB.size; have := hn33.hg; omega
    replace hB := hB.go hn33.below
    replace hP := hP.go hn33.below
    replace hQ := hQ.go hn33.below
    replace hky := hky.go hn33.below
    replace hvy := hvy.go hn33.below
    replace hr22 := hr22.go hn33.below
    replace hs29 := hs29.go hn33.below
    have hr38 : Rw g32 w35 (tdc (.slice a26 n27 c28) (callP (knP ns []) t y.z y.k y.x).2.b (callP (knP ns []) t y.z y.k y.x).2.e (callP (knP ns []) t y.z y.k y.x).2.d) 34 := hn33.row
    refine Zad ?_
    refine Zab ?_
    refine Zac ?_
    refine Zac ?_
    refine Zaa ?_
    refine rp 47 (.pointer (some ⟨g32, 2, none⟩)) ?_
    refine rv 48 (.int .i64 (callP (knP ns []) t y.z y.k y.x).2.e) (fun _ => Zag 32 _ ⟨g32, 2, none⟩ _ _ rfl (by kernel_rfl) (by rw [cell_of_row _ _ _ _ _ _ hr38]; exact tdc2) Tryz.underlying32 rfl) ?_
    refine rp 49 (.bool (((callP (knP ns []) t y.z y.k y.x).2.e : Int) == (2 : Int))) ?_
    refine Zad ?_
    refine Zab ?_
    cases hq39 : (((callP (knP ns []) t y.z y.k y.x).2.e : Int) == (2 : Int)) with
    | true =>
      refine Zai (fun _ => by kernel_rfl) ?_
      refine Zac ?_
      refine Zaa ?_
      refine rp 6 (.bool true) ?_
      refine Zad ?_
      refine Zab ?_
      refine Zap ?_
      refine Zah ?_
      refine Zaq ?_
      refine Zah ?_
      refine Zah ?_
      refine Zaq ?_
      refine Zah ?_
      refine Zae (.bool true) (fun _ => by kernel_rfl) ?_
      exact ⟨_, rfl, rfl, hB⟩
    | false =>
      refine Zaf (fun _ => by kernel_rfl) ?_
      refine Zam ?_
      refine Zab ?_
      refine Zac ?_
      have hce : callP (knP (ns ++ ns2) []) t y.z y.k y.x = (callP (knP ns []) t y.z y.k y.x) := Xat (Xaq ns ns2) (fun e9 => by rw [e9] at hq39; cases hq39)
      refine Zbd (fun v => Rw g32 v (tdc (.slice a26 n27 c28) (callP (knP ns []) t y.z y.k y.x).2.b (callP (knP ns []) t y.z y.k y.x).2.e (callP (knP ns []) t y.z y.k y.x).2.d) 34 ∧ Rw g16 v (#[.int .i64 y.z, .slice y.ka y.kn y.kc, .slice y.va y.vn y.vc]) 31) (by kernel_rfl) (⟨hr38, hr22⟩) ?_
      replace hB := hB.go (Below.refl _ _).drew
      replace hP := hP.go (Below.refl _ _).drew
      replace hQ := hQ.go (Below.refl _ _).drew
      replace hky := hky.go (Below.refl _ _).drew
      replace hvy := hvy.go (Below.refl _ _).drew
      replace hr22 := hr22.go (Below.refl _ _).drew
      replace hs29 := hs29.go (Below.refl _ _).drew
      replace hr38 := hr38.go (Below.refl _ _).drew
      refine dt 0 50 (.agg (tdc (.slice a26 n27 c28) (callP (knP ns []) t y.z y.k y.x).2.b (callP (knP ns []) t y.z y.k y.x).2.e (callP (knP ns []) t y.z y.k y.x).2.d)) (fun v hv _ => Za2 34 _ _ _ _ _ _ rfl (by kernel_rfl) hv.1 Tryz.underlying34 rfl (Zc6 hcl)) ⟨hr38, hr22⟩ ?_
      refine dt 1 51 (.pointer (some ⟨gQ, 0, none⟩)) (fun v hv _ => by kernel_rfl) ⟨hr38, hr22⟩ ?_
      refine dt 2 52 (.agg (#[.int .i64 y.z, .slice y.ka y.kn y.kc, .slice y.va y.vn y.vc])) (fun v hv _ => Za2 31 _ _ _ _ _ _ rfl (by kernel_rfl) hv.2 Tryz.underlying31 rfl (by kernel_rfl)) ⟨hr38, hr22⟩ ?_
      refine Zas [3] (by kernel_rfl) (by simp) ?_
      refine Za5 3 53 8 #[.pointer (some ⟨gQ, 0, none⟩), .agg (#[.int .i64 y.z, .slice y.ka y.kn y.kc, .slice y.va y.vn y.vc])] rfl (fun _ => by kernel_rfl) (fun _ => by kernel_rfl) (R := RCa w35.drew gQ gL gV (knP (ns ++ ns2) []) (callP (knP ns []) t y.z y.k y.x)) (hce ▸ Zg0 hQ hky hvy) (fun u w' h9 => ⟨hr38.t2 h9.2.2 (by omega) (by omega), hr22.t2 h9.2.2 (by omega) (by omega)⟩) ?_ Zaz
      rintro _ w40 ⟨⟨us41, hP42⟩, ⟨a43, n44, c45, rfl, hs46⟩, hT47⟩
      have hlenhP42 := hP42
      replace hB := hB.t2 hT47 hzQ.1 hzQ.2
      replace hP := hP.t2 hT47 (by omega) (by omega)
      replace hky := hky.nt hT47.n
      replace hvy := hvy.nt hT47.n
      replace hr22 := hr22.t2 hT47 (by omega) (by omega)
      replace hs29 := hs29.nt hT47.n
      replace hr38 := hr38.t2 hT47 (by omega) (by omega)
      replace hQ := hP42
      clear hlenhP42
      refine Zas [4] (by kernel_rfl) (by simp) ?_
      refine Za5 4 54 10 #[.agg (tdc (.slice a26 n27 c28) (callP (knP ns []) t y.z y.k y.x).2.b (callP (knP ns []) t y.z y.k y.x).2.e (callP (knP ns []) t y.z y.k y.x).2.d), .agg (tdc (.slice a43 n44 c45) (callP (knP ns []) t y.z y.k y.x).2.b (callP (knP ns []) t y.z y.k y.x).2.e (callP (knP ns []) t y.z y.k y.x).2.d)] rfl (fun _ => by kernel_rfl) (fun _ => by kernel_rfl) (R := RVl w40 (.bool true)) (Znj (r := (callP (knP ns []) t y.z y.k y.x).2) ⟨_, _, _, rfl, hs29⟩ ⟨_, _, _, rfl, hs46⟩ hcl) (fun u w' h9 => ⟨hr38.go h9.2, hr22.go h9.2⟩) ?_ Zaz
      rintro _ w48 ⟨rfl, hb49⟩
      replace hB := hB.go hb49
      replace hP := hP.go hb49
      replace hQ := hQ.go hb49
      replace hky := hky.go hb49
      replace hvy := hvy.go hb49
      replace hr22 := hr22.go hb49
      replace hs29 := hs29.go hb49
      replace hr38 := hr38.go hb49
      replace hs46 := hs46.go hb49
      refine dt 5 55 (.bool false) (fun v hv _ => by kernel_rfl) ⟨hr38, hr22⟩ ?_
      refine Za6 (by kernel_rfl) ?_
      refine Zab ?_
      refine Zaf (fun _ => by kernel_rfl) ?_
      refine Zam ?_
      refine Zau ?_
      refine Zab ?_
      refine Zaa ?_
      refine rv 56 (.int .i64 ((j + 1 : Nat) : Int)) (fun _ => Zal (v := .int .i64 (IntKind.i64.wrap (((j : Nat) : Int) + (1 : Int)))) (by kernel_rfl) (congrArg (Value.int .i64) ((Zbc (by omega) (by omega)).trans (by omega)))) ?_
      refine rp 40 (.int .i64 ((j + 1 : Nat) : Int)) ?_
      refine Zad ?_
      exact Za7 (E := fun x => [(40, .int .i64 ((x.1 : Nat) : Int)), (39, .int .i64 ms), (38, .slice aS ms cs), (8, .pointer (some ⟨g, 0, none⟩)), (9, .pointer (some ⟨gQ, 0, none⟩)), (6, .bool false)]) (R := fun x v => Bl w v ∧ x.1 ≤ ms ∧ (∃ us, PAt v g gK gU x.2 (knP ns []) us) ∧ ∃ us, PAt v gQ gL gV x.2 (knP (ns ++ ns2) []) us) (μ := fun x => ms - x.1) (x := (j, t)) (j + 1, (callP (knP ns []) t y.z y.k y.x).1) (by exact ⟨fun _ => by kernel_rfl, ⟨fun _ => by kernel_rfl, ⟨fun _ => by kernel_rfl, ⟨fun _ => by kernel_rfl, ⟨fun _ => by kernel_rfl, ⟨fun _ => by kernel_rfl, trivial⟩⟩⟩⟩⟩⟩) ⟨hB, by simp only; omega, ⟨_, hP⟩, ⟨_, hQ⟩⟩ (by simp only; omega)
  refine Zac ?_
  refine Zaa ?_
  refine rv 41 (.bool false) (fun _ => Zal (v := .bool (decide (((j : Nat) : Int) < (ms : Int)))) (by kernel_rfl) (congrArg Value.bool (decide_eq_false (by omega)))) ?_
  refine Zad ?_
  refine Zab ?_
  refine Zac ?_
  refine Zaf (fun _ => by kernel_rfl) ?_
  refine Zb1 ?_
  refine Zat ?_
  refine Zat ?_
  refine Za1 ?_
  refine Zab ?_
  refine Zac ?_
  refine Zaa ?_
  refine rp 57 (.pointer (some ⟨g, 0, none⟩)) ?_
  refine Zak 58 11 #[.pointer (some ⟨g, 0, none⟩)] (fun _ => by kernel_rfl) (fun _ => by kernel_rfl) (R := RVl v (.agg (B8 (rtP t)))) (Zeq hP) ?_
  rintro _ w50 ⟨rfl, hb51⟩
  replace hB := hB.go hb51
  replace hP := hP.go hb51
  replace hQ := hQ.go hb51
  refine rp 59 (.pointer (some ⟨gQ, 0, none⟩)) ?_
  refine Zak 60 11 #[.pointer (some ⟨gQ, 0, none⟩)] (fun _ => by kernel_rfl) (fun _ => by kernel_rfl) (R := RVl w50 (.agg (B8 (rtP t)))) (Zeq hQ) ?_
  rintro _ w52 ⟨rfl, hb53⟩
  replace hB := hB.go hb53
  replace hP := hP.go hb53
  replace hQ := hQ.go hb53
  refine rv 61 (.bool true) (fun _ => Zal (Zpl (xs := rtP t) (ys := rtP t) rfl (by kernel_rfl) (by kernel_rfl) hrl hrl) (congrArg Value.bool (by simp))) ?_
  refine rp 6 (.bool true) ?_
  refine Zad ?_
  refine Zab ?_
  refine Zap ?_
  refine Zae (.bool true) (fun _ => by kernel_rfl) ?_
  exact ⟨_, rfl, rfl, hB⟩
theorem Xam (d : List Int) (a : Option Addr) (n c : Nat) (ns : List (List Int)) (a2 : Option Addr) (n2 c2 : Nat) (ns2 : List (List Int)) (aS : Option Addr) (ms cs : Nat) (xs : List Opx) (w : World) (hd : d.length = 32) (hdb : isB d) (hN : NsA w a n c ns) (hN2 : NsA w a2 n2 c2 ns2) (hc1 : a = none → c = 0) (hc2 : a2 = none → c2 = 0) (hn : n + n2 ≤ 4194304) (hO : OAt w aS ms xs) (hms : ms ≤ 2520000000000) :
    Calls Tryz.prog 4 #[.agg (B8 d), .agg #[.slice a n c, .slice a2 n2 c2], .slice aS ms cs] w fun e w' => e = .returned (.bool true) ∧ Below w.heap.size w w' :=
  (Xav hd hdb hN hN2 hc1 hc2 hn hO hms).mono (fun e w' ⟨u, e1, e2, e3⟩ => ⟨by rw [e1, e2], e3⟩)
end Go.Proofs.YtchgejomcgoaeaaGreat
namespace Go.Proofs.YtchgejomcgoaeaaGreat
open Go.ChangeShapes Go.WideShapes Go.ChangeAt Go.RowKit
open Go.ChangeMaps (open_string shut_string)
theorem own : ownKnob Tryz.prog.godebug = none := by kernel_rfl
theorem Zk2 : laidOutB Tryz.prog = true := by kernel_rfl
theorem Zue : Tryz.prog.cellsOf 5 = 1 := by kernel_rfl
end Go.Proofs.YtchgejomcgoaeaaGreat
namespace Go.Proofs.YtchgejomcgoaeaaGreat
open Go.ChangeShapes Go.WideShapes Go.ChangeAt Go.RowKit
variable {H : Type} {w : World} {r : Reach} {base b0 : Nat} {held : Bool} {d : DataW H} {p : List MemPlace}
theorem Zqu : Tryz.prog.cellsOf 31 = 3 := by kernel_rfl
theorem Zym : Tryz.prog.cellsOf 3 = 1 := by kernel_rfl
theorem Zyl : Tryz.prog.cellsOf 23 = 32 := by kernel_rfl
theorem Xas : Tryz.prog.cellsOf 24 = 1 := by kernel_rfl
theorem Xar : Tryz.prog.cellsOf 41 = 2 := by kernel_rfl
theorem Zqv : Tryz.prog.cellsOf 29 = 1 := by kernel_rfl
theorem Xan (d : DataW H) : 1 ≤ Rows.uptoBulk d := by
  cases d with
  | lit l => cases l <;> simp [Rows.uptoBulk]
  | _ => simp [Rows.uptoBulk]
theorem Xac {H : Type} : ∀ ds : List (DataW H), ds.length ≤ Rows.uptoBulkAll ds
  | [] => by simp [Rows.uptoBulkAll]
  | d :: r => by
    have := Xac r
    have := Xan d
    simp only [Rows.uptoBulkAll, List.length_cons]
    omega
theorem Xaf {H : Type} : ∀ {ds : List (DataW H)} {d : DataW H}, d ∈ ds → Rows.uptoBulk d ≤ Rows.uptoBulkAll ds
  | [], d, h => by cases h
  | e :: r, d, h => by
    simp only [Rows.uptoBulkAll]
    rcases List.mem_cons.1 h with rfl | h
    · omega
    · have := Xaf h
      omega
section
variable {H : Type} {enc : TypeId × Value → H} {w : World} {held : Bool}
theorem Zio {fuel : Nat} {cs : List Value} {x : DataW H × List MemPlace} (hf : DataW.trod enc Tryz.prog w 0 (fun _ => true) held fuel 29 cs = some x)
    (hbk : Rows.uptoBulk x.1 ≤ 1048576) : ∃ a len cap bs, cs = [.slice a len cap] ∧ Ag w a len cap bs ∧ len ≤ 1048576 := by
  rcases open_ints Tryz.underlying29 Tryz.underlying5 Zue hf with ⟨hcs, _⟩ | ⟨p, len, cap, zs, hcs, _, hl, hm, hz, hx, hcell, hwz⟩
  · exact ⟨none, 0, 0, [], hcs, ⟨.inl ⟨rfl, rfl⟩, fun _ => ⟨rfl, rfl⟩, rfl, fun x hx => by cases hx⟩, by omega⟩
  · have hz2 : zs.length = cap := by simpa using hz
    have hsz2 := hbk
    rw [hx] at hsz2
    simp only [Rows.uptoBulk] at hsz2
    have hb1 := Xac (H := H) (lits .u8 (zs.take len))
    simp only [lits, List.length_map, List.length_take] at hb1 hsz2
    have hlen : (zs.take len).length = len := by rw [List.length_take]; omega
    have hbd : ∀ n ∈ zs.take len, 0 ≤ n ∧ n < 256 := fun n hn => by
      have := bounds_u8 (hwz n (List.mem_of_mem_take hn))
      omega
    refine ⟨some p, len, cap, zs.take len, hcs, ⟨?_, (fun h => by cases h), hlen, hbd⟩, by omega⟩
    by_cases h0 : len = 0
    · subst h0
      exact .inl ⟨rfl, by simp⟩
    · obtain ⟨b, off, spot⟩ := p
      have hc := hcell 0 (by omega)
      have hspot : spot = none := by simpa [Addr.add] using World.cell?_spot hc
      subst hspot
      refine .inr ⟨b, off, rfl, hlen, by omega, hl, hm, fun j hj => ?_⟩
      rw [hlen] at hj
      have := hcell j (by omega)
      rw [Zbb] at this
      rw [this, List.getD, List.getD, List.getElem?_take_of_lt hj]
end
theorem Znd {P : Program} {t n e : TypeId} {v : Value} (ht : P.underlying t = some (.array n e)) (h : Value.okWide P w r base t v) : ∃ cs, v = .agg cs ∧ cs.size = P.cellsOf t := by
  simp only [Value.okWide, ht] at h
  obtain ⟨cs, h1, h2, _⟩ := h
  exact ⟨cs, h1, h2⟩
theorem Zsj {enc : TypeId × Value → H} {spare : Nat → Bool} {v : Value}
    (hv : Value.okWide Tryz.prog w r b0 23 v) (h : DataW.Trod enc Tryz.prog w base spare held 23 v d p) : ∃ xs : List Int, v = .agg (B8 xs) ∧ xs.length = 32 ∧ ∀ x ∈ xs, 0 ≤ x ∧ x < 256 := by
  obtain ⟨cs, rfl, hsz⟩ := Znd Tryz.underlying23 hv
  rw [Zyl] at hsz
  obtain ⟨fuel, hf⟩ := h
  obtain ⟨ys, m, _, _, hlen, hyl, hel⟩ := DataW.trod_array Tryz.underlying23 hf
  have hc : ∀ i, i < 32 → ∃ n : Int, cs.toList[i]? = some (.int .u8 n) ∧ 0 ≤ n ∧ n < 256 := by
    intro i hi
    have hy : i < ys.length := by omega
    have e := hel i hi
    rw [Zue, List.getElem?_eq_getElem hy, Nat.mul_one] at e
    obtain ⟨n, hn, _, hwf⟩ := DataW.trod_int Tryz.underlying5 e
    have hcells : (Value.agg cs).cells.toList = cs.toList := by simp [Value.cells]
    rw [hcells] at hn
    have h0 : ((cs.toList.drop i).take 1)[0]? = some (.int .u8 n) := by rw [hn]; rfl
    rw [List.getElem?_take_of_lt (by omega), List.getElem?_drop] at h0
    exact ⟨n, by simpa using h0, by have := bounds_u8 hwf; omega, by have := bounds_u8 hwf; omega⟩
  refine ⟨cs.toList.map fun v => match v with | .int _ n => n | _ => 0, ?_, by simp [hsz], ?_⟩
  · congr 1
    apply Array.ext'
    unfold B8
    apply List.ext_getElem
    · simp
    · intro i h1 h2
      obtain ⟨n, hn, _⟩ := hc i (by simpa [hsz] using h1)
      have e := (List.getElem?_eq_some_iff.1 hn).2
      simp only [List.getElem_map]
      rw [e]
  · intro x hx
    obtain ⟨v, hv, rfl⟩ := List.mem_map.1 hx
    obtain ⟨i, hi, he⟩ := List.mem_iff_getElem.1 hv
    obtain ⟨n, hn, h0, h1⟩ := hc i (by simpa [hsz] using hi)
    have e := (List.getElem?_eq_some_iff.1 hn).2
    rw [← he, e]
    exact ⟨h0, h1⟩
theorem Xah {enc : TypeId × Value → H} {fuel : Nat} {cs : List Value} {x : DataW H × List MemPlace} (hf : DataW.trod enc Tryz.prog w 0 (fun _ => true) held fuel 24 cs = some x)
    (hbk : Rows.uptoBulk x.1 ≤ 1048576) : ∃ a m c M, cs = [.slice a m c] ∧ NsA w a m c M ∧ (a = none → c = 0) ∧ m ≤ 1048576 := by
  rcases DataW.trod_slice Tryz.underlying24 hf with ⟨hcs, _⟩ | ⟨p, len0, cap0, elems, rest, n, hfu, hcs, hx, _, hl, hm, hlen, hel, hrl, _⟩
  · exact ⟨none, 0, 0, [], hcs, ⟨rfl, fun j b hj => by simp at hj⟩, fun _ => rfl, by omega⟩
  · subst hx
    have hb : Rows.uptoBulk (DataW.slice (elems.map (·.1)) (rest.map (·.1))) ≤ 1048576 := hbk
    simp only [Rows.uptoBulk] at hb
    have hlb := Xac (elems.map (·.1))
    rw [List.length_map] at hlb
    have hthing : ∀ i, i < len0 → ∃ a' n' c' bs, w.cell? ((p.add (i * 1)).add 0) = some (.slice a' n' c') ∧ Ag w a' n' c' bs ∧ n' ≤ 1048576 := by
      intro i hi
      have he := hel i hi
      rw [Zqv, List.getElem?_eq_getElem (by omega), Option.bind_eq_some_iff] at he
      obtain ⟨cs', hc1, hc2⟩ := he
      obtain ⟨_, hc3, hc4⟩ := World.cells?_some hc1
      obtain ⟨a', n', c', bs, hs, hag, hle'⟩ := Zio hc2 (by have := Xaf (List.mem_map_of_mem (f := (·.1)) (List.getElem_mem (l := elems) (by omega : i < elems.length))); omega)
      refine ⟨a', n', c', bs, ?_, hag, hle'⟩
      have := hc4 0 (by omega)
      rw [hs] at this
      exact this
    have hall : ∀ d k, k + d = len0 → ∃ M : List (List Int), M.length = d ∧ ∀ j, j < d → ∃ a' n' c', w.cell? ((p.add ((k + j) * 1)).add 0) = some (.slice a' n' c') ∧ Ag w a' n' c' (M.getD j []) ∧ n' ≤ 1048576 := by
      intro d
      induction d with
      | zero => intro k _; exact ⟨[], rfl, fun j hj => by omega⟩
      | succ d ihd =>
        intro k hk
        obtain ⟨M, h1, h2⟩ := ihd (k + 1) (by omega)
        obtain ⟨a', n', c', bs, h3, h4, h4l⟩ := hthing k (by omega)
        refine ⟨bs :: M, by simp [h1], fun j hj => ?_⟩
        cases j with
        | zero => exact ⟨a', n', c', h3, by simpa using h4, h4l⟩
        | succ j =>
          obtain ⟨a2, n2, c2, h5, h6, h6l⟩ := h2 j (by omega)
          rw [show k + 1 + j = k + (j + 1) from by omega] at h5
          exact ⟨a2, n2, c2, h5, by simpa using h6, h6l⟩
    obtain ⟨M, h1, h2⟩ := hall len0 0 (by omega)
    refine ⟨some p, len0, cap0, M, hcs, ⟨h1.symm, fun j b hjb => ?_⟩, (fun h => by cases h), by omega⟩
    have hj : j < M.length := (List.getElem?_eq_some_iff.1 hjb).1
    obtain ⟨a', n', c', h5, h6, h6l⟩ := h2 j (by omega)
    rw [Nat.zero_add] at h5
    have hsp0 : p.spot = none := by
      obtain ⟨_, _, _, _, h7, _, _⟩ := hthing 0 (by omega)
      simpa [Addr.add] using World.cell?_spot h7
    obtain ⟨g, off, spot⟩ := p
    have hsp : spot = none := hsp0
    subst hsp
    rw [Zbb, Zbb] at h5
    rw [show M.getD j [] = b from by simp [List.getD, hjb]] at h6
    exact ⟨g, off, a', n', c', rfl, h5, Ag.sk h6, by omega⟩
section
variable {H : Type} {enc : TypeId × Value → H} {w : World} {held : Bool}
theorem Zr0 {cs : List Value} (h : cs.length = 3) : cs = (cs.drop 0).take 1 ++ ((cs.drop 1).take 1 ++ (cs.drop 2).take 1) := by
  match cs, h with
  | [a, b, c], _ => rfl
theorem Zsi {fuel : Nat} {cs : List Value} {x : DataW H × List MemPlace} (hf : DataW.trod enc Tryz.prog w 0 (fun _ => true) held fuel 31 cs = some x)
    (hbk : Rows.uptoBulk x.1 ≤ 1048576) : ∃ y : Opx, cs = y.cells.toList ∧ Ag w y.ka y.kn y.kc y.k ∧ Ag w y.va y.vn y.vc y.x := by
  obtain ⟨xs, n, hfu, hx, hcl, hxl, hel⟩ := DataW.trod_struct Tryz.underlying31 hf
  rw [Zqu] at hcl
  have e0 := hel 0 _ rfl
  have e1 := hel 1 _ rfl
  have e2 := hel 2 _ rfl
  have hxl3 : xs.length = 3 := hxl
  obtain ⟨x0, x1, x2, rfl⟩ : ∃ x0 x1 x2, xs = [x0, x1, x2] := by
    match xs, hxl3 with
    | [a, b, c], _ => exact ⟨a, b, c, rfl⟩
  subst hx
  simp only [Rows.uptoBulk, List.map, Rows.uptoBulkAll] at hbk
  have f0 : DataW.trod enc Tryz.prog w 0 (fun _ => true) held n 3 ((cs.drop 0).take (Tryz.prog.cellsOf 3)) = some x0 := e0
  have f1 : DataW.trod enc Tryz.prog w 0 (fun _ => true) held n 29 ((cs.drop 1).take (Tryz.prog.cellsOf 29)) = some x1 := e1
  have f2 : DataW.trod enc Tryz.prog w 0 (fun _ => true) held n 29 ((cs.drop 2).take (Tryz.prog.cellsOf 29)) = some x2 := e2
  rw [Zym] at f0
  rw [Zqv] at f1
  rw [Zqv] at f2
  obtain ⟨k, hk, _, _⟩ := DataW.trod_int Tryz.underlying3 f0
  obtain ⟨a1, m1, c1, b1, hb1, hag1, _⟩ := Zio f1 (by omega)
  obtain ⟨a2, m2, c2, b2, hb2, hag2, _⟩ := Zio f2 (by omega)
  refine ⟨⟨k, a1, m1, c1, a2, m2, c2, b1, b2⟩, ?_, hag1, hag2⟩
  rw [Zr0 (cs := cs) hcl, hk, hb1, hb2]
  rfl
theorem Zpf {fuel : Nat} {cs : List Value} {x : DataW H × List MemPlace} (hf : DataW.trod enc Tryz.prog w 0 (fun _ => true) held fuel 25 cs = some x)
    (hbk : Rows.uptoBulk x.1 ≤ 1048576) : ∃ a m c xs, cs = [.slice a m c] ∧ OAt w a m xs ∧ m ≤ 1048576 := by
  rcases DataW.trod_slice Tryz.underlying25 hf with ⟨hcs, _⟩ | ⟨p, len, cap, elems, rest, n, hfu, hcs, hx, _, hl, hm, hlen, hel, _, _⟩
  · exact ⟨none, 0, 0, [], hcs, ⟨rfl, fun j r hr => by simp at hr, (fun x hx => by cases hx), fun x hx => by cases hx⟩, by omega⟩
  · subst hx
    have hb : Rows.uptoBulk (DataW.slice (elems.map (·.1)) (rest.map (·.1))) ≤ 1048576 := hbk
    simp only [Rows.uptoBulk] at hb
    have hlb := Xac (elems.map (·.1))
    rw [List.length_map] at hlb
    have hthing : ∀ i, i < len → ∃ y : Opx, (∀ k, k < 3 → w.cell? ((p.add (i * 3)).add k) = y.cells.toList[k]?) ∧ Ag w y.ka y.kn y.kc y.k ∧ Ag w y.va y.vn y.vc y.x := by
      intro i hi
      have he := hel i hi
      rw [Zqu, List.getElem?_eq_getElem (by omega), Option.bind_eq_some_iff] at he
      obtain ⟨cs', hc1, hc2⟩ := he
      obtain ⟨_, hc3, hc4⟩ := World.cells?_some hc1
      obtain ⟨y, hcs', hr⟩ := Zsi hc2 (by have := Xaf (List.mem_map_of_mem (f := (·.1)) (List.getElem_mem (l := elems) (by omega : i < elems.length))); omega)
      refine ⟨y, ?_, hr⟩
      rw [hcs'] at hc4
      exact hc4
    have hspot : 0 < len → p.spot = none := by
      intro h
      obtain ⟨y, hc, hr⟩ := hthing 0 h
      have c0 := hc 0 (by omega)
      rw [show y.cells.toList[0]? = some (.int .i64 y.z) from rfl] at c0
      simpa [Addr.add] using World.cell?_spot c0
    have hall : ∀ d k, k + d = len → ∃ ks : List Opx, ks.length = d ∧ (∀ j r, ks[j]? = some r → ∃ g off, (some p : Option Addr) = some ⟨g, off, none⟩ ∧ w.rangeAt g (off + (k + j) * 3) r.cells.toList) ∧ ∀ y ∈ ks, Ag w y.ka y.kn y.kc y.k ∧ Ag w y.va y.vn y.vc y.x := by
      intro d
      induction d with
      | zero => intro k _; exact ⟨[], rfl, (fun j r hr => by simp at hr), fun x hx => by cases hx⟩
      | succ d ihd =>
        intro k hk
        obtain ⟨ks, h1, h2, h3⟩ := ihd (k + 1) (by omega)
        obtain ⟨y, hc, hr⟩ := hthing k (by omega)
        refine ⟨y :: ks, by rw [List.length_cons, h1], fun j s hs => ?_, fun x hx => ?_⟩
        · cases j with
          | zero =>
            simp at hs
            subst hs
            obtain ⟨g, off, spot⟩ := p
            have hsp : spot = none := hspot (by omega)
            subst hsp
            refine ⟨g, off, rfl, fun i u hu => ?_⟩
            have hi : i < 3 := (List.getElem?_eq_some_iff.1 hu).1
            have := hc i hi
            rw [Zbb, Zbb, hu] at this
            exact this
          | succ j =>
            obtain ⟨g, off, e, h3⟩ := h2 j s (by simpa using hs)
            rw [show k + 1 + j = k + (j + 1) from by omega] at h3
            exact ⟨g, off, e, h3⟩
        · rcases List.mem_cons.1 hx with rfl | hx
          · exact hr
          · exact h3 x hx
    obtain ⟨ks, h1, h2, h3⟩ := hall len 0 (by omega)
    refine ⟨some p, len, cap, ks, hcs, ⟨h1, fun j r hr => ?_, fun y hy => (h3 y hy).1, fun y hy => (h3 y hy).2⟩, by omega⟩
    obtain ⟨g, off, e, h3⟩ := h2 j r hr
    rw [Nat.zero_add] at h3
    exact ⟨g, off, e, h3⟩
end
theorem Xai {enc : TypeId × Value → H} {v : Value}
    (hv : Value.okWide Tryz.prog w r b0 25 v) (h : DataW.Trod enc Tryz.prog w 0 (fun _ => true) held 25 v d p)
    (hbk : Rows.uptoBulk d ≤ 1048576) : ∃ a m c xs, v = .slice a m c ∧ OAt w a m xs ∧ m ≤ 1048576 := by
  obtain ⟨a, len, cap, rfl⟩ := okWide_slice Tryz.underlying25 hv
  obtain ⟨fuel, hf⟩ := h
  obtain ⟨a', m, c, xs, hcs, hx⟩ := Zpf hf hbk
  simp [Value.cells] at hcs
  obtain ⟨rfl, rfl, rfl⟩ := hcs
  exact ⟨_, _, _, xs, rfl, hx⟩
theorem Xal {enc : TypeId × Value → H} {v : Value}
    (hv : Value.okWide Tryz.prog w r b0 41 v) (h : DataW.Trod enc Tryz.prog w 0 (fun _ => true) held 41 v d p)
    (hbk : Rows.uptoBulk d ≤ 1048576) : ∃ a n c M a2 n2 c2 M2, v = .agg #[.slice a n c, .slice a2 n2 c2] ∧ NsA w a n c M ∧ NsA w a2 n2 c2 M2 ∧ (a = none → c = 0) ∧ (a2 = none → c2 = 0) ∧ n + n2 ≤ 4194304 := by
  obtain ⟨cs, rfl, hsz⟩ := Znd Tryz.underlying41 hv
  rw [Xar] at hsz
  obtain ⟨fuel, hf⟩ := h
  obtain ⟨ys, m, _, hx, hlen, hyl, hel⟩ := DataW.trod_array Tryz.underlying41 hf
  have hd : d = DataW.agg (ys.map (·.1)) := congrArg Prod.fst hx
  have hyl2 : ys.length = 2 := hyl
  obtain ⟨y0, y1, rfl⟩ : ∃ y0 y1, ys = [y0, y1] := by
    match ys, hyl2 with
    | [a, b], _ => exact ⟨a, b, rfl⟩
  rw [hd] at hbk
  simp only [Rows.uptoBulk, List.map, Rows.uptoBulkAll] at hbk
  have hcells : (Value.agg cs).cells.toList = cs.toList := by simp [Value.cells]
  obtain ⟨x0, x1, hcs⟩ : ∃ x0 x1, cs.toList = [x0, x1] := by
    have h2 : cs.toList.length = 2 := by simpa using hsz
    match cs.toList, h2 with
    | [a, b], _ => exact ⟨a, b, rfl⟩
  have e0 := hel 0 (by omega)
  have e1 := hel 1 (by omega)
  rw [hcells, hcs, Xas] at e0 e1
  obtain ⟨a, n, c, M, h1, h2, h3, h4⟩ := Xah (x := y0) e0 (by omega)
  obtain ⟨a2, n2, c2, M2, g1, g2, g3, g4⟩ := Xah (x := y1) e1 (by omega)
  refine ⟨a, n, c, M, a2, n2, c2, M2, ?_, h2, g2, h3, g3, by omega⟩
  congr 1
  apply Array.ext'
  rw [hcs]
  simp at h1 g1
  rw [h1, g1]
end Go.Proofs.YtchgejomcgoaeaaGreat
