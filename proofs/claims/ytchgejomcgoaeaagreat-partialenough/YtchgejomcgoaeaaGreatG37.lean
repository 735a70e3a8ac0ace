/- Ahead of the statements: answers that the document fixes. -/
import Derived.Test.YtchgejomcgoaeaaGreatG36
import Derived.Test.YtchgejomcgoaeaaGreatG22
import Derived.Lib.SlBytesConst
import Derived.Test.YtchgejomcgoaeaaGreatG14
import Derived.Test.YtchgejomcgoaeaaGreatG00
import Derived.ProofKit
import Derived.OpenShut
import Derived.ShutString
import Derived.ChangeOld
import Derived.SizedLaws
set_option linter.unusedVariables false
set_option maxRecDepth 100000
namespace Go.Proofs.YtchgejomcgoaeaaGreat
open Go.RowKit
open Di (dref)
open Pt
variable {g gU gK n c : Nat} {w : World} {us : List (List Int)} {a : Option Addr} {b : List Int}
theorem Zqs {w1 w2 : World} {g : Nat} {x : Int} (hx : 0 ≤ x ∧ x < 256) (hn : New w1 w2 g #[.int .u8 x] 5) {K : Nat → Prop} (hK : ∀ b, w1.heap.size ≤ b → K b) : ∃ w3, (∀ (ρ : Operand → Value) (o : Oper) (y : Operand), o.op = .convert 29 29 y → ρ y = .slice (some ⟨g, 0, none⟩) 1 1 → (execOp ρ o).run Tryz.prog w2 = .ok (.value (.slice (some ⟨g, 0, none⟩) 1 1)) w3) ∧ Below w1.heap.size w1 w3 ∧ Sk K w3 (some ⟨g, 0, none⟩) 1 1 [x] := by
 obtain ⟨rfl, rfl⟩ := hn
 refine ⟨w1.alloc (.cells #[.int .u8 x] 5 (1, 2)), ?_, (Below.refl _ _).alloc (Nat.le_refl _) _, ?_⟩
 ·intro ρ o y ho hy
  have := Lib.run_convert_bytes_const (P := Tryz.prog) w1 29 5 #[.int .u8 x] 1 1 Tryz.underlying29 Tryz.underlying5
  unfold execOp
  simp only [ho, hy, Sem.run_bind, this, Result.andThen_ok, Sem.run_pure]
  rfl
 ·refine ⟨⟨.inr ⟨w1.heap.size, 0, rfl, rfl, by omega, by omega, by unfold maxLen; omega, fun j hj => ?_⟩, (fun e => by cases e), rfl, fun y hy => by rw [List.mem_singleton.1 hy]; exact hx⟩, fun y hy _ => ?_⟩
  ·have : j = 0 := by simpa using hj
   subst this
   rw [cell_of_row _ _ _ _ _ _ (heap_alloc_new w1 _)]; rfl
  ·cases hy
   exact hK _ (Nat.le_refl _)
def LB : List Int := [196, 130, 32, 97, 1]
theorem al_ne : ¬ dref LB = dref [128] := fun h => absurd (congrArg (fun l : List Int => l.getD 0 0) h) (by decide +kernel)
theorem Zyv : topP (dref LB) = st (dref LB) := by unfold topP; rw [if_neg al_ne]
theorem al_nd : ND LB = some ⟨1, [6, 1], [1], r0, []⟩ := by kernel_rfl
theorem al_th : TH ⟨1, [6, 1], [1], r0, []⟩ = leaf [6, 1] [1] := by unfold TH thG; rfl
theorem al_kn : knP [LB] [] = [(dref LB, leaf [6, 1] [1])] := by
 rw [Zmc]
 simp only [findK, al_nd, al_th]
 rfl
theorem Ztm : topP (dref [128]) = no := by unfold topP; rw [if_pos rfl]
theorem Zyw : putQ [] no [97] [1] = (leaf [6, 1] [1], 0) := by kernel_rfl
theorem Zyx (d : List Int) : getP [(d, leaf [6, 1] [1])] (st d) [97] = ([1], 0) := by
 have hn : Ni.nib [97] = [6, 1] := by kernel_rfl
 simp [getP, hn, wayP, walkP, lookP, findK, fitP, nextP, valS, endS, isBr]
theorem Zyu (d : List Int) : getU [(d, leaf [6, 1] [1])] (st d) [97] [] = [d] := by
 simp [getU, wkU, lkU, lookP, findK, fitP, nextP, isBr, useP, findI]
theorem Zwo : rtP (leaf [6, 1] [1]) = dref LB := by
 rw [Zot rfl, show encN (ndT (leaf [6, 1] [1])) = LB from by kernel_rfl]
theorem Bl.t2 {v v' : World} (h : Bl w v) (ht : T2 g gU v v') (h1 : w.heap.size ≤ g) (h2 : w.heap.size ≤ gU) : Bl w v' :=
  Below.trans h ⟨ht.os, ht.tape, ht.output, ht.size, fun k hk => ht.block k (by have := h.size; omega) (by omega) (by omega)⟩
theorem PAt.t2 {g' gU' : Nat} {t : Pt} {kn : Kn} {v : World} (h : PAt w g gK gU t kn us) (ht : T2 g' gU' w v) (h1 : g ≠ g' ∧ gK ≠ g' ∧ gU ≠ g') (h2 : g ≠ gU' ∧ gK ≠ gU' ∧ gU ≠ gU') : PAt v g gK gU t kn us :=
  h.keep ht.n (ht.block _ h.lt h1.1 h2.1) (ht.block _ h.km.lt h1.2.1 h2.2.1) (h.um.keep (ht.block _ h.um.lt h1.2.2 h2.2.2))
theorem Zo3 (h : Sk An w a n c b) (hn : n ≤ 140737488351232) : Calls Tryz.prog 16 #[.slice a n c] w fun e w' => ∃ v, e = .returned v ∧ RVl w (.agg (B8 (dref b))) v w' := (Zlv a n c b w h.ag hn).mono fun e w' h => ⟨_, h.1, rfl, h.2⟩
theorem Zoz (w : World) : Calls Tryz.prog 17 #[] w fun e w' => ∃ v, e = .returned v ∧ RVl w (.agg (B8 (dref [128]))) v w' := (Zhg w).mono fun e w' h => ⟨_, h.1, rfl, h.2⟩
theorem Zxu (h : Rw g w #[.slice a n c] 29) (hs : Sk An w a n c b) (hn : n ≤ 140737488351232) : NsA w (some ⟨g, 0, none⟩) 1 1 [b] := ⟨rfl, fun j x hj => by
  match j, hj with
  | 0, hj =>
    cases hj
    exact ⟨g, 0, a, n, c, rfl, by rw [cell_of_row _ _ _ _ _ _ h]; rfl, hs, hn⟩
  | j + 1, hj => simp at hj⟩
theorem Zxv (w : World) : NsA w none 0 0 [] := ⟨rfl, fun j x hj => by simp at hj⟩
theorem new_p (hN : NsA w a n c [LB]) : Calls Tryz.prog 6 #[.agg (B8 (dref LB)), .slice a n c] w fun e w' => ∃ v', e = .returned v' ∧ RNw w (st (dref LB)) [(dref LB, leaf [6, 1] [1])] [] v' w' := by
 have := Zkw (Di.dref_len LB) (Zi3 LB) hN (by have := hN.len; simp at this; omega)
 rw [Zyv, al_kn] at this
 exact this
theorem new_q : Calls Tryz.prog 6 #[.agg (B8 (dref [128])), .slice none 0 0] w fun e w' => ∃ v', e = .returned v' ∧ RNw w no [] [] v' w' := by
 have := Zkw (Di.dref_len [128]) (Zi3 [128]) (Zxv w) (by omega)
 rw [Ztm] at this
 exact this
theorem put_q {b : Option Addr} {m d : Nat} (hP : PAt w g gK gU no [] []) (hk : Sk An w a n c [97]) (hy : Sk An w b m d [1]) : Calls Tryz.prog 18 #[.pointer (some ⟨g, 0, none⟩), .slice a n c, .slice b m d] w fun e w' => ∃ v', e = .returned v' ∧ RPut w g gK gU [] (putU [] no [97] [1] []) (leaf [6, 1] [1], 0) v' w' := by
 have := Zlz hP hk hy
 rw [Zyw] at this
 exact this
def RGq (w : World) (g gK gU : Nat) : Value → World → Prop := fun u w' => PAt w' g gK gU (st (dref LB)) [(dref LB, leaf [6, 1] [1])] [dref LB] ∧ (∃ a n c, u = .tuple #[.slice a n c, .bool true, .int .i64 0] ∧ Sk An w' a n c [1]) ∧ T2 gU gU w w'
theorem get_p (hP : PAt w g gK gU (st (dref LB)) [(dref LB, leaf [6, 1] [1])] []) (hk : Sk An w a n c [97]) : Calls Tryz.prog 19 #[.pointer (some ⟨g, 0, none⟩), .slice a n c] w fun e w' => ∃ v', e = .returned v' ∧ RGq w g gK gU v' w' := by
 have := Zqk hP hk
 unfold RGet at this
 rw [Zyx, Zyu] at this
 refine this.mono fun e w' h => ?_
 obtain ⟨v', h1, h2, ⟨a, n, c, h3, h4, _⟩, h5⟩ := h
 exact ⟨v', h1, h2, ⟨a, n, c, h3, h4⟩, T2.of h5⟩
theorem Zxh (hP : PAt w g gK gU (leaf [6, 1] [1]) [] us) : Calls Tryz.prog 11 #[.pointer (some ⟨g, 0, none⟩)] w fun e w' => ∃ v', e = .returned v' ∧ RVl w (.agg (B8 (dref LB))) v' w' := by
 have := Zeq hP
 rw [Zwo] at this
 exact this
set_option maxHeartbeats 1000000 in
theorem Zq9 : Calls Tryz.prog 7 #[] w fun e w' => ∃ v', e = .returned v' ∧ RVl w (.bool true) v' w' := by
 have hB : Bl w w := Bl.refl w
 refine Zaj Tryz.func7 rfl 60 rfl ?_
 show CW _ _ _ _ _ _ _ [] _
 refine Zac ?_
 refine Zaa ?_
 refine rp 0 (.bool false) ?_
 refine Zad ?_
 refine Zab ?_
 refine Zac ?_
 refine Zaa ?_
 refine Zcg 7 #[.int .u8 196, .int .u8 130, .int .u8 32, .int .u8 97, .int .u8 1] 5 5 (fun _ => by kernel_rfl) (fun _ => by kernel_rfl) ?_
 intro w1 g2 hn3
 replace hB := hB.go hn3.below
 have hs4 : Sk An w1 (some ⟨g2, 0, none⟩) 5 5 LB := Ag.sk (Ni.row_ag (show Ni.Row g2 w1 [196, 130, 32, 97, 1] from hn3.row) rfl (fun x hx => by simp [LB] at hx; omega) (by omega))
 refine rp 1 (.slice (some ⟨g2, 0, none⟩) 5 5) ?_
 refine Zad ?_
 refine Zab ?_
 refine Zac ?_
 refine Zaa ?_
 refine rp 8 (.slice (some ⟨g2, 0, none⟩) 5 5) ?_
 refine Zak 9 16 #[.slice (some ⟨g2, 0, none⟩) 5 5] (fun _ => by kernel_rfl) (fun _ => by kernel_rfl) (R := RVl w1 (.agg (B8 (dref LB)))) (Zo3 hs4 (by omega)) ?_
 rintro _ w5 ⟨rfl, hb6⟩
 replace hB := hB.go hb6
 replace hs4 := hs4.go hb6
 refine rp 10 (.slice (some ⟨g2, 0, none⟩) 5 5) ?_
 refine Zcg 11 #[.slice (some ⟨g2, 0, none⟩) 5 5] 29 1 (fun _ => by kernel_rfl) (fun _ => by kernel_rfl) ?_
 intro w7 g8 hn9
 replace hB := hB.go hn9.below
 replace hs4 := hs4.go hn9.below
 have hNs := Zxu hn9.row hs4 (by omega)
 refine Zak 12 6 #[.agg (B8 (dref LB)), .slice (some ⟨g8, 0, none⟩) 1 1] (fun _ => by kernel_rfl) (fun _ => by kernel_rfl) (R := RNw w7 (st (dref LB)) [(dref LB, leaf [6, 1] [1])] []) (new_p hNs) ?_
 rintro _ w10 ⟨⟨g1p, gK1p, gU1p, rfl, hP1, hf1a, hf1b, hf1c⟩, hb11⟩
 have hz1 : w.heap.size ≤ g1p ∧ w.heap.size ≤ gK1p ∧ w.heap.size ≤ gU1p := by have := hB.size; omega
 replace hB := hB.go hb11
 replace hs4 := hs4.go hb11
 replace hNs := hNs.go hb11
 refine rp 2 (.pointer (some ⟨g1p, 0, none⟩)) ?_
 refine Zad ?_
 refine Zab ?_
 refine Zac ?_
 refine Zaa ?_
 refine Zak 13 17 #[] (fun _ => by kernel_rfl) (fun _ => by kernel_rfl) (R := RVl w10 (.agg (B8 (dref [128])))) (Zoz w10) ?_
 rintro _ w12 ⟨rfl, hb13⟩
 replace hB := hB.go hb13
 replace hs4 := hs4.go hb13
 replace hNs := hNs.go hb13
 replace hP1 := hP1.go hb13
 refine Zak 14 6 #[.agg (B8 (dref [128])), .slice none 0 0] (fun _ => by kernel_rfl) (fun _ => by kernel_rfl) (R := RNw w12 no [] []) (new_q) ?_
 rintro _ w14 ⟨⟨g2p, gK2p, gU2p, rfl, hP2, hf2a, hf2b, hf2c⟩, hb15⟩
 have hz2 : w.heap.size ≤ g2p ∧ w.heap.size ≤ gK2p ∧ w.heap.size ≤ gU2p := by have := hB.size; omega
 have hlt : g1p < g2p ∧ g1p < gK2p ∧ g1p < gU2p ∧ gK1p < g2p ∧ gK1p < gK2p ∧ gK1p < gU2p ∧ gU1p < g2p ∧ gU1p < gK2p ∧ gU1p < gU2p := by have := hP1.lt; have := hP1.km.lt; have := hP1.um.lt; omega
 replace hB := hB.go hb15
 replace hs4 := hs4.go hb15
 replace hNs := hNs.go hb15
 replace hP1 := hP1.go hb15
 refine rp 3 (.pointer (some ⟨g2p, 0, none⟩)) ?_
 refine Zad ?_
 refine Zab ?_
 refine Zac ?_
 refine Zac ?_
 refine Zaa ?_
 refine rp 15 (.pointer (some ⟨g1p, 0, none⟩)) ?_
 refine rp 16 (.bool false) ?_
 refine rp 17 (.bool false) ?_
 refine rp 18 (.pointer (some ⟨g2p, 0, none⟩)) ?_
 refine rp 19 (.bool false) ?_
 refine rp 20 (.bool false) ?_
 refine rp 21 (.bool false) ?_
 refine rp 22 (.pointer (some ⟨g2p, 0, none⟩)) ?_
 refine Zcg 23 #[.int .u8 97] 5 1 (fun _ => by kernel_rfl) (fun _ => by kernel_rfl) ?_
 intro w16 g17 hn18
 obtain ⟨w19, hr20, hb21, hs22⟩ := Zqs (x := 97) (by omega) hn18 (K := An) (fun _ _ => trivial)
 refine rw_v 24 (.slice (some ⟨g17, 0, none⟩) 1 1) (fun _ => by kernel_rfl) (fun _ => hr20 _ _ _ rfl (by kernel_rfl)) ?_
 replace hB := hB.go hb21
 replace hs4 := hs4.go hb21
 replace hNs := hNs.go hb21
 replace hP1 := hP1.go hb21
 replace hP2 := hP2.go hb21
 refine Zcg 25 #[.int .u8 1] 5 1 (fun _ => by kernel_rfl) (fun _ => by kernel_rfl) ?_
 intro w23 g24 hn25
 replace hB := hB.go hn25.below
 replace hs4 := hs4.go hn25.below
 replace hNs := hNs.go hn25.below
 replace hP1 := hP1.go hn25.below
 replace hP2 := hP2.go hn25.below
 replace hs22 := hs22.go hn25.below
 have hs26 : Sk An w23 (some ⟨g24, 0, none⟩) 1 1 [1] := Ag.sk (Ni.row_ag (show Ni.Row g24 w23 [1] from hn25.row) rfl (fun x hx => by simp at hx; omega) (by omega))
 refine Zak 26 18 #[.pointer (some ⟨g2p, 0, none⟩), .slice (some ⟨g17, 0, none⟩) 1 1, .slice (some ⟨g24, 0, none⟩) 1 1] (fun _ => by kernel_rfl) (fun _ => by kernel_rfl) (R := RPut w23 g2p gK2p gU2p [] (putU [] no [97] [1] []) (leaf [6, 1] [1], 0)) (put_q hP2 hs22 hs26) ?_
 rintro _ w27 ⟨hP29, rfl, hT30⟩
 replace hB := hB.t2 hT30 hz2.1 hz2.2.2
 replace hs4 := hs4.nt hT30.n
 replace hP1 := hP1.t2 hT30 (by omega) (by omega)
 replace hs22 := hs22.nt hT30.n
 replace hs26 := hs26.nt hT30.n
 replace hP2 := hP29
 refine rp 27 (.bool false) ?_
 refine rp 28 (.bool false) ?_
 refine Zad ?_
 refine Zab ?_
 refine Zaf (fun _ => by kernel_rfl) ?_
 refine Zam ?_
 refine Zab ?_
 refine Zac ?_
 refine Zaa ?_
 refine rp 30 (.pointer (some ⟨g1p, 0, none⟩)) ?_
 refine Zcg 31 #[.int .u8 97] 5 1 (fun _ => by kernel_rfl) (fun _ => by kernel_rfl) ?_
 intro w31 g32 hn33
 obtain ⟨w34, hr35, hb36, hs37⟩ := Zqs (x := 97) (by omega) hn33 (K := An) (fun _ _ => trivial)
 refine rw_v 32 (.slice (some ⟨g32, 0, none⟩) 1 1) (fun _ => by kernel_rfl) (fun _ => hr35 _ _ _ rfl (by kernel_rfl)) ?_
 replace hB := hB.go hb36
 replace hs4 := hs4.go hb36
 replace hP1 := hP1.go hb36
 replace hP2 := hP2.go hb36
 replace hs22 := hs22.go hb36
 replace hs26 := hs26.go hb36
 refine Zak 33 19 #[.pointer (some ⟨g1p, 0, none⟩), .slice (some ⟨g32, 0, none⟩) 1 1] (fun _ => by kernel_rfl) (fun _ => by kernel_rfl) (R := RGq w34 g1p gK1p gU1p) (get_p hP1 hs37) ?_
 rintro _ w38 ⟨hP39, ⟨a40, n41, c42, rfl, hx43⟩, hT44⟩
 replace hB := hB.t2 hT44 hz1.2.2 hz1.2.2
 replace hs4 := hs4.nt hT44.n
 replace hP2 := hP2.t2 hT44 (by omega) (by omega)
 replace hs22 := hs22.nt hT44.n
 replace hs26 := hs26.nt hT44.n
 replace hs37 := hs37.nt hT44.n
 replace hP1 := hP39
 refine rp 29 (.tuple #[.slice a40 n41 c42, .bool true, .int .i64 0]) ?_
 refine rp 34 (.slice a40 n41 c42) ?_
 refine rp 35 (.bool true) ?_
 refine rp 36 (.int .i64 0) ?_
 refine rp 4 (.slice a40 n41 c42) ?_
 refine rp 5 (.bool true) ?_
 refine rp 6 (.int .i64 0) ?_
 refine Zad ?_
 refine Zab ?_
 refine Zac ?_
 refine Zaa ?_
 refine rp 37 (.bool true) ?_
 refine rp 38 (.bool true) ?_
 refine rp 39 (.int .i64 0) ?_
 refine rp 40 (.bool true) ?_
 refine rp 41 (.bool true) ?_
 refine rp 42 (.bool true) ?_
 refine rp 43 (.slice a40 n41 c42) ?_
 refine Zcg 44 #[.int .u8 1] 5 1 (fun _ => by kernel_rfl) (fun _ => by kernel_rfl) ?_
 intro w45 g46 hn47
 replace hB := hB.go hn47.below
 replace hs4 := hs4.go hn47.below
 replace hP1 := hP1.go hn47.below
 replace hP2 := hP2.go hn47.below
 replace hs22 := hs22.go hn47.below
 replace hs26 := hs26.go hn47.below
 replace hs37 := hs37.go hn47.below
 replace hx43 := hx43.go hn47.below
 have hs48 : Sk An w45 (some ⟨g46, 0, none⟩) 1 1 [1] := Ag.sk (Ni.row_ag (show Ni.Row g46 w45 [1] from hn47.row) rfl (fun x hx => by simp at hx; omega) (by omega))
 refine Zak 45 20 #[.slice a40 n41 c42, .slice (some ⟨g46, 0, none⟩) 1 1] (fun _ => by kernel_rfl) (fun _ => by kernel_rfl) (R := RVl w45 (.bool true)) (Zgt hx43 hs48) ?_
 rintro _ w49 ⟨rfl, hb50⟩
 replace hB := hB.go hb50
 replace hs4 := hs4.go hb50
 replace hP1 := hP1.go hb50
 replace hP2 := hP2.go hb50
 replace hs22 := hs22.go hb50
 replace hs26 := hs26.go hb50
 replace hs37 := hs37.go hb50
 replace hx43 := hx43.go hb50
 replace hs48 := hs48.go hb50
 refine rp 46 (.bool true) ?_
 refine rp 47 (.bool true) ?_
 refine rp 48 (.pointer (some ⟨g2p, 0, none⟩)) ?_
 refine Zak 49 11 #[.pointer (some ⟨g2p, 0, none⟩)] (fun _ => by kernel_rfl) (fun _ => by kernel_rfl) (R := RVl w49 (.agg (B8 (dref LB)))) (Zxh hP2) ?_
 rintro _ w51 ⟨rfl, hb52⟩
 replace hB := hB.go hb52
 replace hs4 := hs4.go hb52
 replace hP1 := hP1.go hb52
 replace hP2 := hP2.go hb52
 replace hs22 := hs22.go hb52
 replace hs26 := hs26.go hb52
 replace hs37 := hs37.go hb52
 replace hx43 := hx43.go hb52
 replace hs48 := hs48.go hb52
 refine rp 50 (.slice (some ⟨g2, 0, none⟩) 5 5) ?_
 refine Zak 51 16 #[.slice (some ⟨g2, 0, none⟩) 5 5] (fun _ => by kernel_rfl) (fun _ => by kernel_rfl) (R := RVl w51 (.agg (B8 (dref LB)))) (Zo3 hs4 (by omega)) ?_
 rintro _ w53 ⟨rfl, hb54⟩
 replace hB := hB.go hb54
 replace hs4 := hs4.go hb54
 replace hP1 := hP1.go hb54
 replace hP2 := hP2.go hb54
 replace hs22 := hs22.go hb54
 replace hs26 := hs26.go hb54
 replace hs37 := hs37.go hb54
 replace hx43 := hx43.go hb54
 replace hs48 := hs48.go hb54
 refine rv 52 (.bool true) (fun _ => Zal (Zpl (xs := dref LB) (ys := dref LB) rfl (by kernel_rfl) (by kernel_rfl) (Di.dref_len _) (Di.dref_len _)) (congrArg Value.bool (beq_self_eq_true _))) ?_
 refine rp 53 (.bool true) ?_
 refine rp 54 (.bool true) ?_
 refine rp 55 (.pointer (some ⟨g1p, 0, none⟩)) ?_
 refine Zak 56 9 #[.pointer (some ⟨g1p, 0, none⟩)] (fun _ => by kernel_rfl) (fun _ => by kernel_rfl) (R := RUs w53 _) (Xap hP1 (fun d9 h9 => by rw [List.mem_singleton.1 h9]; exact ⟨leaf [6, 1] [1], by simp [findK]⟩) (by simp)) ?_
 rintro _ w55 ⟨⟨aU, nU, cU, LU, rfl, hNU, hpU, hsU⟩, hb56⟩
 obtain rfl : nU = 1 := by have h9 := hNU.len; have h8 := hpU.length_eq; simp at h8; omega
 replace hB := hB.go hb56
 replace hs4 := hs4.go hb56
 replace hP1 := hP1.go hb56
 replace hP2 := hP2.go hb56
 replace hs22 := hs22.go hb56
 replace hs26 := hs26.go hb56
 replace hs37 := hs37.go hb56
 replace hx43 := hx43.go hb56
 replace hs48 := hs48.go hb56
 refine rp 57 (.int .i64 1) ?_
 refine rp 58 (.bool true) ?_
 refine rp 59 (.bool true) ?_
 refine rp 0 (.bool true) ?_
 refine Zad ?_
 refine Zab ?_
 refine Zap ?_
 refine Zae (.bool true) (fun _ => by kernel_rfl) ?_
 exact ⟨_, rfl, rfl, hB⟩
end Go.Proofs.YtchgejomcgoaeaaGreat
namespace Go.Proofs.YtchgejomcgoaeaaGreat
open Go.RowKit
open Di (dref)
open Pt
open Ni (lessP)
variable {w : World} {a a' : Option Addr} {n c c' : Nat} {ns L : List (List Int)}
structure Opx where
  z : Int
  ka : Option Addr
  kn : Nat
  kc : Nat
  va : Option Addr
  vn : Nat
  vc : Nat
  k : List Int
  x : List Int
def Opx.cells (y : Opx) : Array Value := #[.int .i64 y.z, .slice y.ka y.kn y.kc, .slice y.va y.vn y.vc]
structure OAt (w : World) (a : Option Addr) (n : Nat) (xs : List Opx) : Prop where
  len : xs.length = n
  row : ∀ j y, xs[j]? = some y → ∃ g off, a = some ⟨g, off, none⟩ ∧ w.rangeAt g (off + j * 3) y.cells.toList
  kk : ∀ y ∈ xs, Ag w y.ka y.kn y.kc y.k
  vv : ∀ y ∈ xs, Ag w y.va y.vn y.vc y.x
theorem OAt.one {v : World} {xs : List Opx} (h : OAt w a n xs) (hb : Bl w v) {j : Nat} (hj : j < n) : ∃ y : Opx, xs.drop j = y :: xs.drop (j + 1) ∧ ∃ g off, a = some ⟨g, off, none⟩ ∧ v.rangeAt g (off + j * 3) y.cells.toList ∧ Sk An v y.ka y.kn y.kc y.k ∧ Sk An v y.va y.vn y.vc y.x := by
 have hl := h.len
 have hg : xs[j]? = some (xs[j]'(by omega)) := List.getElem?_eq_getElem (by omega)
 have hm : xs[j]'(by omega) ∈ xs := List.getElem_mem _
 obtain ⟨g, off, e, hr⟩ := h.row j _ hg
 exact ⟨_, List.drop_eq_getElem_cons (by omega), g, off, e, fun m x hx => Zaw hb (hr m x hx), (Ag.sk (h.kk _ hm)).go hb, (Ag.sk (h.vv _ hm)).go hb⟩
theorem Zkd {kn : Kn} {t : Pt} {v : Value} (h : ThA w t v) (k : Int) (key y : List Int) : (callP kn t k key y).2.d.length = 32 := by
 unfold callP
 split
 ·rfl
 ·split
  ·rfl
  ·split
   ·rfl
   ·exact Zhr h
def runS (kn : Kn) : List Opx → Pt → List (List Int) → Pt × List (List Int)
  | [], t, us => (t, us)
  | y :: r, t, us => runS kn r (callP kn t y.z y.k y.x).1 (callU kn t y.z y.k y.x us)
theorem Xa0 {kn : Kn} : ∀ {xs : List Opx} {t : Pt} {us : List (List Int)} {d : List Int}, d ∈ us → d ∈ (runS kn xs t us).2
  | [], t, us, d, h => h
  | y :: r, t, us, d, h => Xa0 (xs := r) (Xbg h)
theorem Xb3 {us : List (List Int)} (h : us.Nodup ∧ ∀ d ∈ us, ∃ t, findK d (knP ns []) = some t) : us.length ≤ ns.length := by
 have h1 := Xa1 us ((knP ns []).map (·.1)) h.1 (fun d hd => by obtain ⟨t, ht⟩ := h.2 d hd; exact Xau ht)
 have h2 := Xbe ns []
 simp at h1 h2
 omega
set_option maxHeartbeats 1000000 in
theorem Xcd (hX : NsA w a n c L) (hY : NsA w a' n c' L) (hn : n ≤ 9223372036854775806) : Calls Tryz.prog 12 #[.slice a n c, .slice a' n c'] w fun e w' => ∃ v', e = .returned v' ∧ RVl w (.bool true) v' w' := by
 have hB : Bl w w := Bl.refl w
 refine Zaj Tryz.func12 rfl 27 rfl ?_
 show CW _ _ _ _ _ _ _ [(0, .slice a n c), (1, .slice a' n c')] _
 refine Zac ?_
 refine Zaa ?_
 refine rp 4 (.bool false) ?_
 refine Zad ?_
 refine Zab ?_
 refine Zac ?_
 refine Zac ?_
 refine Zaa ?_
 refine rp 6 (.slice a n c) ?_
 refine rp 7 (.int .i64 n) ?_
 refine rp 8 (.slice a' n c') ?_
 refine rp 9 (.int .i64 n) ?_
 refine rv 10 (.bool false) (fun _ => Zal (v := .bool (!((n : Int) == (n : Int)))) (by kernel_rfl) (congrArg Value.bool (by simp))) ?_
 refine Zad ?_
 refine Zab ?_
 refine Zaf (fun _ => by kernel_rfl) ?_
 refine Zam ?_
 refine Zab ?_
 refine Zac ?_
 refine Zac ?_
 refine Zaa ?_
 refine rp 11 (.slice a n c) ?_
 refine rp 12 (.int .i64 n) ?_
 refine rp 13 (.int .i64 0) ?_
 refine Zad ?_
 refine Zab ?_
 refine Zan ?_
 refine Zb8 (X := Nat) (fun x => [(13, .int .i64 ((x : Nat) : Int)), (12, .int .i64 n), (0, .slice a n c), (1, .slice a' n c'), (4, .bool false)]) (fun x v => Bl w v ∧ x ≤ n) (fun x => n - x) 0 (by exact ⟨fun _ => by kernel_rfl, ⟨fun _ => by kernel_rfl, ⟨fun _ => by kernel_rfl, ⟨fun _ => by kernel_rfl, ⟨fun _ => by kernel_rfl, trivial⟩⟩⟩⟩⟩) ⟨hB, Nat.zero_le _⟩ ?_
 clear hB
 rintro j v ⟨hB, hj⟩
 show CW _ _ _ _ _ _ _ [(13, .int .i64 ((j : Nat) : Int)), (12, .int .i64 n), (0, .slice a n c), (1, .slice a' n c'), (4, .bool false)] _
 by_cases hltj : j < n
 ·skip
  have hLl := hX.len
  have hLj : L[j]? = some (L[j]'(by omega)) := List.getElem?_eq_getElem (by omega)
  obtain ⟨gx, ox, ax, nx, cx, hax, hcx, hsx, _⟩ := hX.row j _ hLj
  obtain ⟨gy, oy, ay, ny, cy, hay, hcy, hsy, _⟩ := hY.row j _ hLj
  refine Zac ?_
  refine Zaa ?_
  refine rv 14 (.bool true) (fun _ => Zal (v := .bool (decide (((j : Nat) : Int) < (n : Int)))) (by kernel_rfl) (congrArg Value.bool (decide_eq_true (by omega)))) ?_
  refine Zad ?_
  refine Zab ?_
  refine Zac ?_
  refine Zai (fun _ => by kernel_rfl) ?_
  refine Zam ?_
  refine Zab ?_
  refine Zac ?_
  refine Zan ?_
  refine Zac ?_
  refine Zaa ?_
  refine rp 15 (.int .i64 ((j : Nat) : Int)) ?_
  refine rp 5 (.int .i64 ((j : Nat) : Int)) ?_
  refine Zad ?_
  refine Zab ?_
  refine Zac ?_
  refine Zbd (fun v => Bl w v) (by kernel_rfl) (hB.drew) ?_
  replace hB := hB.go (Below.refl _ _).drew
  refine dt 0 16 (.slice a n c) (fun v hv _ => by kernel_rfl) hB ?_
  refine dt 1 17 (.int .i64 ((j : Nat) : Int)) (fun v hv _ => by kernel_rfl) hB ?_
  refine dt 2 18 (.pointer (some ⟨gx, ox + j * 1, none⟩)) (fun v hv _ => Za0 24 _ _ gx ox j n c 1 29 rfl (by rw [← hax]; kernel_rfl) (by kernel_rfl) hltj Tryz.underlying24 (by kernel_rfl)) hB ?_
  refine dt 3 19 (.slice ax nx cx) (fun v hv _ => Zag 29 _ ⟨gx, ox + j * 1, none⟩ _ _ rfl (by kernel_rfl) (Zaw hv hcx) Tryz.underlying29 rfl) hB ?_
  refine dt 4 20 (.slice a' n c') (fun v hv _ => by kernel_rfl) hB ?_
  refine dt 5 21 (.int .i64 ((j : Nat) : Int)) (fun v hv _ => by kernel_rfl) hB ?_
  refine dt 6 22 (.pointer (some ⟨gy, oy + j * 1, none⟩)) (fun v hv _ => Za0 24 _ _ gy oy j n c' 1 29 rfl (by rw [← hay]; kernel_rfl) (by kernel_rfl) hltj Tryz.underlying24 (by kernel_rfl)) hB ?_
  refine dt 7 23 (.slice ay ny cy) (fun v hv _ => Zag 29 _ ⟨gy, oy + j * 1, none⟩ _ _ rfl (by kernel_rfl) (Zaw hv hcy) Tryz.underlying29 rfl) hB ?_
  refine Zas [8] (by kernel_rfl) (by simp) ?_
  have hsx9 := hsx.go hB
  have hsy9 := hsy.go hB
  refine Za5 8 24 20 #[.slice ax nx cx, .slice ay ny cy] rfl (fun _ => by kernel_rfl) (fun _ => by kernel_rfl) (R := RVl v.drew (.bool true)) (Zgt hsx9 hsy9) (fun u w' h9 => hB.go h9.2) ?_ Zaz
  rintro _ w1 ⟨rfl, hb2⟩
  replace hB := hB.go hb2
  refine dt 9 25 (.bool false) (fun v hv _ => by kernel_rfl) hB ?_
  refine Za6 (by kernel_rfl) ?_
  refine Zab ?_
  refine Zaf (fun _ => by kernel_rfl) ?_
  refine Zam ?_
  refine Zau ?_
  refine Zab ?_
  refine Zaa ?_
  refine rv 26 (.int .i64 ((j + 1 : Nat) : Int)) (fun _ => Zal (v := .int .i64 (IntKind.i64.wrap (((j : Nat) : Int) + (1 : Int)))) (by kernel_rfl) (congrArg (Value.int .i64) ((Zbc (by omega) (by omega)).trans (by omega)))) ?_
  refine rp 13 (.int .i64 ((j + 1 : Nat) : Int)) ?_
  refine Zad ?_
  exact Za7 (E := fun x => [(13, .int .i64 ((x : Nat) : Int)), (12, .int .i64 n), (0, .slice a n c), (1, .slice a' n c'), (4, .bool false)]) (R := fun x v => Bl w v ∧ x ≤ n) (μ := fun x => n - x) (x := j) (j + 1) (by exact ⟨fun _ => by kernel_rfl, ⟨fun _ => by kernel_rfl, ⟨fun _ => by kernel_rfl, ⟨fun _ => by kernel_rfl, ⟨fun _ => by kernel_rfl, trivial⟩⟩⟩⟩⟩) ⟨hB, by omega⟩ (by omega)
 refine Zac ?_
 refine Zaa ?_
 refine rv 14 (.bool false) (fun _ => Zal (v := .bool (decide (((j : Nat) : Int) < (n : Int)))) (by kernel_rfl) (congrArg Value.bool (decide_eq_false (by omega)))) ?_
 refine Zad ?_
 refine Zab ?_
 refine Zac ?_
 refine Zaf (fun _ => by kernel_rfl) ?_
 refine Zb1 ?_
 refine Zat ?_
 refine Zat ?_
 refine Za1 ?_
 refine Zab ?_
 refine Zac ?_
 refine Zaa ?_
 refine rp 4 (.bool true) ?_
 refine Zad ?_
 refine Zab ?_
 refine Zap ?_
 refine Zae (.bool true) (fun _ => by kernel_rfl) ?_
 exact ⟨_, rfl, rfl, hB⟩
theorem Xbj {n' : Nat} (hX : NsA w a n c L) (hY : NsA w a' n' c' L) (hn : n ≤ 9223372036854775806) : Calls Tryz.prog 12 #[.slice a n c, .slice a' n' c'] w fun e w' => ∃ v', e = .returned v' ∧ RVl w (.bool true) v' w' := by
 obtain rfl : n = n' := by rw [hX.len, hY.len]
 exact Xcd hX hY hn
set_option maxHeartbeats 1000000 in
theorem Xbl {d : List Int} {aS : Option Addr} {ms cs : Nat} {xs : List Opx} (hd : d.length = 32) (hdb : isB d) (hN : NsA w a n c ns) (hn : n ≤ 5864062014700) (hO : OAt w aS ms xs) (hms : ms ≤ 2520000000000) : Calls Tryz.prog 3 #[.agg (B8 d), .slice a n c, .slice aS ms cs] w fun e w' => ∃ v', e = .returned v' ∧ RVl w (.bool true) v' w' := by
 have hB : Bl w w := Bl.refl w
 refine Zaj Tryz.func3 rfl 74 rfl ?_
 show CW _ _ _ _ _ _ _ [(0, .agg (B8 d)), (1, .slice a n c), (2, .slice aS ms cs)] _
 have hnB := hN.isB
 have hnl := hN.len
 obtain ⟨RES, hRES⟩ : ∃ r, runS (knP ns []) xs (topP d) [] = r := ⟨_, rfl⟩
 refine Zac ?_
 refine Zaa ?_
 refine Zar 3 (B8 d) 23 (fun _ => by kernel_rfl) (fun _ => by kernel_rfl) ?_
 intro w1 g2 hn3
 have hzg2 : w.heap.size ≤ g2 := by have := hB.size; have := hn3.hg; omega
 replace hB := hB.go hn3.below
 have hr4 : Rw g2 w1 (B8 d) 23 := hn3.row
 refine rp 6 (.bool false) ?_
 refine Zad ?_
 refine Zab ?_
 refine Zac ?_
 refine Zaa ?_
 refine rv 15 (.agg (B8 d)) (fun _ => Za2 23 _ _ _ _ _ _ rfl (by kernel_rfl) hr4 Tryz.underlying23 rfl (Zbm hd)) ?_
 refine rp 16 (.slice a n c) ?_
 refine Zak 17 6 #[.agg (B8 d), .slice a n c] (fun _ => by kernel_rfl) (fun _ => by kernel_rfl) (R := RNw w1 (topP d) (knP ns []) []) (Zkw hd hdb (hN.go hB) (by omega)) ?_
 rintro _ w5 ⟨⟨g, gK, gU, rfl, hP, hf1, hf2, hf3⟩, hb6⟩
 have hDg : g2 < g ∧ g2 < gU := by have := hr4.lt; omega
 have hzg : w.heap.size ≤ g ∧ w.heap.size ≤ gK ∧ w.heap.size ≤ gU := by have := hB.size; omega
 replace hB := hB.go hb6
 replace hr4 := hr4.go hb6
 refine rp 7 (.pointer (some ⟨g, 0, none⟩)) ?_
 refine Zad ?_
 refine Zab ?_
 refine Zac ?_
 refine Zac ?_
 refine Zaa ?_
 refine rp 18 (.pointer (some ⟨g, 0, none⟩)) ?_
 refine rp 19 (.bool false) ?_
 refine rp 20 (.bool false) ?_
 refine Zak 21 7 #[] (fun _ => by kernel_rfl) (fun _ => by kernel_rfl) (R := RVl w5 (.bool true)) (Zq9) ?_
 rintro _ w7 ⟨rfl, hb8⟩
 replace hB := hB.go hb8
 replace hr4 := hr4.go hb8
 replace hP := hP.go hb8
 refine rp 22 (.bool false) ?_
 refine rp 23 (.bool false) ?_
 refine Zad ?_
 refine Zab ?_
 refine Zaf (fun _ => by kernel_rfl) ?_
 refine Zam ?_
 refine Zab ?_
 refine Zac ?_
 refine Zac ?_
 refine Zaa ?_
 refine rp 24 (.slice aS ms cs) ?_
 refine rp 25 (.int .i64 ms) ?_
 refine rp 26 (.int .i64 0) ?_
 refine Zad ?_
 refine Zab ?_
 refine Zan ?_
 have hneK := hP.neK
 have hneU := hP.ne
 refine Zb8 (X := Nat × Pt × List (List Int)) (fun x => [(26, .int .i64 ((x.1 : Nat) : Int)), (25, .int .i64 ms), (24, .slice aS ms cs), (7, .pointer (some ⟨g, 0, none⟩)), (1, .slice a n c), (2, .slice aS ms cs), (3, .pointer (some ⟨g2, 0, none⟩)), (6, .bool false)]) (fun x v => Bl w v ∧ x.1 ≤ ms ∧ Rw g2 v (B8 d) 23 ∧ PAt v g gK gU x.2.1 (knP ns []) x.2.2 ∧ runS (knP ns []) (xs.drop x.1) x.2.1 x.2.2 = RES ∧ (x.2.2.Nodup ∧ ∀ d9 ∈ x.2.2, ∃ t9, findK d9 (knP ns []) = some t9)) (fun x => ms - x.1) (0, topP d, []) (by exact ⟨fun _ => by kernel_rfl, ⟨fun _ => by kernel_rfl, ⟨fun _ => by kernel_rfl, ⟨fun _ => by kernel_rfl, ⟨fun _ => by kernel_rfl, ⟨fun _ => by kernel_rfl, ⟨fun _ => by kernel_rfl, ⟨fun _ => by kernel_rfl, trivial⟩⟩⟩⟩⟩⟩⟩⟩) ⟨hB, Nat.zero_le _, hr4, hP, hRES, List.nodup_nil, fun d9 h9 => by cases h9⟩ ?_
 clear hB hP hr4
 rintro ⟨j, t, us⟩ v ⟨hB, hj, hD, hP, hrun, hok⟩
 simp only at hj hP hrun hok
 show CW _ _ _ _ _ _ _ [(26, .int .i64 ((j : Nat) : Int)), (25, .int .i64 ms), (24, .slice aS ms cs), (7, .pointer (some ⟨g, 0, none⟩)), (1, .slice a n c), (2, .slice aS ms cs), (3, .pointer (some ⟨g2, 0, none⟩)), (6, .bool false)] _
 by_cases hltj : j < ms
 ·skip
  obtain ⟨y, hdr, gs, off, has, hrng, hky, hvy⟩ := hO.one hB hltj
  rw [hdr] at hrun
  have hcl : (callP (knP ns []) t y.z y.k y.x).2.d.length = 32 := by obtain ⟨vt, _, htt⟩ := hP.row; exact Zkd htt _ _ _
  refine Zac ?_
  refine Zaa ?_
  refine rv 27 (.bool true) (fun _ => Zal (v := .bool (decide (((j : Nat) : Int) < (ms : Int)))) (by kernel_rfl) (congrArg Value.bool (decide_eq_true (by omega)))) ?_
  refine Zad ?_
  refine Zab ?_
  refine Zac ?_
  refine Zai (fun _ => by kernel_rfl) ?_
  refine Zam ?_
  refine Zab ?_
  refine Zac ?_
  refine Zan ?_
  refine Zac ?_
  refine Zaa ?_
  refine rv 28 (.pointer (some ⟨gs, off + j * 3, none⟩)) (fun _ => Za0 25 _ _ gs off j ms cs 3 31 rfl (by rw [← has]; kernel_rfl) (by kernel_rfl) hltj Tryz.underlying25 (by kernel_rfl)) ?_
  refine rv 29 (.agg #[.int .i64 y.z, .slice y.ka y.kn y.kc, .slice y.va y.vn y.vc]) (fun _ => Zb2 31 _ _ _ _ _ rfl (by kernel_rfl) hrng Tryz.underlying31 rfl (by kernel_rfl)) ?_
  refine Zar 9 (#[.int .i64 0, .slice none 0 0, .slice none 0 0]) 31 (fun _ => by kernel_rfl) (fun _ => by kernel_rfl) ?_
  intro w9 g10 hn11
  have hr12 : Rw g10 w9 (#[.int .i64 0, .slice none 0 0, .slice none 0 0]) 31 := hn11.row
  refine Zav g10 (#[.int .i64 y.z, .slice y.ka y.kn y.kc, .slice y.va y.vn y.vc]) (fun _ => by kernel_rfl) (fun _ => Zao 31 _ _ _ _ _ 31 rfl (by kernel_rfl) (by kernel_rfl) hr12 (by kernel_rfl) (by kernel_rfl) (by kernel_rfl)) ?_
  intro w13 hp14
  replace hn11 := hn11.put hp14
  clear hr12
  have hlg2g10 : g2 < g10 := by have := hD.lt; have := hn11.hg; omega
  have hlgg10 : g < g10 := by have := hP.lt; have := hn11.hg; omega
  have hlgKg10 : gK < g10 := by have := hP.km.lt; have := hn11.hg; omega
  have hlgUg10 : gU < g10 := by have := hP.um.lt; have := hn11.hg; omega
  have hzg10 : w.heap.size ≤ g10 := by have := hB.size; have := hn11.hg; omega
  replace hB := hB.go hn11.below
  replace hD := hD.go hn11.below
  replace hP := hP.go hn11.below
  replace hky := hky.go hn11.below
  replace hvy := hvy.go hn11.below
  have hr16 : Rw g10 w13 (#[.int .i64 y.z, .slice y.ka y.kn y.kc, .slice y.va y.vn y.vc]) 31 := hn11.row
  refine Zad ?_
  refine Zab ?_
  refine Zaa ?_
  refine rp 30 (.pointer (some ⟨g, 0, none⟩)) ?_
  refine rv 31 (.agg (#[.int .i64 y.z, .slice y.ka y.kn y.kc, .slice y.va y.vn y.vc])) (fun _ => Za2 31 _ _ _ _ _ _ rfl (by kernel_rfl) hr16 Tryz.underlying31 rfl (by kernel_rfl)) ?_
  refine Zak 32 8 #[.pointer (some ⟨g, 0, none⟩), .agg (#[.int .i64 y.z, .slice y.ka y.kn y.kc, .slice y.va y.vn y.vc])] (fun _ => by kernel_rfl) (fun _ => by kernel_rfl) (R := RCa w13 g gK gU (knP ns []) (callU (knP ns []) t y.z y.k y.x us) (callP (knP ns []) t y.z y.k y.x)) (Zg0 hP hky hvy) ?_
  rintro _ w17 ⟨hP18, ⟨a19, n20, c21, rfl, hs22⟩, hT23⟩
  replace hB := hB.t2 hT23 hzg.1 hzg.2.2
  replace hD := hD.t2 hT23 (by omega) (by omega)
  replace hky := hky.nt hT23.n
  replace hvy := hvy.nt hT23.n
  replace hr16 := hr16.t2 hT23 (by omega) (by omega)
  replace hP := hP18
  refine Zad ?_
  refine Zau ?_
  refine Zab ?_
  refine Zaa ?_
  refine rv 33 (.int .i64 ((j + 1 : Nat) : Int)) (fun _ => Zal (v := .int .i64 (IntKind.i64.wrap (((j : Nat) : Int) + (1 : Int)))) (by kernel_rfl) (congrArg (Value.int .i64) ((Zbc (by omega) (by omega)).trans (by omega)))) ?_
  refine rp 26 (.int .i64 ((j + 1 : Nat) : Int)) ?_
  refine Zad ?_
  exact Za7 (E := fun x => [(26, .int .i64 ((x.1 : Nat) : Int)), (25, .int .i64 ms), (24, .slice aS ms cs), (7, .pointer (some ⟨g, 0, none⟩)), (1, .slice a n c), (2, .slice aS ms cs), (3, .pointer (some ⟨g2, 0, none⟩)), (6, .bool false)]) (R := fun x v => Bl w v ∧ x.1 ≤ ms ∧ Rw g2 v (B8 d) 23 ∧ PAt v g gK gU x.2.1 (knP ns []) x.2.2 ∧ runS (knP ns []) (xs.drop x.1) x.2.1 x.2.2 = RES ∧ (x.2.2.Nodup ∧ ∀ d9 ∈ x.2.2, ∃ t9, findK d9 (knP ns []) = some t9)) (μ := fun x => ms - x.1) (x := (j, t, us)) (j + 1, (callP (knP ns []) t y.z y.k y.x).1, (callU (knP ns []) t y.z y.k y.x us)) (by exact ⟨fun _ => by kernel_rfl, ⟨fun _ => by kernel_rfl, ⟨fun _ => by kernel_rfl, ⟨fun _ => by kernel_rfl, ⟨fun _ => by kernel_rfl, ⟨fun _ => by kernel_rfl, ⟨fun _ => by kernel_rfl, ⟨fun _ => by kernel_rfl, trivial⟩⟩⟩⟩⟩⟩⟩⟩) ⟨hB, by simp only; omega, hD, hP, hrun, Xbo hok⟩ (by simp only; omega)
 have hxl := hO.len
 obtain rfl : ms = j := by omega
 rw [show xs.drop ms = [] from List.drop_eq_nil_of_le (by omega)] at hrun
 have hrun2 : RES = (t, us) := hrun.symm
 have hul := Xb3 hok
 refine Zac ?_
 refine Zaa ?_
 refine rv 27 (.bool false) (fun _ => Zal (v := .bool (decide (((ms : Nat) : Int) < (ms : Int)))) (by kernel_rfl) (congrArg Value.bool (decide_eq_false (by omega)))) ?_
 refine Zad ?_
 refine Zab ?_
 refine Zac ?_
 refine Zaf (fun _ => by kernel_rfl) ?_
 refine Zb1 ?_
 refine Zat ?_
 refine Zat ?_
 refine Za1 ?_
 refine Zab ?_
 refine Zac ?_
 refine Zaa ?_
 refine rp 34 (.pointer (some ⟨g, 0, none⟩)) ?_
 refine Zak 35 9 #[.pointer (some ⟨g, 0, none⟩)] (fun _ => by kernel_rfl) (fun _ => by kernel_rfl) (R := RUs v _) (Xap hP hok.2 (by omega)) ?_
 rintro _ w9 ⟨⟨aU, nU, cU, L, rfl, hNL, hpL, hsL⟩, hb25⟩
 replace hB := hB.go hb25
 replace hD := hD.go hb25
 replace hP := hP.go hb25
 have hB0 := hB
 clear hB
 have hB : Bl w9 w9 := Bl.refl w9
 have hle9 : w.heap.size ≤ w9.heap.size := hB0.size
 obtain ⟨hkl, hkU⟩ := Xbw hnB hok.2 hpL
 have hDlt := hD.lt
 refine rp 10 (.slice aU nU cU) ?_
 refine Zad ?_
 refine Zab ?_
 refine Zac ?_
 refine Zaa ?_
 refine rv 36 (.agg (B8 d)) (fun _ => Za2 23 _ _ _ _ _ _ rfl (by kernel_rfl) hD Tryz.underlying23 rfl (Zbm hd)) ?_
 refine rp 37 (.slice a n c) ?_
 refine Zak 38 6 #[.agg (B8 d), .slice a n c] (fun _ => by kernel_rfl) (fun _ => by kernel_rfl) (R := RNw w9 (topP d) (knP ns []) []) (Zkw hd hdb (hN.go (hB0.go hB)) (by omega)) ?_
 rintro _ w26 ⟨⟨gA, gKA, gUA, rfl, hA, hf4, hf5, hf6⟩, hb27⟩
 have hzA : w9.heap.size ≤ gA ∧ w9.heap.size ≤ gKA ∧ w9.heap.size ≤ gUA := by have := hB.size; omega
 replace hB := hB.go hb27
 replace hD := hD.go hb27
 refine rp 11 (.pointer (some ⟨gA, 0, none⟩)) ?_
 refine Zad ?_
 refine Zab ?_
 refine Zac ?_
 refine Zaa ?_
 refine rv 39 (.agg (B8 d)) (fun _ => Za2 23 _ _ _ _ _ _ rfl (by kernel_rfl) hD Tryz.underlying23 rfl (Zbm hd)) ?_
 refine rp 40 (.slice aU nU cU) ?_
 refine Zak 41 6 #[.agg (B8 d), .slice aU nU cU] (fun _ => by kernel_rfl) (fun _ => by kernel_rfl) (R := RNw w26 (topP d) (knP L []) []) (Zkw hd hdb (hNL.go hB) (by have := hNL.len; have h9 := hpL.length_eq; rw [List.length_map] at h9; omega)) ?_
 rintro _ w28 ⟨⟨gQ, gL, gV, rfl, hQ, hf7, hf8, hf9⟩, hb29⟩
 have hzQ : w9.heap.size ≤ gQ ∧ w9.heap.size ≤ gV := by have := hB.size; omega
 have hltQ : gA < gQ ∧ gA < gV ∧ gA < gL ∧ gKA < gQ ∧ gKA < gV ∧ gKA < gL ∧ gUA < gQ ∧ gUA < gV ∧ gUA < gL := by have := hA.lt; have := hA.km.lt; have := hA.um.lt; omega
 replace hB := hB.go hb29
 replace hD := hD.go hb29
 replace hA := hA.go hb29
 refine rp 12 (.pointer (some ⟨gQ, 0, none⟩)) ?_
 refine Zad ?_
 refine Zab ?_
 refine Zac ?_
 refine Zac ?_
 refine Zaa ?_
 refine rp 42 (.pointer (some ⟨gA, 0, none⟩)) ?_
 refine rp 43 (.bool false) ?_
 refine rp 44 (.bool false) ?_
 refine rp 45 (.pointer (some ⟨gQ, 0, none⟩)) ?_
 refine rp 46 (.bool false) ?_
 refine rp 47 (.bool false) ?_
 refine Zad ?_
 refine Zab ?_
 refine Zaf (fun _ => by kernel_rfl) ?_
 refine Zam ?_
 refine Zab ?_
 refine Zac ?_
 refine Zac ?_
 refine Zaa ?_
 refine rp 48 (.slice aS ms cs) ?_
 refine rp 49 (.int .i64 ms) ?_
 refine rp 50 (.int .i64 0) ?_
 refine Zad ?_
 refine Zab ?_
 refine Zan ?_
 have hneA := hA.neK
 have hneB := hA.ne
 have hneC := hQ.neK
 have hneD := hQ.ne
 refine Zb8 (X := Nat × Pt × List (List Int)) (fun x => [(50, .int .i64 ((x.1 : Nat) : Int)), (49, .int .i64 ms), (48, .slice aS ms cs), (11, .pointer (some ⟨gA, 0, none⟩)), (12, .pointer (some ⟨gQ, 0, none⟩)), (10, .slice aU nU cU), (6, .bool false)]) (fun x v => Bl w9 v ∧ x.1 ≤ ms ∧ (∃ us9, PAt v gA gKA gUA x.2.1 (knP ns []) us9) ∧ PAt v gQ gL gV x.2.1 (knP L []) x.2.2 ∧ runS (knP ns []) (xs.drop x.1) x.2.1 x.2.2 = RES) (fun x => ms - x.1) (0, topP d, []) (by exact ⟨fun _ => by kernel_rfl, ⟨fun _ => by kernel_rfl, ⟨fun _ => by kernel_rfl, ⟨fun _ => by kernel_rfl, ⟨fun _ => by kernel_rfl, ⟨fun _ => by kernel_rfl, ⟨fun _ => by kernel_rfl, trivial⟩⟩⟩⟩⟩⟩⟩) ⟨hB, Nat.zero_le _, ⟨_, hA⟩, hQ, hRES⟩ ?_
 clear hB hA hQ hD
 rintro ⟨i, t1, us1⟩ v1 ⟨hB, hi, ⟨us9, hA⟩, hQ, hrun1⟩
 simp only at hi hA hQ hrun1
 show CW _ _ _ _ _ _ _ [(50, .int .i64 ((i : Nat) : Int)), (49, .int .i64 ms), (48, .slice aS ms cs), (11, .pointer (some ⟨gA, 0, none⟩)), (12, .pointer (some ⟨gQ, 0, none⟩)), (10, .slice aU nU cU), (6, .bool false)] _
 have hrl : (rtP t1).length = 32 := by obtain ⟨vt, _, htt⟩ := hA.row; exact Zhr htt
 by_cases hlti : i < ms
 ·skip
  obtain ⟨y, hdr, gs, off, has, hrng, hky, hvy⟩ := hO.one (hB0.go hB) hlti
  rw [hdr] at hrun1
  have hcl : (callP (knP ns []) t1 y.z y.k y.x).2.d.length = 32 := by obtain ⟨vt, _, htt⟩ := hA.row; exact Zkd htt _ _ _
  have hce := Xbn hkl hkU (t := t1) (k := y.z) (key := y.k) (y := y.x) (us := us1) (fun d9 h9 => by have h8 := Xa0 (kn := (knP ns [])) (xs := xs.drop (i + 1)) (t := (callP (knP ns []) t1 y.z y.k y.x).1) h9; rw [show runS (knP ns []) (xs.drop (i + 1)) (callP (knP ns []) t1 y.z y.k y.x).1 (callU (knP ns []) t1 y.z y.k y.x us1) = RES from hrun1, hrun2] at h8; exact h8)
  refine Zac ?_
  refine Zaa ?_
  refine rv 51 (.bool true) (fun _ => Zal (v := .bool (decide (((i : Nat) : Int) < (ms : Int)))) (by kernel_rfl) (congrArg Value.bool (decide_eq_true (by omega)))) ?_
  refine Zad ?_
  refine Zab ?_
  refine Zac ?_
  refine Zai (fun _ => by kernel_rfl) ?_
  refine Zam ?_
  refine Zab ?_
  refine Zac ?_
  refine Zan ?_
  refine Zac ?_
  refine Zaa ?_
  refine rv 52 (.pointer (some ⟨gs, off + i * 3, none⟩)) (fun _ => Za0 25 _ _ gs off i ms cs 3 31 rfl (by rw [← has]; kernel_rfl) (by kernel_rfl) hlti Tryz.underlying25 (by kernel_rfl)) ?_
  refine rv 53 (.agg #[.int .i64 y.z, .slice y.ka y.kn y.kc, .slice y.va y.vn y.vc]) (fun _ => Zb2 31 _ _ _ _ _ rfl (by kernel_rfl) hrng Tryz.underlying31 rfl (by kernel_rfl)) ?_
  refine Zar 14 (#[.int .i64 0, .slice none 0 0, .slice none 0 0]) 31 (fun _ => by kernel_rfl) (fun _ => by kernel_rfl) ?_
  intro w30 g31 hn32
  have hr33 : Rw g31 w30 (#[.int .i64 0, .slice none 0 0, .slice none 0 0]) 31 := hn32.row
  refine Zav g31 (#[.int .i64 y.z, .slice y.ka y.kn y.kc, .slice y.va y.vn y.vc]) (fun _ => by kernel_rfl) (fun _ => Zao 31 _ _ _ _ _ 31 rfl (by kernel_rfl) (by kernel_rfl) hr33 (by kernel_rfl) (by kernel_rfl) (by kernel_rfl)) ?_
  intro w34 hp35
  replace hn32 := hn32.put hp35
  clear hr33
  have hlgAg31 : gA < g31 := by have := hA.lt; have := hn32.hg; omega
  have hlgKAg31 : gKA < g31 := by have := hA.km.lt; have := hn32.hg; omega
  have hlgUAg31 : gUA < g31 := by have := hA.um.lt; have := hn32.hg; omega
  have hlgQg31 : gQ < g31 := by have := hQ.lt; have := hn32.hg; omega
  have hlgLg31 : gL < g31 := by have := hQ.km.lt; have := hn32.hg; omega
  have hlgVg31 : gV < g31 := by have := hQ.um.lt; have := hn32.hg; omega
  have hzg31 : w.heap.size ≤ g31 := by have := hB.size; have := hn32.hg; omega
  replace hB := hB.go hn32.below
  replace hA := hA.go hn32.below
  replace hQ := hQ.go hn32.below
  replace hky := hky.go hn32.below
  replace hvy := hvy.go hn32.below
  have hr37 : Rw g31 w34 (#[.int .i64 y.z, .slice y.ka y.kn y.kc, .slice y.va y.vn y.vc]) 31 := hn32.row
  refine Zad ?_
  refine Zab ?_
  refine Zac ?_
  refine Zbd (fun v => Rw g31 v (#[.int .i64 y.z, .slice y.ka y.kn y.kc, .slice y.va y.vn y.vc]) 31) (by kernel_rfl) (hr37) ?_
  replace hB := hB.go (Below.refl _ _).drew
  replace hA := hA.go (Below.refl _ _).drew
  replace hQ := hQ.go (Below.refl _ _).drew
  replace hky := hky.go (Below.refl _ _).drew
  replace hvy := hvy.go (Below.refl _ _).drew
  replace hr37 := hr37.go (Below.refl _ _).drew
  refine dt 0 54 (.pointer (some ⟨gA, 0, none⟩)) (fun v hv _ => by kernel_rfl) hr37 ?_
  refine dt 1 55 (.agg (#[.int .i64 y.z, .slice y.ka y.kn y.kc, .slice y.va y.vn y.vc])) (fun v hv _ => Za2 31 _ _ _ _ _ _ rfl (by kernel_rfl) hv Tryz.underlying31 rfl (by kernel_rfl)) hr37 ?_
  refine dt 3 57 (.pointer (some ⟨gQ, 0, none⟩)) (fun v hv _ => by kernel_rfl) hr37 ?_
  refine dt 4 58 (.agg (#[.int .i64 y.z, .slice y.ka y.kn y.kc, .slice y.va y.vn y.vc])) (fun v hv _ => Za2 31 _ _ _ _ _ _ rfl (by kernel_rfl) hv Tryz.underlying31 rfl (by kernel_rfl)) hr37 ?_
  refine Zas [2] (by kernel_rfl) (by simp) ?_
  refine Za5 2 56 8 #[.pointer (some ⟨gA, 0, none⟩), .agg (#[.int .i64 y.z, .slice y.ka y.kn y.kc, .slice y.va y.vn y.vc])] rfl (fun _ => by kernel_rfl) (fun _ => by kernel_rfl) (R := RCa w34.drew gA gKA gUA (knP ns []) _ (callP (knP ns []) t1 y.z y.k y.x)) (Zg0 hA hky hvy) (fun u w' h9 => hr37.t2 h9.2.2 (by omega) (by omega)) ?_ Zaz
  rintro _ w38 ⟨hP39, ⟨a40, n41, c42, rfl, hs43⟩, hT44⟩
  replace hB := hB.t2 hT44 hzA.1 hzA.2.2
  replace hQ := hQ.t2 hT44 (by omega) (by omega)
  replace hky := hky.nt hT44.n
  replace hvy := hvy.nt hT44.n
  replace hr37 := hr37.t2 hT44 (by omega) (by omega)
  replace hA := hP39
  refine Zas [5] (by kernel_rfl) (by simp) ?_
  refine Za5 5 59 8 #[.pointer (some ⟨gQ, 0, none⟩), .agg (#[.int .i64 y.z, .slice y.ka y.kn y.kc, .slice y.va y.vn y.vc])] rfl (fun _ => by kernel_rfl) (fun _ => by kernel_rfl) (R := RCa w38 gQ gL gV (knP L []) (callU (knP ns []) t1 y.z y.k y.x us1) (callP (knP ns []) t1 y.z y.k y.x)) (by have h9 := Zg0 (k := y.z) hQ hky hvy; rw [hce.1, hce.2] at h9; exact h9) (fun u w' h9 => hr37.t2 h9.2.2 (by omega) (by omega)) ?_ Zaz
  rintro _ w45 ⟨hP46, ⟨a47, n48, c49, rfl, hs50⟩, hT51⟩
  replace hB := hB.t2 hT51 hzQ.1 hzQ.2
  replace hA := hA.t2 hT51 (by omega) (by omega)
  replace hky := hky.nt hT51.n
  replace hvy := hvy.nt hT51.n
  replace hr37 := hr37.t2 hT51 (by omega) (by omega)
  replace hs43 := hs43.nt hT51.n
  replace hQ := hP46
  refine Zas [6] (by kernel_rfl) (by simp) ?_
  refine Za5 6 60 10 #[.agg (tdc (.slice a40 n41 c42) (callP (knP ns []) t1 y.z y.k y.x).2.b (callP (knP ns []) t1 y.z y.k y.x).2.e (callP (knP ns []) t1 y.z y.k y.x).2.d), .agg (tdc (.slice a47 n48 c49) (callP (knP ns []) t1 y.z y.k y.x).2.b (callP (knP ns []) t1 y.z y.k y.x).2.e (callP (knP ns []) t1 y.z y.k y.x).2.d)] rfl (fun _ => by kernel_rfl) (fun _ => by kernel_rfl) (R := RVl w45 (.bool true)) (Znj (r := (callP (knP ns []) t1 y.z y.k y.x).2) ⟨_, _, _, rfl, hs43⟩ ⟨_, _, _, rfl, hs50⟩ hcl) (fun u w' h9 => hr37.go h9.2) ?_ Zaz
  rintro _ w52 ⟨rfl, hb53⟩
  replace hB := hB.go hb53
  replace hA := hA.go hb53
  replace hQ := hQ.go hb53
  replace hky := hky.go hb53
  replace hvy := hvy.go hb53
  replace hr37 := hr37.go hb53
  replace hs43 := hs43.go hb53
  replace hs50 := hs50.go hb53
  refine dt 7 61 (.bool false) (fun v hv _ => by kernel_rfl) hr37 ?_
  refine Za6 (by kernel_rfl) ?_
  refine Zab ?_
  refine Zaf (fun _ => by kernel_rfl) ?_
  refine Zam ?_
  refine Zau ?_
  refine Zab ?_
  refine Zaa ?_
  refine rv 62 (.int .i64 ((i + 1 : Nat) : Int)) (fun _ => Zal (v := .int .i64 (IntKind.i64.wrap (((i : Nat) : Int) + (1 : Int)))) (by kernel_rfl) (congrArg (Value.int .i64) ((Zbc (by omega) (by omega)).trans (by omega)))) ?_
  refine rp 50 (.int .i64 ((i + 1 : Nat) : Int)) ?_
  refine Zad ?_
  exact Za7 (E := fun x => [(50, .int .i64 ((x.1 : Nat) : Int)), (49, .int .i64 ms), (48, .slice aS ms cs), (11, .pointer (some ⟨gA, 0, none⟩)), (12, .pointer (some ⟨gQ, 0, none⟩)), (10, .slice aU nU cU), (6, .bool false)]) (R := fun x v => Bl w9 v ∧ x.1 ≤ ms ∧ (∃ us9, PAt v gA gKA gUA x.2.1 (knP ns []) us9) ∧ PAt v gQ gL gV x.2.1 (knP L []) x.2.2 ∧ runS (knP ns []) (xs.drop x.1) x.2.1 x.2.2 = RES) (μ := fun x => ms - x.1) (x := (i, t1, us1)) (i + 1, (callP (knP ns []) t1 y.z y.k y.x).1, (callU (knP ns []) t1 y.z y.k y.x us1)) (by exact ⟨fun _ => by kernel_rfl, ⟨fun _ => by kernel_rfl, ⟨fun _ => by kernel_rfl, ⟨fun _ => by kernel_rfl, ⟨fun _ => by kernel_rfl, ⟨fun _ => by kernel_rfl, ⟨fun _ => by kernel_rfl, trivial⟩⟩⟩⟩⟩⟩⟩) ⟨hB, by simp only; omega, ⟨_, hA⟩, hQ, hrun1⟩ (by simp only; omega)
 obtain rfl : ms = i := by omega
 rw [show xs.drop ms = [] from List.drop_eq_nil_of_le (by omega)] at hrun1
 have hrun3 : RES = (t1, us1) := hrun1.symm
 rw [hrun2] at hrun3
 obtain ⟨rfl, rfl⟩ : t1 = t ∧ us1 = us := by cases hrun3; exact ⟨rfl, rfl⟩
 refine Zac ?_
 refine Zaa ?_
 refine rv 51 (.bool false) (fun _ => Zal (v := .bool (decide (((ms : Nat) : Int) < (ms : Int)))) (by kernel_rfl) (congrArg Value.bool (decide_eq_false (by omega)))) ?_
 refine Zad ?_
 refine Zab ?_
 refine Zac ?_
 refine Zaf (fun _ => by kernel_rfl) ?_
 refine Zb1 ?_
 refine Zat ?_
 refine Zat ?_
 refine Za1 ?_
 refine Zab ?_
 refine Zac ?_
 refine Zaa ?_
 refine rp 63 (.pointer (some ⟨gA, 0, none⟩)) ?_
 refine Zak 64 11 #[.pointer (some ⟨gA, 0, none⟩)] (fun _ => by kernel_rfl) (fun _ => by kernel_rfl) (R := RVl v1 (.agg (B8 (rtP t1)))) (Zeq hA) ?_
 rintro _ w54 ⟨rfl, hb55⟩
 replace hB := hB.go hb55
 replace hA := hA.go hb55
 replace hQ := hQ.go hb55
 refine rp 65 (.pointer (some ⟨gQ, 0, none⟩)) ?_
 refine Zak 66 11 #[.pointer (some ⟨gQ, 0, none⟩)] (fun _ => by kernel_rfl) (fun _ => by kernel_rfl) (R := RVl w54 (.agg (B8 (rtP t1)))) (Zeq hQ) ?_
 rintro _ w56 ⟨rfl, hb57⟩
 replace hB := hB.go hb57
 replace hA := hA.go hb57
 replace hQ := hQ.go hb57
 refine rv 67 (.bool true) (fun _ => Zal (Zpl (xs := rtP t1) (ys := rtP t1) rfl (by kernel_rfl) (by kernel_rfl) hrl hrl) (congrArg Value.bool (by simp))) ?_
 refine rp 68 (.bool true) ?_
 refine rp 69 (.pointer (some ⟨gQ, 0, none⟩)) ?_
 refine Zak 70 9 #[.pointer (some ⟨gQ, 0, none⟩)] (fun _ => by kernel_rfl) (fun _ => by kernel_rfl) (R := RUs w56 _) (Xap hQ (fun d9 h9 => by rw [hkU d9 h9]; exact hok.2 d9 h9) (by omega)) ?_
 rintro _ w58 ⟨⟨aX, nX, cX, L2, rfl, hN2, hp2, hs2⟩, hb59⟩
 replace hB := hB.go hb59
 replace hA := hA.go hb59
 replace hQ := hQ.go hb59
 refine rp 71 (.slice aU nU cU) ?_
 obtain rfl : L2 = L := Xaz _ _ (hp2.trans ((List.Perm.of_eq (List.map_congr_left fun d9 h9 => by unfold usB; rw [hkU d9 h9])).trans hpL.symm)) hs2 hsL
 refine Zak 72 12 #[.slice aX nX cX, .slice aU nU cU] (fun _ => by kernel_rfl) (fun _ => by kernel_rfl) (R := RVl w58 (.bool true)) (Xbj hN2 (hNL.go hB) (by have := hN2.len; have h9 := hp2.length_eq; rw [List.length_map] at h9; omega)) ?_
 rintro _ w60 ⟨rfl, hb61⟩
 replace hB := hB.go hb61
 replace hA := hA.go hb61
 replace hQ := hQ.go hb61
 replace hN2 := hN2.go hb61
 refine rp 73 (.bool true) ?_
 refine rp 6 (.bool true) ?_
 refine Zad ?_
 refine Zab ?_
 refine Zap ?_
 refine Zae (.bool true) (fun _ => by kernel_rfl) ?_
 exact ⟨_, rfl, rfl, hB0.go hB⟩
theorem Xa6 (d : List Int) (a : Option Addr) (n c : Nat) (ns : List (List Int)) (aS : Option Addr) (ms cs : Nat) (xs : List Opx) (w : World) (hd : d.length = 32) (hdb : isB d) (hN : NsA w a n c ns) (hn : n ≤ 5864062014700) (hO : OAt w aS ms xs) (hms : ms ≤ 2520000000000) :
    Calls Tryz.prog 3 #[.agg (B8 d), .slice a n c, .slice aS ms cs] w fun e w' => e = .returned (.bool true) ∧ Below w.heap.size w w' :=
  (Xbl hd hdb hN hn hO hms).mono (fun e w' ⟨u, e1, e2, e3⟩ => ⟨by rw [e1, e2], e3⟩)
end Go.Proofs.YtchgejomcgoaeaaGreat
namespace Go.Proofs.YtchgejomcgoaeaaGreat
open Go.ChangeShapes Go.WideShapes Go.ChangeAt Go.RowKit
open Go.ChangeMaps (open_string shut_string)
theorem own : ownKnob Tryz.prog.godebug = none := by kernel_rfl
theorem Zk2 : laidOutB Tryz.prog = true := by kernel_rfl
theorem Zue : Tryz.prog.cellsOf 5 = 1 := by kernel_rfl
theorem Zyn : Tryz.prog.bytesOf 5 = 1 := by kernel_rfl
end Go.Proofs.YtchgejomcgoaeaaGreat
