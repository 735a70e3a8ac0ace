/- What Put and Delete answer. -/
import Derived.Test.YtchgejomcgoaeaaGreatG26
import Derived.Test.YtchgejomcgoaeaaGreatG14
import Derived.Test.YtchgejomcgoaeaaGreatG20
import Derived.Test.YtchgejomcgoaeaaGreatG19
set_option linter.unusedVariables false
set_option maxRecDepth 100000
namespace Go.Proofs.YtchgejomcgoaeaaGreat
open Go.RowKit
open Pt
variable {kn : Kn} {w : World} {g gK gU n c m d : Nat} {us : List (List Int)} {a b : Option Addr} {y : List Int} {way : List Sp} {u0 : Pt}
def putU (kn : Kn) (t : Pt) (key v : List Int) (us : List (List Int)) : List (List Int) := if 32 < key.length then us else if v.length = 0 ∨ 256 < v.length then us else
  match wayP kn t (Ni.nib key) with
  | none => wkU kn (Ni.nib key) ((Ni.nib key).length + 1) ⟨t, 0, false⟩ us
  | some way => remU kn (Ni.nib key) (way.take (way.length - 1)).reverse (wit (endS way).t ((Ni.nib key).drop (endS way).l) v) (wkU kn (Ni.nib key) ((Ni.nib key).length + 1) ⟨t, 0, false⟩ us)
def delU (kn : Kn) (t : Pt) (key : List Int) (us : List (List Int)) : List (List Int) := if 32 < key.length then us else
  match wayP kn t (Ni.nib key) with
  | none => wkU kn (Ni.nib key) ((Ni.nib key).length + 1) ⟨t, 0, false⟩ us
  | some way => if (valS (Ni.nib key) (endS way)).length = 0 then wkU kn (Ni.nib key) ((Ni.nib key).length + 1) ⟨t, 0, false⟩ us else
    match woP kn (endS way) with
    | none => woU kn (endS way) (wkU kn (Ni.nib key) ((Ni.nib key).length + 1) ⟨t, 0, false⟩ us)
    | some u => remU kn (Ni.nib key) (way.take (way.length - 1)).reverse u (woU kn (endS way) (wkU kn (Ni.nib key) ((Ni.nib key).length + 1) ⟨t, 0, false⟩ us))
theorem Zwu (hk : KnOk kn) {s : Sp} {u : Pt} (h : Wg s.t s.l) (hw : woP kn s = some u) : Wg u s.l := by
 unfold woP at hw
 split at hw
 ·rename_i k x e
  rw [e] at h
  exact Zpr hk h.1 h.2 hw
 ·cases hw; exact trivial
set_option maxHeartbeats 1000000 in
theorem Zr8 {t0 : Pt} (hP : PAt w g gK gU t0 kn us) {key : List Int} (hkey : Sk An w a n c key) (hy : Sk An w b m d y) (hl : 32 < n) : Calls Tryz.prog 18 #[.pointer (some ⟨g, 0, none⟩), .slice a n c, .slice b m d] w fun e w' => ∃ v', e = .returned v' ∧ RPut w g gK gU kn (putU kn t0 key y us) (putQ kn t0 key y) v' w' := by
 have hkl := hkey.len
 have hgP := hP.lt
 have hgK := hP.km.lt
 have hgU := hP.um.lt
 have hnb := Zbp hkey.ag.b
 have hgneU := hP.neU
 have hyl := hy.len
 have hR : putQ kn t0 key y = (t0, 70) := by
  unfold putQ
  rw [if_pos (by omega)]
 have hU : putU kn t0 key y us = us := by
  unfold putU
  rw [if_pos (by omega)]
 rw [hR, hU]
 have hB : Bl w w := Bl.refl w
 refine Zaj Tryz.func18 rfl 52 rfl ?_
 show CW _ _ _ _ _ _ _ [(0, .pointer (some ⟨g, 0, none⟩)), (1, .slice a n c), (2, .slice b m d)] _
 refine Zac ?_
 refine Zaa ?_
 refine rp 6 (.int .i64 0) ?_
 refine Zad ?_
 refine Zab ?_
 refine Zac ?_
 refine Zan ?_
 refine Zac ?_
 refine Zaa ?_
 refine rp 13 (.slice a n c) ?_
 refine Zak 14 35 #[.slice a n c] (fun _ => by kernel_rfl) (fun _ => by kernel_rfl) (R := RVl w (.bool false)) (by have := Zbi (w := w) (a := a) (n := n) (c := c); rw [decide_eq_false (show ¬ (n : Int) ≤ 32 by omega)] at this; exact this) ?_
 rintro _ w1 ⟨rfl, hb2⟩
 replace hB := hB.go hb2
 replace hP := hP.go hb2
 replace hkey := hkey.go hb2
 replace hy := hy.go hb2
 refine rp 15 (.bool true) ?_
 refine rp 12 (.bool true) ?_
 refine Zad ?_
 refine Zab ?_
 refine Zai (fun _ => by kernel_rfl) ?_
 refine Zac ?_
 refine Zaa ?_
 refine rp 6 (.int .i64 70) ?_
 refine Zad ?_
 refine Zab ?_
 refine Zap ?_
 refine Zaq ?_
 refine Zah ?_
 refine Zae (.int .i64 70) (fun _ => by kernel_rfl) ?_
 exact ⟨_, rfl, hP, rfl, T2.of (TU.of hB)⟩
set_option maxHeartbeats 1000000 in
theorem Zvb {t0 : Pt} (hP : PAt w g gK gU t0 kn us) {key : List Int} (hkey : Sk An w a n c key) (hy : Sk An w b m d y) (hl : n ≤ 32) (hv0 : ¬ (0 < m ∧ m ≤ 256)) : Calls Tryz.prog 18 #[.pointer (some ⟨g, 0, none⟩), .slice a n c, .slice b m d] w fun e w' => ∃ v', e = .returned v' ∧ RPut w g gK gU kn (putU kn t0 key y us) (putQ kn t0 key y) v' w' := by
 have hkl := hkey.len
 have hgP := hP.lt
 have hgK := hP.km.lt
 have hgU := hP.um.lt
 have hnb := Zbp hkey.ag.b
 have hgneU := hP.neU
 have hyl := hy.len
 have hR : putQ kn t0 key y = (t0, 71) := by
  unfold putQ
  rw [if_neg (by omega), if_pos (by omega)]
 have hU : putU kn t0 key y us = us := by
  unfold putU
  rw [if_neg (by omega), if_pos (by omega)]
 rw [hR, hU]
 have hB : Bl w w := Bl.refl w
 refine Zaj Tryz.func18 rfl 52 rfl ?_
 show CW _ _ _ _ _ _ _ [(0, .pointer (some ⟨g, 0, none⟩)), (1, .slice a n c), (2, .slice b m d)] _
 refine Zac ?_
 refine Zaa ?_
 refine rp 6 (.int .i64 0) ?_
 refine Zad ?_
 refine Zab ?_
 refine Zac ?_
 refine Zan ?_
 refine Zac ?_
 refine Zaa ?_
 refine rp 13 (.slice a n c) ?_
 refine Zak 14 35 #[.slice a n c] (fun _ => by kernel_rfl) (fun _ => by kernel_rfl) (R := RVl w (.bool true)) (by have := Zbi (w := w) (a := a) (n := n) (c := c); rw [decide_eq_true (show (n : Int) ≤ 32 by omega)] at this; exact this) ?_
 rintro _ w1 ⟨rfl, hb2⟩
 replace hB := hB.go hb2
 replace hP := hP.go hb2
 replace hkey := hkey.go hb2
 replace hy := hy.go hb2
 refine rp 15 (.bool false) ?_
 refine rp 12 (.bool false) ?_
 refine Zad ?_
 refine Zab ?_
 refine Zaf (fun _ => by kernel_rfl) ?_
 refine Zac ?_
 refine Zaa ?_
 refine rp 17 (.slice b m d) ?_
 refine Zak 18 36 #[.slice b m d] (fun _ => by kernel_rfl) (fun _ => by kernel_rfl) (R := RVl w1 (.bool false)) (by have := Zew (w := w1) (a := b) (n := m) (c := d); rw [decide_eq_false hv0] at this; exact this) ?_
 rintro _ w3 ⟨rfl, hb4⟩
 replace hB := hB.go hb4
 replace hP := hP.go hb4
 replace hkey := hkey.go hb4
 replace hy := hy.go hb4
 refine rp 19 (.bool true) ?_
 refine rp 16 (.bool true) ?_
 refine Zad ?_
 refine Zab ?_
 refine Zai (fun _ => by kernel_rfl) ?_
 refine Zac ?_
 refine Zaa ?_
 refine rp 6 (.int .i64 71) ?_
 refine Zad ?_
 refine Zab ?_
 refine Zap ?_
 refine Zaq ?_
 refine Zah ?_
 refine Zae (.int .i64 71) (fun _ => by kernel_rfl) ?_
 exact ⟨_, rfl, hP, rfl, T2.of (TU.of hB)⟩
set_option maxHeartbeats 1000000 in
theorem Zr7 {t0 : Pt} (hP : PAt w g gK gU t0 kn us) {key : List Int} (hkey : Sk An w a n c key) (hy : Sk An w b m d y) (hl : n ≤ 32) (hv0 : 0 < m ∧ m ≤ 256) (hway : wayP kn t0 (Ni.nib key) = none) : Calls Tryz.prog 18 #[.pointer (some ⟨g, 0, none⟩), .slice a n c, .slice b m d] w fun e w' => ∃ v', e = .returned v' ∧ RPut w g gK gU kn (putU kn t0 key y us) (putQ kn t0 key y) v' w' := by
 have hkl := hkey.len
 have hgP := hP.lt
 have hgK := hP.km.lt
 have hgU := hP.um.lt
 have hnb := Zbp hkey.ag.b
 have hgneU := hP.neU
 have hyl := hy.len
 have hR : putQ kn t0 key y = (t0, 2) := by
  unfold putQ
  rw [if_neg (by omega), if_neg (by omega), hway]
 have hU : putU kn t0 key y us = (wkU kn (Ni.nib key) ((Ni.nib key).length + 1) ⟨t0, 0, false⟩ us) := by
  unfold putU
  rw [if_neg (by omega), if_neg (by omega), hway]
 rw [hR, hU]
 have hB : Bl w w := Bl.refl w
 refine Zaj Tryz.func18 rfl 52 rfl ?_
 show CW _ _ _ _ _ _ _ [(0, .pointer (some ⟨g, 0, none⟩)), (1, .slice a n c), (2, .slice b m d)] _
 refine Zac ?_
 refine Zaa ?_
 refine rp 6 (.int .i64 0) ?_
 refine Zad ?_
 refine Zab ?_
 refine Zac ?_
 refine Zan ?_
 refine Zac ?_
 refine Zaa ?_
 refine rp 13 (.slice a n c) ?_
 refine Zak 14 35 #[.slice a n c] (fun _ => by kernel_rfl) (fun _ => by kernel_rfl) (R := RVl w (.bool true)) (by have := Zbi (w := w) (a := a) (n := n) (c := c); rw [decide_eq_true (show (n : Int) ≤ 32 by omega)] at this; exact this) ?_
 rintro _ w1 ⟨rfl, hb2⟩
 replace hB := hB.go hb2
 replace hP := hP.go hb2
 replace hkey := hkey.go hb2
 replace hy := hy.go hb2
 refine rp 15 (.bool false) ?_
 refine rp 12 (.bool false) ?_
 refine Zad ?_
 refine Zab ?_
 refine Zaf (fun _ => by kernel_rfl) ?_
 refine Zac ?_
 refine Zaa ?_
 refine rp 17 (.slice b m d) ?_
 refine Zak 18 36 #[.slice b m d] (fun _ => by kernel_rfl) (fun _ => by kernel_rfl) (R := RVl w1 (.bool true)) (by have := Zew (w := w1) (a := b) (n := m) (c := d); rw [decide_eq_true hv0] at this; exact this) ?_
 rintro _ w3 ⟨rfl, hb4⟩
 replace hB := hB.go hb4
 replace hP := hP.go hb4
 replace hkey := hkey.go hb4
 replace hy := hy.go hb4
 refine rp 19 (.bool false) ?_
 refine rp 16 (.bool false) ?_
 refine Zad ?_
 refine Zab ?_
 refine Zaf (fun _ => by kernel_rfl) ?_
 refine Zam ?_
 refine Zau ?_
 refine Zab ?_
 refine Zac ?_
 refine Zaa ?_
 refine rp 20 (.slice a n c) ?_
 refine Zak 21 37 #[.slice a n c] (fun _ => by kernel_rfl) (fun _ => by kernel_rfl) (R := fun v w' => (∃ a2 n2 c2, v = .slice a2 n2 c2 ∧ Sk An w' a2 n2 c2 (Ni.nib key) ∧ n2 ≤ 64) ∧ Bl w3 w') (Zhh hkey (by omega)) ?_
 rintro _ w8 ⟨⟨a5, n6, c7, rfl, ha9, hn10⟩, hb11⟩
 replace hB := hB.go hb11
 replace hP := hP.go hb11
 replace hkey := hkey.go hb11
 replace hy := hy.go hb11
 have hql := ha9.len
 refine rp 7 (.slice a5 n6 c7) ?_
 refine Zad ?_
 refine Zab ?_
 refine Zac ?_
 refine Zaa ?_
 refine rp 23 (.pointer (some ⟨g, 0, none⟩)) ?_
 refine rp 24 (.slice a5 n6 c7) ?_
 refine Zak 25 38 #[.pointer (some ⟨g, 0, none⟩), .slice a5 n6 c7] (fun _ => by kernel_rfl) (fun _ => by kernel_rfl) (R := RWk w8 g gK gU t0 kn (wkU kn (Ni.nib key) ((Ni.nib key).length + 1) ⟨t0, 0, false⟩ us) none) (by have := Zca hP ha9 hn10 hnb; rw [hway] at this; exact this) ?_
 rintro _ w12 ⟨hP13, rfl, hT14⟩
 replace hB : TU gU w w12 := (TU.of hB).trans hT14
 replace hP := hP13
 replace hkey := hkey.nt hT14.n
 replace hy := hy.nt hT14.n
 replace ha9 := ha9.nt hT14.n
 refine rp 22 (.tuple #[.slice none 0 0, .bool false]) ?_
 refine rp 26 (.slice none 0 0) ?_
 refine rp 27 (.bool false) ?_
 refine rp 8 (.slice none 0 0) ?_
 refine rp 9 (.bool false) ?_
 refine Zad ?_
 refine Zab ?_
 refine Zac ?_
 refine Zac ?_
 refine Zaa ?_
 refine rp 28 (.bool false) ?_
 refine rp 29 (.bool true) ?_
 refine Zad ?_
 refine Zab ?_
 refine Zai (fun _ => by kernel_rfl) ?_
 refine Zac ?_
 refine Zaa ?_
 refine rp 6 (.int .i64 2) ?_
 refine Zad ?_
 refine Zab ?_
 refine Zap ?_
 refine Zah ?_
 refine Zae (.int .i64 2) (fun _ => by kernel_rfl) ?_
 exact ⟨_, rfl, hP, rfl, T2.of hB⟩
set_option maxHeartbeats 1000000 in
theorem Zsa {t0 : Pt} (hP : PAt w g gK gU t0 kn us) {key : List Int} (hkey : Sk An w a n c key) (hy : Sk An w b m d y) (hl : n ≤ 32) (hv0 : 0 < m ∧ m ≤ 256) (hway : wayP kn t0 (Ni.nib key) = some way) (hrem : remP kn (Ni.nib key) (way.take (way.length - 1)).reverse (wit (endS way).t ((Ni.nib key).drop (endS way).l) y) = none) : Calls Tryz.prog 18 #[.pointer (some ⟨g, 0, none⟩), .slice a n c, .slice b m d] w fun e w' => ∃ v', e = .returned v' ∧ RPut w g gK gU kn (putU kn t0 key y us) (putQ kn t0 key y) v' w' := by
 have hkl := hkey.len
 have hgP := hP.lt
 have hgK := hP.km.lt
 have hgU := hP.um.lt
 have hnb := Zbp hkey.ag.b
 have hgneU := hP.neU
 have hE := Zea hP.ok hnb hP.wg hway
 have hEp := hE.pos
 have hEl := hE.le
 have hEw := hE.l
 have hyl := hy.len
 have hR : putQ kn t0 key y = (t0, 2) := by
  unfold putQ
  rw [if_neg (by omega), if_neg (by omega), hway]
  simp only [hrem]
 have hU : putU kn t0 key y us = remU kn (Ni.nib key) (way.take (way.length - 1)).reverse (wit (endS way).t ((Ni.nib key).drop (endS way).l) y) (wkU kn (Ni.nib key) ((Ni.nib key).length + 1) ⟨t0, 0, false⟩ us) := by
  unfold putU
  rw [if_neg (by omega), if_neg (by omega), hway]
 rw [hR, hU]
 have hB : Bl w w := Bl.refl w
 refine Zaj Tryz.func18 rfl 52 rfl ?_
 show CW _ _ _ _ _ _ _ [(0, .pointer (some ⟨g, 0, none⟩)), (1, .slice a n c), (2, .slice b m d)] _
 refine Zac ?_
 refine Zaa ?_
 refine rp 6 (.int .i64 0) ?_
 refine Zad ?_
 refine Zab ?_
 refine Zac ?_
 refine Zan ?_
 refine Zac ?_
 refine Zaa ?_
 refine rp 13 (.slice a n c) ?_
 refine Zak 14 35 #[.slice a n c] (fun _ => by kernel_rfl) (fun _ => by kernel_rfl) (R := RVl w (.bool true)) (by have := Zbi (w := w) (a := a) (n := n) (c := c); rw [decide_eq_true (show (n : Int) ≤ 32 by omega)] at this; exact this) ?_
 rintro _ w1 ⟨rfl, hb2⟩
 replace hB := hB.go hb2
 replace hP := hP.go hb2
 replace hkey := hkey.go hb2
 replace hy := hy.go hb2
 refine rp 15 (.bool false) ?_
 refine rp 12 (.bool false) ?_
 refine Zad ?_
 refine Zab ?_
 refine Zaf (fun _ => by kernel_rfl) ?_
 refine Zac ?_
 refine Zaa ?_
 refine rp 17 (.slice b m d) ?_
 refine Zak 18 36 #[.slice b m d] (fun _ => by kernel_rfl) (fun _ => by kernel_rfl) (R := RVl w1 (.bool true)) (by have := Zew (w := w1) (a := b) (n := m) (c := d); rw [decide_eq_true hv0] at this; exact this) ?_
 rintro _ w3 ⟨rfl, hb4⟩
 replace hB := hB.go hb4
 replace hP := hP.go hb4
 replace hkey := hkey.go hb4
 replace hy := hy.go hb4
 refine rp 19 (.bool false) ?_
 refine rp 16 (.bool false) ?_
 refine Zad ?_
 refine Zab ?_
 refine Zaf (fun _ => by kernel_rfl) ?_
 refine Zam ?_
 refine Zau ?_
 refine Zab ?_
 refine Zac ?_
 refine Zaa ?_
 refine rp 20 (.slice a n c) ?_
 refine Zak 21 37 #[.slice a n c] (fun _ => by kernel_rfl) (fun _ => by kernel_rfl) (R := fun v w' => (∃ a2 n2 c2, v = .slice a2 n2 c2 ∧ Sk An w' a2 n2 c2 (Ni.nib key) ∧ n2 ≤ 64) ∧ Bl w3 w') (Zhh hkey (by omega)) ?_
 rintro _ w8 ⟨⟨a5, n6, c7, rfl, ha9, hn10⟩, hb11⟩
 replace hB := hB.go hb11
 replace hP := hP.go hb11
 replace hkey := hkey.go hb11
 replace hy := hy.go hb11
 have hql := ha9.len
 refine rp 7 (.slice a5 n6 c7) ?_
 refine Zad ?_
 refine Zab ?_
 refine Zac ?_
 refine Zaa ?_
 refine rp 23 (.pointer (some ⟨g, 0, none⟩)) ?_
 refine rp 24 (.slice a5 n6 c7) ?_
 refine Zak 25 38 #[.pointer (some ⟨g, 0, none⟩), .slice a5 n6 c7] (fun _ => by kernel_rfl) (fun _ => by kernel_rfl) (R := RWk w8 g gK gU t0 kn (wkU kn (Ni.nib key) ((Ni.nib key).length + 1) ⟨t0, 0, false⟩ us) (some way)) (by have := Zca hP ha9 hn10 hnb; rw [hway] at this; exact this) ?_
 rintro _ w12 ⟨hP13, ⟨aw15, cw16, rfl, hW17⟩, hT14⟩
 replace hB : TU gU w w12 := (TU.of hB).trans hT14
 replace hP := hP13
 replace hkey := hkey.nt hT14.n
 replace hy := hy.nt hT14.n
 replace ha9 := ha9.nt hT14.n
 refine rp 22 (.tuple #[.slice aw15 way.length cw16, .bool true]) ?_
 refine rp 26 (.slice aw15 way.length cw16) ?_
 refine rp 27 (.bool true) ?_
 refine rp 8 (.slice aw15 way.length cw16) ?_
 refine rp 9 (.bool true) ?_
 refine Zad ?_
 refine Zab ?_
 refine Zac ?_
 refine Zac ?_
 refine Zaa ?_
 refine rp 28 (.bool true) ?_
 refine rp 29 (.bool false) ?_
 refine Zad ?_
 refine Zab ?_
 refine Zaf (fun _ => by kernel_rfl) ?_
 refine Zam ?_
 refine Zab ?_
 refine Zac ?_
 refine Zaa ?_
 refine rp 30 (.slice aw15 way.length cw16) ?_
 refine rp 31 (.int .i64 ((way.length : Nat) : Int)) ?_
 refine rv 32 (.int .i64 ((way.length - 1 : Nat) : Int)) (fun _ => Zal (v := .int .i64 (IntKind.i64.wrap (((way.length : Nat) : Int) - 1))) (by kernel_rfl) (congrArg (Value.int .i64) ((Zbc (by omega) (by omega)).trans (by omega)))) ?_
 refine rp 10 (.int .i64 ((way.length - 1 : Nat) : Int)) ?_
 refine Zad ?_
 refine Zab ?_
 refine Zac ?_
 obtain ⟨gw, ow, uw, rfl, hrw, huw⟩ := hW17.row (way.length - 1) (endS way) hE.last
 refine Zaa ?_
 refine rp 33 (.slice (some ⟨gw, ow, none⟩) way.length cw16) ?_
 refine rp 34 (.int .i64 ((way.length - 1 : Nat) : Int)) ?_
 refine rv 35 (.pointer (some ⟨gw, ow + (way.length - 1) * 3, none⟩)) (fun _ => Za0 84 _ _ gw ow (way.length - 1) way.length cw16 3 88 rfl (by kernel_rfl) (by kernel_rfl) (by omega) Tryz.underlying84 (by kernel_rfl)) ?_
 refine rv 36 (.agg #[uw, .int .i64 (((endS way).l : Nat) : Int), .bool (endS way).c]) (fun _ => Zb2 88 _ gw (ow + (way.length - 1) * 3) [uw, .int .i64 (((endS way).l : Nat) : Int), .bool (endS way).c] _ rfl (by kernel_rfl) hrw Tryz.underlying88 rfl (by kernel_rfl)) ?_
 refine Zar 11 (#[.nilIface, .int .i64 0, .bool false]) 88 (fun _ => by kernel_rfl) (fun _ => by kernel_rfl) ?_
 intro w18 g19 hn20
 have hr21 : Rw g19 w18 (#[.nilIface, .int .i64 0, .bool false]) 88 := hn20.row
 refine Zav g19 (#[uw, .int .i64 (((endS way).l : Nat) : Int), .bool (endS way).c]) (fun _ => by kernel_rfl) (fun _ => Zao 88 _ _ _ _ _ 88 rfl (by kernel_rfl) (by kernel_rfl) hr21 (by kernel_rfl) (by kernel_rfl) (one3 huw.one rfl rfl)) ?_
 intro w22 hp23
 replace hn20 := hn20.put hp23
 clear hr21
 have hzg19 : w.heap.size ≤ g19 := by have := hB.size; have := hn20.hg; omega
 replace hB := hB.go hn20.below
 replace hP := hP.go hn20.below
 replace hkey := hkey.go hn20.below
 replace hy := hy.go hn20.below
 replace ha9 := ha9.go hn20.below
 replace hW17 := hW17.go hn20.below
 replace hrw := Zba hrw hn20.below
 replace huw := huw.go hn20.below
 have hr25 : Rw g19 w22 (#[uw, .int .i64 (((endS way).l : Nat) : Int), .bool (endS way).c]) 88 := hn20.row
 refine Zad ?_
 refine Zab ?_
 refine Zac ?_
 obtain ⟨a9, hcut, hWc⟩ := hW17.cut (way.length - 1) (by omega) (by omega)
 refine Zbd (fun v => Rw g19 v (#[uw, .int .i64 (((endS way).l : Nat) : Int), .bool (endS way).c]) 88) (by kernel_rfl) (hr25) ?_
 replace hB := hB.go (Below.refl _ _).drew
 replace hP := hP.go (Below.refl _ _).drew
 replace hkey := hkey.go (Below.refl _ _).drew
 replace hy := hy.go (Below.refl _ _).drew
 replace ha9 := ha9.go (Below.refl _ _).drew
 replace hW17 := hW17.go (Below.refl _ _).drew
 replace hrw := Zba hrw (Below.refl _ _).drew
 replace huw := huw.go (Below.refl _ _).drew
 replace hr25 := hr25.go (Below.refl _ _).drew
 replace hWc := hWc.go (Below.refl _ _).drew
 refine dt 0 37 (.pointer (some ⟨g, 0, none⟩)) (fun v hv _ => by kernel_rfl) hr25 ?_
 refine dt 1 38 (.slice (some ⟨gw, ow, none⟩) way.length cw16) (fun v hv _ => by kernel_rfl) hr25 ?_
 refine dt 2 39 (.int .i64 ((way.length - 1 : Nat) : Int)) (fun v hv _ => by kernel_rfl) hr25 ?_
 refine dt 3 40 (.slice a9 (way.length - 1) cw16) (fun v hv _ => hcut _ _ _ _ _ rfl (by kernel_rfl) (by kernel_rfl)) hr25 ?_
 refine dt 4 41 (.slice a5 n6 c7) (fun v hv _ => by kernel_rfl) hr25 ?_
 refine dt 5 42 (.pointer (some ⟨g19, 0, none⟩)) (fun v hv _ => by kernel_rfl) hr25 ?_
 refine dt 6 43 (uw) (fun v hv _ => Zag 47 _ ⟨g19, 0, none⟩ _ _ rfl (by kernel_rfl) (by rw [cell_of_row _ _ _ _ _ _ hv]; rfl) Tryz.underlying47 rfl) hr25 ?_
 refine dt 7 44 (.slice a5 n6 c7) (fun v hv _ => by kernel_rfl) hr25 ?_
 refine dt 8 45 (.pointer (some ⟨g19, 1, none⟩)) (fun v hv _ => by kernel_rfl) hr25 ?_
 refine dt 9 46 (.int .i64 (((endS way).l : Nat) : Int)) (fun v hv _ => Zag 3 _ ⟨g19, 1, none⟩ _ _ rfl (by kernel_rfl) (by rw [cell_of_row _ _ _ _ _ _ hv]; rfl) Tryz.underlying3 rfl) hr25 ?_
 obtain ⟨a26, n27, c28, hr29, hs30⟩ := ha9.cutFrom ((endS way).l) (by have := hE.l; omega)
 refine dt 10 47 (.slice a26 n27 c28) (fun v hv => (fun _ => hr29 _ _ _ _ _ _ rfl (by kernel_rfl) (by kernel_rfl) rfl)) hr25 ?_
 refine dt 11 48 (.slice b m d) (fun v hv _ => by kernel_rfl) hr25 ?_
 refine Zas [12] (by kernel_rfl) (by simp) ?_
 refine Za5 12 49 41 #[.slice b m d] rfl (fun _ => by kernel_rfl) (fun _ => by kernel_rfl) (R := fun u w' => ∃ a2 n2 c2, u = .slice a2 n2 c2 ∧ Sk (fun b => (w22.drew).heap.size ≤ b) w' a2 n2 c2 y ∧ Bl w22.drew w') (Zg6 hy (by omega)) (fun u w' h9 => hr25.go (h9.choose_spec.choose_spec.choose_spec.2.2)) ?_ Zaz
 rintro _ w34 ⟨a31, n32, c33, rfl, ha35, hb36⟩
 replace ha35 := ha35.any
 replace hB := hB.go hb36
 replace hP := hP.go hb36
 replace hkey := hkey.go hb36
 replace hy := hy.go hb36
 replace ha9 := ha9.go hb36
 replace hW17 := hW17.go hb36
 replace hrw := Zba hrw hb36
 replace huw := huw.go hb36
 replace hr25 := hr25.go hb36
 replace hWc := hWc.go hb36
 replace hs30 := hs30.go hb36
 refine Zas [13] (by kernel_rfl) (by simp) ?_
 refine Za5 13 50 40 #[uw, .slice a26 n27 c28, .slice a31 n32 c33] rfl (fun _ => by kernel_rfl) (fun _ => by kernel_rfl) (R := RTh w34 (wit (endS way).t ((Ni.nib key).drop (endS way).l) y)) (Zli huw hE.wg hs30 (by rw [List.length_drop]; omega) (Zbh hnb _) ha35 (by have := ha35.len; omega) hE.ext) (fun u w' h9 => hr25.go h9.2) ?_ Zaz
 rintro u37 w38 ⟨ht39, hb40⟩
 replace hB := hB.go hb40
 replace hP := hP.go hb40
 replace hkey := hkey.go hb40
 replace hy := hy.go hb40
 replace ha9 := ha9.go hb40
 replace hW17 := hW17.go hb40
 replace hrw := Zba hrw hb40
 replace huw := huw.go hb40
 replace hr25 := hr25.go hb40
 replace hWc := hWc.go hb40
 replace hs30 := hs30.go hb40
 replace ha35 := ha35.go hb40
 refine Zas [14] (by kernel_rfl) (by simp) ?_
 refine Za5 14 51 39 #[.pointer (some ⟨g, 0, none⟩), .slice a9 (way.length - 1) cw16, .slice a5 n6 c7, u37] rfl (fun _ => by kernel_rfl) (fun _ => by kernel_rfl) (R := RRm w38 g gK gU t0 kn _ none) (by have := Zdy hP hWc ha9 hn10 hnb ht39 (by rw [List.length_take]; omega) hE.desc (Zf8 (v := y) hE.wg (by rw [List.length_drop]; omega) (Zbh hnb _) hE.ext); rw [hrem] at this; exact this) (fun u w' h9 => (h9.2.block _ hr25.lt (by omega) (by omega)).trans hr25) ?_ Zaz
 rintro _ w41 ⟨⟨rfl, hP43⟩, hT44⟩
 have hS9 := (hT44.block _ hr25.lt (by omega) (by omega)).trans hr25
 replace hB := (T2.of hB).trans hT44
 refine Zas [15] (by kernel_rfl) (by simp) ?_
 refine ar_v 15 6 (.int .i64 2) rfl (fun _ => by kernel_rfl) (fun _ => by kernel_rfl) hS9 ?_ Zaz
 refine Za6 (by kernel_rfl) ?_
 refine Zab ?_
 refine Zap ?_
 refine Zae (.int .i64 2) (fun _ => by kernel_rfl) ?_
 exact ⟨_, rfl, hP43, rfl, hB⟩
set_option maxHeartbeats 1000000 in
theorem Zxp {t0 : Pt} (hP : PAt w g gK gU t0 kn us) {key : List Int} (hkey : Sk An w a n c key) (hy : Sk An w b m d y) (hl : n ≤ 32) (hv0 : 0 < m ∧ m ≤ 256) (hway : wayP kn t0 (Ni.nib key) = some way) {t2 : Pt} (hrem : remP kn (Ni.nib key) (way.take (way.length - 1)).reverse (wit (endS way).t ((Ni.nib key).drop (endS way).l) y) = some t2) : Calls Tryz.prog 18 #[.pointer (some ⟨g, 0, none⟩), .slice a n c, .slice b m d] w fun e w' => ∃ v', e = .returned v' ∧ RPut w g gK gU kn (putU kn t0 key y us) (putQ kn t0 key y) v' w' := by
 have hkl := hkey.len
 have hgP := hP.lt
 have hgK := hP.km.lt
 have hgU := hP.um.lt
 have hnb := Zbp hkey.ag.b
 have hgneU := hP.neU
 have hE := Zea hP.ok hnb hP.wg hway
 have hEp := hE.pos
 have hEl := hE.le
 have hEw := hE.l
 have hyl := hy.len
 have hR : putQ kn t0 key y = (t2, 0) := by
  unfold putQ
  rw [if_neg (by omega), if_neg (by omega), hway]
  simp only [hrem]
 have hU : putU kn t0 key y us = remU kn (Ni.nib key) (way.take (way.length - 1)).reverse (wit (endS way).t ((Ni.nib key).drop (endS way).l) y) (wkU kn (Ni.nib key) ((Ni.nib key).length + 1) ⟨t0, 0, false⟩ us) := by
  unfold putU
  rw [if_neg (by omega), if_neg (by omega), hway]
 rw [hR, hU]
 have hB : Bl w w := Bl.refl w
 refine Zaj Tryz.func18 rfl 52 rfl ?_
 show CW _ _ _ _ _ _ _ [(0, .pointer (some ⟨g, 0, none⟩)), (1, .slice a n c), (2, .slice b m d)] _
 refine Zac ?_
 refine Zaa ?_
 refine rp 6 (.int .i64 0) ?_
 refine Zad ?_
 refine Zab ?_
 refine Zac ?_
 refine Zan ?_
 refine Zac ?_
 refine Zaa ?_
 refine rp 13 (.slice a n c) ?_
 refine Zak 14 35 #[.slice a n c] (fun _ => by kernel_rfl) (fun _ => by kernel_rfl) (R := RVl w (.bool true)) (by have := Zbi (w := w) (a := a) (n := n) (c := c); rw [decide_eq_true (show (n : Int) ≤ 32 by omega)] at this; exact this) ?_
 rintro _ w1 ⟨rfl, hb2⟩
 replace hB := hB.go hb2
 replace hP := hP.go hb2
 replace hkey := hkey.go hb2
 replace hy := hy.go hb2
 refine rp 15 (.bool false) ?_
 refine rp 12 (.bool false) ?_
 refine Zad ?_
 refine Zab ?_
 refine Zaf (fun _ => by kernel_rfl) ?_
 refine Zac ?_
 refine Zaa ?_
 refine rp 17 (.slice b m d) ?_
 refine Zak 18 36 #[.slice b m d] (fun _ => by kernel_rfl) (fun _ => by kernel_rfl) (R := RVl w1 (.bool true)) (by have := Zew (w := w1) (a := b) (n := m) (c := d); rw [decide_eq_true hv0] at this; exact this) ?_
 rintro _ w3 ⟨rfl, hb4⟩
 replace hB := hB.go hb4
 replace hP := hP.go hb4
 replace hkey := hkey.go hb4
 replace hy := hy.go hb4
 refine rp 19 (.bool false) ?_
 refine rp 16 (.bool false) ?_
 refine Zad ?_
 refine Zab ?_
 refine Zaf (fun _ => by kernel_rfl) ?_
 refine Zam ?_
 refine Zau ?_
 refine Zab ?_
 refine Zac ?_
 refine Zaa ?_
 refine rp 20 (.slice a n c) ?_
 refine Zak 21 37 #[.slice a n c] (fun _ => by kernel_rfl) (fun _ => by kernel_rfl) (R := fun v w' => (∃ a2 n2 c2, v = .slice a2 n2 c2 ∧ Sk An w' a2 n2 c2 (Ni.nib key) ∧ n2 ≤ 64) ∧ Bl w3 w') (Zhh hkey (by omega)) ?_
 rintro _ w8 ⟨⟨a5, n6, c7, rfl, ha9, hn10⟩, hb11⟩
 replace hB := hB.go hb11
 replace hP := hP.go hb11
 replace hkey := hkey.go hb11
 replace hy := hy.go hb11
 have hql := ha9.len
 refine rp 7 (.slice a5 n6 c7) ?_
 refine Zad ?_
 refine Zab ?_
 refine Zac ?_
 refine Zaa ?_
 refine rp 23 (.pointer (some ⟨g, 0, none⟩)) ?_
 refine rp 24 (.slice a5 n6 c7) ?_
 refine Zak 25 38 #[.pointer (some ⟨g, 0, none⟩), .slice a5 n6 c7] (fun _ => by kernel_rfl) (fun _ => by kernel_rfl) (R := RWk w8 g gK gU t0 kn (wkU kn (Ni.nib key) ((Ni.nib key).length + 1) ⟨t0, 0, false⟩ us) (some way)) (by have := Zca hP ha9 hn10 hnb; rw [hway] at this; exact this) ?_
 rintro _ w12 ⟨hP13, ⟨aw15, cw16, rfl, hW17⟩, hT14⟩
 replace hB : TU gU w w12 := (TU.of hB).trans hT14
 replace hP := hP13
 replace hkey := hkey.nt hT14.n
 replace hy := hy.nt hT14.n
 replace ha9 := ha9.nt hT14.n
 refine rp 22 (.tuple #[.slice aw15 way.length cw16, .bool true]) ?_
 refine rp 26 (.slice aw15 way.length cw16) ?_
 refine rp 27 (.bool true) ?_
 refine rp 8 (.slice aw15 way.length cw16) ?_
 refine rp 9 (.bool true) ?_
 refine Zad ?_
 refine Zab ?_
 refine Zac ?_
 refine Zac ?_
 refine Zaa ?_
 refine rp 28 (.bool true) ?_
 refine rp 29 (.bool false) ?_
 refine Zad ?_
 refine Zab ?_
 refine Zaf (fun _ => by kernel_rfl) ?_
 refine Zam ?_
 refine Zab ?_
 refine Zac ?_
 refine Zaa ?_
 refine rp 30 (.slice aw15 way.length cw16) ?_
 refine rp 31 (.int .i64 ((way.length : Nat) : Int)) ?_
 refine rv 32 (.int .i64 ((way.length - 1 : Nat) : Int)) (fun _ => Zal (v := .int .i64 (IntKind.i64.wrap (((way.length : Nat) : Int) - 1))) (by kernel_rfl) (congrArg (Value.int .i64) ((Zbc (by omega) (by omega)).trans (by omega)))) ?_
 refine rp 10 (.int .i64 ((way.length - 1 : Nat) : Int)) ?_
 refine Zad ?_
 refine Zab ?_
 refine Zac ?_
 obtain ⟨gw, ow, uw, rfl, hrw, huw⟩ := hW17.row (way.length - 1) (endS way) hE.last
 refine Zaa ?_
 refine rp 33 (.slice (some ⟨gw, ow, none⟩) way.length cw16) ?_
 refine rp 34 (.int .i64 ((way.length - 1 : Nat) : Int)) ?_
 refine rv 35 (.pointer (some ⟨gw, ow + (way.length - 1) * 3, none⟩)) (fun _ => Za0 84 _ _ gw ow (way.length - 1) way.length cw16 3 88 rfl (by kernel_rfl) (by kernel_rfl) (by omega) Tryz.underlying84 (by kernel_rfl)) ?_
 refine rv 36 (.agg #[uw, .int .i64 (((endS way).l : Nat) : Int), .bool (endS way).c]) (fun _ => Zb2 88 _ gw (ow + (way.length - 1) * 3) [uw, .int .i64 (((endS way).l : Nat) : Int), .bool (endS way).c] _ rfl (by kernel_rfl) hrw Tryz.underlying88 rfl (by kernel_rfl)) ?_
 refine Zar 11 (#[.nilIface, .int .i64 0, .bool false]) 88 (fun _ => by kernel_rfl) (fun _ => by kernel_rfl) ?_
 intro w18 g19 hn20
 have hr21 : Rw g19 w18 (#[.nilIface, .int .i64 0, .bool false]) 88 := hn20.row
 refine Zav g19 (#[uw, .int .i64 (((endS way).l : Nat) : Int), .bool (endS way).c]) (fun _ => by kernel_rfl) (fun _ => Zao 88 _ _ _ _ _ 88 rfl (by kernel_rfl) (by kernel_rfl) hr21 (by kernel_rfl) (by kernel_rfl) (one3 huw.one rfl rfl)) ?_
 intro w22 hp23
 replace hn20 := hn20.put hp23
 clear hr21
 have hzg19 : w.heap.size ≤ g19 := by have := hB.size; have := hn20.hg; omega
 replace hB := hB.go hn20.below
 replace hP := hP.go hn20.below
 replace hkey := hkey.go hn20.below
 replace hy := hy.go hn20.below
 replace ha9 := ha9.go hn20.below
 replace hW17 := hW17.go hn20.below
 replace hrw := Zba hrw hn20.below
 replace huw := huw.go hn20.below
 have hr25 : Rw g19 w22 (#[uw, .int .i64 (((endS way).l : Nat) : Int), .bool (endS way).c]) 88 := hn20.row
 refine Zad ?_
 refine Zab ?_
 refine Zac ?_
 obtain ⟨a9, hcut, hWc⟩ := hW17.cut (way.length - 1) (by omega) (by omega)
 refine Zbd (fun v => Rw g19 v (#[uw, .int .i64 (((endS way).l : Nat) : Int), .bool (endS way).c]) 88) (by kernel_rfl) (hr25) ?_
 replace hB := hB.go (Below.refl _ _).drew
 replace hP := hP.go (Below.refl _ _).drew
 replace hkey := hkey.go (Below.refl _ _).drew
 replace hy := hy.go (Below.refl _ _).drew
 replace ha9 := ha9.go (Below.refl _ _).drew
 replace hW17 := hW17.go (Below.refl _ _).drew
 replace hrw := Zba hrw (Below.refl _ _).drew
 replace huw := huw.go (Below.refl _ _).drew
 replace hr25 := hr25.go (Below.refl _ _).drew
 replace hWc := hWc.go (Below.refl _ _).drew
 refine dt 0 37 (.pointer (some ⟨g, 0, none⟩)) (fun v hv _ => by kernel_rfl) hr25 ?_
 refine dt 1 38 (.slice (some ⟨gw, ow, none⟩) way.length cw16) (fun v hv _ => by kernel_rfl) hr25 ?_
 refine dt 2 39 (.int .i64 ((way.length - 1 : Nat) : Int)) (fun v hv _ => by kernel_rfl) hr25 ?_
 refine dt 3 40 (.slice a9 (way.length - 1) cw16) (fun v hv _ => hcut _ _ _ _ _ rfl (by kernel_rfl) (by kernel_rfl)) hr25 ?_
 refine dt 4 41 (.slice a5 n6 c7) (fun v hv _ => by kernel_rfl) hr25 ?_
 refine dt 5 42 (.pointer (some ⟨g19, 0, none⟩)) (fun v hv _ => by kernel_rfl) hr25 ?_
 refine dt 6 43 (uw) (fun v hv _ => Zag 47 _ ⟨g19, 0, none⟩ _ _ rfl (by kernel_rfl) (by rw [cell_of_row _ _ _ _ _ _ hv]; rfl) Tryz.underlying47 rfl) hr25 ?_
 refine dt 7 44 (.slice a5 n6 c7) (fun v hv _ => by kernel_rfl) hr25 ?_
 refine dt 8 45 (.pointer (some ⟨g19, 1, none⟩)) (fun v hv _ => by kernel_rfl) hr25 ?_
 refine dt 9 46 (.int .i64 (((endS way).l : Nat) : Int)) (fun v hv _ => Zag 3 _ ⟨g19, 1, none⟩ _ _ rfl (by kernel_rfl) (by rw [cell_of_row _ _ _ _ _ _ hv]; rfl) Tryz.underlying3 rfl) hr25 ?_
 obtain ⟨a26, n27, c28, hr29, hs30⟩ := ha9.cutFrom ((endS way).l) (by have := hE.l; omega)
 refine dt 10 47 (.slice a26 n27 c28) (fun v hv => (fun _ => hr29 _ _ _ _ _ _ rfl (by kernel_rfl) (by kernel_rfl) rfl)) hr25 ?_
 refine dt 11 48 (.slice b m d) (fun v hv _ => by kernel_rfl) hr25 ?_
 refine Zas [12] (by kernel_rfl) (by simp) ?_
 refine Za5 12 49 41 #[.slice b m d] rfl (fun _ => by kernel_rfl) (fun _ => by kernel_rfl) (R := fun u w' => ∃ a2 n2 c2, u = .slice a2 n2 c2 ∧ Sk (fun b => (w22.drew).heap.size ≤ b) w' a2 n2 c2 y ∧ Bl w22.drew w') (Zg6 hy (by omega)) (fun u w' h9 => hr25.go (h9.choose_spec.choose_spec.choose_spec.2.2)) ?_ Zaz
 rintro _ w34 ⟨a31, n32, c33, rfl, ha35, hb36⟩
 replace ha35 := ha35.any
 replace hB := hB.go hb36
 replace hP := hP.go hb36
 replace hkey := hkey.go hb36
 replace hy := hy.go hb36
 replace ha9 := ha9.go hb36
 replace hW17 := hW17.go hb36
 replace hrw := Zba hrw hb36
 replace huw := huw.go hb36
 replace hr25 := hr25.go hb36
 replace hWc := hWc.go hb36
 replace hs30 := hs30.go hb36
 refine Zas [13] (by kernel_rfl) (by simp) ?_
 refine Za5 13 50 40 #[uw, .slice a26 n27 c28, .slice a31 n32 c33] rfl (fun _ => by kernel_rfl) (fun _ => by kernel_rfl) (R := RTh w34 (wit (endS way).t ((Ni.nib key).drop (endS way).l) y)) (Zli huw hE.wg hs30 (by rw [List.length_drop]; omega) (Zbh hnb _) ha35 (by have := ha35.len; omega) hE.ext) (fun u w' h9 => hr25.go h9.2) ?_ Zaz
 rintro u37 w38 ⟨ht39, hb40⟩
 replace hB := hB.go hb40
 replace hP := hP.go hb40
 replace hkey := hkey.go hb40
 replace hy := hy.go hb40
 replace ha9 := ha9.go hb40
 replace hW17 := hW17.go hb40
 replace hrw := Zba hrw hb40
 replace huw := huw.go hb40
 replace hr25 := hr25.go hb40
 replace hWc := hWc.go hb40
 replace hs30 := hs30.go hb40
 replace ha35 := ha35.go hb40
 refine Zas [14] (by kernel_rfl) (by simp) ?_
 refine Za5 14 51 39 #[.pointer (some ⟨g, 0, none⟩), .slice a9 (way.length - 1) cw16, .slice a5 n6 c7, u37] rfl (fun _ => by kernel_rfl) (fun _ => by kernel_rfl) (R := RRm w38 g gK gU t0 kn _ (some t2)) (by have := Zdy hP hWc ha9 hn10 hnb ht39 (by rw [List.length_take]; omega) hE.desc (Zf8 (v := y) hE.wg (by rw [List.length_drop]; omega) (Zbh hnb _) hE.ext); rw [hrem] at this; exact this) (fun u w' h9 => (h9.2.block _ hr25.lt (by omega) (by omega)).trans hr25) ?_ Zaz
 rintro _ w41 ⟨⟨rfl, hP43⟩, hT44⟩
 have hS9 := (hT44.block _ hr25.lt (by omega) (by omega)).trans hr25
 replace hB := (T2.of hB).trans hT44
 refine Zas [15] (by kernel_rfl) (by simp) ?_
 refine ar_v 15 6 (.int .i64 0) rfl (fun _ => by kernel_rfl) (fun _ => by kernel_rfl) hS9 ?_ Zaz
 refine Za6 (by kernel_rfl) ?_
 refine Zab ?_
 refine Zap ?_
 refine Zae (.int .i64 0) (fun _ => by kernel_rfl) ?_
 exact ⟨_, rfl, hP43, rfl, hB⟩
theorem Zlz {t0 : Pt} (hP : PAt w g gK gU t0 kn us) {key : List Int} (hkey : Sk An w a n c key) (hy : Sk An w b m d y) : Calls Tryz.prog 18 #[.pointer (some ⟨g, 0, none⟩), .slice a n c, .slice b m d] w fun e w' => ∃ v', e = .returned v' ∧ RPut w g gK gU kn (putU kn t0 key y us) (putQ kn t0 key y) v' w' := by
 by_cases hl : 32 < n
 ·exact Zr8 hP hkey hy hl
 by_cases hv : 0 < m ∧ m ≤ 256
 ·cases hw : wayP kn t0 (Ni.nib key) with
  | none => exact Zr7 hP hkey hy (by omega) hv hw
  | some way =>
   cases hr : remP kn (Ni.nib key) (way.take (way.length - 1)).reverse (wit (endS way).t ((Ni.nib key).drop (endS way).l) y) with
   | none => exact Zsa hP hkey hy (by omega) hv hw hr
   | some t2 => exact Zxp hP hkey hy (by omega) hv hw hr
 ·exact Zvb hP hkey hy (by omega) hv
set_option maxHeartbeats 1000000 in
theorem Zpa {t0 : Pt} (hP : PAt w g gK gU t0 kn us) {key : List Int} (hkey : Sk An w a n c key) (hl : 32 < n) : Calls Tryz.prog 21 #[.pointer (some ⟨g, 0, none⟩), .slice a n c] w fun e w' => ∃ v', e = .returned v' ∧ RDel w g gK gU kn (delU kn t0 key us) (delQ kn t0 key) v' w' := by
 have hkl := hkey.len
 have hgP := hP.lt
 have hgK := hP.km.lt
 have hgU := hP.um.lt
 have hnb := Zbp hkey.ag.b
 have hgneU := hP.neU
 have hR : delQ kn t0 key = (t0, false, 70) := by
  unfold delQ
  rw [if_pos (by omega)]
 have hU : delU kn t0 key us = us := by
  unfold delU
  rw [if_pos (by omega)]
 rw [hR, hU]
 have hB : Bl w w := Bl.refl w
 refine Zaj Tryz.func21 rfl 57 rfl ?_
 show CW _ _ _ _ _ _ _ [(0, .pointer (some ⟨g, 0, none⟩)), (1, .slice a n c)] _
 refine Zac ?_
 refine Zaa ?_
 refine rp 4 (.bool false) ?_
 refine rp 5 (.int .i64 0) ?_
 refine Zad ?_
 refine Zab ?_
 refine Zac ?_
 refine Zac ?_
 refine Zaa ?_
 refine rp 12 (.slice a n c) ?_
 refine Zak 13 35 #[.slice a n c] (fun _ => by kernel_rfl) (fun _ => by kernel_rfl) (R := RVl w (.bool false)) (by have := Zbi (w := w) (a := a) (n := n) (c := c); rw [decide_eq_false (show ¬ (n : Int) ≤ 32 by omega)] at this; exact this) ?_
 rintro _ w1 ⟨rfl, hb2⟩
 replace hB := hB.go hb2
 replace hP := hP.go hb2
 replace hkey := hkey.go hb2
 refine rp 14 (.bool true) ?_
 refine Zad ?_
 refine Zab ?_
 refine Zai (fun _ => by kernel_rfl) ?_
 refine Zac ?_
 refine Zaa ?_
 refine rp 4 (.bool false) ?_
 refine rp 5 (.int .i64 70) ?_
 refine Zad ?_
 refine Zab ?_
 refine Zap ?_
 refine Zah ?_
 refine Zae (.tuple #[.bool false, .int .i64 70]) (fun _ => by kernel_rfl) ?_
 exact ⟨_, rfl, hP, rfl, T2.of (TU.of hB)⟩
set_option maxHeartbeats 1000000 in
theorem Zo9 {t0 : Pt} (hP : PAt w g gK gU t0 kn us) {key : List Int} (hkey : Sk An w a n c key) (hl : n ≤ 32) (hway : wayP kn t0 (Ni.nib key) = none) : Calls Tryz.prog 21 #[.pointer (some ⟨g, 0, none⟩), .slice a n c] w fun e w' => ∃ v', e = .returned v' ∧ RDel w g gK gU kn (delU kn t0 key us) (delQ kn t0 key) v' w' := by
 have hkl := hkey.len
 have hgP := hP.lt
 have hgK := hP.km.lt
 have hgU := hP.um.lt
 have hnb := Zbp hkey.ag.b
 have hgneU := hP.neU
 have hR : delQ kn t0 key = (t0, false, 2) := by
  unfold delQ
  rw [if_neg (by omega), hway]
 have hU : delU kn t0 key us = (wkU kn (Ni.nib key) ((Ni.nib key).length + 1) ⟨t0, 0, false⟩ us) := by
  unfold delU
  rw [if_neg (by omega), hway]
 rw [hR, hU]
 have hB : Bl w w := Bl.refl w
 refine Zaj Tryz.func21 rfl 57 rfl ?_
 show CW _ _ _ _ _ _ _ [(0, .pointer (some ⟨g, 0, none⟩)), (1, .slice a n c)] _
 refine Zac ?_
 refine Zaa ?_
 refine rp 4 (.bool false) ?_
 refine rp 5 (.int .i64 0) ?_
 refine Zad ?_
 refine Zab ?_
 refine Zac ?_
 refine Zac ?_
 refine Zaa ?_
 refine rp 12 (.slice a n c) ?_
 refine Zak 13 35 #[.slice a n c] (fun _ => by kernel_rfl) (fun _ => by kernel_rfl) (R := RVl w (.bool true)) (by have := Zbi (w := w) (a := a) (n := n) (c := c); rw [decide_eq_true (show (n : Int) ≤ 32 by omega)] at this; exact this) ?_
 rintro _ w1 ⟨rfl, hb2⟩
 replace hB := hB.go hb2
 replace hP := hP.go hb2
 replace hkey := hkey.go hb2
 refine rp 14 (.bool false) ?_
 refine Zad ?_
 refine Zab ?_
 refine Zaf (fun _ => by kernel_rfl) ?_
 refine Zam ?_
 refine Zab ?_
 refine Zac ?_
 refine Zaa ?_
 refine rp 15 (.slice a n c) ?_
 refine Zak 16 37 #[.slice a n c] (fun _ => by kernel_rfl) (fun _ => by kernel_rfl) (R := fun v w' => (∃ a2 n2 c2, v = .slice a2 n2 c2 ∧ Sk An w' a2 n2 c2 (Ni.nib key) ∧ n2 ≤ 64) ∧ Bl w1 w') (Zhh hkey (by omega)) ?_
 rintro _ w6 ⟨⟨a3, n4, c5, rfl, ha7, hn8⟩, hb9⟩
 replace hB := hB.go hb9
 replace hP := hP.go hb9
 replace hkey := hkey.go hb9
 have hql := ha7.len
 refine rp 6 (.slice a3 n4 c5) ?_
 refine Zad ?_
 refine Zab ?_
 refine Zac ?_
 refine Zaa ?_
 refine rp 18 (.pointer (some ⟨g, 0, none⟩)) ?_
 refine rp 19 (.slice a3 n4 c5) ?_
 refine Zak 20 38 #[.pointer (some ⟨g, 0, none⟩), .slice a3 n4 c5] (fun _ => by kernel_rfl) (fun _ => by kernel_rfl) (R := RWk w6 g gK gU t0 kn (wkU kn (Ni.nib key) ((Ni.nib key).length + 1) ⟨t0, 0, false⟩ us) none) (by have := Zca hP ha7 hn8 hnb; rw [hway] at this; exact this) ?_
 rintro _ w10 ⟨hP11, rfl, hT12⟩
 replace hB : TU gU w w10 := (TU.of hB).trans hT12
 replace hP := hP11
 replace hkey := hkey.nt hT12.n
 replace ha7 := ha7.nt hT12.n
 refine rp 17 (.tuple #[.slice none 0 0, .bool false]) ?_
 refine rp 21 (.slice none 0 0) ?_
 refine rp 22 (.bool false) ?_
 refine rp 7 (.slice none 0 0) ?_
 refine rp 8 (.bool false) ?_
 refine Zad ?_
 refine Zab ?_
 refine Zac ?_
 refine Zac ?_
 refine Zaa ?_
 refine rp 23 (.bool false) ?_
 refine rp 24 (.bool true) ?_
 refine Zad ?_
 refine Zab ?_
 refine Zai (fun _ => by kernel_rfl) ?_
 refine Zac ?_
 refine Zaa ?_
 refine rp 4 (.bool false) ?_
 refine rp 5 (.int .i64 2) ?_
 refine Zad ?_
 refine Zab ?_
 refine Zap ?_
 refine Zah ?_
 refine Zae (.tuple #[.bool false, .int .i64 2]) (fun _ => by kernel_rfl) ?_
 exact ⟨_, rfl, hP, rfl, T2.of hB⟩
set_option maxHeartbeats 1000000 in
theorem Zo8 {t0 : Pt} (hP : PAt w g gK gU t0 kn us) {key : List Int} (hkey : Sk An w a n c key) (hl : n ≤ 32) (hway : wayP kn t0 (Ni.nib key) = some way) (hz : (valS (Ni.nib key) (endS way)).length = 0) : Calls Tryz.prog 21 #[.pointer (some ⟨g, 0, none⟩), .slice a n c] w fun e w' => ∃ v', e = .returned v' ∧ RDel w g gK gU kn (delU kn t0 key us) (delQ kn t0 key) v' w' := by
 have hkl := hkey.len
 have hgP := hP.lt
 have hgK := hP.km.lt
 have hgU := hP.um.lt
 have hnb := Zbp hkey.ag.b
 have hgneU := hP.neU
 have hE := Zea hP.ok hnb hP.wg hway
 have hEp := hE.pos
 have hEl := hE.le
 have hEw := hE.l
 have hR : delQ kn t0 key = (t0, false, 0) := by
  unfold delQ
  rw [if_neg (by omega), hway]
  simp only [hz, if_true]
 have hU : delU kn t0 key us = (wkU kn (Ni.nib key) ((Ni.nib key).length + 1) ⟨t0, 0, false⟩ us) := by
  unfold delU
  rw [if_neg (by omega), hway]
  simp only [hz, if_true]
 rw [hR, hU]
 have hB : Bl w w := Bl.refl w
 refine Zaj Tryz.func21 rfl 57 rfl ?_
 show CW _ _ _ _ _ _ _ [(0, .pointer (some ⟨g, 0, none⟩)), (1, .slice a n c)] _
 refine Zac ?_
 refine Zaa ?_
 refine rp 4 (.bool false) ?_
 refine rp 5 (.int .i64 0) ?_
 refine Zad ?_
 refine Zab ?_
 refine Zac ?_
 refine Zac ?_
 refine Zaa ?_
 refine rp 12 (.slice a n c) ?_
 refine Zak 13 35 #[.slice a n c] (fun _ => by kernel_rfl) (fun _ => by kernel_rfl) (R := RVl w (.bool true)) (by have := Zbi (w := w) (a := a) (n := n) (c := c); rw [decide_eq_true (show (n : Int) ≤ 32 by omega)] at this; exact this) ?_
 rintro _ w1 ⟨rfl, hb2⟩
 replace hB := hB.go hb2
 replace hP := hP.go hb2
 replace hkey := hkey.go hb2
 refine rp 14 (.bool false) ?_
 refine Zad ?_
 refine Zab ?_
 refine Zaf (fun _ => by kernel_rfl) ?_
 refine Zam ?_
 refine Zab ?_
 refine Zac ?_
 refine Zaa ?_
 refine rp 15 (.slice a n c) ?_
 refine Zak 16 37 #[.slice a n c] (fun _ => by kernel_rfl) (fun _ => by kernel_rfl) (R := fun v w' => (∃ a2 n2 c2, v = .slice a2 n2 c2 ∧ Sk An w' a2 n2 c2 (Ni.nib key) ∧ n2 ≤ 64) ∧ Bl w1 w') (Zhh hkey (by omega)) ?_
 rintro _ w6 ⟨⟨a3, n4, c5, rfl, ha7, hn8⟩, hb9⟩
 replace hB := hB.go hb9
 replace hP := hP.go hb9
 replace hkey := hkey.go hb9
 have hql := ha7.len
 refine rp 6 (.slice a3 n4 c5) ?_
 refine Zad ?_
 refine Zab ?_
 refine Zac ?_
 refine Zaa ?_
 refine rp 18 (.pointer (some ⟨g, 0, none⟩)) ?_
 refine rp 19 (.slice a3 n4 c5) ?_
 refine Zak 20 38 #[.pointer (some ⟨g, 0, none⟩), .slice a3 n4 c5] (fun _ => by kernel_rfl) (fun _ => by kernel_rfl) (R := RWk w6 g gK gU t0 kn (wkU kn (Ni.nib key) ((Ni.nib key).length + 1) ⟨t0, 0, false⟩ us) (some way)) (by have := Zca hP ha7 hn8 hnb; rw [hway] at this; exact this) ?_
 rintro _ w10 ⟨hP11, ⟨aw13, cw14, rfl, hW15⟩, hT12⟩
 replace hB : TU gU w w10 := (TU.of hB).trans hT12
 replace hP := hP11
 replace hkey := hkey.nt hT12.n
 replace ha7 := ha7.nt hT12.n
 refine rp 17 (.tuple #[.slice aw13 way.length cw14, .bool true]) ?_
 refine rp 21 (.slice aw13 way.length cw14) ?_
 refine rp 22 (.bool true) ?_
 refine rp 7 (.slice aw13 way.length cw14) ?_
 refine rp 8 (.bool true) ?_
 refine Zad ?_
 refine Zab ?_
 refine Zac ?_
 refine Zac ?_
 refine Zaa ?_
 refine rp 23 (.bool true) ?_
 refine rp 24 (.bool false) ?_
 refine Zad ?_
 refine Zab ?_
 refine Zaf (fun _ => by kernel_rfl) ?_
 refine Zam ?_
 refine Zab ?_
 refine Zac ?_
 refine Zaa ?_
 refine rp 25 (.slice aw13 way.length cw14) ?_
 refine rp 26 (.int .i64 ((way.length : Nat) : Int)) ?_
 refine rv 27 (.int .i64 ((way.length - 1 : Nat) : Int)) (fun _ => Zal (v := .int .i64 (IntKind.i64.wrap (((way.length : Nat) : Int) - 1))) (by kernel_rfl) (congrArg (Value.int .i64) ((Zbc (by omega) (by omega)).trans (by omega)))) ?_
 refine rp 9 (.int .i64 ((way.length - 1 : Nat) : Int)) ?_
 refine Zad ?_
 refine Zab ?_
 refine Zac ?_
 refine Zac ?_
 obtain ⟨gw, ow, uw, rfl, hrw, huw⟩ := hW15.row (way.length - 1) (endS way) hE.last
 refine Zaa ?_
 refine rp 28 (.slice (some ⟨gw, ow, none⟩) way.length cw14) ?_
 refine rp 29 (.int .i64 ((way.length - 1 : Nat) : Int)) ?_
 refine rv 30 (.pointer (some ⟨gw, ow + (way.length - 1) * 3, none⟩)) (fun _ => Za0 84 _ _ gw ow (way.length - 1) way.length cw14 3 88 rfl (by kernel_rfl) (by kernel_rfl) (by omega) Tryz.underlying84 (by kernel_rfl)) ?_
 refine rv 31 (.agg #[uw, .int .i64 (((endS way).l : Nat) : Int), .bool (endS way).c]) (fun _ => Zb2 88 _ gw (ow + (way.length - 1) * 3) [uw, .int .i64 (((endS way).l : Nat) : Int), .bool (endS way).c] _ rfl (by kernel_rfl) hrw Tryz.underlying88 rfl (by kernel_rfl)) ?_
 refine rp 32 (.slice a3 n4 c5) ?_
 refine Zak 33 42 #[.agg #[uw, .int .i64 (((endS way).l : Nat) : Int), .bool (endS way).c], .slice a3 n4 c5] (fun _ => by kernel_rfl) (fun _ => by kernel_rfl) (R := RSv w10 (valS (Ni.nib key) (endS way))) (Zgb huw ha7 (by have := hE.l; omega)) ?_
 rintro _ w19 ⟨⟨a16, n17, c18, rfl, ha20, hn21⟩, hb22⟩
 replace hB := hB.go hb22
 replace hP := hP.go hb22
 replace hkey := hkey.go hb22
 replace ha7 := ha7.go hb22
 replace hW15 := hW15.go hb22
 replace hrw := Zba hrw hb22
 replace huw := huw.go hb22
 have hvl := ha20.len
 refine rp 34 (.int .i64 n17) ?_
 refine rv 35 (.bool true) (fun _ => Zal (v := .bool ((n17 : Int) == (0 : Int))) (by kernel_rfl) (congrArg Value.bool (beq_iff_eq.2 (by omega)))) ?_
 refine Zad ?_
 refine Zab ?_
 refine Zai (fun _ => by kernel_rfl) ?_
 refine Zac ?_
 refine Zaa ?_
 refine rp 4 (.bool false) ?_
 refine rp 5 (.int .i64 0) ?_
 refine Zad ?_
 refine Zab ?_
 refine Zap ?_
 refine Zah ?_
 refine Zae (.tuple #[.bool false, .int .i64 0]) (fun _ => by kernel_rfl) ?_
 exact ⟨_, rfl, hP, rfl, T2.of hB⟩
set_option maxHeartbeats 1000000 in
theorem Zsd {t0 : Pt} (hP : PAt w g gK gU t0 kn us) {key : List Int} (hkey : Sk An w a n c key) (hl : n ≤ 32) (hway : wayP kn t0 (Ni.nib key) = some way) (hz : (valS (Ni.nib key) (endS way)).length ≠ 0) (hwo : woP kn (endS way) = none) : Calls Tryz.prog 21 #[.pointer (some ⟨g, 0, none⟩), .slice a n c] w fun e w' => ∃ v', e = .returned v' ∧ RDel w g gK gU kn (delU kn t0 key us) (delQ kn t0 key) v' w' := by
 have hkl := hkey.len
 have hgP := hP.lt
 have hgK := hP.km.lt
 have hgU := hP.um.lt
 have hnb := Zbp hkey.ag.b
 have hgneU := hP.neU
 have hE := Zea hP.ok hnb hP.wg hway
 have hEp := hE.pos
 have hEl := hE.le
 have hEw := hE.l
 have hR : delQ kn t0 key = (t0, false, 2) := by
  unfold delQ
  rw [if_neg (by omega), hway]
  simp only
  rw [if_neg hz, hwo]
 have hU : delU kn t0 key us = woU kn (endS way) (wkU kn (Ni.nib key) ((Ni.nib key).length + 1) ⟨t0, 0, false⟩ us) := by
  unfold delU
  rw [if_neg (by omega), hway]
  simp only
  rw [if_neg hz, hwo]
 rw [hR, hU]
 have hB : Bl w w := Bl.refl w
 refine Zaj Tryz.func21 rfl 57 rfl ?_
 show CW _ _ _ _ _ _ _ [(0, .pointer (some ⟨g, 0, none⟩)), (1, .slice a n c)] _
 refine Zac ?_
 refine Zaa ?_
 refine rp 4 (.bool false) ?_
 refine rp 5 (.int .i64 0) ?_
 refine Zad ?_
 refine Zab ?_
 refine Zac ?_
 refine Zac ?_
 refine Zaa ?_
 refine rp 12 (.slice a n c) ?_
 refine Zak 13 35 #[.slice a n c] (fun _ => by kernel_rfl) (fun _ => by kernel_rfl) (R := RVl w (.bool true)) (by have := Zbi (w := w) (a := a) (n := n) (c := c); rw [decide_eq_true (show (n : Int) ≤ 32 by omega)] at this; exact this) ?_
 rintro _ w1 ⟨rfl, hb2⟩
 replace hB := hB.go hb2
 replace hP := hP.go hb2
 replace hkey := hkey.go hb2
 refine rp 14 (.bool false) ?_
 refine Zad ?_
 refine Zab ?_
 refine Zaf (fun _ => by kernel_rfl) ?_
 refine Zam ?_
 refine Zab ?_
 refine Zac ?_
 refine Zaa ?_
 refine rp 15 (.slice a n c) ?_
 refine Zak 16 37 #[.slice a n c] (fun _ => by kernel_rfl) (fun _ => by kernel_rfl) (R := fun v w' => (∃ a2 n2 c2, v = .slice a2 n2 c2 ∧ Sk An w' a2 n2 c2 (Ni.nib key) ∧ n2 ≤ 64) ∧ Bl w1 w') (Zhh hkey (by omega)) ?_
 rintro _ w6 ⟨⟨a3, n4, c5, rfl, ha7, hn8⟩, hb9⟩
 replace hB := hB.go hb9
 replace hP := hP.go hb9
 replace hkey := hkey.go hb9
 have hql := ha7.len
 refine rp 6 (.slice a3 n4 c5) ?_
 refine Zad ?_
 refine Zab ?_
 refine Zac ?_
 refine Zaa ?_
 refine rp 18 (.pointer (some ⟨g, 0, none⟩)) ?_
 refine rp 19 (.slice a3 n4 c5) ?_
 refine Zak 20 38 #[.pointer (some ⟨g, 0, none⟩), .slice a3 n4 c5] (fun _ => by kernel_rfl) (fun _ => by kernel_rfl) (R := RWk w6 g gK gU t0 kn (wkU kn (Ni.nib key) ((Ni.nib key).length + 1) ⟨t0, 0, false⟩ us) (some way)) (by have := Zca hP ha7 hn8 hnb; rw [hway] at this; exact this) ?_
 rintro _ w10 ⟨hP11, ⟨aw13, cw14, rfl, hW15⟩, hT12⟩
 replace hB : TU gU w w10 := (TU.of hB).trans hT12
 replace hP := hP11
 replace hkey := hkey.nt hT12.n
 replace ha7 := ha7.nt hT12.n
 refine rp 17 (.tuple #[.slice aw13 way.length cw14, .bool true]) ?_
 refine rp 21 (.slice aw13 way.length cw14) ?_
 refine rp 22 (.bool true) ?_
 refine rp 7 (.slice aw13 way.length cw14) ?_
 refine rp 8 (.bool true) ?_
 refine Zad ?_
 refine Zab ?_
 refine Zac ?_
 refine Zac ?_
 refine Zaa ?_
 refine rp 23 (.bool true) ?_
 refine rp 24 (.bool false) ?_
 refine Zad ?_
 refine Zab ?_
 refine Zaf (fun _ => by kernel_rfl) ?_
 refine Zam ?_
 refine Zab ?_
 refine Zac ?_
 refine Zaa ?_
 refine rp 25 (.slice aw13 way.length cw14) ?_
 refine rp 26 (.int .i64 ((way.length : Nat) : Int)) ?_
 refine rv 27 (.int .i64 ((way.length - 1 : Nat) : Int)) (fun _ => Zal (v := .int .i64 (IntKind.i64.wrap (((way.length : Nat) : Int) - 1))) (by kernel_rfl) (congrArg (Value.int .i64) ((Zbc (by omega) (by omega)).trans (by omega)))) ?_
 refine rp 9 (.int .i64 ((way.length - 1 : Nat) : Int)) ?_
 refine Zad ?_
 refine Zab ?_
 refine Zac ?_
 refine Zac ?_
 obtain ⟨gw, ow, uw, rfl, hrw, huw⟩ := hW15.row (way.length - 1) (endS way) hE.last
 refine Zaa ?_
 refine rp 28 (.slice (some ⟨gw, ow, none⟩) way.length cw14) ?_
 refine rp 29 (.int .i64 ((way.length - 1 : Nat) : Int)) ?_
 refine rv 30 (.pointer (some ⟨gw, ow + (way.length - 1) * 3, none⟩)) (fun _ => Za0 84 _ _ gw ow (way.length - 1) way.length cw14 3 88 rfl (by kernel_rfl) (by kernel_rfl) (by omega) Tryz.underlying84 (by kernel_rfl)) ?_
 refine rv 31 (.agg #[uw, .int .i64 (((endS way).l : Nat) : Int), .bool (endS way).c]) (fun _ => Zb2 88 _ gw (ow + (way.length - 1) * 3) [uw, .int .i64 (((endS way).l : Nat) : Int), .bool (endS way).c] _ rfl (by kernel_rfl) hrw Tryz.underlying88 rfl (by kernel_rfl)) ?_
 refine rp 32 (.slice a3 n4 c5) ?_
 refine Zak 33 42 #[.agg #[uw, .int .i64 (((endS way).l : Nat) : Int), .bool (endS way).c], .slice a3 n4 c5] (fun _ => by kernel_rfl) (fun _ => by kernel_rfl) (R := RSv w10 (valS (Ni.nib key) (endS way))) (Zgb huw ha7 (by have := hE.l; omega)) ?_
 rintro _ w19 ⟨⟨a16, n17, c18, rfl, ha20, hn21⟩, hb22⟩
 replace hB := hB.go hb22
 replace hP := hP.go hb22
 replace hkey := hkey.go hb22
 replace ha7 := ha7.go hb22
 replace hW15 := hW15.go hb22
 replace hrw := Zba hrw hb22
 replace huw := huw.go hb22
 have hvl := ha20.len
 refine rp 34 (.int .i64 n17) ?_
 refine rv 35 (.bool false) (fun _ => Zal (v := .bool ((n17 : Int) == (0 : Int))) (by kernel_rfl) (congrArg Value.bool (beq_eq_false_iff_ne.2 (by omega)))) ?_
 refine Zad ?_
 refine Zab ?_
 refine Zaf (fun _ => by kernel_rfl) ?_
 refine Zam ?_
 refine Zab ?_
 refine Zac ?_
 refine Zaa ?_
 refine rp 37 (.pointer (some ⟨g, 0, none⟩)) ?_
 refine rp 38 (.slice (some ⟨gw, ow, none⟩) way.length cw14) ?_
 refine rp 39 (.int .i64 ((way.length - 1 : Nat) : Int)) ?_
 refine rv 40 (.pointer (some ⟨gw, ow + (way.length - 1) * 3, none⟩)) (fun _ => Za0 84 _ _ gw ow (way.length - 1) way.length cw14 3 88 rfl (by kernel_rfl) (by kernel_rfl) (by omega) Tryz.underlying84 (by kernel_rfl)) ?_
 refine rv 41 (.agg #[uw, .int .i64 (((endS way).l : Nat) : Int), .bool (endS way).c]) (fun _ => Zb2 88 _ gw (ow + (way.length - 1) * 3) [uw, .int .i64 (((endS way).l : Nat) : Int), .bool (endS way).c] _ rfl (by kernel_rfl) hrw Tryz.underlying88 rfl (by kernel_rfl)) ?_
 have hmapw := hP.um.map
 refine Zak 42 43 #[.pointer (some ⟨g, 0, none⟩), .agg #[uw, .int .i64 (((endS way).l : Nat) : Int), .bool (endS way).c]] (fun _ => by kernel_rfl) (fun _ => by kernel_rfl) (R := RNm w19 g gK gU t0 kn _ none) (by have := Zn1 (s := endS way) hP huw hE.wg; rw [hwo] at this; exact this) ?_
 rintro _ w23 ⟨hP25, rfl, hT26⟩
 replace hB := hB.trans hT26
 replace hP := hP25
 replace hkey := hkey.nt hT26.n
 replace ha7 := ha7.nt hT26.n
 replace hW15 := hW15.tu hT26 hmapw
 replace huw := huw.nt hT26.n
 replace ha20 := ha20.nt hT26.n
 refine rp 36 (.tuple #[.nilIface, .bool false]) ?_
 refine rp 43 (.nilIface) ?_
 refine rp 44 (.bool false) ?_
 refine rp 10 (.nilIface) ?_
 refine rp 8 (.bool false) ?_
 refine Zad ?_
 refine Zab ?_
 refine Zac ?_
 refine Zac ?_
 refine Zaa ?_
 refine rp 45 (.bool false) ?_
 refine rp 46 (.bool true) ?_
 refine Zad ?_
 refine Zab ?_
 refine Zai (fun _ => by kernel_rfl) ?_
 refine Zac ?_
 refine Zaa ?_
 refine rp 4 (.bool false) ?_
 refine rp 5 (.int .i64 2) ?_
 refine Zad ?_
 refine Zab ?_
 refine Zap ?_
 refine Zah ?_
 refine Zae (.tuple #[.bool false, .int .i64 2]) (fun _ => by kernel_rfl) ?_
 exact ⟨_, rfl, hP, rfl, T2.of hB⟩
set_option maxHeartbeats 1000000 in
theorem Zpb {t0 : Pt} (hP : PAt w g gK gU t0 kn us) {key : List Int} (hkey : Sk An w a n c key) (hl : n ≤ 32) (hway : wayP kn t0 (Ni.nib key) = some way) (hz : (valS (Ni.nib key) (endS way)).length ≠ 0) (hwo : woP kn (endS way) = some u0) (hrem : remP kn (Ni.nib key) (way.take (way.length - 1)).reverse u0 = none) : Calls Tryz.prog 21 #[.pointer (some ⟨g, 0, none⟩), .slice a n c] w fun e w' => ∃ v', e = .returned v' ∧ RDel w g gK gU kn (delU kn t0 key us) (delQ kn t0 key) v' w' := by
 have hkl := hkey.len
 have hgP := hP.lt
 have hgK := hP.km.lt
 have hgU := hP.um.lt
 have hnb := Zbp hkey.ag.b
 have hgneU := hP.neU
 have hE := Zea hP.ok hnb hP.wg hway
 have hEp := hE.pos
 have hEl := hE.le
 have hEw := hE.l
 have hR : delQ kn t0 key = (t0, false, 2) := by
  unfold delQ
  rw [if_neg (by omega), hway]
  simp only
  rw [if_neg hz, hwo]
  simp only [hrem]
 have hU : delU kn t0 key us = remU kn (Ni.nib key) (way.take (way.length - 1)).reverse u0 (woU kn (endS way) (wkU kn (Ni.nib key) ((Ni.nib key).length + 1) ⟨t0, 0, false⟩ us)) := by
  unfold delU
  rw [if_neg (by omega), hway]
  simp only
  rw [if_neg hz, hwo]
 rw [hR, hU]
 have hB : Bl w w := Bl.refl w
 refine Zaj Tryz.func21 rfl 57 rfl ?_
 show CW _ _ _ _ _ _ _ [(0, .pointer (some ⟨g, 0, none⟩)), (1, .slice a n c)] _
 refine Zac ?_
 refine Zaa ?_
 refine rp 4 (.bool false) ?_
 refine rp 5 (.int .i64 0) ?_
 refine Zad ?_
 refine Zab ?_
 refine Zac ?_
 refine Zac ?_
 refine Zaa ?_
 refine rp 12 (.slice a n c) ?_
 refine Zak 13 35 #[.slice a n c] (fun _ => by kernel_rfl) (fun _ => by kernel_rfl) (R := RVl w (.bool true)) (by have := Zbi (w := w) (a := a) (n := n) (c := c); rw [decide_eq_true (show (n : Int) ≤ 32 by omega)] at this; exact this) ?_
 rintro _ w1 ⟨rfl, hb2⟩
 replace hB := hB.go hb2
 replace hP := hP.go hb2
 replace hkey := hkey.go hb2
 refine rp 14 (.bool false) ?_
 refine Zad ?_
 refine Zab ?_
 refine Zaf (fun _ => by kernel_rfl) ?_
 refine Zam ?_
 refine Zab ?_
 refine Zac ?_
 refine Zaa ?_
 refine rp 15 (.slice a n c) ?_
 refine Zak 16 37 #[.slice a n c] (fun _ => by kernel_rfl) (fun _ => by kernel_rfl) (R := fun v w' => (∃ a2 n2 c2, v = .slice a2 n2 c2 ∧ Sk An w' a2 n2 c2 (Ni.nib key) ∧ n2 ≤ 64) ∧ Bl w1 w') (Zhh hkey (by omega)) ?_
 rintro _ w6 ⟨⟨a3, n4, c5, rfl, ha7, hn8⟩, hb9⟩
 replace hB := hB.go hb9
 replace hP := hP.go hb9
 replace hkey := hkey.go hb9
 have hql := ha7.len
 refine rp 6 (.slice a3 n4 c5) ?_
 refine Zad ?_
 refine Zab ?_
 refine Zac ?_
 refine Zaa ?_
 refine rp 18 (.pointer (some ⟨g, 0, none⟩)) ?_
 refine rp 19 (.slice a3 n4 c5) ?_
 refine Zak 20 38 #[.pointer (some ⟨g, 0, none⟩), .slice a3 n4 c5] (fun _ => by kernel_rfl) (fun _ => by kernel_rfl) (R := RWk w6 g gK gU t0 kn (wkU kn (Ni.nib key) ((Ni.nib key).length + 1) ⟨t0, 0, false⟩ us) (some way)) (by have := Zca hP ha7 hn8 hnb; rw [hway] at this; exact this) ?_
 rintro _ w10 ⟨hP11, ⟨aw13, cw14, rfl, hW15⟩, hT12⟩
 replace hB : TU gU w w10 := (TU.of hB).trans hT12
 replace hP := hP11
 replace hkey := hkey.nt hT12.n
 replace ha7 := ha7.nt hT12.n
 refine rp 17 (.tuple #[.slice aw13 way.length cw14, .bool true]) ?_
 refine rp 21 (.slice aw13 way.length cw14) ?_
 refine rp 22 (.bool true) ?_
 refine rp 7 (.slice aw13 way.length cw14) ?_
 refine rp 8 (.bool true) ?_
 refine Zad ?_
 refine Zab ?_
 refine Zac ?_
 refine Zac ?_
 refine Zaa ?_
 refine rp 23 (.bool true) ?_
 refine rp 24 (.bool false) ?_
 refine Zad ?_
 refine Zab ?_
 refine Zaf (fun _ => by kernel_rfl) ?_
 refine Zam ?_
 refine Zab ?_
 refine Zac ?_
 refine Zaa ?_
 refine rp 25 (.slice aw13 way.length cw14) ?_
 refine rp 26 (.int .i64 ((way.length : Nat) : Int)) ?_
 refine rv 27 (.int .i64 ((way.length - 1 : Nat) : Int)) (fun _ => Zal (v := .int .i64 (IntKind.i64.wrap (((way.length : Nat) : Int) - 1))) (by kernel_rfl) (congrArg (Value.int .i64) ((Zbc (by omega) (by omega)).trans (by omega)))) ?_
 refine rp 9 (.int .i64 ((way.length - 1 : Nat) : Int)) ?_
 refine Zad ?_
 refine Zab ?_
 refine Zac ?_
 refine Zac ?_
 obtain ⟨gw, ow, uw, rfl, hrw, huw⟩ := hW15.row (way.length - 1) (endS way) hE.last
 refine Zaa ?_
 refine rp 28 (.slice (some ⟨gw, ow, none⟩) way.length cw14) ?_
 refine rp 29 (.int .i64 ((way.length - 1 : Nat) : Int)) ?_
 refine rv 30 (.pointer (some ⟨gw, ow + (way.length - 1) * 3, none⟩)) (fun _ => Za0 84 _ _ gw ow (way.length - 1) way.length cw14 3 88 rfl (by kernel_rfl) (by kernel_rfl) (by omega) Tryz.underlying84 (by kernel_rfl)) ?_
 refine rv 31 (.agg #[uw, .int .i64 (((endS way).l : Nat) : Int), .bool (endS way).c]) (fun _ => Zb2 88 _ gw (ow + (way.length - 1) * 3) [uw, .int .i64 (((endS way).l : Nat) : Int), .bool (endS way).c] _ rfl (by kernel_rfl) hrw Tryz.underlying88 rfl (by kernel_rfl)) ?_
 refine rp 32 (.slice a3 n4 c5) ?_
 refine Zak 33 42 #[.agg #[uw, .int .i64 (((endS way).l : Nat) : Int), .bool (endS way).c], .slice a3 n4 c5] (fun _ => by kernel_rfl) (fun _ => by kernel_rfl) (R := RSv w10 (valS (Ni.nib key) (endS way))) (Zgb huw ha7 (by have := hE.l; omega)) ?_
 rintro _ w19 ⟨⟨a16, n17, c18, rfl, ha20, hn21⟩, hb22⟩
 replace hB := hB.go hb22
 replace hP := hP.go hb22
 replace hkey := hkey.go hb22
 replace ha7 := ha7.go hb22
 replace hW15 := hW15.go hb22
 replace hrw := Zba hrw hb22
 replace huw := huw.go hb22
 have hvl := ha20.len
 refine rp 34 (.int .i64 n17) ?_
 refine rv 35 (.bool false) (fun _ => Zal (v := .bool ((n17 : Int) == (0 : Int))) (by kernel_rfl) (congrArg Value.bool (beq_eq_false_iff_ne.2 (by omega)))) ?_
 refine Zad ?_
 refine Zab ?_
 refine Zaf (fun _ => by kernel_rfl) ?_
 refine Zam ?_
 refine Zab ?_
 refine Zac ?_
 refine Zaa ?_
 refine rp 37 (.pointer (some ⟨g, 0, none⟩)) ?_
 refine rp 38 (.slice (some ⟨gw, ow, none⟩) way.length cw14) ?_
 refine rp 39 (.int .i64 ((way.length - 1 : Nat) : Int)) ?_
 refine rv 40 (.pointer (some ⟨gw, ow + (way.length - 1) * 3, none⟩)) (fun _ => Za0 84 _ _ gw ow (way.length - 1) way.length cw14 3 88 rfl (by kernel_rfl) (by kernel_rfl) (by omega) Tryz.underlying84 (by kernel_rfl)) ?_
 refine rv 41 (.agg #[uw, .int .i64 (((endS way).l : Nat) : Int), .bool (endS way).c]) (fun _ => Zb2 88 _ gw (ow + (way.length - 1) * 3) [uw, .int .i64 (((endS way).l : Nat) : Int), .bool (endS way).c] _ rfl (by kernel_rfl) hrw Tryz.underlying88 rfl (by kernel_rfl)) ?_
 have hmapw := hP.um.map
 refine Zak 42 43 #[.pointer (some ⟨g, 0, none⟩), .agg #[uw, .int .i64 (((endS way).l : Nat) : Int), .bool (endS way).c]] (fun _ => by kernel_rfl) (fun _ => by kernel_rfl) (R := RNm w19 g gK gU t0 kn _ (some u0)) (by have := Zn1 (s := endS way) hP huw hE.wg; rw [hwo] at this; exact this) ?_
 rintro _ w23 ⟨hP25, ⟨v27, rfl, ht28⟩, hT26⟩
 replace hB := hB.trans hT26
 replace hP := hP25
 replace hkey := hkey.nt hT26.n
 replace ha7 := ha7.nt hT26.n
 replace hW15 := hW15.tu hT26 hmapw
 replace huw := huw.nt hT26.n
 replace ha20 := ha20.nt hT26.n
 refine rp 36 (.tuple #[v27, .bool true]) ?_
 refine rp 43 (v27) ?_
 refine rp 44 (.bool true) ?_
 refine rp 10 (v27) ?_
 refine rp 8 (.bool true) ?_
 refine Zad ?_
 refine Zab ?_
 refine Zac ?_
 refine Zac ?_
 refine Zaa ?_
 refine rp 45 (.bool true) ?_
 refine rp 46 (.bool false) ?_
 refine Zad ?_
 refine Zab ?_
 refine Zaf (fun _ => by kernel_rfl) ?_
 refine Zam ?_
 refine Zab ?_
 refine Zac ?_
 obtain ⟨a9, hcut, hWc⟩ := hW15.cut (way.length - 1) (by omega) (by omega)
 refine Zaa ?_
 refine rp 47 (.pointer (some ⟨g, 0, none⟩)) ?_
 refine rp 48 (.slice (some ⟨gw, ow, none⟩) way.length cw14) ?_
 refine rp 49 (.int .i64 ((way.length - 1 : Nat) : Int)) ?_
 refine rv 50 (.slice a9 (way.length - 1) cw14) (fun _ => hcut _ _ _ _ _ rfl (by kernel_rfl) (by kernel_rfl)) ?_
 refine rp 51 (.slice a3 n4 c5) ?_
 refine rp 52 (v27) ?_
 refine Zak 53 39 #[.pointer (some ⟨g, 0, none⟩), .slice a9 (way.length - 1) cw14, .slice a3 n4 c5, v27] (fun _ => by kernel_rfl) (fun _ => by kernel_rfl) (R := RRm w23 g gK gU t0 kn _ none) (by have := Zdy hP hWc ha7 hn8 hnb ht28 (by rw [List.length_take]; omega) hE.desc (Zwu hP.ok hE.wg hwo); rw [hrem] at this; exact this) ?_
 rintro _ w29 ⟨⟨rfl, hP31⟩, hT32⟩
 replace hB := (T2.of hB).trans hT32
 refine rp 11 (.int .i64 2) ?_
 refine Zad ?_
 refine Zab ?_
 refine Zac ?_
 refine Zaa ?_
 refine rp 54 (.int .i64 2) ?_
 refine rp 55 (.bool false) ?_
 refine rp 56 (.int .i64 2) ?_
 refine rp 4 (.bool false) ?_
 refine rp 5 (.int .i64 2) ?_
 refine Zad ?_
 refine Zab ?_
 refine Zap ?_
 refine Zae (.tuple #[.bool false, .int .i64 2]) (fun _ => by kernel_rfl) ?_
 exact ⟨_, rfl, hP31, rfl, hB⟩
set_option maxHeartbeats 1000000 in
theorem Zve {t0 : Pt} (hP : PAt w g gK gU t0 kn us) {key : List Int} (hkey : Sk An w a n c key) (hl : n ≤ 32) (hway : wayP kn t0 (Ni.nib key) = some way) (hz : (valS (Ni.nib key) (endS way)).length ≠ 0) (hwo : woP kn (endS way) = some u0) {t2 : Pt} (hrem : remP kn (Ni.nib key) (way.take (way.length - 1)).reverse u0 = some t2) : Calls Tryz.prog 21 #[.pointer (some ⟨g, 0, none⟩), .slice a n c] w fun e w' => ∃ v', e = .returned v' ∧ RDel w g gK gU kn (delU kn t0 key us) (delQ kn t0 key) v' w' := by
 have hkl := hkey.len
 have hgP := hP.lt
 have hgK := hP.km.lt
 have hgU := hP.um.lt
 have hnb := Zbp hkey.ag.b
 have hgneU := hP.neU
 have hE := Zea hP.ok hnb hP.wg hway
 have hEp := hE.pos
 have hEl := hE.le
 have hEw := hE.l
 have hR : delQ kn t0 key = (t2, true, 0) := by
  unfold delQ
  rw [if_neg (by omega), hway]
  simp only
  rw [if_neg hz, hwo]
  simp only [hrem]
 have hU : delU kn t0 key us = remU kn (Ni.nib key) (way.take (way.length - 1)).reverse u0 (woU kn (endS way) (wkU kn (Ni.nib key) ((Ni.nib key).length + 1) ⟨t0, 0, false⟩ us)) := by
  unfold delU
  rw [if_neg (by omega), hway]
  simp only
  rw [if_neg hz, hwo]
 rw [hR, hU]
 have hB : Bl w w := Bl.refl w
 refine Zaj Tryz.func21 rfl 57 rfl ?_
 show CW _ _ _ _ _ _ _ [(0, .pointer (some ⟨g, 0, none⟩)), (1, .slice a n c)] _
 refine Zac ?_
 refine Zaa ?_
 refine rp 4 (.bool false) ?_
 refine rp 5 (.int .i64 0) ?_
 refine Zad ?_
 refine Zab ?_
 refine Zac ?_
 refine Zac ?_
 refine Zaa ?_
 refine rp 12 (.slice a n c) ?_
 refine Zak 13 35 #[.slice a n c] (fun _ => by kernel_rfl) (fun _ => by kernel_rfl) (R := RVl w (.bool true)) (by have := Zbi (w := w) (a := a) (n := n) (c := c); rw [decide_eq_true (show (n : Int) ≤ 32 by omega)] at this; exact this) ?_
 rintro _ w1 ⟨rfl, hb2⟩
 replace hB := hB.go hb2
 replace hP := hP.go hb2
 replace hkey := hkey.go hb2
 refine rp 14 (.bool false) ?_
 refine Zad ?_
 refine Zab ?_
 refine Zaf (fun _ => by kernel_rfl) ?_
 refine Zam ?_
 refine Zab ?_
 refine Zac ?_
 refine Zaa ?_
 refine rp 15 (.slice a n c) ?_
 refine Zak 16 37 #[.slice a n c] (fun _ => by kernel_rfl) (fun _ => by kernel_rfl) (R := fun v w' => (∃ a2 n2 c2, v = .slice a2 n2 c2 ∧ Sk An w' a2 n2 c2 (Ni.nib key) ∧ n2 ≤ 64) ∧ Bl w1 w') (Zhh hkey (by omega)) ?_
 rintro _ w6 ⟨⟨a3, n4, c5, rfl, ha7, hn8⟩, hb9⟩
 replace hB := hB.go hb9
 replace hP := hP.go hb9
 replace hkey := hkey.go hb9
 have hql := ha7.len
 refine rp 6 (.slice a3 n4 c5) ?_
 refine Zad ?_
 refine Zab ?_
 refine Zac ?_
 refine Zaa ?_
 refine rp 18 (.pointer (some ⟨g, 0, none⟩)) ?_
 refine rp 19 (.slice a3 n4 c5) ?_
 refine Zak 20 38 #[.pointer (some ⟨g, 0, none⟩), .slice a3 n4 c5] (fun _ => by kernel_rfl) (fun _ => by kernel_rfl) (R := RWk w6 g gK gU t0 kn (wkU kn (Ni.nib key) ((Ni.nib key).length + 1) ⟨t0, 0, false⟩ us) (some way)) (by have := Zca hP ha7 hn8 hnb; rw [hway] at this; exact this) ?_
 rintro _ w10 ⟨hP11, ⟨aw13, cw14, rfl, hW15⟩, hT12⟩
 replace hB : TU gU w w10 := (TU.of hB).trans hT12
 replace hP := hP11
 replace hkey := hkey.nt hT12.n
 replace ha7 := ha7.nt hT12.n
 refine rp 17 (.tuple #[.slice aw13 way.length cw14, .bool true]) ?_
 refine rp 21 (.slice aw13 way.length cw14) ?_
 refine rp 22 (.bool true) ?_
 refine rp 7 (.slice aw13 way.length cw14) ?_
 refine rp 8 (.bool true) ?_
 refine Zad ?_
 refine Zab ?_
 refine Zac ?_
 refine Zac ?_
 refine Zaa ?_
 refine rp 23 (.bool true) ?_
 refine rp 24 (.bool false) ?_
 refine Zad ?_
 refine Zab ?_
 refine Zaf (fun _ => by kernel_rfl) ?_
 refine Zam ?_
 refine Zab ?_
 refine Zac ?_
 refine Zaa ?_
 refine rp 25 (.slice aw13 way.length cw14) ?_
 refine rp 26 (.int .i64 ((way.length : Nat) : Int)) ?_
 refine rv 27 (.int .i64 ((way.length - 1 : Nat) : Int)) (fun _ => Zal (v := .int .i64 (IntKind.i64.wrap (((way.length : Nat) : Int) - 1))) (by kernel_rfl) (congrArg (Value.int .i64) ((Zbc (by omega) (by omega)).trans (by omega)))) ?_
 refine rp 9 (.int .i64 ((way.length - 1 : Nat) : Int)) ?_
 refine Zad ?_
 refine Zab ?_
 refine Zac ?_
 refine Zac ?_
 obtain ⟨gw, ow, uw, rfl, hrw, huw⟩ := hW15.row (way.length - 1) (endS way) hE.last
 refine Zaa ?_
 refine rp 28 (.slice (some ⟨gw, ow, none⟩) way.length cw14) ?_
 refine rp 29 (.int .i64 ((way.length - 1 : Nat) : Int)) ?_
 refine rv 30 (.pointer (some ⟨gw, ow + (way.length - 1) * 3, none⟩)) (fun _ => Za0 84 _ _ gw ow (way.length - 1) way.length cw14 3 88 rfl (by kernel_rfl) (by kernel_rfl) (by omega) Tryz.underlying84 (by kernel_rfl)) ?_
 refine rv 31 (.agg #[uw, .int .i64 (((endS way).l : Nat) : Int), .bool (endS way).c]) (fun _ => Zb2 88 _ gw (ow + (way.length - 1) * 3) [uw, .int .i64 (((endS way).l : Nat) : Int), .bool (endS way).c] _ rfl (by kernel_rfl) hrw Tryz.underlying88 rfl (by kernel_rfl)) ?_
 refine rp 32 (.slice a3 n4 c5) ?_
 refine Zak 33 42 #[.agg #[uw, .int .i64 (((endS way).l : Nat) : Int), .bool (endS way).c], .slice a3 n4 c5] (fun _ => by kernel_rfl) (fun _ => by kernel_rfl) (R := RSv w10 (valS (Ni.nib key) (endS way))) (Zgb huw ha7 (by have := hE.l; omega)) ?_
 rintro _ w19 ⟨⟨a16, n17, c18, rfl, ha20, hn21⟩, hb22⟩
 replace hB := hB.go hb22
 replace hP := hP.go hb22
 replace hkey := hkey.go hb22
 replace ha7 := ha7.go hb22
 replace hW15 := hW15.go hb22
 replace hrw := Zba hrw hb22
 replace huw := huw.go hb22
 have hvl := ha20.len
 refine rp 34 (.int .i64 n17) ?_
 refine rv 35 (.bool false) (fun _ => Zal (v := .bool ((n17 : Int) == (0 : Int))) (by kernel_rfl) (congrArg Value.bool (beq_eq_false_iff_ne.2 (by omega)))) ?_
 refine Zad ?_
 refine Zab ?_
 refine Zaf (fun _ => by kernel_rfl) ?_
 refine Zam ?_
 refine Zab ?_
 refine Zac ?_
 refine Zaa ?_
 refine rp 37 (.pointer (some ⟨g, 0, none⟩)) ?_
 refine rp 38 (.slice (some ⟨gw, ow, none⟩) way.length cw14) ?_
 refine rp 39 (.int .i64 ((way.length - 1 : Nat) : Int)) ?_
 refine rv 40 (.pointer (some ⟨gw, ow + (way.length - 1) * 3, none⟩)) (fun _ => Za0 84 _ _ gw ow (way.length - 1) way.length cw14 3 88 rfl (by kernel_rfl) (by kernel_rfl) (by omega) Tryz.underlying84 (by kernel_rfl)) ?_
 refine rv 41 (.agg #[uw, .int .i64 (((endS way).l : Nat) : Int), .bool (endS way).c]) (fun _ => Zb2 88 _ gw (ow + (way.length - 1) * 3) [uw, .int .i64 (((endS way).l : Nat) : Int), .bool (endS way).c] _ rfl (by kernel_rfl) hrw Tryz.underlying88 rfl (by kernel_rfl)) ?_
 have hmapw := hP.um.map
 refine Zak 42 43 #[.pointer (some ⟨g, 0, none⟩), .agg #[uw, .int .i64 (((endS way).l : Nat) : Int), .bool (endS way).c]] (fun _ => by kernel_rfl) (fun _ => by kernel_rfl) (R := RNm w19 g gK gU t0 kn _ (some u0)) (by have := Zn1 (s := endS way) hP huw hE.wg; rw [hwo] at this; exact this) ?_
 rintro _ w23 ⟨hP25, ⟨v27, rfl, ht28⟩, hT26⟩
 replace hB := hB.trans hT26
 replace hP := hP25
 replace hkey := hkey.nt hT26.n
 replace ha7 := ha7.nt hT26.n
 replace hW15 := hW15.tu hT26 hmapw
 replace huw := huw.nt hT26.n
 replace ha20 := ha20.nt hT26.n
 refine rp 36 (.tuple #[v27, .bool true]) ?_
 refine rp 43 (v27) ?_
 refine rp 44 (.bool true) ?_
 refine rp 10 (v27) ?_
 refine rp 8 (.bool true) ?_
 refine Zad ?_
 refine Zab ?_
 refine Zac ?_
 refine Zac ?_
 refine Zaa ?_
 refine rp 45 (.bool true) ?_
 refine rp 46 (.bool false) ?_
 refine Zad ?_
 refine Zab ?_
 refine Zaf (fun _ => by kernel_rfl) ?_
 refine Zam ?_
 refine Zab ?_
 refine Zac ?_
 obtain ⟨a9, hcut, hWc⟩ := hW15.cut (way.length - 1) (by omega) (by omega)
 refine Zaa ?_
 refine rp 47 (.pointer (some ⟨g, 0, none⟩)) ?_
 refine rp 48 (.slice (some ⟨gw, ow, none⟩) way.length cw14) ?_
 refine rp 49 (.int .i64 ((way.length - 1 : Nat) : Int)) ?_
 refine rv 50 (.slice a9 (way.length - 1) cw14) (fun _ => hcut _ _ _ _ _ rfl (by kernel_rfl) (by kernel_rfl)) ?_
 refine rp 51 (.slice a3 n4 c5) ?_
 refine rp 52 (v27) ?_
 refine Zak 53 39 #[.pointer (some ⟨g, 0, none⟩), .slice a9 (way.length - 1) cw14, .slice a3 n4 c5, v27] (fun _ => by kernel_rfl) (fun _ => by kernel_rfl) (R := RRm w23 g gK gU t0 kn _ (some t2)) (by have := Zdy hP hWc ha7 hn8 hnb ht28 (by rw [List.length_take]; omega) hE.desc (Zwu hP.ok hE.wg hwo); rw [hrem] at this; exact this) ?_
 rintro _ w29 ⟨⟨rfl, hP31⟩, hT32⟩
 replace hB := (T2.of hB).trans hT32
 refine rp 11 (.int .i64 0) ?_
 refine Zad ?_
 refine Zab ?_
 refine Zac ?_
 refine Zaa ?_
 refine rp 54 (.int .i64 0) ?_
 refine rp 55 (.bool true) ?_
 refine rp 56 (.int .i64 0) ?_
 refine rp 4 (.bool true) ?_
 refine rp 5 (.int .i64 0) ?_
 refine Zad ?_
 refine Zab ?_
 refine Zap ?_
 refine Zae (.tuple #[.bool true, .int .i64 0]) (fun _ => by kernel_rfl) ?_
 exact ⟨_, rfl, hP31, rfl, hB⟩
theorem Zse {t0 : Pt} (hP : PAt w g gK gU t0 kn us) {key : List Int} (hkey : Sk An w a n c key) : Calls Tryz.prog 21 #[.pointer (some ⟨g, 0, none⟩), .slice a n c] w fun e w' => ∃ v', e = .returned v' ∧ RDel w g gK gU kn (delU kn t0 key us) (delQ kn t0 key) v' w' := by
 by_cases hl : 32 < n
 ·exact Zpa hP hkey hl
 cases hw : wayP kn t0 (Ni.nib key) with
 | none => exact Zo9 hP hkey (by omega) hw
 | some way =>
  by_cases hz : (valS (Ni.nib key) (endS way)).length = 0
  ·exact Zo8 hP hkey (by omega) hw hz
  ·cases hwo : woP kn (endS way) with
   | none => exact Zsd hP hkey (by omega) hw hz hwo
   | some u0 =>
    cases hr : remP kn (Ni.nib key) (way.take (way.length - 1)).reverse u0 with
    | none => exact Zpb hP hkey (by omega) hw hz hwo hr
    | some t2 => exact Zve hP hkey (by omega) hw hz hwo hr
end Go.Proofs.YtchgejomcgoaeaaGreat
namespace Go.Proofs.YtchgejomcgoaeaaGreat
open Go.RowKit
variable {K : Nat → Prop} {w u : World} {ys post C : List RV} {rs : List PR} {y : RV} {gk gn : Nat}
def flatR (ys : List RV) : List Value := ys.flatMap RV.cells
theorem Zdw : ∀ {ys : List RV}, (∀ y ∈ ys, y.d.length = 32) → (flatR ys).length = ys.length * 34
  | [], _ => rfl
  | y :: r, h => by
    have ih := Zdw fun z hz => h z (List.mem_cons_of_mem _ hz)
    unfold flatR at ih ⊢
    rw [List.flatMap_cons, List.length_append, ih, RV.len (h y (by simp)), List.length_cons]
    omega
theorem Ze1 (a b : List RV) : flatR (a ++ b) = flatR a ++ flatR b := by unfold flatR; rw [List.flatMap_append]
theorem Zj6 (y : RV) : flatR [y] = y.cells := by unfold flatR; rw [List.flatMap_cons, List.flatMap_nil, List.append_nil]
theorem Zx7 : ∃ i, Tryz.prog.info? 65 = some i ∧ i.zero = some (.agg rz.cells.toArray) ∧ i.size = 34 ∧ i.bytes = 64 := by
 have h : (Tryz.prog.info? 65).map (fun i => (i.zero, i.size, i.bytes)) = some (some (.agg rz.cells.toArray), 34, 64) := by kernel_rfl
 cases hq : Tryz.prog.info? 65 with
 | none => rw [hq] at h; simp at h
 | some i => rw [hq] at h; simp at h; exact ⟨i, rfl, h.1, h.2.1, h.2.2⟩
theorem Zx3 : madeCells (Value.agg rz.cells.toArray).cells ((16 : Int).toNat * 34) = (flatR (List.replicate 16 rz)).toArray := by kernel_rfl
section
variable {a : Act} {w : World}
theorem Zjl {o : Oper} (ho : o.op = .makeSlice 66 (.const (.int .i64 16)) (.const (.int .i64 16))) : (execOp a.eval o).run Tryz.prog w = .ok (.value (.slice (some ⟨w.heap.size, 0, none⟩) 16 16)) (w.alloc (.cells (flatR (List.replicate 16 rz)).toArray 65)) := by
 obtain ⟨i, hi, hz, hsz, hby⟩ := Zx7
 have hr : (Instr.makeSlice 66 (.int .i64 16) (.int .i64 16)).run Tryz.prog w = .ok (.slice (some ⟨w.heap.size, 0, none⟩) 16 16) (w.alloc (.cells (flatR (List.replicate 16 rz)).toArray 65)) := by
  have h := run_make (P := Tryz.prog) w 66 65 i _ Tryz.underlying66 hi hz .i64 .i64 16 16 (by omega) (by omega) (by rw [hby]; omega) (by omega)
  rw [hsz, show madeCells (Value.agg rz.cells.toArray).cells ((16 : Int).toNat * 34) = (flatR (List.replicate 16 rz)).toArray from Zx3] at h
  exact h
 unfold execOp
 rw [ho]
 simp only [Act.eval, Sem.run_bind, hr, Result.andThen_ok, Sem.run_pure]
theorem Zjn {o : Oper} (ho : o.op = .alloc 68) : (execOp a.eval o).run Tryz.prog w = .ok (.value (.pointer (some ⟨w.heap.size, 0, none⟩))) (w.alloc (.cells nz.cells.toArray 68)) := by
  unfold execOp
  rw [ho]
  go_simp
  rfl
theorem Zm8 {x y : Operand} {o : Oper} (ho : o.op = .store 65 x y) (g off : Nat) (r : RV) (hl : r.d.length = 32) (hx : a.eval x = .pointer (some ⟨g, off, none⟩)) (hy : a.eval y = .agg r.cells.toArray) (t : TypeId) (cur : Array Value)
    (hg : w.heap[g]? = some (.cells cur t (0, 0))) (hfit : off + 34 ≤ cur.size) :
    (execOp a.eval o).run Tryz.prog w = .ok .skip (w.setRow g (cur.toList.take off ++ r.cells ++ cur.toList.drop (off + 34)).toArray) := by
  have hst := run_storeCells_at Tryz.prog g off t r.cells 0 cur w hg (by rw [RV.len hl]; omega) r.one
  have hi := Zhi
  cases hq : Tryz.prog.info? 65 with
  | none => rw [hq] at hi; simp at hi
  | some i =>
    have hs : i.size = 34 := by rw [hq] at hi; simpa using hi
    have hsv : (storeVar 65 ⟨g, off, none⟩ (.agg r.cells.toArray)).run Tryz.prog w = .ok () (w.setRow g (cur.toList.take off ++ r.cells ++ cur.toList.drop (off + 34)).toArray) := by
      rw [RV.len hl] at hst
      simp [storeVar, sizeOf, typeInfo, hq, Value.cells, hs, RV.len hl]
      simpa using hst
    unfold execOp
    rw [ho]
    simp only [hx, hy, Instr.storeAt, Instr.sureAddr, Sem.run_bind, Sem.run_pure, Result.andThen_ok, hsv]
end
theorem Zj1 : ∀ {ts : List T} {t : T}, t ∈ ts → refOfP t = none → kidsP ts = none
  | x :: l, t, ht, h => by
    rw [kidsP]
    rcases List.mem_cons.1 ht with rfl | ht
    · rw [h]
    · rw [Zj1 ht h]
      cases refOfP x <;> rfl
theorem Zjz : ∀ {ts : List T} {rs : List PR} {t : T} {r : PR}, kidsP ts = some rs → refOfP t = some r → kidsP (ts ++ [t]) = some (rs ++ [r])
  | [], rs, t, r, h, hr => by
    cases h
    rw [List.nil_append, kidsP, hr, kidsP]
    rfl
  | x :: l, rs, t, r, h, hr => by
    rw [kidsP] at h
    rw [List.cons_append, kidsP]
    cases hx : refOfP x with
    | none => rw [hx] at h; cases h
    | some a =>
      rw [hx] at h
      dsimp only at h ⊢
      cases hk : kidsP l with
      | none => rw [hk] at h; cases h
      | some l' =>
        rw [hk] at h
        cases h
        rw [Zjz hk hr]
        rfl
def RefsAt (K : Nat → Prop) (w : World) (ys : List RV) (rs : List PR) : Prop := rs.length = ys.length ∧ (∀ y ∈ ys, y.d.length = 32) ∧ ∀ (i : Nat) (y : RV) (r : PR), ys[i]? = some y → rs[i]? = some r → RefAt K w y r
theorem RefsAt.go {L : Nat → Prop} {w' : World} (hk : Keep K L w w') (h : RefsAt K w ys rs) : RefsAt L w' ys rs := ⟨h.1, h.2.1, fun i y r h1 h2 => (h.2.2 i y r h1 h2).go hk⟩
theorem RefsAt.snoc {r : PR} (h : RefsAt K w ys rs) (hy : RefAt K w y r) : RefsAt K w (ys ++ [y]) (rs ++ [r]) := by
 refine ⟨by simp [h.1], fun z hz => ?_, fun i z s h1 h2 => ?_⟩
 ·rcases List.mem_append.1 hz with hz | hz
  ·exact h.2.1 z hz
  ·simp only [List.mem_cons, List.not_mem_nil, or_false] at hz; rw [hz]; exact hy.len
 ·by_cases hi : i < ys.length
  ·rw [List.getElem?_append_left hi] at h1
   rw [List.getElem?_append_left (by rw [h.1]; exact hi)] at h2
   exact h.2.2 i z s h1 h2
  ·have hi2 : i = ys.length := by
    have := (List.getElem?_eq_some_iff.1 h1).1
    simp at this; omega
   subst hi2
   simp at h1
   rw [← h.1] at h2
   simp at h2
   rw [← h1, ← h2]; exact hy
theorem Zwb {pre : List RV} (hp : ∀ z ∈ pre, z.d.length = 32) {j : Nat} {u : Value} (h : y.cells[j]? = some u) : (flatR (pre ++ y :: post))[pre.length * 34 + j]? = some u := by
 have e : flatR (pre ++ y :: post) = flatR pre ++ (y.cells ++ flatR post) := by
  rw [Ze1, show y :: post = [y] ++ post from rfl, Ze1, Zj6]
 rw [e, List.getElem?_append_right (by rw [Zdw hp]; omega), Zdw hp, show pre.length * 34 + j - pre.length * 34 = j from by omega, List.getElem?_append_left (List.getElem?_eq_some_iff.1 h).1]
 exact h
theorem Znk {g : Nat} (hr : w.heap[g]? = some (.cells (flatR ys).toArray 65)) (hK : K g) (h : RefsAt K w ys rs) : KidsAt K w (some ⟨g, 0, none⟩) rs := fun j r hj => by
  have hjl : j < ys.length := by rw [← h.1]; exact (List.getElem?_eq_some_iff.1 hj).1
  refine ⟨g, 0, ys[j], rfl, hK, fun k u hu => ?_, h.2.2 j _ r (List.getElem?_eq_getElem hjl) hj⟩
  rw [cell_of_row _ _ _ _ _ _ hr, List.getElem?_toArray]
  have e : ys = ys.take j ++ ys[j] :: ys.drop (j + 1) := by rw [← List.drop_eq_getElem_cons hjl, List.take_append_drop]
  have hl : (ys.take j).length = j := by rw [List.length_take]; omega
  have hf := Zwb (pre := ys.take j) (post := ys.drop (j + 1)) (fun z hz => h.2.1 z (List.mem_of_mem_take hz)) hu
  rw [hl, ← e] at hf
  rw [show 0 + j * 34 + k = j * 34 + k from by omega]
  exact hf
theorem Zta {pre : List RV} {z : RV} (hp : ∀ x ∈ pre, x.d.length = 32) (hz : z.d.length = 32) :
    (flatR (pre ++ z :: post)).take (pre.length * 34) ++ y.cells ++ (flatR (pre ++ z :: post)).drop (pre.length * 34 + 34) = flatR (pre ++ y :: post) := by
  have e : ∀ x : RV, flatR (pre ++ x :: post) = flatR pre ++ (x.cells ++ flatR post) := fun x => by
    rw [Ze1, show x :: post = [x] ++ post from rfl, Ze1, Zj6]
  rw [e z, e y]
  have l1 := Zdw hp
  rw [List.take_append_of_le_length (by omega), List.take_of_length_le (by omega), List.drop_append, List.drop_of_length_le (by omega), List.nil_append, l1, show pre.length * 34 + 34 - pre.length * 34 = 34 from by omega, List.drop_append, List.drop_of_length_le (by rw [RV.len hz]; omega), List.nil_append, RV.len hz, Nat.sub_self, List.drop_zero, List.append_assoc]
section
variable {w : World} {ops : Array Oper} {rest : List Oper} {o : Oper} {a : Act} {Q : Exit → Act → World → Prop}
theorem Zkk (hw : Region.wanted o (yielded ops a.tmps) = true) (x y : Operand) (ho : o.op = .store 65 x y) (g off : Nat) (r : RV) (hl : r.d.length = 32) (hx : a.eval x = .pointer (some ⟨g, off, none⟩)) (hy : a.eval y = .agg r.cells.toArray) (t : TypeId) (cur : Array Value)
    (hg : w.heap[g]? = some (.cells cur t (0, 0))) (hfit : off + 34 ≤ cur.size) (h : wpList Tryz.prog ops Q rest (a.put o.dst undef) (w.setRow g (cur.toList.take off ++ r.cells ++ cur.toList.drop (off + 34)).toArray)) : wpList Tryz.prog ops Q (o :: rest) a w :=
  Zkn hw fun K hK => by
    unfold Oper.wp
    rw [Zm8 ho g off r hl hx hy t cur hg hfit, Oper.upon_skip]
    exact hK _ _ h
end
structure Pb (w v : World) (y : V) : Prop where
  row : v.heap[w.heap.size + 1]? = some (.cells nz.cells.toArray 68)
  bx : B1 w.heap.size v y
  bel : Below w.heap.size w v
  sz : v.heap.size = w.heap.size + 2
theorem Zt2 (w : World) (y : V) : Pb w ((w.alloc (.cells #[.bool y.l, .slice y.ba y.bn y.bc, .slice y.ia y.m y.ic] 76)).alloc (.cells nz.cells.toArray 68)) y := by
  have s1 : (w.alloc (.cells #[.bool y.l, .slice y.ba y.bn y.bc, .slice y.ia y.m y.ic] 76)).heap.size = w.heap.size + 1 := by simp
  refine ⟨?_, (Zfs w y).alloc _, below_go (below_new w _) (below_new _ _), by simp⟩
  have := heap_alloc_new (w.alloc (.cells #[.bool y.l, .slice y.ba y.bn y.bc, .slice y.ia y.m y.ic] 76)) (.cells nz.cells.toArray 68)
  rwa [s1] at this
def nvB (y : V) (gk : Nat) : NV := ⟨3, none, 0, 0, y.ba, y.bn, y.bc, rz, some ⟨gk, 0, none⟩, 16, 16⟩
structure Bk (w u : World) (y : V) (gk gn : Nat) (C : List RV) : Prop where
  row : u.heap[w.heap.size + 1]? = some (.cells nz.cells.toArray 68)
  bx : B1 w.heap.size u y
  nb : NBx gn u (nvB y gk)
  kr : u.heap[gk]? = some (.cells (flatR C).toArray 65)
  bel : Below w.heap.size w u
  gk2 : w.heap.size + 2 ≤ gk ∧ gk < w.heap.size + 4
  gn2 : w.heap.size + 2 ≤ gn ∧ gn < w.heap.size + 4
  ne : gk ≠ gn
  sz : w.heap.size + 4 ≤ u.heap.size
theorem Bk.go {u' : World} {y : V} (h : Bk w u y gk gn C) (hb : Below u.heap.size u u') : Bk w u' y gk gn C :=
  ⟨Below.row hb h.row, h.bx.go hb, h.nb.go hb, Below.row hb h.kr, below_go h.bel hb, h.gk2, h.gn2, h.ne, Nat.le_trans h.sz hb.size⟩
theorem Bk.put {y : V} {D : List RV} (h : Bk w u y gk gn C) : Bk w (u.setRow gk (flatR D).toArray) y gk gn D :=
  ⟨(setRow_other _ _ _ _ (by have := h.gk2; omega)).trans h.row, Zby h.bx (by have := h.gk2; omega), ⟨(setRow_other _ _ _ _ (Ne.symm h.ne)).trans h.nb.row, h.nb.l⟩, setRow_heap _ _ _ _ _ _ h.kr, Below.setRow h.bel (by have := h.gk2; omega) _, h.gk2, h.gn2, h.ne, by simpa using h.sz⟩
end Go.Proofs.YtchgejomcgoaeaaGreat
