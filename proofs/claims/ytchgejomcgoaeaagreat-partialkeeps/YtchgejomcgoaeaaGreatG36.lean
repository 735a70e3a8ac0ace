/- A call that is refused changes nothing. -/
import Derived.Test.YtchgejomcgoaeaaGreatG35
import Derived.Test.YtchgejomcgoaeaaGreatG14
import Derived.Test.YtchgejomcgoaeaaGreatG00
import Derived.ProofKit
import Derived.OpenShut
import Derived.ShutString
import Derived.ChangeOld
import Derived.SizedLaws
set_option linter.unusedVariables false
set_option maxRecDepth 100000
namespace Go.Proofs.YtchgejomcgoaeaaGreat
open Go.RowKit
open Di (dref)
open Pt
variable {w : World} {a : Option Addr} {n : Nat} {kn : Kn} {k : Int} {key y : List Int}
structure Opx where
  z : Int
  ka : Option Addr
  kn : Nat
  kc : Nat
  va : Option Addr
  vn : Nat
  vc : Nat
  k : List Int
  x : List Int
def Opx.cells (y : Opx) : Array Value := #[.int .i64 y.z, .slice y.ka y.kn y.kc, .slice y.va y.vn y.vc]
structure OAt (w : World) (a : Option Addr) (n : Nat) (xs : List Opx) : Prop where
  len : xs.length = n
  row : ∀ j y, xs[j]? = some y → ∃ g off, a = some ⟨g, off, none⟩ ∧ w.rangeAt g (off + j * 3) y.cells.toList
  kk : ∀ y ∈ xs, Ag w y.ka y.kn y.kc y.k
  vv : ∀ y ∈ xs, Ag w y.va y.vn y.vc y.x
theorem OAt.one {v : World} {xs : List Opx} (h : OAt w a n xs) (hb : Bl w v) {j : Nat} (hj : j < n) : ∃ y : Opx, ∃ g off, a = some ⟨g, off, none⟩ ∧ v.rangeAt g (off + j * 3) y.cells.toList ∧ Sk An v y.ka y.kn y.kc y.k ∧ Sk An v y.va y.vn y.vc y.x := by
  have hl := h.len
  have hg : xs[j]? = some (xs[j]'(by omega)) := List.getElem?_eq_getElem (by omega)
  have hm : xs[j]'(by omega) ∈ xs := List.getElem_mem _
  obtain ⟨g, off, e, hr⟩ := h.row j _ hg
  exact ⟨_, g, off, e, fun m x hx => Zaw hb (hr m x hx), (Ag.sk (h.kk _ hm)).go hb, (Ag.sk (h.vv _ hm)).go hb⟩
theorem Zkd {t : Pt} {v : Value} (h : ThA w t v) (k : Int) (key y : List Int) : (callP kn t k key y).2.d.length = 32 := by
  unfold callP
  split
  · rfl
  · split
    · rfl
    · split
      · rfl
      · exact Zhr h
theorem Zke {t : Pt} (h : k = 0) : (callP kn t k key y).1 = t := by unfold callP; rw [if_pos h]
theorem Ztg {t : Pt} (h : ¬ (callP kn t k key y).2.e = 0) : (callP kn t k key y).1 = t ∧ (callP kn t k key y).2.v = [] ∧ (callP kn t k key y).2.b = false := by
  unfold callP at h ⊢
  by_cases h0 : k = 0
  · rw [if_pos h0] at h ⊢
    have hg : (getP kn t key).1 = [] := by
      have h1 : ¬ (getP kn t key).2 = 0 := h
      unfold getP at h1 ⊢
      split
      · rfl
      · split
        · rfl
        · simp_all
    exact ⟨rfl, hg, by show decide (0 < (getP kn t key).1.length) = false; rw [hg]; rfl⟩
  rw [if_neg h0] at h ⊢
  by_cases h1 : k = 1
  · rw [if_pos h1] at h ⊢
    have h2 : ¬ (putQ kn t key y).2 = 0 := h
    refine ⟨?_, rfl, rfl⟩
    show (putQ kn t key y).1 = t
    revert h2
    unfold putQ
    (repeat' split) <;> first | (intro _; rfl) | (intro h5; exact absurd rfl h5)
  rw [if_neg h1] at h ⊢
  by_cases h3 : k = 2
  · rw [if_pos h3] at h ⊢
    have h2 : ¬ (delQ kn t key).2.2 = 0 := h
    have h4 : (delQ kn t key).1 = t ∧ (delQ kn t key).2.1 = false := by
      unfold delQ at h2 ⊢
      split
      · exact ⟨rfl, rfl⟩
      · split
        · exact ⟨rfl, rfl⟩
        · split
          · exact ⟨rfl, rfl⟩
          · split
            · exact ⟨rfl, rfl⟩
            · split
              · exact ⟨rfl, rfl⟩
              · simp_all
    exact ⟨h4.1, rfl, h4.2⟩
  rw [if_neg h3] at h
  exact absurd rfl h
set_option maxHeartbeats 1000000 in
theorem Zv1 {d : List Int} {aS : Option Addr} {c ms cs : Nat} {ns : List (List Int)} {xs : List Opx} (hd : d.length = 32) (hdb : isB d) (hN : NsA w a n c ns) (hn : n ≤ 9223372036854775807) (hO : OAt w aS ms xs) (hms : ms ≤ 2520000000000) : Calls Tryz.prog 5 #[.agg (B8 d), .slice a n c, .slice aS ms cs] w fun e w' => ∃ v', e = .returned v' ∧ RVl w (.bool true) v' w' := by
  have hB : Bl w w := Bl.refl w
  refine Zaj Tryz.func5 rfl 77 rfl ?_
  show CW _ _ _ _ _ _ _ [(0, .agg (B8 d)), (1, .slice a n c), (2, .slice aS ms cs)] _
  refine Zac ?_
  refine Zaa ?_
  refine Zar 3 (B8 d) 23 (fun _ => by kernel_rfl) (fun _ => by kernel_rfl) ?_
  intro w1 g2 hn3
  have hzg2 : w.heap.size ≤ g2 := by have := hB.size; have := hn3.hg; omega
  replace hB := hB.go hn3.below
  replace hN := hN.go hn3.below
  have hr4 : Rw g2 w1 (B8 d) 23 := hn3.row
  refine rp 6 (.bool false) ?_
  refine Zad ?_
  refine Zab ?_
  refine Zac ?_
  refine Zaa ?_
  refine rv 15 (.agg (B8 d)) (fun _ => Za2 23 _ _ _ _ _ _ rfl (by kernel_rfl) hr4 Tryz.underlying23 rfl (Zbm hd)) ?_
  refine rp 16 (.slice a n c) ?_
  refine Zak 17 6 #[.agg (B8 d), .slice a n c] (fun _ => by kernel_rfl) (fun _ => by kernel_rfl) (R := RNw w1 (topP d) (knP ns []) []) (Zkw hd hdb hN hn) ?_
  rintro _ w5 ⟨⟨g, gK, gU, rfl, hP, hf1, hf2, hf3⟩, hb6⟩
  have hzg : w.heap.size ≤ g ∧ w.heap.size ≤ gK ∧ w.heap.size ≤ gU := by have := hB.size; omega
  replace hB := hB.go hb6
  replace hN := hN.go hb6
  replace hr4 := hr4.go hb6
  refine rp 7 (.pointer (some ⟨g, 0, none⟩)) ?_
  refine Zad ?_
  refine Zab ?_
  refine Zac ?_
  refine Zac ?_
  refine Zaa ?_
  refine rp 18 (.pointer (some ⟨g, 0, none⟩)) ?_
  refine rp 19 (.bool false) ?_
  refine rp 20 (.bool false) ?_
  refine Zak 21 7 #[] (fun _ => by kernel_rfl) (fun _ => by kernel_rfl) (R := RVl w5 (.bool true)) (Zq9) ?_
  rintro _ w7 ⟨rfl, hb8⟩
  replace hB := hB.go hb8
  replace hN := hN.go hb8
  replace hr4 := hr4.go hb8
  replace hP := hP.go hb8
  refine rp 22 (.bool false) ?_
  refine rp 23 (.bool false) ?_
  refine Zad ?_
  refine Zab ?_
  refine Zaf (fun _ => by kernel_rfl) ?_
  refine Zam ?_
  refine Zab ?_
  refine Zac ?_
  refine Zac ?_
  refine Zaa ?_
  refine rp 24 (.slice aS ms cs) ?_
  refine rp 25 (.int .i64 ms) ?_
  refine rp 26 (.int .i64 0) ?_
  refine Zad ?_
  refine Zab ?_
  refine Zan ?_
  have hneK := hP.neK
  have hneU := hP.ne
  refine Zb8 (X := Nat × Pt) (fun x => [(26, .int .i64 ((x.1 : Nat) : Int)), (25, .int .i64 ms), (24, .slice aS ms cs), (7, .pointer (some ⟨g, 0, none⟩)), (2, .slice aS ms cs), (6, .bool false)]) (fun x v => Bl w v ∧ x.1 ≤ ms ∧ ∃ us, PAt v g gK gU x.2 (knP ns []) us) (fun x => ms - x.1) (0, topP d) (by exact ⟨fun _ => by kernel_rfl, ⟨fun _ => by kernel_rfl, ⟨fun _ => by kernel_rfl, ⟨fun _ => by kernel_rfl, ⟨fun _ => by kernel_rfl, ⟨fun _ => by kernel_rfl, trivial⟩⟩⟩⟩⟩⟩) ⟨hB, Nat.zero_le _, _, hP⟩ ?_
  clear hB hP hN hr4
  rintro ⟨j, t⟩ v ⟨hB, hj, us, hP⟩
  simp only at hj hP
  show CW _ _ _ _ _ _ _ [(26, .int .i64 ((j : Nat) : Int)), (25, .int .i64 ms), (24, .slice aS ms cs), (7, .pointer (some ⟨g, 0, none⟩)), (2, .slice aS ms cs), (6, .bool false)] _
  have hrl : (rtP t).length = 32 := by obtain ⟨vt, _, htt⟩ := hP.row; exact Zhr htt
  by_cases hltj : j < ms
  · skip
    obtain ⟨y, gs, off, has, hrng, hky, hvy⟩ := hO.one hB hltj
    have hcl : (callP (knP ns []) t y.z y.k y.x).2.d.length = 32 := by obtain ⟨vt, _, htt⟩ := hP.row; exact Zkd htt _ _ _
    refine Zac ?_
    refine Zaa ?_
    refine rv 27 (.bool true) (fun _ => Zal (v := .bool (decide (((j : Nat) : Int) < (ms : Int)))) (by kernel_rfl) (congrArg Value.bool (decide_eq_true (by omega)))) ?_
    refine Zad ?_
    refine Zab ?_
    refine Zac ?_
    refine Zai (fun _ => by kernel_rfl) ?_
    refine Zam ?_
    refine Zab ?_
    refine Zac ?_
    refine Zan ?_
    refine Zac ?_
    refine Zaa ?_
    refine rv 28 (.pointer (some ⟨gs, off + j * 3, none⟩)) (fun _ => Za0 25 _ _ gs off j ms cs 3 31 rfl (by rw [← has]; kernel_rfl) (by kernel_rfl) hltj Tryz.underlying25 (by kernel_rfl)) ?_
    refine rv 29 (.agg #[.int .i64 y.z, .slice y.ka y.kn y.kc, .slice y.va y.vn y.vc]) (fun _ => Zb2 31 _ _ _ _ _ rfl (by kernel_rfl) hrng Tryz.underlying31 rfl (by kernel_rfl)) ?_
    refine Zar 9 (#[.int .i64 0, .slice none 0 0, .slice none 0 0]) 31 (fun _ => by kernel_rfl) (fun _ => by kernel_rfl) ?_
    intro w9 g10 hn11
    have hr12 : Rw g10 w9 (#[.int .i64 0, .slice none 0 0, .slice none 0 0]) 31 := hn11.row
    refine Zav g10 (#[.int .i64 y.z, .slice y.ka y.kn y.kc, .slice y.va y.vn y.vc]) (fun _ => by kernel_rfl) (fun _ => Zao 31 _ _ _ _ _ 31 rfl (by kernel_rfl) (by kernel_rfl) hr12 (by kernel_rfl) (by kernel_rfl) (by kernel_rfl)) ?_
    intro w13 hp14
    replace hn11 := hn11.put hp14
    clear hr12
    have hlgg10 : g < g10 := by have := hP.lt; have := hn11.hg; omega
    have hlgKg10 : gK < g10 := by have := hP.km.lt; have := hn11.hg; omega
    have hlgUg10 : gU < g10 := by have := hP.um.lt; have := hn11.hg; omega
    have hzg10 : w.heap.size ≤ g10 := by have := hB.size; have := hn11.hg; omega
    replace hB := hB.go hn11.below
    replace hP := hP.go hn11.below
    replace hky := hky.go hn11.below
    replace hvy := hvy.go hn11.below
    have hr16 : Rw g10 w13 (#[.int .i64 y.z, .slice y.ka y.kn y.kc, .slice y.va y.vn y.vc]) 31 := hn11.row
    refine Zad ?_
    refine Zab ?_
    refine Zac ?_
    refine Zaa ?_
    refine rp 30 (.pointer (some ⟨g, 0, none⟩)) ?_
    refine Zak 31 11 #[.pointer (some ⟨g, 0, none⟩)] (fun _ => by kernel_rfl) (fun _ => by kernel_rfl) (R := RVl w13 (.agg (B8 (rtP t)))) (Zeq hP) ?_
    rintro _ w17 ⟨rfl, hb18⟩
    replace hB := hB.go hb18
    replace hP := hP.go hb18
    replace hky := hky.go hb18
    replace hvy := hvy.go hb18
    replace hr16 := hr16.go hb18
    refine Zar 10 (B8 z32) 23 (fun _ => by kernel_rfl) (fun _ => by kernel_rfl) ?_
    intro w19 g20 hn21
    have hr22 : Rw g20 w19 (B8 z32) 23 := hn21.row
    refine Zav g20 (B8 (rtP t)) (fun _ => by kernel_rfl) (fun _ => Zao 23 _ _ _ _ _ 23 rfl (by kernel_rfl) (by kernel_rfl) hr22 (Zbm hrl) ((B8_size _).trans ((show z32.length = 32 from rfl).trans (hrl.symm.trans (B8_size _).symm))) (B8_one _)) ?_
    intro w23 hp24
    replace hn21 := hn21.put hp24
    clear hr22
    have hlg10g20 : g10 < g20 := by have := hr16.lt; have := hn21.hg; omega
    have hlgg20 : g < g20 := by have := hP.lt; have := hn21.hg; omega
    have hlgKg20 : gK < g20 := by have := hP.km.lt; have := hn21.hg; omega
    have hlgUg20 : gU < g20 := by have := hP.um.lt; have := hn21.hg; omega
    have hzg20 : w.heap.size ≤ g20 := by have := hB.size; have := hn21.hg; omega
    replace hB := hB.go hn21.below
    replace hP := hP.go hn21.below
    replace hky := hky.go hn21.below
    replace hvy := hvy.go hn21.below
    replace hr16 := hr16.go hn21.below
    have hr26 : Rw g20 w23 (B8 (rtP t)) 23 := hn21.row
    refine Zad ?_
    refine Zab ?_
    refine Zac ?_
    refine Zaa ?_
    refine rp 32 (.pointer (some ⟨g, 0, none⟩)) ?_
    refine Zak 33 13 #[.pointer (some ⟨g, 0, none⟩)] (fun _ => by kernel_rfl) (fun _ => by kernel_rfl) (R := RCl w23 gK t (knP ns []) _) (Zna hP) ?_
    rintro _ w27 ⟨⟨gQ, gV, rfl, hQ, hf4, hf5⟩, hb28⟩
    have hzQ : w.heap.size ≤ gQ ∧ w.heap.size ≤ gV := by have := hB.size; omega
    have hltQ : g < gQ ∧ g < gV ∧ gK < gQ ∧ gK < gV ∧ gU < gQ ∧ gU < gV := by have := hP.lt; have := hP.km.lt; have := hP.um.lt; omega
    have hlQg10 : g10 < gQ ∧ g10 < gV := by have := hr16.lt; omega
    have hlQg20 : g20 < gQ ∧ g20 < gV := by have := hr26.lt; omega
    replace hB := hB.go hb28
    replace hP := hP.go hb28
    replace hky := hky.go hb28
    replace hvy := hvy.go hb28
    replace hr16 := hr16.go hb28
    replace hr26 := hr26.go hb28
    refine rp 11 (.pointer (some ⟨gQ, 0, none⟩)) ?_
    refine Zad ?_
    refine Zab ?_
    refine Zac ?_
    refine Zac ?_
    refine Zaa ?_
    refine rp 34 (.pointer (some ⟨gQ, 0, none⟩)) ?_
    refine rp 35 (.bool false) ?_
    refine Zad ?_
    refine Zab ?_
    refine Zaf (fun _ => by kernel_rfl) ?_
    refine Zam ?_
    refine Zab ?_
    refine Zac ?_
    refine Zaa ?_
    refine rp 36 (.pointer (some ⟨g, 0, none⟩)) ?_
    refine rv 37 (.agg (#[.int .i64 y.z, .slice y.ka y.kn y.kc, .slice y.va y.vn y.vc])) (fun _ => Za2 31 _ _ _ _ _ _ rfl (by kernel_rfl) hr16 Tryz.underlying31 rfl (by kernel_rfl)) ?_
    refine Zak 38 8 #[.pointer (some ⟨g, 0, none⟩), .agg (#[.int .i64 y.z, .slice y.ka y.kn y.kc, .slice y.va y.vn y.vc])] (fun _ => by kernel_rfl) (fun _ => by kernel_rfl) (R := RCa w27 g gK gU (knP ns []) (callP (knP ns []) t y.z y.k y.x)) (Zg0 hP hky hvy) ?_
    rintro _ w29 ⟨⟨us30, hP31⟩, ⟨a32, n33, c34, rfl, hs35⟩, hT36⟩
    have hlenhP31 := hP31
    replace hB := hB.t2 hT36 hzg.1 hzg.2.2
    replace hky := hky.nt hT36.n
    replace hvy := hvy.nt hT36.n
    replace hr16 := hr16.t2 hT36 (by omega) (by omega)
    replace hr26 := hr26.t2 hT36 (by omega) (by omega)
    replace hQ := hQ.t2 hT36 (by omega) (by omega)
    replace hP := hP31
    clear hlenhP31
    refine Zar 12 (tdc (.slice none 0 0) false 0 z32) 34 (fun _ => by kernel_rfl) (fun _ => by kernel_rfl) ?_
    intro w37 g38 hn39
    have hr40 : Rw g38 w37 (tdc (.slice none 0 0) false 0 z32) 34 := hn39.row
    refine Zav g38 (tdc (.slice a32 n33 c34) (callP (knP ns []) t y.z y.k y.x).2.b (callP (knP ns []) t y.z y.k y.x).2.e (callP (knP ns []) t y.z y.k y.x).2.d) (fun _ => by kernel_rfl) (fun _ => Zao 34 _ _ _ _ _ 34 rfl (by kernel_rfl) (by kernel_rfl) hr40 (Zc6 hcl) (Zja (show z32.length = 32 from rfl) hcl) (Zgd rfl)) ?_
    intro w41 hp42
    replace hn39 := hn39.put hp42
    clear hr40
    have hlg10g38 : g10 < g38 := by have := hr16.lt; have := hn39.hg; omega
    have hlg20g38 : g20 < g38 := by have := hr26.lt; have := hn39.hg; omega
    have hlgg38 : g < g38 := by have := hP.lt; have := hn39.hg; omega
    have hlgKg38 : gK < g38 := by have := hP.km.lt; have := hn39.hg; omega
    have hlgUg38 : gU < g38 := by have := hP.um.lt; have := hn39.hg; omega
    have hlgQg38 : gQ < g38 := by have := hQ.lt; have := hn39.hg; omega
    have hlgVg38 : gV < g38 := by have := hQ.um.lt; have := hn39.hg; omega
    have hzg38 : w.heap.size ≤ g38 := by have := hB.size; have := hn39.hg; omega
    replace hB := hB.go hn39.below
    replace hP := hP.go hn39.below
    replace hky := hky.go hn39.below
    replace hvy := hvy.go hn39.below
    replace hr16 := hr16.go hn39.below
    replace hr26 := hr26.go hn39.below
    replace hQ := hQ.go hn39.below
    replace hs35 := hs35.go hn39.below
    have hr44 : Rw g38 w41 (tdc (.slice a32 n33 c34) (callP (knP ns []) t y.z y.k y.x).2.b (callP (knP ns []) t y.z y.k y.x).2.e (callP (knP ns []) t y.z y.k y.x).2.d) 34 := hn39.row
    refine Zad ?_
    refine Zab ?_
    refine Zac ?_
    refine Zac ?_
    refine Zaa ?_
    refine rp 39 (.pointer (some ⟨g38, 2, none⟩)) ?_
    refine rv 40 (.int .i64 (callP (knP ns []) t y.z y.k y.x).2.e) (fun _ => Zag 32 _ ⟨g38, 2, none⟩ _ _ rfl (by kernel_rfl) (by rw [cell_of_row _ _ _ _ _ _ hr44]; exact tdc2) Tryz.underlying32 rfl) ?_
    refine rp 41 (.bool (((callP (knP ns []) t y.z y.k y.x).2.e : Int) == (0 : Int))) ?_
    refine Zad ?_
    refine Zab ?_
    cases hq45 : (((callP (knP ns []) t y.z y.k y.x).2.e : Int) == (0 : Int)) with
    | true =>
      refine Zai (fun _ => by kernel_rfl) ?_
      refine Zb1 ?_
      refine Zat ?_
      refine Za1 ?_
      refine Zab ?_
      refine Zaa ?_
      refine rv 76 (.int .i64 ((j + 1 : Nat) : Int)) (fun _ => Zal (v := .int .i64 (IntKind.i64.wrap (((j : Nat) : Int) + (1 : Int)))) (by kernel_rfl) (congrArg (Value.int .i64) ((Zbc (by omega) (by omega)).trans (by omega)))) ?_
      refine rp 26 (.int .i64 ((j + 1 : Nat) : Int)) ?_
      refine Zad ?_
      exact Za7 (E := fun x => [(26, .int .i64 ((x.1 : Nat) : Int)), (25, .int .i64 ms), (24, .slice aS ms cs), (7, .pointer (some ⟨g, 0, none⟩)), (2, .slice aS ms cs), (6, .bool false)]) (R := fun x v => Bl w v ∧ x.1 ≤ ms ∧ ∃ us, PAt v g gK gU x.2 (knP ns []) us) (μ := fun x => ms - x.1) (x := (j, t)) (j + 1, (callP (knP ns []) t y.z y.k y.x).1) (by exact ⟨fun _ => by kernel_rfl, ⟨fun _ => by kernel_rfl, ⟨fun _ => by kernel_rfl, ⟨fun _ => by kernel_rfl, ⟨fun _ => by kernel_rfl, ⟨fun _ => by kernel_rfl, trivial⟩⟩⟩⟩⟩⟩) ⟨hB, by simp only; omega, ⟨_, hP⟩⟩ (by simp only; omega)
    | false =>
      refine Zaf (fun _ => by kernel_rfl) ?_
      refine Zam ?_
      refine Zab ?_
      refine Zac ?_
      refine Zac ?_
      obtain ⟨hn1, hn2, hn3⟩ := Ztg (show ¬ (callP (knP ns []) t y.z y.k y.x).2.e = 0 from fun e9 => by rw [e9] at hq45; cases hq45)
      rw [hn1] at hP
      have hn0 : n33 = 0 := by have := hs35.len; rw [hn2] at this; simpa using this.symm
      refine Zbd (fun v => Rw g38 v (tdc (.slice a32 n33 c34) (callP (knP ns []) t y.z y.k y.x).2.b (callP (knP ns []) t y.z y.k y.x).2.e (callP (knP ns []) t y.z y.k y.x).2.d) 34 ∧ Rw g20 v (B8 (rtP t)) 23) (by kernel_rfl) (⟨hr44, hr26⟩) ?_
      replace hB := hB.go (Below.refl _ _).drew
      replace hP := hP.go (Below.refl _ _).drew
      replace hky := hky.go (Below.refl _ _).drew
      replace hvy := hvy.go (Below.refl _ _).drew
      replace hr16 := hr16.go (Below.refl _ _).drew
      replace hr26 := hr26.go (Below.refl _ _).drew
      replace hQ := hQ.go (Below.refl _ _).drew
      replace hs35 := hs35.go (Below.refl _ _).drew
      replace hr44 := hr44.go (Below.refl _ _).drew
      refine dt 0 42 (.pointer (some ⟨g38, 0, none⟩)) (fun v hv _ => by kernel_rfl) ⟨hr44, hr26⟩ ?_
      refine dt 1 43 (.slice a32 n33 c34) (fun v hv _ => Zag 29 _ ⟨g38, 0, none⟩ _ _ rfl (by kernel_rfl) (by rw [cell_of_row _ _ _ _ _ _ hv.1]; exact tdc0) Tryz.underlying29 rfl) ⟨hr44, hr26⟩ ?_
      refine dt 2 44 (.int .i64 n33) (fun v hv _ => by kernel_rfl) ⟨hr44, hr26⟩ ?_
      refine dt 3 45 (.bool false) (fun v hv => (fun _ => Zal (v := .bool (!((n33 : Int) == (0 : Int)))) (by kernel_rfl) (congrArg Value.bool (by rw [hn0]; rfl)))) ⟨hr44, hr26⟩ ?_
      refine dt 4 46 (.bool false) (fun v hv _ => by kernel_rfl) ⟨hr44, hr26⟩ ?_
      refine dt 5 47 (.pointer (some ⟨g38, 1, none⟩)) (fun v hv _ => by kernel_rfl) ⟨hr44, hr26⟩ ?_
      refine dt 6 48 (.bool false) (fun v hv _ => Zal (Zag 4 _ ⟨g38, 1, none⟩ _ _ rfl (by kernel_rfl) (by rw [cell_of_row _ _ _ _ _ _ hv.1]; exact tdc1) Tryz.underlying4 rfl) (congrArg Value.bool hn3)) ⟨hr44, hr26⟩ ?_
      refine dt 7 49 (.bool false) (fun v hv _ => by kernel_rfl) ⟨hr44, hr26⟩ ?_
      refine dt 8 50 (.bool false) (fun v hv _ => by kernel_rfl) ⟨hr44, hr26⟩ ?_
      refine dt 9 51 (.pointer (some ⟨g, 0, none⟩)) (fun v hv _ => by kernel_rfl) ⟨hr44, hr26⟩ ?_
      refine dt 11 53 (.agg (B8 (rtP t))) (fun v hv _ => Za2 23 _ _ _ _ _ _ rfl (by kernel_rfl) hv.2 Tryz.underlying23 rfl (Zbm hrl)) ⟨hr44, hr26⟩ ?_
      refine Zas [10] (by kernel_rfl) (by simp) ?_
      refine Za5 10 52 11 #[.pointer (some ⟨g, 0, none⟩)] rfl (fun _ => by kernel_rfl) (fun _ => by kernel_rfl) (R := RVl w41.drew (.agg (B8 (rtP t)))) (Zeq hP) (fun u w' h9 => ⟨hr44.go h9.2, hr26.go h9.2⟩) ?_ Zaz
      rintro _ w46 ⟨rfl, hb47⟩
      replace hB := hB.go hb47
      replace hP := hP.go hb47
      replace hky := hky.go hb47
      replace hvy := hvy.go hb47
      replace hr16 := hr16.go hb47
      replace hr26 := hr26.go hb47
      replace hQ := hQ.go hb47
      replace hs35 := hs35.go hb47
      replace hr44 := hr44.go hb47
      refine dt 12 54 (.bool false) (fun v hv _ => Zal (Zpi (xs := rtP t) (ys := rtP t) rfl (by kernel_rfl) (by kernel_rfl) hrl hrl) (congrArg Value.bool (by simp))) ⟨hr44, hr26⟩ ?_
      refine dt 13 55 (.bool false) (fun v hv _ => by kernel_rfl) ⟨hr44, hr26⟩ ?_
      refine Za6 (by kernel_rfl) ?_
      refine Zab ?_
      refine Zaf (fun _ => by kernel_rfl) ?_
      refine Zam ?_
      refine Zab ?_
      refine Zac ?_
      refine Zaa ?_
      refine rp 56 (.slice aS ms cs) ?_
      refine rp 57 (.int .i64 ms) ?_
      refine rp 58 (.int .i64 0) ?_
      refine Zad ?_
      refine Zab ?_
      refine Zan ?_
      refine Zb8 (X := Nat) (fun x => [(58, .int .i64 ((x : Nat) : Int)), (57, .int .i64 ms), (56, .slice aS ms cs), (11, .pointer (some ⟨gQ, 0, none⟩)), (26, .int .i64 ((j : Nat) : Int)), (25, .int .i64 ms), (24, .slice aS ms cs), (7, .pointer (some ⟨g, 0, none⟩)), (2, .slice aS ms cs), (6, .bool false)]) (fun x v => Bl w v ∧ x ≤ ms ∧ (∃ us, PAt v g gK gU t (knP ns []) us) ∧ ∃ us, PAt v gQ gK gV t (knP ns []) us) (fun x => ms - x) 0 (by exact ⟨fun _ => by kernel_rfl, ⟨fun _ => by kernel_rfl, ⟨fun _ => by kernel_rfl, ⟨fun _ => by kernel_rfl, ⟨fun _ => by kernel_rfl, ⟨fun _ => by kernel_rfl, ⟨fun _ => by kernel_rfl, ⟨fun _ => by kernel_rfl, ⟨fun _ => by kernel_rfl, ⟨fun _ => by kernel_rfl, trivial⟩⟩⟩⟩⟩⟩⟩⟩⟩⟩) ⟨hB, Nat.zero_le _, ⟨_, hP⟩, ⟨_, hQ⟩⟩ ?_
      clear hB hP hQ hky hvy hr16 hr26 hr44
      rintro i v2 ⟨hB, hi, ⟨us2, hP⟩, ⟨us3, hQ⟩⟩
      show CW _ _ _ _ _ _ _ [(58, .int .i64 ((i : Nat) : Int)), (57, .int .i64 ms), (56, .slice aS ms cs), (11, .pointer (some ⟨gQ, 0, none⟩)), (26, .int .i64 ((j : Nat) : Int)), (25, .int .i64 ms), (24, .slice aS ms cs), (7, .pointer (some ⟨g, 0, none⟩)), (2, .slice aS ms cs), (6, .bool false)] _
      by_cases hlti : i < ms
      · skip
        obtain ⟨x2, gs2, off2, has2, hrng2, hkx2, hvx2⟩ := hO.one hB hlti
        have hcl2 : (callP (knP ns []) t x2.z x2.k x2.x).2.d.length = 32 := by obtain ⟨vt, _, htt⟩ := hP.row; exact Zkd htt _ _ _
        refine Zac ?_
        refine Zaa ?_
        refine rv 59 (.bool true) (fun _ => Zal (v := .bool (decide (((i : Nat) : Int) < (ms : Int)))) (by kernel_rfl) (congrArg Value.bool (decide_eq_true (by omega)))) ?_
        refine Zad ?_
        refine Zab ?_
        refine Zac ?_
        refine Zai (fun _ => by kernel_rfl) ?_
        refine Zam ?_
        refine Zab ?_
        refine Zac ?_
        refine Zan ?_
        refine Zac ?_
        refine Zaa ?_
        refine rv 60 (.pointer (some ⟨gs2, off2 + i * 3, none⟩)) (fun _ => Za0 25 _ _ gs2 off2 i ms cs 3 31 rfl (by rw [← has2]; kernel_rfl) (by kernel_rfl) hlti Tryz.underlying25 (by kernel_rfl)) ?_
        refine rv 61 (.agg #[.int .i64 x2.z, .slice x2.ka x2.kn x2.kc, .slice x2.va x2.vn x2.vc]) (fun _ => Zb2 31 _ _ _ _ _ rfl (by kernel_rfl) hrng2 Tryz.underlying31 rfl (by kernel_rfl)) ?_
        refine Zar 14 (#[.int .i64 0, .slice none 0 0, .slice none 0 0]) 31 (fun _ => by kernel_rfl) (fun _ => by kernel_rfl) ?_
        intro w48 g49 hn50
        have hr51 : Rw g49 w48 (#[.int .i64 0, .slice none 0 0, .slice none 0 0]) 31 := hn50.row
        refine Zav g49 (#[.int .i64 x2.z, .slice x2.ka x2.kn x2.kc, .slice x2.va x2.vn x2.vc]) (fun _ => by kernel_rfl) (fun _ => Zao 31 _ _ _ _ _ 31 rfl (by kernel_rfl) (by kernel_rfl) hr51 (by kernel_rfl) (by kernel_rfl) (by kernel_rfl)) ?_
        intro w52 hp53
        replace hn50 := hn50.put hp53
        clear hr51
        have hlgg49 : g < g49 := by have := hP.lt; have := hn50.hg; omega
        have hlgKg49 : gK < g49 := by have := hP.km.lt; have := hn50.hg; omega
        have hlgUg49 : gU < g49 := by have := hP.um.lt; have := hn50.hg; omega
        have hlgQg49 : gQ < g49 := by have := hQ.lt; have := hn50.hg; omega
        have hlgVg49 : gV < g49 := by have := hQ.um.lt; have := hn50.hg; omega
        have hzg49 : w.heap.size ≤ g49 := by have := hB.size; have := hn50.hg; omega
        replace hB := hB.go hn50.below
        replace hP := hP.go hn50.below
        replace hQ := hQ.go hn50.below
        replace hkx2 := hkx2.go hn50.below
        replace hvx2 := hvx2.go hn50.below
        have hr55 : Rw g49 w52 (#[.int .i64 x2.z, .slice x2.ka x2.kn x2.kc, .slice x2.va x2.vn x2.vc]) 31 := hn50.row
        refine Zad ?_
        refine Zab ?_
        refine Zac ?_
        refine Zbd (fun v => Rw g49 v (#[.int .i64 x2.z, .slice x2.ka x2.kn x2.kc, .slice x2.va x2.vn x2.vc]) 31) (by kernel_rfl) (hr55) ?_
        replace hB := hB.go (Below.refl _ _).drew
        replace hP := hP.go (Below.refl _ _).drew
        replace hQ := hQ.go (Below.refl _ _).drew
        replace hkx2 := hkx2.go (Below.refl _ _).drew
        replace hvx2 := hvx2.go (Below.refl _ _).drew
        replace hr55 := hr55.go (Below.refl _ _).drew
        refine dt 0 62 (.pointer (some ⟨g49, 0, none⟩)) (fun v hv _ => by kernel_rfl) hr55 ?_
        refine dt 1 63 (.int .i64 x2.z) (fun v hv _ => Zag 3 _ ⟨g49, 0, none⟩ _ _ rfl (by kernel_rfl) (by rw [cell_of_row _ _ _ _ _ _ hv]; rfl) Tryz.underlying3 rfl) hr55 ?_
        refine dt 2 64 (.bool ((x2.z : Int) == (0 : Int))) (fun v hv _ => by kernel_rfl) hr55 ?_
        refine dt 3 65 (.bool ((x2.z : Int) == (0 : Int))) (fun v hv _ => by kernel_rfl) hr55 ?_
        cases hq56 : ((x2.z : Int) == (0 : Int)) with
        | true =>
          refine dt 4 66 (.pointer (some ⟨g, 0, none⟩)) (fun v hv _ => by kernel_rfl) hr55 ?_
          refine dt 5 67 (.agg (#[.int .i64 x2.z, .slice x2.ka x2.kn x2.kc, .slice x2.va x2.vn x2.vc])) (fun v hv _ => Za2 31 _ _ _ _ _ _ rfl (by kernel_rfl) hv Tryz.underlying31 rfl (by kernel_rfl)) hr55 ?_
          refine dt 7 69 (.pointer (some ⟨gQ, 0, none⟩)) (fun v hv _ => by kernel_rfl) hr55 ?_
          refine dt 8 70 (.agg (#[.int .i64 x2.z, .slice x2.ka x2.kn x2.kc, .slice x2.va x2.vn x2.vc])) (fun v hv _ => Za2 31 _ _ _ _ _ _ rfl (by kernel_rfl) hv Tryz.underlying31 rfl (by kernel_rfl)) hr55 ?_
          refine Zas [6] (by kernel_rfl) (by simp) ?_
          refine Za5 6 68 8 #[.pointer (some ⟨g, 0, none⟩), .agg (#[.int .i64 x2.z, .slice x2.ka x2.kn x2.kc, .slice x2.va x2.vn x2.vc])] rfl (fun _ => by kernel_rfl) (fun _ => by kernel_rfl) (R := RCa w52.drew g gK gU (knP ns []) (callP (knP ns []) t x2.z x2.k x2.x)) (Zg0 hP hkx2 hvx2) (fun u w' h9 => hr55.t2 h9.2.2 (by omega) (by omega)) ?_ Zaz
          rintro _ w57 ⟨⟨us58, hP59⟩, ⟨a60, n61, c62, rfl, hs63⟩, hT64⟩
          have hlenhP59 := hP59
          replace hB := hB.t2 hT64 hzg.1 hzg.2.2
          replace hQ := hQ.t2 hT64 (by omega) (by omega)
          replace hkx2 := hkx2.nt hT64.n
          replace hvx2 := hvx2.nt hT64.n
          replace hr55 := hr55.t2 hT64 (by omega) (by omega)
          replace hP := hP59
          clear hlenhP59
          rw [Zke (show x2.z = 0 by simpa using hq56)] at hP
          refine Zas [9] (by kernel_rfl) (by simp) ?_
          refine Za5 9 71 8 #[.pointer (some ⟨gQ, 0, none⟩), .agg (#[.int .i64 x2.z, .slice x2.ka x2.kn x2.kc, .slice x2.va x2.vn x2.vc])] rfl (fun _ => by kernel_rfl) (fun _ => by kernel_rfl) (R := RCa w57 gQ gK gV (knP ns []) (callP (knP ns []) t x2.z x2.k x2.x)) (Zg0 hQ hkx2 hvx2) (fun u w' h9 => hr55.t2 h9.2.2 (by omega) (by omega)) ?_ Zaz
          rintro _ w65 ⟨⟨us66, hP67⟩, ⟨a68, n69, c70, rfl, hs71⟩, hT72⟩
          have hlenhP67 := hP67
          replace hB := hB.t2 hT72 hzQ.1 hzQ.2
          replace hP := hP.t2 hT72 (by omega) (by omega)
          replace hkx2 := hkx2.nt hT72.n
          replace hvx2 := hvx2.nt hT72.n
          replace hr55 := hr55.t2 hT72 (by omega) (by omega)
          replace hs63 := hs63.nt hT72.n
          replace hQ := hP67
          clear hlenhP67
          rw [Zke (show x2.z = 0 by simpa using hq56)] at hQ
          refine Zas [10] (by kernel_rfl) (by simp) ?_
          refine Za5 10 72 10 #[.agg (tdc (.slice a60 n61 c62) (callP (knP ns []) t x2.z x2.k x2.x).2.b (callP (knP ns []) t x2.z x2.k x2.x).2.e (callP (knP ns []) t x2.z x2.k x2.x).2.d), .agg (tdc (.slice a68 n69 c70) (callP (knP ns []) t x2.z x2.k x2.x).2.b (callP (knP ns []) t x2.z x2.k x2.x).2.e (callP (knP ns []) t x2.z x2.k x2.x).2.d)] rfl (fun _ => by kernel_rfl) (fun _ => by kernel_rfl) (R := RVl w65 (.bool true)) (Znj (r := (callP (knP ns []) t x2.z x2.k x2.x).2) ⟨_, _, _, rfl, hs63⟩ ⟨_, _, _, rfl, hs71⟩ hcl2) (fun u w' h9 => hr55.go h9.2) ?_ Zaz
          rintro _ w73 ⟨rfl, hb74⟩
          replace hB := hB.go hb74
          replace hP := hP.go hb74
          replace hQ := hQ.go hb74
          replace hkx2 := hkx2.go hb74
          replace hvx2 := hvx2.go hb74
          replace hr55 := hr55.go hb74
          replace hs63 := hs63.go hb74
          replace hs71 := hs71.go hb74
          refine dt 11 73 (.bool false) (fun v hv _ => by kernel_rfl) hr55 ?_
          refine dt 12 74 (.bool false) (fun v hv _ => by kernel_rfl) hr55 ?_
          refine Za6 (by kernel_rfl) ?_
          refine Zab ?_
          refine Zaf (fun _ => by kernel_rfl) ?_
          refine Zam ?_
          refine Zau ?_
          refine Zab ?_
          refine Zaa ?_
          refine rv 75 (.int .i64 ((i + 1 : Nat) : Int)) (fun _ => Zal (v := .int .i64 (IntKind.i64.wrap (((i : Nat) : Int) + (1 : Int)))) (by kernel_rfl) (congrArg (Value.int .i64) ((Zbc (by omega) (by omega)).trans (by omega)))) ?_
          refine rp 58 (.int .i64 ((i + 1 : Nat) : Int)) ?_
          refine Zad ?_
          exact Za7 (E := fun x => [(58, .int .i64 ((x : Nat) : Int)), (57, .int .i64 ms), (56, .slice aS ms cs), (11, .pointer (some ⟨gQ, 0, none⟩)), (26, .int .i64 ((j : Nat) : Int)), (25, .int .i64 ms), (24, .slice aS ms cs), (7, .pointer (some ⟨g, 0, none⟩)), (2, .slice aS ms cs), (6, .bool false)]) (R := fun x v => Bl w v ∧ x ≤ ms ∧ (∃ us, PAt v g gK gU t (knP ns []) us) ∧ ∃ us, PAt v gQ gK gV t (knP ns []) us) (μ := fun x => ms - x) (x := i) (i + 1) (by exact ⟨fun _ => by kernel_rfl, ⟨fun _ => by kernel_rfl, ⟨fun _ => by kernel_rfl, ⟨fun _ => by kernel_rfl, ⟨fun _ => by kernel_rfl, ⟨fun _ => by kernel_rfl, ⟨fun _ => by kernel_rfl, ⟨fun _ => by kernel_rfl, ⟨fun _ => by kernel_rfl, ⟨fun _ => by kernel_rfl, trivial⟩⟩⟩⟩⟩⟩⟩⟩⟩⟩) ⟨hB, by omega, ⟨_, hP⟩, ⟨_, hQ⟩⟩ (by omega)
        | false =>
          refine df 4 66 hr55 ?_
          refine df 5 67 hr55 ?_
          refine df 6 68 hr55 ?_
          refine df 7 69 hr55 ?_
          refine df 8 70 hr55 ?_
          refine df 9 71 hr55 ?_
          refine df 10 72 hr55 ?_
          refine df 11 73 hr55 ?_
          refine dt 12 74 (.bool false) (fun v hv _ => by kernel_rfl) hr55 ?_
          refine Za6 (by kernel_rfl) ?_
          refine Zab ?_
          refine Zaf (fun _ => by kernel_rfl) ?_
          refine Zam ?_
          refine Zau ?_
          refine Zab ?_
          refine Zaa ?_
          refine rv 75 (.int .i64 ((i + 1 : Nat) : Int)) (fun _ => Zal (v := .int .i64 (IntKind.i64.wrap (((i : Nat) : Int) + (1 : Int)))) (by kernel_rfl) (congrArg (Value.int .i64) ((Zbc (by omega) (by omega)).trans (by omega)))) ?_
          refine rp 58 (.int .i64 ((i + 1 : Nat) : Int)) ?_
          refine Zad ?_
          exact Za7 (E := fun x => [(58, .int .i64 ((x : Nat) : Int)), (57, .int .i64 ms), (56, .slice aS ms cs), (11, .pointer (some ⟨gQ, 0, none⟩)), (26, .int .i64 ((j : Nat) : Int)), (25, .int .i64 ms), (24, .slice aS ms cs), (7, .pointer (some ⟨g, 0, none⟩)), (2, .slice aS ms cs), (6, .bool false)]) (R := fun x v => Bl w v ∧ x ≤ ms ∧ (∃ us, PAt v g gK gU t (knP ns []) us) ∧ ∃ us, PAt v gQ gK gV t (knP ns []) us) (μ := fun x => ms - x) (x := i) (i + 1) (by exact ⟨fun _ => by kernel_rfl, ⟨fun _ => by kernel_rfl, ⟨fun _ => by kernel_rfl, ⟨fun _ => by kernel_rfl, ⟨fun _ => by kernel_rfl, ⟨fun _ => by kernel_rfl, ⟨fun _ => by kernel_rfl, ⟨fun _ => by kernel_rfl, ⟨fun _ => by kernel_rfl, ⟨fun _ => by kernel_rfl, trivial⟩⟩⟩⟩⟩⟩⟩⟩⟩⟩) ⟨hB, by omega, ⟨_, hP⟩, ⟨_, hQ⟩⟩ (by omega)
      refine Zac ?_
      refine Zaa ?_
      refine rv 59 (.bool false) (fun _ => Zal (v := .bool (decide (((i : Nat) : Int) < (ms : Int)))) (by kernel_rfl) (congrArg Value.bool (decide_eq_false (by omega)))) ?_
      refine Zad ?_
      refine Zab ?_
      refine Zac ?_
      refine Zaf (fun _ => by kernel_rfl) ?_
      refine Zb1 ?_
      refine Zat ?_
      refine Zat ?_
      refine Za1 ?_
      refine Zau ?_
      refine Zab ?_
      refine Zaa ?_
      refine rv 76 (.int .i64 ((j + 1 : Nat) : Int)) (fun _ => Zal (v := .int .i64 (IntKind.i64.wrap (((j : Nat) : Int) + (1 : Int)))) (by kernel_rfl) (congrArg (Value.int .i64) ((Zbc (by omega) (by omega)).trans (by omega)))) ?_
      refine rp 26 (.int .i64 ((j + 1 : Nat) : Int)) ?_
      refine Zad ?_
      exact Za7 (E := fun x => [(26, .int .i64 ((x.1 : Nat) : Int)), (25, .int .i64 ms), (24, .slice aS ms cs), (7, .pointer (some ⟨g, 0, none⟩)), (2, .slice aS ms cs), (6, .bool false)]) (R := fun x v => Bl w v ∧ x.1 ≤ ms ∧ ∃ us, PAt v g gK gU x.2 (knP ns []) us) (μ := fun x => ms - x.1) (x := (j, t)) (j + 1, t) (by exact ⟨fun _ => by kernel_rfl, ⟨fun _ => by kernel_rfl, ⟨fun _ => by kernel_rfl, ⟨fun _ => by kernel_rfl, ⟨fun _ => by kernel_rfl, ⟨fun _ => by kernel_rfl, trivial⟩⟩⟩⟩⟩⟩) ⟨hB, by simp only; omega, ⟨_, hP⟩⟩ (by simp only; omega)
  refine Zac ?_
  refine Zaa ?_
  refine rv 27 (.bool false) (fun _ => Zal (v := .bool (decide (((j : Nat) : Int) < (ms : Int)))) (by kernel_rfl) (congrArg Value.bool (decide_eq_false (by omega)))) ?_
  refine Zad ?_
  refine Zab ?_
  refine Zac ?_
  refine Zaf (fun _ => by kernel_rfl) ?_
  refine Zb1 ?_
  refine Zat ?_
  refine Zat ?_
  refine Za1 ?_
  refine Zab ?_
  refine Zac ?_
  refine Zaa ?_
  refine rp 6 (.bool true) ?_
  refine Zad ?_
  refine Zab ?_
  refine Zap ?_
  refine Zae (.bool true) (fun _ => by kernel_rfl) ?_
  exact ⟨_, rfl, rfl, hB⟩
theorem Zqd (d : List Int) (a : Option Addr) (n c : Nat) (ns : List (List Int)) (aS : Option Addr) (ms cs : Nat) (xs : List Opx) (w : World) (hd : d.length = 32) (hdb : isB d) (hN : NsA w a n c ns) (hn : n ≤ 9223372036854775807) (hO : OAt w aS ms xs) (hms : ms ≤ 2520000000000) :
    Calls Tryz.prog 5 #[.agg (B8 d), .slice a n c, .slice aS ms cs] w fun e w' => e = .returned (.bool true) ∧ Below w.heap.size w w' :=
  (Zv1 hd hdb hN hn hO hms).mono (fun e w' ⟨u, e1, e2, e3⟩ => ⟨by rw [e1, e2], e3⟩)
end Go.Proofs.YtchgejomcgoaeaaGreat
namespace Go.Proofs.YtchgejomcgoaeaaGreat
open Go.ChangeShapes Go.WideShapes Go.ChangeAt Go.RowKit
open Go.ChangeMaps (open_string shut_string)
theorem own : ownKnob Tryz.prog.godebug = none := by kernel_rfl
theorem Zk2 : laidOutB Tryz.prog = true := by kernel_rfl
theorem Zue : Tryz.prog.cellsOf 5 = 1 := by kernel_rfl
theorem Zyn : Tryz.prog.bytesOf 5 = 1 := by kernel_rfl
end Go.Proofs.YtchgejomcgoaeaaGreat
namespace Go.Proofs.YtchgejomcgoaeaaGreat
open Go.ChangeShapes Go.WideShapes Go.ChangeAt Go.RowKit
variable {H : Type} {d : DataW H} {w : World} {r : Reach} {base b0 : Nat} {held : Bool} {p : List MemPlace}
theorem Zqu : Tryz.prog.cellsOf 31 = 3 := by kernel_rfl
theorem Zym : Tryz.prog.cellsOf 3 = 1 := by kernel_rfl
theorem Zwj : Tryz.prog.bytesOf 31 = 56 := by kernel_rfl
theorem Zyl : Tryz.prog.cellsOf 23 = 32 := by kernel_rfl
theorem Zqv : Tryz.prog.cellsOf 29 = 1 := by kernel_rfl
section
variable {H : Type} {enc : TypeId × Value → H} {w : World} {held : Bool}
theorem Zio {fuel : Nat} {cs : List Value} {x : DataW H × List MemPlace} (hf : DataW.trod enc Tryz.prog w 0 (fun _ => true) held fuel 29 cs = some x)
    (hsz : ∀ n ∈ x.1.weights Tryz.prog 29, n ≤ reachBytes) : ∃ a len cap bs, cs = [.slice a len cap] ∧ Ag w a len cap bs ∧ len ≤ 140737488351232 := by
  rcases open_ints Tryz.underlying29 Tryz.underlying5 Zue hf with ⟨hcs, _⟩ | ⟨p, len, cap, zs, hcs, _, hl, hm, hz, hx, hcell, hwz⟩
  · exact ⟨none, 0, 0, [], hcs, ⟨.inl ⟨rfl, rfl⟩, fun _ => ⟨rfl, rfl⟩, rfl, fun x hx => by cases hx⟩, by omega⟩
  · have hz2 : zs.length = cap := by simpa using hz
    have hsz2 := hsz ((zs.take len).length + (zs.drop len).length) (by
      rw [hx]
      simp only [DataW.weights, Tryz.underlying29, lits, List.length_map, Zyn, Nat.mul_one]
      exact List.mem_cons_self ..)
    simp only [List.length_take, List.length_drop, reachBytes] at hsz2
    have hlen : (zs.take len).length = len := by rw [List.length_take]; omega
    have hbd : ∀ n ∈ zs.take len, 0 ≤ n ∧ n < 256 := fun n hn => by
      have := bounds_u8 (hwz n (List.mem_of_mem_take hn))
      omega
    refine ⟨some p, len, cap, zs.take len, hcs, ⟨?_, (fun h => by cases h), hlen, hbd⟩, by omega⟩
    by_cases h0 : len = 0
    · subst h0
      exact .inl ⟨rfl, by simp⟩
    · obtain ⟨b, off, spot⟩ := p
      have hc := hcell 0 (by omega)
      have hspot : spot = none := by simpa [Addr.add] using World.cell?_spot hc
      subst hspot
      refine .inr ⟨b, off, rfl, hlen, by omega, hl, hm, fun j hj => ?_⟩
      rw [hlen] at hj
      have := hcell j (by omega)
      rw [Zbb] at this
      rw [this, List.getD, List.getD, List.getElem?_take_of_lt hj]
theorem Zd9 {e : TypeId} : ∀ {ds : List (DataW H)} {d : DataW H}, d ∈ ds → ∀ n ∈ d.weights Tryz.prog e, n ∈ DataW.weightsAll Tryz.prog e ds
  | [], d, h, _, _ => by cases h
  | d0 :: r, d, h, n, hn => by
    rw [DataW.weightsAll, List.mem_append]
    rcases List.mem_cons.1 h with rfl | h
    · exact .inl hn
    · exact .inr (Zd9 h n hn)
end
theorem Zlp {ts : List TypeId} {ds : List (DataW H)} (h : (DataW.weightsEach Tryz.prog ts ds).all (· ≤ reachBytes) = true) {j : Nat} {t : TypeId} (ht : ts[j]? = some t) (hd : ds[j]? = some d) : ∀ n ∈ d.weights Tryz.prog t, n ≤ reachBytes := by
  intro n hn
  have := List.all_eq_true.1 h n (DataW.weights_mem_each ht hd n hn)
  simpa using this
theorem Znd {P : Program} {t n e : TypeId} {v : Value} (ht : P.underlying t = some (.array n e)) (h : Value.okWide P w r base t v) : ∃ cs, v = .agg cs ∧ cs.size = P.cellsOf t := by
  simp only [Value.okWide, ht] at h
  obtain ⟨cs, h1, h2, _⟩ := h
  exact ⟨cs, h1, h2⟩
theorem Zsj {enc : TypeId × Value → H} {spare : Nat → Bool} {v : Value}
    (hv : Value.okWide Tryz.prog w r b0 23 v) (h : DataW.Trod enc Tryz.prog w base spare held 23 v d p) : ∃ xs : List Int, v = .agg (B8 xs) ∧ xs.length = 32 ∧ ∀ x ∈ xs, 0 ≤ x ∧ x < 256 := by
  obtain ⟨cs, rfl, hsz⟩ := Znd Tryz.underlying23 hv
  rw [Zyl] at hsz
  obtain ⟨fuel, hf⟩ := h
  obtain ⟨ys, m, _, _, hlen, hyl, hel⟩ := DataW.trod_array Tryz.underlying23 hf
  have hc : ∀ i, i < 32 → ∃ n : Int, cs.toList[i]? = some (.int .u8 n) ∧ 0 ≤ n ∧ n < 256 := by
    intro i hi
    have hy : i < ys.length := by omega
    have e := hel i hi
    rw [Zue, List.getElem?_eq_getElem hy, Nat.mul_one] at e
    obtain ⟨n, hn, _, hwf⟩ := DataW.trod_int Tryz.underlying5 e
    have hcells : (Value.agg cs).cells.toList = cs.toList := by simp [Value.cells]
    rw [hcells] at hn
    have h0 : ((cs.toList.drop i).take 1)[0]? = some (.int .u8 n) := by rw [hn]; rfl
    rw [List.getElem?_take_of_lt (by omega), List.getElem?_drop] at h0
    exact ⟨n, by simpa using h0, by have := bounds_u8 hwf; omega, by have := bounds_u8 hwf; omega⟩
  refine ⟨cs.toList.map fun v => match v with | .int _ n => n | _ => 0, ?_, by simp [hsz], ?_⟩
  · congr 1
    apply Array.ext'
    unfold B8
    apply List.ext_getElem
    · simp
    · intro i h1 h2
      obtain ⟨n, hn, _⟩ := hc i (by simpa [hsz] using h1)
      have e := (List.getElem?_eq_some_iff.1 hn).2
      simp only [List.getElem_map]
      rw [e]
  · intro x hx
    obtain ⟨v, hv, rfl⟩ := List.mem_map.1 hx
    obtain ⟨i, hi, he⟩ := List.mem_iff_getElem.1 hv
    obtain ⟨n, hn, h0, h1⟩ := hc i (by simpa [hsz] using hi)
    have e := (List.getElem?_eq_some_iff.1 hn).2
    rw [← he, e]
    exact ⟨h0, h1⟩
theorem Zvg {enc : TypeId × Value → H} {v : Value}
    (hv : Value.okWide Tryz.prog w r b0 24 v) (h : DataW.Trod enc Tryz.prog w 0 (fun _ => true) held 24 v d p)
    (hsz : ∀ n ∈ d.weights Tryz.prog 24, n ≤ reachBytes) : ∃ a m c M, v = .slice a m c ∧ NsA w a m c M ∧ m ≤ 9223372036854775807 := by
  obtain ⟨a0, len0, cap0, rfl⟩ := okWide_slice Tryz.underlying24 hv
  obtain ⟨fuel, hf⟩ := h
  rcases DataW.trod_slice Tryz.underlying24 hf with ⟨hcs, _⟩ | ⟨p, len, cap, elems, rest, n, hfu, hcs, hx, _, hl, hm, hlen, hel, hrl, _⟩
  · simp [Value.cells] at hcs
    obtain ⟨rfl, rfl, rfl⟩ := hcs
    exact ⟨none, 0, 0, [], rfl, ⟨rfl, fun j b hj => by simp at hj⟩, by omega⟩
  · simp [Value.cells] at hcs
    obtain ⟨rfl, rfl, rfl⟩ := hcs
    have hd : d = DataW.slice (elems.map (·.1)) (rest.map (·.1)) := congrArg Prod.fst hx
    rw [hd] at hsz
    have hw : (DataW.slice (elems.map (·.1)) (rest.map (·.1))).weights Tryz.prog 24 = ((elems.map (·.1)).length + (rest.map (·.1)).length) * Tryz.prog.bytesOf 29 :: (DataW.weightsAll Tryz.prog 29 (elems.map (·.1)) ++ DataW.weightsAll Tryz.prog 29 (rest.map (·.1))) := by
      simp only [DataW.weights, Tryz.underlying24]
    rw [hw] at hsz
    have hsz1 := hsz _ (List.mem_cons_self ..)
    rw [show Tryz.prog.bytesOf 29 = 24 from by kernel_rfl, List.length_map, List.length_map, hlen] at hsz1
    unfold reachBytes at hsz1
    have hthing : ∀ i, i < len0 → ∃ a' n' c' bs, w.cell? ((p.add (i * 1)).add 0) = some (.slice a' n' c') ∧ Ag w a' n' c' bs ∧ n' ≤ 140737488351232 := by
      intro i hi
      have he := hel i hi
      rw [Zqv, List.getElem?_eq_getElem (by omega), Option.bind_eq_some_iff] at he
      obtain ⟨cs', hc1, hc2⟩ := he
      obtain ⟨_, hc3, hc4⟩ := World.cells?_some hc1
      obtain ⟨a', n', c', bs, hs, hag, hle'⟩ := Zio hc2 (fun k hk => hsz k (List.mem_cons_of_mem _ (List.mem_append_left _ (Zd9 (List.mem_map_of_mem (List.getElem_mem _)) k hk))))
      refine ⟨a', n', c', bs, ?_, hag, hle'⟩
      have := hc4 0 (by omega)
      rw [hs] at this
      exact this
    have hall : ∀ d k, k + d = len0 → ∃ M : List (List Int), M.length = d ∧ ∀ j, j < d → ∃ a' n' c', w.cell? ((p.add ((k + j) * 1)).add 0) = some (.slice a' n' c') ∧ Ag w a' n' c' (M.getD j []) ∧ n' ≤ 140737488351232 := by
      intro d
      induction d with
      | zero => intro k _; exact ⟨[], rfl, fun j hj => by omega⟩
      | succ d ihd =>
        intro k hk
        obtain ⟨M, h1, h2⟩ := ihd (k + 1) (by omega)
        obtain ⟨a', n', c', bs, h3, h4, h4l⟩ := hthing k (by omega)
        refine ⟨bs :: M, by simp [h1], fun j hj => ?_⟩
        cases j with
        | zero => exact ⟨a', n', c', h3, by simpa using h4, h4l⟩
        | succ j =>
          obtain ⟨a2, n2, c2, h5, h6, h6l⟩ := h2 j (by omega)
          rw [show k + 1 + j = k + (j + 1) from by omega] at h5
          exact ⟨a2, n2, c2, h5, by simpa using h6, h6l⟩
    obtain ⟨M, h1, h2⟩ := hall len0 0 (by omega)
    refine ⟨some p, len0, cap0, M, rfl, ⟨h1.symm, fun j b hjb => ?_⟩, by omega⟩
    have hj : j < M.length := (List.getElem?_eq_some_iff.1 hjb).1
    obtain ⟨a', n', c', h5, h6, h6l⟩ := h2 j (by omega)
    rw [Nat.zero_add] at h5
    have hsp0 : p.spot = none := by
      obtain ⟨_, _, _, _, h7, _, _⟩ := hthing 0 (by omega)
      simpa [Addr.add] using World.cell?_spot h7
    obtain ⟨g, off, spot⟩ := p
    have hsp : spot = none := hsp0
    subst hsp
    rw [Zbb, Zbb] at h5
    rw [show M.getD j [] = b from by simp [List.getD, hjb]] at h6
    exact ⟨g, off, a', n', c', rfl, h5, Ag.sk h6, h6l⟩
section
variable {H : Type} {enc : TypeId × Value → H} {w : World} {held : Bool}
theorem Zr0 {cs : List Value} (h : cs.length = 3) : cs = (cs.drop 0).take 1 ++ ((cs.drop 1).take 1 ++ (cs.drop 2).take 1) := by
  match cs, h with
  | [a, b, c], _ => rfl
theorem Zsi {fuel : Nat} {cs : List Value} {x : DataW H × List MemPlace} (hf : DataW.trod enc Tryz.prog w 0 (fun _ => true) held fuel 31 cs = some x)
    (hsz : ∀ n ∈ x.1.weights Tryz.prog 31, n ≤ reachBytes) : ∃ y : Opx, cs = y.cells.toList ∧ Ag w y.ka y.kn y.kc y.k ∧ Ag w y.va y.vn y.vc y.x ∧ y.kn ≤ 140737488355328 ∧ y.vn ≤ 140737488355328 := by
  obtain ⟨xs, n, hfu, hx, hcl, hxl, hel⟩ := DataW.trod_struct Tryz.underlying31 hf
  rw [Zqu] at hcl
  have e0 := hel 0 _ rfl
  have e1 := hel 1 _ rfl
  have e2 := hel 2 _ rfl
  have hxl3 : xs.length = 3 := hxl
  obtain ⟨x0, x1, x2, rfl⟩ : ∃ x0 x1 x2, xs = [x0, x1, x2] := by
    match xs, hxl3 with
    | [a, b, c], _ => exact ⟨a, b, c, rfl⟩
  subst hx
  have f0 : DataW.trod enc Tryz.prog w 0 (fun _ => true) held n 3 ((cs.drop 0).take (Tryz.prog.cellsOf 3)) = some x0 := e0
  have f1 : DataW.trod enc Tryz.prog w 0 (fun _ => true) held n 29 ((cs.drop 1).take (Tryz.prog.cellsOf 29)) = some x1 := e1
  have f2 : DataW.trod enc Tryz.prog w 0 (fun _ => true) held n 29 ((cs.drop 2).take (Tryz.prog.cellsOf 29)) = some x2 := e2
  rw [Zym] at f0
  rw [Zqv] at f1
  rw [Zqv] at f2
  obtain ⟨k, hk, _, _⟩ := DataW.trod_int Tryz.underlying3 f0
  obtain ⟨a1, m1, c1, b1, hb1, hag1, hl1⟩ := Zio f1 (fun k hk => hsz k (by
    show k ∈ (DataW.agg [x0.1, x1.1, x2.1]).weights Tryz.prog 31
    simp only [DataW.weights, Tryz.underlying31]
    simp only [List.map, DataW.weightsEach, List.mem_append]
    exact .inr (.inl hk)))
  obtain ⟨a2, m2, c2, b2, hb2, hag2, hl2⟩ := Zio f2 (fun k hk => hsz k (by
    show k ∈ (DataW.agg [x0.1, x1.1, x2.1]).weights Tryz.prog 31
    simp only [DataW.weights, Tryz.underlying31]
    simp only [List.map, DataW.weightsEach, List.mem_append]
    exact .inr (.inr (.inl hk))))
  refine ⟨⟨k, a1, m1, c1, a2, m2, c2, b1, b2⟩, ?_, hag1, hag2, by show m1 ≤ _; omega, by show m2 ≤ _; omega⟩
  rw [Zr0 (cs := cs) hcl, hk, hb1, hb2]
  rfl
theorem Zpf {fuel : Nat} {cs : List Value} {x : DataW H × List MemPlace} (hf : DataW.trod enc Tryz.prog w 0 (fun _ => true) held fuel 25 cs = some x)
    (hsz : ∀ n ∈ x.1.weights Tryz.prog 25, n ≤ reachBytes) : ∃ a m c xs, cs = [.slice a m c] ∧ OAt w a m xs ∧ m ≤ 2520000000000 ∧ ∀ y ∈ xs, y.kn ≤ 140737488355328 ∧ y.vn ≤ 140737488355328 := by
  rcases DataW.trod_slice Tryz.underlying25 hf with ⟨hcs, _⟩ | ⟨p, len, cap, elems, rest, n, hfu, hcs, hx, _, hl, hm, hlen, hel, _, _⟩
  · exact ⟨none, 0, 0, [], hcs, ⟨rfl, fun j r hr => by simp at hr, (fun x hx => by cases hx), fun x hx => by cases hx⟩, by omega, fun x hx => by cases hx⟩
  · subst hx
    have hw : (DataW.slice (elems.map (·.1)) (rest.map (·.1))).weights Tryz.prog 25 = ((elems.map (·.1)).length + (rest.map (·.1)).length) * Tryz.prog.bytesOf 31 :: (DataW.weightsAll Tryz.prog 31 (elems.map (·.1)) ++ DataW.weightsAll Tryz.prog 31 (rest.map (·.1))) := by
      simp only [DataW.weights, Tryz.underlying25]
    have hszw : ∀ n ∈ (DataW.slice (elems.map (·.1)) (rest.map (·.1))).weights Tryz.prog 25, n ≤ reachBytes := hsz
    rw [hw] at hszw
    clear hsz
    have hsz1 := hszw _ (List.mem_cons_self ..)
    rw [Zwj, List.length_map, List.length_map, hlen] at hsz1
    unfold reachBytes at hsz1
    have hthing : ∀ i, i < len → ∃ y : Opx, (∀ k, k < 3 → w.cell? ((p.add (i * 3)).add k) = y.cells.toList[k]?) ∧ Ag w y.ka y.kn y.kc y.k ∧ Ag w y.va y.vn y.vc y.x ∧ y.kn ≤ 140737488355328 ∧ y.vn ≤ 140737488355328 := by
      intro i hi
      have he := hel i hi
      rw [Zqu, List.getElem?_eq_getElem (by omega), Option.bind_eq_some_iff] at he
      obtain ⟨cs', hc1, hc2⟩ := he
      obtain ⟨_, hc3, hc4⟩ := World.cells?_some hc1
      obtain ⟨y, hcs', hr⟩ := Zsi hc2 (fun k hk => hszw k (List.mem_cons_of_mem _ (List.mem_append_left _ (Zd9 (List.mem_map_of_mem (List.getElem_mem _)) k hk))))
      refine ⟨y, ?_, hr⟩
      rw [hcs'] at hc4
      exact hc4
    have hspot : 0 < len → p.spot = none := by
      intro h
      obtain ⟨y, hc, hr⟩ := hthing 0 h
      have c0 := hc 0 (by omega)
      rw [show y.cells.toList[0]? = some (.int .i64 y.z) from rfl] at c0
      simpa [Addr.add] using World.cell?_spot c0
    have hall : ∀ d k, k + d = len → ∃ ks : List Opx, ks.length = d ∧ (∀ j r, ks[j]? = some r → ∃ g off, (some p : Option Addr) = some ⟨g, off, none⟩ ∧ w.rangeAt g (off + (k + j) * 3) r.cells.toList) ∧ ∀ y ∈ ks, Ag w y.ka y.kn y.kc y.k ∧ Ag w y.va y.vn y.vc y.x ∧ y.kn ≤ 140737488355328 ∧ y.vn ≤ 140737488355328 := by
      intro d
      induction d with
      | zero => intro k _; exact ⟨[], rfl, (fun j r hr => by simp at hr), fun x hx => by cases hx⟩
      | succ d ihd =>
        intro k hk
        obtain ⟨ks, h1, h2, h3⟩ := ihd (k + 1) (by omega)
        obtain ⟨y, hc, hr⟩ := hthing k (by omega)
        refine ⟨y :: ks, by rw [List.length_cons, h1], fun j s hs => ?_, fun x hx => ?_⟩
        · cases j with
          | zero =>
            simp at hs
            subst hs
            obtain ⟨g, off, spot⟩ := p
            have hsp : spot = none := hspot (by omega)
            subst hsp
            refine ⟨g, off, rfl, fun i u hu => ?_⟩
            have hi : i < 3 := (List.getElem?_eq_some_iff.1 hu).1
            have := hc i hi
            rw [Zbb, Zbb, hu] at this
            exact this
          | succ j =>
            obtain ⟨g, off, e, h3⟩ := h2 j s (by simpa using hs)
            rw [show k + 1 + j = k + (j + 1) from by omega] at h3
            exact ⟨g, off, e, h3⟩
        · rcases List.mem_cons.1 hx with rfl | hx
          · exact hr
          · exact h3 x hx
    obtain ⟨ks, h1, h2, h3⟩ := hall len 0 (by omega)
    refine ⟨some p, len, cap, ks, hcs, ⟨h1, fun j r hr => ?_, fun y hy => (h3 y hy).1, fun y hy => (h3 y hy).2.1⟩, by omega, fun y hy => (h3 y hy).2.2⟩
    obtain ⟨g, off, e, h3⟩ := h2 j r hr
    rw [Nat.zero_add] at h3
    exact ⟨g, off, e, h3⟩
end
theorem Zsh {enc : TypeId × Value → H} {v : Value}
    (hv : Value.okWide Tryz.prog w r b0 25 v) (h : DataW.Trod enc Tryz.prog w 0 (fun _ => true) held 25 v d p)
    (hsz : ∀ n ∈ d.weights Tryz.prog 25, n ≤ reachBytes) : ∃ a m c xs, v = .slice a m c ∧ OAt w a m xs ∧ m ≤ 2520000000000 ∧ ∀ y ∈ xs, y.kn ≤ 140737488355328 ∧ y.vn ≤ 140737488355328 := by
  obtain ⟨a, len, cap, rfl⟩ := okWide_slice Tryz.underlying25 hv
  obtain ⟨fuel, hf⟩ := h
  obtain ⟨a', m, c, xs, hcs, hx⟩ := Zpf hf hsz
  simp [Value.cells] at hcs
  obtain ⟨rfl, rfl, rfl⟩ := hcs
  exact ⟨_, _, _, xs, rfl, hx⟩
end Go.Proofs.YtchgejomcgoaeaaGreat
