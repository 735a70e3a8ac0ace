/- What head and Pack answer. -/
import Derived.Test.YtchgejomcgoaeaaGreatG32
import Derived.Test.YtchgejomcgoaeaaGreatG27
import Derived.Test.YtchgejomcgoaeaaGreatG30
set_option linter.unusedVariables false
set_option maxRecDepth 100000
namespace Go.Proofs.YtchgejomcgoaeaaGreat.Ni
open Go.RowKit
theorem Zl5 (w : World) (z : Int) : OwnB (w.alloc (.cells #[.int .u8 z] 5)) w.heap.size (.slice (some ⟨w.heap.size, 0, none⟩) 1 1) [z] :=
  ⟨rfl, .inr ⟨w.heap.size, 1, #[.int .u8 z], rfl, Nat.le_refl _, heap_alloc_new _ _, Nat.le_refl _, by unfold maxLen; omega, rfl, rfl⟩⟩
theorem Zl4 (w : World) (y z : Int) : OwnB (w.alloc (.cells #[.int .u8 y, .int .u8 z] 5)) w.heap.size (.slice (some ⟨w.heap.size, 0, none⟩) 2 2) [y, z] :=
  ⟨rfl, .inr ⟨w.heap.size, 2, #[.int .u8 y, .int .u8 z], rfl, Nat.le_refl _, heap_alloc_new _ _, Nat.le_refl _, by unfold maxLen; omega, rfl, rfl⟩⟩
theorem or_b1 : bits BinOp.or IntKind.u8 2 1 = 3 := by decide +kernel
theorem or_b0 : bits BinOp.or IntKind.u8 0 1 = 1 := by decide +kernel
set_option maxHeartbeats 400000 in
theorem Zs2 (n : Nat) (leaf : Bool) (w : World) (hn : n ≤ 140737488355328) :
    Calls Tryz.prog 119 #[.int .i64 n, .bool leaf] w fun e w' => (∃ v, e = .returned v ∧ OwnB w' w.heap.size v (hdP n leaf)) ∧ Below w.heap.size w w' := by
  have h1 := or_b1
  have h0 := or_b0
  unfold hdP
  by_cases he : n % 2 = 0
  · rw [if_pos he]
    have hei : (n : Int) % 2 = 0 := by omega
    clear he
    cases leaf with
    | true =>
      go_enter Tryz.func119, Tryz.ntmps119
      go_wp2_with fail
      go_ret
      exact ⟨⟨_, rfl, Zl4 _ _ _⟩, below_new _ _⟩
    | false =>
      go_enter Tryz.func119, Tryz.ntmps119
      go_wp2_with fail
      go_ret
      exact ⟨⟨_, rfl, Zl4 _ _ _⟩, below_new _ _⟩
  · rw [if_neg he]
    have hei : (n : Int) % 2 = 1 := by omega
    clear he
    cases leaf with
    | true =>
      go_enter Tryz.func119, Tryz.ntmps119
      go_wp2_with fail
      go_ret
      exact ⟨⟨_, rfl, Zl5 _ _⟩, below_new _ _⟩
    | false =>
      go_enter Tryz.func119, Tryz.ntmps119
      go_wp2_with fail
      go_ret
      exact ⟨⟨_, rfl, Zl5 _ _⟩, below_new _ _⟩
set_option maxHeartbeats 1000000 in
theorem pack_any (a : Option Addr) (n c : Nat) (p : List Int) (leaf : Bool) (w : World) (h : Ag w a n c p) (hn : n + 2 ≤ 140737488355328) :
    Calls Tryz.prog 99 #[.slice a n c, .bool leaf] w fun e w' => (∃ a' m, e = .returned (.tuple #[.slice a' m m, .int .i64 ((packP p leaf).2 : Nat)]) ∧ Ag w' a' m m (packP p leaf).1) ∧ Below w.heap.size w w' := by
  have hl := h.l
  have hhd := Zs2 n leaf w (by omega)
  have hpk := Zsf (p := p) (leaf := leaf)
  have hlen := hd_len n leaf
  have hfb := Zmk (p := p) (leaf := leaf) h.b
  rw [hl] at hpk hfb
  have hpp : packP p leaf = if rightP p = true then (kk (hdP n leaf ++ p), 0) else ([], 40) := by unfold packP; rw [hl]
  rw [hpp]
  clear hpp
  generalize hdP n leaf = hd at *
  obtain ⟨⟨r1, r2⟩, hr⟩ : ∃ r, (if rightP p = true then (kk (hd ++ p), 0) else (([] : List Int), 40)) = r := ⟨_, rfl⟩
  obtain ⟨⟨k1, k2⟩, hk⟩ : ∃ r, (if rightP p = true then (kk (hd ++ p), true) else (([] : List Int), false)) = r := ⟨_, rfl⟩
  rw [hr]
  rw [hk] at hpk
  simp only
  have HT : Hid (k2 = true → r1 = k1 ∧ r2 = 0) := Hid.mk (fun h => by
    by_cases hq : rightP p = true
    · rw [if_pos hq] at hr hk
      injection hr with e1 e2
      injection hk with e3 e4
      exact ⟨e1.symm.trans e3, e2.symm⟩
    · rw [if_neg hq] at hk
      injection hk with e3 e4
      rw [← e4] at h
      cases h)
  have HF : Hid (k2 = false → r1 = [] ∧ r2 = 40) := Hid.mk (fun h => by
    by_cases hq : rightP p = true
    · rw [if_pos hq] at hk
      injection hk with e3 e4
      rw [← e4] at h
      cases h
    · rw [if_neg hq] at hr
      injection hr with e1 e2
      exact ⟨e1.symm, e2.symm⟩)
  clear hr hk
  have HPK := Hid.mk hpk
  have HFB := Hid.mk hfb
  have HHD := Hid.mk hhd
  have HAG := Hid.mk h
  have HLEN : Hid (hd.length ≤ 2) := Hid.mk (by omega)
  have HL := Hid.mk hl
  clear hpk hfb hhd h hlen hl
  go_enter Tryz.func99, Tryz.ntmps99
  go_wp2_with fail
  refine HHD.out.mono ?_
  rintro e w1 ⟨⟨v, rfl, hown⟩, hb1⟩
  have HO := Hid.mk hown
  have HB1 := Hid.mk hb1
  clear hown hb1
  go_wp2_with (first | (at_builtin; refine Zq7 rfl (.tmp 12) (.tmp 13) rfl w.heap.size _ hd rfl HO.out a n c p rfl (HAG.out.at HB1.out).i HAG.out.nil HAG.out.l (by have := HLEN.out; omega) HB1.out.size ?_; intro v2 w2 o2 hb2; obtain ⟨a2, c2, rfl, hag2⟩ := OwnB.ag o2 HFB.out; have HB2 := Hid.mk (HB1.out.trans hb2); have HA2 := Hid.mk hag2; clear o2 hb2 hag2; generalize hgl : (hd ++ p).length = len2 at HA2 ⊢; have HGL := Hid.mk hgl; clear hgl))
  have hk := Zv0 a2 len2 c2 (hd ++ p) w2 HA2.out (by have h1 := HGL.out; rw [List.length_append, HL.out] at h1; have := HLEN.out; omega)
  rw [HPK.out] at hk
  simp only at hk
  have HK := Hid.mk hk
  clear hk
  cases k2 with
  | true =>
    obtain ⟨rfl, rfl⟩ := HT.out rfl
    refine HK.out.mono ?_
    rintro e w3 ⟨⟨a3, m3, rfl, hag3⟩, hb3⟩
    have HA3 := Hid.mk hag3
    have HB3 := Hid.mk (HB2.out.trans (hb3.mono HB2.out.size))
    clear hag3 hb3
    go_wp2_with fail
    go_ret2
    exact ⟨⟨a3, m3, rfl, HA3.out⟩, HB3.out⟩
  | false =>
    obtain ⟨rfl, rfl⟩ := HF.out rfl
    refine HK.out.mono ?_
    rintro e w3 ⟨⟨a3, m3, rfl, hag3⟩, hb3⟩
    have HB3 := Hid.mk (HB2.out.trans (hb3.mono HB2.out.size))
    clear hag3 hb3
    go_wp2_with fail
    go_ret2
    exact ⟨⟨none, 0, rfl, ag_nil _⟩, HB3.out⟩
end Go.Proofs.YtchgejomcgoaeaaGreat.Ni
namespace Go.Proofs.YtchgejomcgoaeaaGreat
open Go.RowKit
open Ni (packP)
variable {w w' : World} {base : Nat}
def two (p q : V) : Array Value := #[.bool p.l, .slice p.ba p.bn p.bc, .slice p.ia p.m p.ic, .bool q.l, .slice q.ba q.bn q.bc, .slice q.ia q.m q.ic]
section
variable {a : Act} {w : World}
theorem Zjm {x y : Operand} {o : Oper} (ho : o.op = .buildSlice 74 2 #[(0, x), (1, y)]) (p q : V) (hx : a.eval x = .agg #[.bool p.l, .slice p.ba p.bn p.bc, .slice p.ia p.m p.ic]) (hy : a.eval y = .agg #[.bool q.l, .slice q.ba q.bn q.bc, .slice q.ia q.m q.ic]) :
    (execOp a.eval o).run Tryz.prog w = .ok (.value (.slice (some ⟨w.heap.size, 0, none⟩) 2 2)) (w.alloc (.cells (two p q) 76)) := by
  unfold execOp
  rw [ho]
  simp only [List.map_toArray, List.map_cons, List.map_nil, hx, hy]
  go_simp
  rfl
theorem Zjk {x y : Operand} {o : Oper} (ho : o.op = .store 76 x y) (g : Nat) (p : V) (hx : a.eval x = .pointer (some ⟨g, 0, none⟩)) (hy : a.eval y = .agg #[.bool p.l, .slice p.ba p.bn p.bc, .slice p.ia p.m p.ic])
    (x0 : w.cell? ⟨g, 0, none⟩ = some (.bool false)) (x1 : w.cell? ⟨g, 1, none⟩ = some (.slice none 0 0)) (x2 : w.cell? ⟨g, 2, none⟩ = some (.slice none 0 0)) (xf : ∀ o, w.frozen? ⟨g, o, none⟩ = false) :
    (execOp a.eval o).run Tryz.prog w = .ok .skip (((w.setCell ⟨g, 0, none⟩ (.bool p.l)).setCell ⟨g, 1, none⟩ (.slice p.ba p.bn p.bc)).setCell ⟨g, 2, none⟩ (.slice p.ia p.m p.ic)) := by
  unfold execOp
  rw [ho]
  simp only [hx, hy]
  go_simp
end
theorem Zll {P : Nat → Prop} {t u : T} {p q : V} (hP : P w.heap.size) (hp : LiesP P w t p) (hq : LiesP P w u q) : LiesPAll P (w.alloc (.cells (two p q) 76)) [t, u] (some ⟨w.heap.size, 0, none⟩) 0 := by
  have hrow := heap_alloc_new w (.cells (two p q) 76)
  have hc : ∀ j, (w.alloc (.cells (two p q) 76)).cell? ⟨w.heap.size, j, none⟩ = (two p q)[j]? := fun j => cell_of_row _ _ _ _ _ _ hrow
  refine Zeh hP fun i s hs => ?_
  match i, hs with
  | 0, hs =>
    simp at hs
    subst hs
    exact ⟨p, hc 0, hc 1, hc 2, Zax (fun b hb hlt => ⟨heap_alloc_old _ _ hlt, hb⟩) _ _ hp⟩
  | 1, hs =>
    simp at hs
    subst hs
    exact ⟨q, hc 3, hc 4, hc 5, Zax (fun b hb hlt => ⟨heap_alloc_old _ _ hlt, hb⟩) _ _ hq⟩
  | k + 2, hs => simp at hs
theorem Zmn {fn : Func} {p : Tmp} (h : fn.results = #[.cell p 76]) {post : Ending → World → Prop} {Q : Exit → Act → World → Prop} {a : Act} (hQ : bodyPost Tryz.prog fn post .ret a w → Q .ret a w) (g : Nat) (y : V)
    (hp : a.tmps.getD p undef = .pointer (some ⟨g, 0, none⟩)) (hd : a.defers = []) (hg : w.heap[g]? = some (.cells #[.bool y.l, .slice y.ba y.bn y.bc, .slice y.ia y.m y.ic] 76)) (hpost : post (.returned (.agg #[.bool y.l, .slice y.ba y.bn y.bc, .slice y.ia y.m y.ic])) w) :
    Code.wp Tryz.prog .ret Q a w :=
  wp_ret (hQ <| bodyPost_ret (results_cell_row h _ _ g 76 _ (0, 0) _ hp hg Tryz.underlying76 rfl (by kernel_rfl)) hd hpost)
theorem Zmb (hb : Below w.heap.size w w') {t : T} {y : V} (h : LiesP (fun b => base ≤ b) w t y) : LiesP (fun b => base ≤ b) w' t y := Zax (fun b hb' hlt => ⟨hb.block b hlt, hb'⟩) _ _ h
theorem Zdf {t : T} {e : Ending} (h : IPost w t e w') (hb : base ≤ w.heap.size) : ∃ val, e = .returned val ∧ (Below w.heap.size w w' ∧ ∃ y : V, val = .agg #[.bool y.l, .slice y.ba y.bn y.bc, .slice y.ia y.m y.ic] ∧ LiesP (fun b => base ≤ b) w' t y) := by
  obtain ⟨⟨y, e1, hy⟩, hbl⟩ := h
  exact ⟨_, e1, hbl, y, rfl, Zax (fun b hb' hlt => ⟨rfl, Nat.le_trans hb hb'⟩) _ _ hy⟩
theorem Zgc (a : Option Addr) (n c : Nat) (b : List Int) (w : World) (h : Ag w a n c b) (hn : n ≤ 140737488351232) : Calls Tryz.prog 31 #[.slice a n c] w (IPost w (.mk false b [])) := by
  refine (Zcx a n c b w h hn).mono ?_
  rintro e w' ⟨rfl, hrow, hb⟩
  exact ⟨⟨⟨false, some ⟨w.heap.size + 1, 0, none⟩, n, n, none, 0, 0⟩, rfl, Zdu hrow h.l h.b hn (by omega)⟩, hb⟩
set_option maxHeartbeats 8000000 in
theorem Znl (K : Nat → Prop) (x : NV) (n : PN) (w : World) (h : NodeAt K w x n) (hks : n.ks.length ≤ 100) (hpl : n.p.length ≤ 1000) :
    Calls Tryz.prog 68 #[.agg x.cells.toArray] w (IPost w (itemP n)) := by
  have HNN := Hid.mk (Zt6 w x h.c.len)
  have HH := Hid.mk h
  have HKS := Hid.mk hks
  have HPL := Hid.mk hpl
  have hpn : x.pn ≤ 1000 := by rw [← h.p.l]; exact hpl
  have hvn := h.v.2.1
  obtain ⟨res, hres⟩ : ∃ res, itemP n = res := ⟨_, rfl⟩
  rw [hres]
  unfold itemP at hres
  rw [← h.k] at hres
  have HRES := Hid.mk hres
  clear h hks hpl hres
  go_enter Tryz.func68, Tryz.ntmps68
  go_upto_region 1 with fail
  refine gen_w (p := fun v => Code.wp _ _ _ _ v) (q := fun v => Nn w v x) HNN.out ?_
  clear HNN
  intro v N0
  have c0 := N0.bx.c0
  have c1 := N0.bx.c1
  have HN0 := Hid.mk N0
  clear N0
  by_cases h3 : x.k = 3
  · have hr := HRES.out
    rw [if_pos h3] at hr
    subst hr
    have HBI := Hid.mk (Zhk K x n v (HH.out.go (Keep.below HN0.out.bel)) HKS.out)
    go_wp2_with (first | refine Zb4 rfl _ rfl w.heap.size rfl x HN0.out.bx ?_)
    refine HBI.out.mono ?_
    rintro e w1 ⟨⟨y, rfl, hy⟩, hb1⟩
    have N1 := HN0.out.go hb1
    have x0 := N1.x0
    have x1 := N1.x1
    have x2 := N1.x2
    have xf := N1.xf
    have HN1 := Hid.mk N1
    have HY := Hid.mk (show LiesP (fun b => w.heap.size + 2 ≤ b) w1 _ y from Zax (fun b hb hlt => ⟨rfl, Nat.le_trans HN0.out.sz hb⟩) _ _ hy)
    clear N1 hy hb1 c0 c1
    go_wp2_with fail
    have hr := put3 HN1.out.row (.bool y.l) (.slice y.ba y.bn y.bc) (.slice y.ia y.m y.ic)
    refine bodyPost_ret (results_cell_row Tryz.results68 _ _ (w.heap.size + 1) 76 _ (0, 0) _ rfl hr Tryz.underlying76 rfl (by kernel_rfl)) rfl ?_
    exact Zd3 HN1.out HY.out
  · have e3 : (x.k == 3) = false := by simp [h3]
    obtain ⟨lf, hlf⟩ : ∃ lf, (x.k == 1) = lf := ⟨_, rfl⟩
    have HPK := Hid.mk (Ni.pack_any x.pa x.pn x.pc n.p lf v (HH.out.p.1.at HN0.out.bel) (by omega))
    have HLF := Hid.mk hlf
    obtain ⟨pk, hpk⟩ : ∃ pk, (packP n.p lf).1 = pk := ⟨_, rfl⟩
    rw [hpk] at HPK
    have HPKE := Hid.mk hpk
    have HPKL := Hid.mk (show pk.length ≤ 1000 from by
      rw [← hpk]
      unfold packP
      split
      · dsimp only; rw [Ni.pack_len]; have := HPL.out; omega
      · simp)
    obtain ⟨per, hper⟩ : ∃ per : Nat, (packP n.p lf).2 = per := ⟨_, rfl⟩
    rw [hper] at HPK
    clear hpk hper
    go_wp2_with fail
    refine HPK.out.mono ?_
    rintro e w1 ⟨⟨a', m, rfl, hag⟩, hb1⟩
    have N1 := HN0.out.go hb1
    have d0 := N1.bx.c0
    have HPM := Hid.mk (show m ≤ 140737488351232 from by have := hag.l; have := HPKL.out; omega)
    have HPA := Hid.mk hag
    have HN1 := Hid.mk N1
    have hr := HRES.out
    rw [if_neg h3] at hr
    clear hag hb1 N1 c0 c1
    by_cases h1 : x.k = 1
    · rw [if_pos h1] at hr
      have hlt : lf = true := by rw [← HLF.out, h1]; rfl
      subst hlt
      rw [HPKE.out] at hr
      subst hr
      clear HLF HRES
      have hn1 : Nn w w1 x := HN1.out
      go_upto_region 5 with fail
      rename_i KK hkk
      refine wp_region_held_drew (S := fun v' => NBx w.heap.size v' x ∧ Below w.heap.size w v') (by kernel_rfl) ⟨⟨HN1.out.bx.row, HN1.out.bx.l⟩, HN1.out.bel.drew⟩ (fun hS => ?_)
      have hN0 : Nn w w1.drew x := ⟨HN1.out.row, ⟨HN1.out.bx.row, HN1.out.bx.l⟩, HN1.out.bel.drew, HN1.out.sz⟩
      refine Zay 0 22 (.slice a' m m) rfl rfl (by kernel_rfl) (by kernel_rfl) (by kernel_rfl) (fun _ _ _ h => h) (by kernel_rfl) (fun v _ => by kernel_rfl) hS ?_
      refine Zay 2 24 (.pointer (some ⟨w.heap.size, 2, none⟩)) rfl rfl (by kernel_rfl) (by kernel_rfl) (by kernel_rfl) (fun _ _ _ h => h) (by kernel_rfl) (fun v _ => by kernel_rfl) hS ?_
      refine Zay 3 25 (.slice x.va x.vn x.vc) rfl rfl (by kernel_rfl) (by kernel_rfl) (by kernel_rfl) (fun _ _ _ h => h) (by kernel_rfl) (fun v' hv => Zik rfl (by kernel_rfl) hv.1.c2) hS ?_
      refine wpAnyH_ready (rs := [1]) (by kernel_rfl) (by simp) ?_
      refine Zdr 1 23 rfl rfl (by kernel_rfl) 31 #[.slice a' m m] (by kernel_rfl) (R := fun val w' => Below w1.drew.heap.size w1.drew w' ∧ ∃ y : V, val = .agg #[.bool y.l, .slice y.ba y.bn y.bc, .slice y.ia y.m y.ic] ∧ LiesP (fun b => w.heap.size + 2 ≤ b) w' (.mk false pk []) y) ((Zgc a' m m pk w1.drew (HPA.out.at (Below.refl _ _).drew) HPM.out).mono (fun e w' h => Zdf h hN0.sz)) (fun val w' h => ⟨(hN0.go h.1).bx, (hN0.go h.1).bel⟩) ?_ AllReadyH.nil
      rintro val u1 ⟨hb1, z1, rfl, hz1⟩
      have hN1 := hN0.go hb1
      refine wpAnyH_ready (rs := [4]) (by kernel_rfl) (by simp) ?_
      refine Zdr 4 26 rfl rfl (by kernel_rfl) 31 #[.slice x.va x.vn x.vc] (by kernel_rfl) (R := fun val w' => Below u1.heap.size u1 w' ∧ ∃ y : V, val = .agg #[.bool y.l, .slice y.ba y.bn y.bc, .slice y.ia y.m y.ic] ∧ LiesP (fun b => w.heap.size + 2 ≤ b) w' (.mk false n.v []) y) ((Zgc x.va x.vn x.vc n.v u1 (HH.out.v.1.at hN1.bel) HH.out.v.2.1).mono (fun e w' h => Zdf h hN1.sz)) (fun val w' h => ⟨(hN1.go h.1).bx, (hN1.go h.1).bel⟩) ?_ AllReadyH.nil
      rintro val u2 ⟨hb2, z2, rfl, hz2⟩
      have hN2 := hN1.go hb2
      have hz1 := Zmb hb2 hz1
      refine wpAnyH_ready (rs := [5]) (by kernel_rfl) (by simp) ?_
      have hN3 : Nn w (u2.alloc (.cells (two z1 z2) 76)) x := hN2.go (below_new _ _)
      refine Zhu 5 27 (.slice (some ⟨u2.heap.size, 0, none⟩) 2 2) rfl rfl (by kernel_rfl) (Zjm rfl z1 z2 (by kernel_rfl) (by kernel_rfl)) ⟨hN3.bx, hN3.bel⟩ ?_ AllReadyH.nil
      refine wpAnyH_ready (rs := [6]) (by kernel_rfl) (by simp) ?_
      refine Zdr 6 28 rfl rfl (by kernel_rfl) 100 #[.slice (some ⟨u2.heap.size, 0, none⟩) 2 2] (by kernel_rfl) (R := fun val w' => Below (u2.alloc (.cells (two z1 z2) 76)).heap.size (u2.alloc (.cells (two z1 z2) 76)) w' ∧ ∃ y : V, val = .agg #[.bool y.l, .slice y.ba y.bn y.bc, .slice y.ia y.m y.ic] ∧ LiesP (fun b => w.heap.size + 2 ≤ b) w' (.mk true [] [.mk false pk [], .mk false n.v []]) y)
        ((Zgy (fun b => w.heap.size + 2 ≤ b) (some ⟨u2.heap.size, 0, none⟩) 2 2 [.mk false pk [], .mk false n.v []] ⟨rfl, Nat.le_refl _, by unfold maxLen; omega, by omega⟩ _ (Zll hN2.sz hz1 hz2) (fun e => by cases e) (fun b hb => Nat.le_trans hN3.sz hb)).mono (fun e w' h => by
          obtain ⟨⟨y, e1, hy⟩, hb⟩ := h
          exact ⟨_, e1, hb, y, rfl, hy⟩)) (fun val w' h => ⟨(hN3.go h.1).bx, (hN3.go h.1).bel⟩) ?_ AllReadyH.nil
      rintro val w4 ⟨hb4, z, rfl, hz⟩
      have hN4 := hN3.go hb4
      have hS4 : NBx w.heap.size (((w4.setCell ⟨w.heap.size + 1, 0, none⟩ (.bool z.l)).setCell ⟨w.heap.size + 1, 1, none⟩ (.slice z.ba z.bn z.bc)).setCell ⟨w.heap.size + 1, 2, none⟩ (.slice z.ia z.m z.ic)) x ∧ Below w.heap.size w (((w4.setCell ⟨w.heap.size + 1, 0, none⟩ (.bool z.l)).setCell ⟨w.heap.size + 1, 1, none⟩ (.slice z.ba z.bn z.bc)).setCell ⟨w.heap.size + 1, 2, none⟩ (.slice z.ia z.m z.ic)) := ⟨⟨(Zcd (by omega) _ _ _).trans hN4.bx.row, hN4.bx.l⟩, Zbx hN4.bel (by omega) _ _ _⟩
      refine wpAnyH_ready (rs := [7]) (by kernel_rfl) (by simp) ?_
      refine Zdq 7 rfl rfl (by kernel_rfl) (Zjk rfl (w.heap.size + 1) z (by kernel_rfl) (by kernel_rfl) hN4.x0 hN4.x1 hN4.x2 hN4.xf) hS4 ?_ AllReadyH.nil
      refine wpAnyH_done (by kernel_rfl) ?_ _
      refine hkk _ _ ?_
      refine Zmn Tryz.results68 (fun h => h) (w.heap.size + 1) z (by kernel_rfl) (by kernel_rfl) (put3 hN4.row _ _ _) ?_
      exact Zd3 hN4 hz
    · rw [if_neg h1] at hr
      have hlt : lf = false := by rw [← HLF.out]; simp [h1]
      subst hlt
      rw [HPKE.out] at hr
      subst hr
      have e1 : (x.k == 1) = false := by simp [h1]
      clear HLF HRES
      go_upto_region 6 with fail
      rename_i KK hkk
      refine wp_region_held_drew (S := fun v' => NBx w.heap.size v' x ∧ Below w.heap.size w v') (by kernel_rfl) ⟨⟨HN1.out.bx.row, HN1.out.bx.l⟩, HN1.out.bel.drew⟩ (fun hS => ?_)
      have hN0 : Nn w w1.drew x := ⟨HN1.out.row, ⟨HN1.out.bx.row, HN1.out.bx.l⟩, HN1.out.bel.drew, HN1.out.sz⟩
      refine Zay 0 29 (.slice a' m m) rfl rfl (by kernel_rfl) (by kernel_rfl) (by kernel_rfl) (fun _ _ _ h => h) (by kernel_rfl) (fun v _ => by kernel_rfl) hS ?_
      refine Zay 2 31 (.pointer (some ⟨w.heap.size, 3, none⟩)) rfl rfl (by kernel_rfl) (by kernel_rfl) (by kernel_rfl) (fun _ _ _ h => h) (by kernel_rfl) (fun v _ => by kernel_rfl) hS ?_
      refine Zay 3 32 (.agg x.c.cells.toArray) rfl rfl (by kernel_rfl) (by kernel_rfl) (by kernel_rfl) (fun _ _ _ h => h) (by kernel_rfl) (fun v' hv => Zgh rfl (by kernel_rfl) HH.out.c.len hv.1.child) hS ?_
      refine wpAnyH_ready (rs := [1]) (by kernel_rfl) (by simp) ?_
      refine Zdr 1 30 rfl rfl (by kernel_rfl) 31 #[.slice a' m m] (by kernel_rfl) (R := fun val w' => Below w1.drew.heap.size w1.drew w' ∧ ∃ y : V, val = .agg #[.bool y.l, .slice y.ba y.bn y.bc, .slice y.ia y.m y.ic] ∧ LiesP (fun b => w.heap.size + 2 ≤ b) w' (.mk false pk []) y) ((Zgc a' m m pk w1.drew (HPA.out.at (Below.refl _ _).drew) HPM.out).mono (fun e w' h => Zdf h hN0.sz)) (fun val w' h => ⟨(hN0.go h.1).bx, (hN0.go h.1).bel⟩) ?_ AllReadyH.nil
      rintro val u1 ⟨hb1, z1, rfl, hz1⟩
      have hN1 := hN0.go hb1
      refine wpAnyH_ready (rs := [4]) (by kernel_rfl) (by simp) ?_
      refine Zdr 4 33 rfl rfl (by kernel_rfl) 101 #[.agg x.c.cells.toArray] (by kernel_rfl) (R := fun val w' => Below u1.heap.size u1 w' ∧ ∃ y : V, val = .agg #[.bool y.l, .slice y.ba y.bn y.bc, .slice y.ia y.m y.ic] ∧ LiesP (fun b => w.heap.size + 2 ≤ b) w' (refItemP n.c) y) ((Zgg K x.c n.c u1 (HH.out.c.go (Keep.below hN1.bel))).mono (fun e w' h => Zdf h hN1.sz)) (fun val w' h => ⟨(hN1.go h.1).bx, (hN1.go h.1).bel⟩) ?_ AllReadyH.nil
      rintro val u2 ⟨hb2, z2, rfl, hz2⟩
      have hN2 := hN1.go hb2
      have hz1 := Zmb hb2 hz1
      refine wpAnyH_ready (rs := [5]) (by kernel_rfl) (by simp) ?_
      have hN3 : Nn w (u2.alloc (.cells (two z1 z2) 76)) x := hN2.go (below_new _ _)
      refine Zhu 5 34 (.slice (some ⟨u2.heap.size, 0, none⟩) 2 2) rfl rfl (by kernel_rfl) (Zjm rfl z1 z2 (by kernel_rfl) (by kernel_rfl)) ⟨hN3.bx, hN3.bel⟩ ?_ AllReadyH.nil
      refine wpAnyH_ready (rs := [6]) (by kernel_rfl) (by simp) ?_
      refine Zdr 6 35 rfl rfl (by kernel_rfl) 100 #[.slice (some ⟨u2.heap.size, 0, none⟩) 2 2] (by kernel_rfl) (R := fun val w' => Below (u2.alloc (.cells (two z1 z2) 76)).heap.size (u2.alloc (.cells (two z1 z2) 76)) w' ∧ ∃ y : V, val = .agg #[.bool y.l, .slice y.ba y.bn y.bc, .slice y.ia y.m y.ic] ∧ LiesP (fun b => w.heap.size + 2 ≤ b) w' (.mk true [] [.mk false pk [], refItemP n.c]) y)
        ((Zgy (fun b => w.heap.size + 2 ≤ b) (some ⟨u2.heap.size, 0, none⟩) 2 2 [.mk false pk [], refItemP n.c] ⟨rfl, Nat.le_refl _, by unfold maxLen; omega, by omega⟩ _ (Zll hN2.sz hz1 hz2) (fun e => by cases e) (fun b hb => Nat.le_trans hN3.sz hb)).mono (fun e w' h => by
          obtain ⟨⟨y, e1, hy⟩, hb⟩ := h
          exact ⟨_, e1, hb, y, rfl, hy⟩)) (fun val w' h => ⟨(hN3.go h.1).bx, (hN3.go h.1).bel⟩) ?_ AllReadyH.nil
      rintro val w4 ⟨hb4, z, rfl, hz⟩
      have hN4 := hN3.go hb4
      have hS4 : NBx w.heap.size (((w4.setCell ⟨w.heap.size + 1, 0, none⟩ (.bool z.l)).setCell ⟨w.heap.size + 1, 1, none⟩ (.slice z.ba z.bn z.bc)).setCell ⟨w.heap.size + 1, 2, none⟩ (.slice z.ia z.m z.ic)) x ∧ Below w.heap.size w (((w4.setCell ⟨w.heap.size + 1, 0, none⟩ (.bool z.l)).setCell ⟨w.heap.size + 1, 1, none⟩ (.slice z.ba z.bn z.bc)).setCell ⟨w.heap.size + 1, 2, none⟩ (.slice z.ia z.m z.ic)) := ⟨⟨(Zcd (by omega) _ _ _).trans hN4.bx.row, hN4.bx.l⟩, Zbx hN4.bel (by omega) _ _ _⟩
      refine wpAnyH_ready (rs := [7]) (by kernel_rfl) (by simp) ?_
      refine Zdq 7 rfl rfl (by kernel_rfl) (Zjk rfl (w.heap.size + 1) z (by kernel_rfl) (by kernel_rfl) hN4.x0 hN4.x1 hN4.x2 hN4.xf) hS4 ?_ AllReadyH.nil
      refine wpAnyH_done (by kernel_rfl) ?_ _
      refine hkk _ _ ?_
      refine Zmn Tryz.results68 (fun h => h) (w.heap.size + 1) z (by kernel_rfl) (by kernel_rfl) (put3 hN4.row _ _ _) ?_
      exact Zd3 hN4 hz
end Go.Proofs.YtchgejomcgoaeaaGreat
namespace Go.Proofs.YtchgejomcgoaeaaGreat
open Go.RowKit
def NEP (n : PN) : List Int × Nat := if NR n = true then (NE n, 0) else ([], 50)
theorem Ztn {n : PN} (h : NR n = true) : n.ks.length ≤ 100 ∧ n.p.length ≤ 1000 := by
  rcases Zcb h with ⟨_, h1, _, _, _, _, _, h7⟩ | ⟨_, _, h2, _, _, _, _, h7⟩ | ⟨_, h1, _, _, _, h5, _, _⟩
  · rw [h7]; exact ⟨by simp, by omega⟩
  · rw [h7]; exact ⟨by simp, by omega⟩
  · rw [h1]; exact ⟨by omega, by simp⟩
def EPost (w : World) (r : List Int × Nat) : Ending → World → Prop := fun e w' => (∃ a m c, e = .returned (.tuple #[.slice a m c, .int .i64 (r.2 : Nat)]) ∧ Ag w' a m c r.1 ∧ Fr w.heap.size w' a m) ∧ Below w.heap.size w w'
set_option maxHeartbeats 4000000 in
theorem Zkx (K : Nat → Prop) (x : NV) (n : PN) (w : World) (h : NodeAt K w x n) :
    Calls Tryz.prog 44 #[.agg x.cells.toArray] w (EPost w (NEP n)) := by
  have B := Zeg w x h.c.len
  have HB := Hid.mk (below_new w (.cells x.cells.toArray 68))
  have HR := Hid.mk (show ∀ v, Below w.heap.size w v → Calls Tryz.prog 55 #[.agg x.cells.toArray] v fun e w' => e = .returned (.bool (NR n)) ∧ Below v.heap.size v w' from fun v hv => Zne K x n v (h.go (Keep.below hv)))
  obtain ⟨q, hq⟩ : ∃ q, NR n = q := ⟨_, rfl⟩
  have HQ := Hid.mk hq
  have HH := Hid.mk h
  rw [hq] at HR
  obtain ⟨res, hres⟩ : ∃ res, NEP n = res := ⟨_, rfl⟩
  rw [hres]
  unfold NEP at hres
  rw [hq] at hres
  have HRES := Hid.mk hres
  clear h hq hres
  go_enter Tryz.func44, Tryz.ntmps44
  go_upto_region 1 with fail
  refine gen_w (p := fun v => Code.wp _ _ _ _ v) (q := fun v => NBx w.heap.size v x ∧ Below w.heap.size w v) ⟨B, HB.out⟩ ?_
  clear B HB
  rintro v ⟨B, hb⟩
  have HB := Hid.mk hb
  have HX := Hid.mk B
  clear hb B
  go_wp2_with (first | refine Zb4 rfl _ rfl w.heap.size rfl x HX.out ?_)
  refine (HR.out v HB.out).mono ?_
  rintro e w1 ⟨rfl, hb1⟩
  have HX1 := Hid.mk (HX.out.go hb1)
  have HB1 := Hid.mk (below_go HB.out hb1)
  clear hb1 HX HB
  have hr := HRES.out
  cases q with
  | false =>
    rw [if_neg (by simp)] at hr
    subst hr
    go_wp2_with fail
    go_ret2
    exact ⟨⟨none, 0, 0, rfl, ⟨.inl ⟨rfl, rfl⟩, fun _ => ⟨rfl, rfl⟩, rfl, fun x hx => by cases hx⟩, fun g off e => by cases e⟩, HB1.out⟩
  | true =>
    rw [if_pos rfl] at hr
    subst hr
    obtain ⟨s1, s2⟩ := Ztn HQ.out
    have HIT := Hid.mk (Znl K x n w1 (HH.out.go (Keep.below HB1.out)) s1 s2)
    obtain ⟨b1, b2, b3⟩ := Zjq HH.out.okN HQ.out
    have HEP := Hid.mk (Zmp b1)
    clear s1 s2 b1 b2 b3
    go_wp2_with (first | refine Zb4 rfl _ rfl w.heap.size rfl x HX1.out ?_)
    refine HIT.out.mono ?_
    rintro e w2 ⟨⟨y, rfl, hy⟩, hb2⟩
    have HEN := Hid.mk (Zfe (itemP n) y w2 (Zcn _ _ hy))
    rw [HEP.out] at HEN
    have HB2 := Hid.mk (below_go HB1.out hb2)
    clear hy hb2
    go_wp2_with fail
    refine HEN.out.mono ?_
    rintro e w3 ⟨⟨a, m, c, rfl, hag, hfr⟩, hb3⟩
    have HB3 := Hid.mk (below_go HB2.out hb3)
    have HAG := Hid.mk hag
    have HFR := Hid.mk (show Fr w.heap.size w3 a m from fun g off e h0 => ⟨Nat.le_trans HB2.out.size (hfr g off e h0).1, (hfr g off e h0).2⟩)
    clear hag hfr hb3
    go_wp2_with fail
    go_ret2
    exact ⟨⟨a, m, c, rfl, HAG.out, HFR.out⟩, HB3.out⟩
end Go.Proofs.YtchgejomcgoaeaaGreat
