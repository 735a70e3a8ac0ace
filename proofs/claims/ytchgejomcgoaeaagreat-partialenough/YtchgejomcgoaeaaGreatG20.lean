/- More steps through a drawn region: a store, a build, loads of whole references, nodes and items. -/
import Derived.Test.YtchgejomcgoaeaaGreatG19
import Derived.Test.YtchgejomcgoaeaaGreatG15
set_option linter.unusedVariables false
set_option maxRecDepth 100000
namespace Go.Proofs.YtchgejomcgoaeaaGreat
open Go.RowKit
section
variable {md : Region.Mode} {ops : Array Oper} {Q : Exit → Act → World → Prop} {S : World → Prop} {fuel : Nat} {listed : Array Bool} {a : Act} {w : World}
theorem Zdq (i : Nat) {rs : List Nat} {w' : World} {o : Oper} (ho : ops[i]? = some o) (hd : o.dst = none) (hg : Region.wanted o (yielded ops a.tmps) = true) (hrun : (execOp a.eval o).run Tryz.prog w = .ok .skip w') (hS : S w')
    (h : wpAnyH Tryz.prog md ops Q S fuel (listed.setIfInBounds i true) a w') (hs : AllReadyH Tryz.prog md ops Q S fuel listed a w rs) : AllReadyH Tryz.prog md ops Q S fuel listed a w (i :: rs) :=
  AllReadyH.cons ho (fun K hK => by
    rw [if_pos hg]
    unfold Oper.wp
    rw [hrun, Oper.upon_skip]
    exact hK _ _ hS (fun _ => by rw [hd]; exact h)) hs
end
section
variable {ops : Array Oper} {Q : Exit → Act → World → Prop} {a : Act} {w w' : World} {rest : List Oper} {o : Oper}
theorem Zww (d : Nat) (v : Value) (hd : o.dst = some d) (hw : Region.wanted o (yielded ops a.tmps) = true) (hrun : (execOp a.eval o).run Tryz.prog w = .ok (.value v) w') (h : wpList Tryz.prog ops Q rest (a.put (some d) v) w') : wpList Tryz.prog ops Q (o :: rest) a w :=
  Zkn hw fun K hK => by
    unfold Oper.wp
    rw [hrun, Oper.upon_value, hd]
    exact hK _ _ h
theorem Zcf (d : Nat) (v : Value) (hd : o.dst = some d) (hw : Region.wanted o (yielded ops a.tmps) = true) (hrun : (execOp a.eval o).run Tryz.prog w = .ok (.value v) w) (h : wpList Tryz.prog ops Q rest (a.put (some d) v) w) : wpList Tryz.prog ops Q (o :: rest) a w := Zww d v hd hw hrun h
theorem Zkl (hd : o.dst = none) (hw : Region.wanted o (yielded ops a.tmps) = true) (hrun : (execOp a.eval o).run Tryz.prog w = .ok .skip w') (h : wpList Tryz.prog ops Q rest a w') : wpList Tryz.prog ops Q (o :: rest) a w :=
  Zkn hw fun K hK => by
    unfold Oper.wp
    rw [hrun, Oper.upon_skip, hd]
    exact hK _ _ h
theorem Zun (d : Nat) (hd : o.dst = some d) (hw : Region.wanted o (yielded ops a.tmps) = true) (f : FuncId) (args : Array Value) (hrun : (execOp a.eval o).run Tryz.prog w = .ok (.enter f args) w)
    {R : Value → World → Prop} (hc : Calls Tryz.prog f args w fun e w' => ∃ v, e = .returned v ∧ R v w') (h : ∀ v w', R v w' → wpList Tryz.prog ops Q rest (a.put (some d) v) w') : wpList Tryz.prog ops Q (o :: rest) a w :=
  Zkn hw fun K hK => by
    unfold Oper.wp
    rw [hrun, Oper.upon_enter]
    refine hc.mono ?_
    rintro e w' ⟨v, rfl, hR⟩
    rw [hd]
    exact hK _ _ (h v w' hR)
end
section
variable {a : Act} {w : World}
theorem Zdz (t : TypeId) (parts : Array (Nat × Operand)) {o : Oper} (ho : o.op = .build t parts) (vals : List (Nat × Value)) (hv : (parts.map fun (i, x) => (i, a.eval x)).toList = vals) (cells : Array Value) (hf : Tryz.prog.built t vals = some cells) :
    (execOp a.eval o).run Tryz.prog w = .ok (.value (.agg cells)) w := by
  subst hv
  have hr := run_build w t (parts.map fun (i, x) => (i, a.eval x)) cells (P := Tryz.prog) hf
  unfold execOp
  rw [ho]
  simp only [Sem.run_bind, hr, Result.andThen_ok, Sem.run_pure]
theorem Zck (ty : TypeId) (x y : Operand) {o : Oper} (ho : o.op = .store ty x y) (g : Nat) (cells : Array Value) (hx : a.eval x = .pointer (some ⟨g, 0, none⟩)) (hy : a.eval y = .agg cells) (t : TypeId) (old : Array Value)
    (hg : w.heap[g]? = some (.cells old t (0, 0))) (hi : (Tryz.prog.info? ty).map (·.size) = some cells.size) (hold : old.size = cells.size) (h1 : cells.all (·.oneCell') = true) :
    (execOp a.eval o).run Tryz.prog w = .ok .skip (w.setRow g cells) := by
  unfold execOp
  rw [ho]
  simp only [hx, hy, Instr.storeAt, Instr.sureAddr, Sem.run_bind, Sem.run_pure, Result.andThen_ok, run_storeVar_row w g t ty old cells hg hi hold h1]
theorem Zhv (ty : TypeId) (x : Operand) {o : Oper} (ho : o.op = .load ty x) (b off : Nat) (hx : a.eval x = .pointer (some ⟨b, off, none⟩)) (cs : List Value) (d : TypeDesc) (hc : w.rangeAt b off cs) (hu : Tryz.prog.underlying ty = some d) (hd : d.isRow = true) (hi : (Tryz.prog.info? ty).map (·.size) = some cs.length) :
    (execOp a.eval o).run Tryz.prog w = .ok (.value (.agg cs.toArray)) w := by
  unfold execOp
  simp only [ho, hx, Instr.loadAt, Instr.sureAddr, Sem.run_bind, Sem.run_pure, Result.andThen_ok, run_loadVar_mid w b off ty cs d hc hu hd hi]
theorem Zo4 {x : Operand} {o : Oper} (ho : o.op = .load 68 x) {b : Nat} (hx : a.eval x = .pointer (some ⟨b, 0, none⟩)) {y : NV} (hc : NBx b w y) : (execOp a.eval o).run Tryz.prog w = .ok (.value (.agg y.cells.toArray)) w :=
  Zhv 68 x ho b 0 hx y.cells _ hc.all Tryz.underlying68 rfl (by rw [Zqf, NV.len hc.l])
theorem Zgh {x : Operand} {o : Oper} (ho : o.op = .load 65 x) {b off : Nat} (hx : a.eval x = .pointer (some ⟨b, off, none⟩)) {y : RV} (hl : y.d.length = 32) (hc : w.rangeAt b off y.cells) : (execOp a.eval o).run Tryz.prog w = .ok (.value (.agg y.cells.toArray)) w :=
  Zhv 65 x ho b off hx y.cells _ hc Tryz.underlying65 rfl (by rw [Zhi, RV.len hl])
end
end Go.Proofs.YtchgejomcgoaeaaGreat
namespace Go.Proofs.YtchgejomcgoaeaaGreat.Ni
open Go.RowKit
set_option maxHeartbeats 2000000 in
theorem unpack_any (a : Option Addr) (n c : Nat) (b : List Int) (w : World) (h : Ag w a n c b) (hn : 2 * n ≤ 140737488355328) :
    Calls Tryz.prog 111 #[.slice a n c] w fun e w' => (∃ a' m, e = .returned (.tuple #[.slice a' m m, .bool (unpP b).2.1, .int .i64 ((unpP b).2.2 : Nat)]) ∧ Cut w' w.heap.size a' m (unpP b).1) ∧ Below w.heap.size w w' := by
  have hl := h.l
  by_cases h0 : n = 0
  · subst h0
    have e : b = [] := List.eq_nil_of_length_eq_zero hl
    subst e
    rw [Zus]
    simp only
    clear h hl
    go_enter Tryz.func111, Tryz.ntmps111
    go_wp2_with fail
    go_ret3
    exact ⟨⟨none, 0, rfl, ag_nil _, fun h => by omega⟩, Below.refl _ _⟩
  have hni : ((n : Int) == 0) = false := by rw [beq_eq_false_iff_ne]; omega
  have hnp : (0 : Int) < n := by omega
  obtain ⟨g, off, rfl, hnc, hcm, hcs⟩ := ag_head h (by omega)
  unfold maxLen at hcm
  have hcell := hcs 0 (by omega)
  rw [Nat.add_zero] at hcell
  have hx := h.b _ (getD_mem (l := b) (i := 0) (by omega))
  have hbad := Zut (b := b) (by omega)
  have hgood := Zrp (b := b) (by omega)
  have hof := fun v (hb : Below w.heap.size w v) => of_any _ n c b v (h.at hb) hn
  have hnl : (nib b).length = 2 * n := by rw [Zef, hl]
  generalize b.getD 0 0 = x at *
  obtain ⟨hx0, hx1⟩ := hx
  have hand := Zyt hx0 hx1
  have hq0 : 0 ≤ x / 16 := by omega
  have hq1 : x / 16 < 256 := by omega
  have HOF := Hid.mk hof
  have HNL := Hid.mk hnl
  have hn2 : 2 ≤ 2 * n := by omega
  clear h hl hcs hof hnl
  by_cases h3 : x / 16 > 3
  · rw [hbad (.inl h3)]
    simp only
    clear hbad hgood
    go_enter Tryz.func111, Tryz.ntmps111
    go_wp2_with fail
    go_region
    all_goals
      go_wp2_with fail
      go_ret3
      exact ⟨⟨none, 0, rfl, ag_nil _, fun h => by omega⟩, (Below.refl _ _).drew⟩
  have hf : x / 16 = 0 ∨ x / 16 = 1 ∨ x / 16 = 2 ∨ x / 16 = 3 := by omega
  clear h3 hq0 hq1
  rcases hf with hf | hf | hf | hf
  ·
    have c1 : bits BinOp.and IntKind.u8 0 1 = 0 := by decide +kernel
    have c2 : bits BinOp.and IntKind.u8 0 2 = 0 := by decide +kernel
    by_cases hs : x % 16 = 0
    ·
      rw [hgood (by unfold badU; omega), if_pos (by omega)]
      simp only
      rw [decide_eq_false (by omega)]
      clear hbad hgood
      go_enter Tryz.func111, Tryz.ntmps111
      go_wp2_with fail
      go_region
      all_goals
        go_wp2_with fail
        refine (HOF.out _ (Below.refl _ _).drew).mono ?_
        rintro e w1 ⟨⟨a1, rfl, hcut⟩, hb⟩
        have hcal := behind_any a1 (2 * n) (2 * n) 2 w.heap.size (nib b) w1 (by omega) (Nat.le_refl _) (by unfold maxLen; omega) (by omega) hcut.ag hcut.own
        rw [show ((2 : Nat) : Int) = 2 from rfl] at hcal
        have HCAL := Hid.mk hcal
        have HB := Hid.mk (((Below.refl w.heap.size w).drew).trans hb)
        clear hcal hcut hb
        go_wp2_with fail
        refine HCAL.out.mono ?_
        rintro e w2 ⟨⟨a2, rfl, hcut⟩, rfl⟩
        have HCUT := Hid.mk hcut
        clear hcut
        go_wp2_with fail
        go_ret3
        exact ⟨⟨a2, _, rfl, HCUT.out⟩, HB.out⟩
    ·
      rw [hbad (.inr ⟨by omega, hs⟩)]
      simp only
      clear hbad hgood
      have hsb : (x % 16 != 0) = true := by rw [bne_iff_ne]; exact hs
      clear hs
      go_enter Tryz.func111, Tryz.ntmps111
      go_wp2_with fail
      go_region
      all_goals
        go_wp2_with fail
        go_ret3
        exact ⟨⟨none, 0, rfl, ag_nil _, fun h => by omega⟩, (Below.refl _ _).drew⟩
  ·
    have c1 : bits BinOp.and IntKind.u8 1 1 = 1 := by decide +kernel
    have c2 : bits BinOp.and IntKind.u8 1 2 = 0 := by decide +kernel
    rw [hgood (by unfold badU; omega), if_neg (by omega)]
    simp only
    rw [decide_eq_false (by omega)]
    clear hbad hgood
    go_enter Tryz.func111, Tryz.ntmps111
    go_wp2_with fail
    go_region
    all_goals
      go_wp2_with fail
      refine (HOF.out _ (Below.refl _ _).drew).mono ?_
      rintro e w1 ⟨⟨a1, rfl, hcut⟩, hb⟩
      have hcal := behind_any a1 (2 * n) (2 * n) 1 w.heap.size (nib b) w1 (by omega) (Nat.le_refl _) (by unfold maxLen; omega) (by omega) hcut.ag hcut.own
      rw [show ((1 : Nat) : Int) = 1 from rfl] at hcal
      have HCAL := Hid.mk hcal
      have HB := Hid.mk (((Below.refl w.heap.size w).drew).trans hb)
      clear hcal hcut hb
      go_wp2_with fail
      refine HCAL.out.mono ?_
      rintro e w2 ⟨⟨a2, rfl, hcut⟩, rfl⟩
      have HCUT := Hid.mk hcut
      clear hcut
      go_wp2_with fail
      go_ret3
      exact ⟨⟨a2, _, rfl, HCUT.out⟩, HB.out⟩
  ·
    have c1 : bits BinOp.and IntKind.u8 2 1 = 0 := by decide +kernel
    have c2 : bits BinOp.and IntKind.u8 2 2 = 2 := by decide +kernel
    by_cases hs : x % 16 = 0
    ·
      rw [hgood (by unfold badU; omega), if_pos (by omega)]
      simp only
      rw [decide_eq_true (by omega)]
      clear hbad hgood
      go_enter Tryz.func111, Tryz.ntmps111
      go_wp2_with fail
      go_region
      all_goals
        go_wp2_with fail
        refine (HOF.out _ (Below.refl _ _).drew).mono ?_
        rintro e w1 ⟨⟨a1, rfl, hcut⟩, hb⟩
        have hcal := behind_any a1 (2 * n) (2 * n) 2 w.heap.size (nib b) w1 (by omega) (Nat.le_refl _) (by unfold maxLen; omega) (by omega) hcut.ag hcut.own
        rw [show ((2 : Nat) : Int) = 2 from rfl] at hcal
        have HCAL := Hid.mk hcal
        have HB := Hid.mk (((Below.refl w.heap.size w).drew).trans hb)
        clear hcal hcut hb
        go_wp2_with fail
        refine HCAL.out.mono ?_
        rintro e w2 ⟨⟨a2, rfl, hcut⟩, rfl⟩
        have HCUT := Hid.mk hcut
        clear hcut
        go_wp2_with fail
        go_ret3
        exact ⟨⟨a2, _, rfl, HCUT.out⟩, HB.out⟩
    ·
      rw [hbad (.inr ⟨by omega, hs⟩)]
      simp only
      clear hbad hgood
      have hsb : (x % 16 != 0) = true := by rw [bne_iff_ne]; exact hs
      clear hs
      go_enter Tryz.func111, Tryz.ntmps111
      go_wp2_with fail
      go_region
      all_goals
        go_wp2_with fail
        go_ret3
        exact ⟨⟨none, 0, rfl, ag_nil _, fun h => by omega⟩, (Below.refl _ _).drew⟩
  ·
    have c1 : bits BinOp.and IntKind.u8 3 1 = 1 := by decide +kernel
    have c2 : bits BinOp.and IntKind.u8 3 2 = 2 := by decide +kernel
    rw [hgood (by unfold badU; omega), if_neg (by omega)]
    simp only
    rw [decide_eq_true (by omega)]
    clear hbad hgood
    go_enter Tryz.func111, Tryz.ntmps111
    go_wp2_with fail
    go_region
    all_goals
      go_wp2_with fail
      refine (HOF.out _ (Below.refl _ _).drew).mono ?_
      rintro e w1 ⟨⟨a1, rfl, hcut⟩, hb⟩
      have hcal := behind_any a1 (2 * n) (2 * n) 1 w.heap.size (nib b) w1 (by omega) (Nat.le_refl _) (by unfold maxLen; omega) (by omega) hcut.ag hcut.own
      rw [show ((1 : Nat) : Int) = 1 from rfl] at hcal
      have HCAL := Hid.mk hcal
      have HB := Hid.mk (((Below.refl w.heap.size w).drew).trans hb)
      clear hcal hcut hb
      go_wp2_with fail
      refine HCAL.out.mono ?_
      rintro e w2 ⟨⟨a2, rfl, hcut⟩, rfl⟩
      have HCUT := Hid.mk hcut
      clear hcut
      go_wp2_with fail
      go_ret3
      exact ⟨⟨a2, _, rfl, HCUT.out⟩, HB.out⟩
end Go.Proofs.YtchgejomcgoaeaaGreat.Ni
namespace Go.Proofs.YtchgejomcgoaeaaGreat
open Go.RowKit
open Ni (unpP)
variable {fn : Func} {p u : Tmp} {w : World} {P : Nat → Prop} {base g : Nat} {C : Array Value} {y : V}
theorem Zbg (h : fn.results = #[.cell p 68, .tmp u]) (tmps : Array Value) (w : World) (g : Nat) (y : NV) (hl : y.c.d.length = 32) (hp : tmps.getD p undef = .pointer (some ⟨g, 0, none⟩)) (hg : w.heap[g]? = some (.cells y.cells.toArray 68)) :
    (results fn tmps).run Tryz.prog w = .ok (.tuple #[.agg y.cells.toArray, tmps.getD u undef]) w := by
  have hp' : tmps[p]?.getD undef = .pointer (some ⟨g, 0, none⟩) := by simpa using hp
  have hr := run_loadVar_row (P := Tryz.prog) w g 68 68 y.cells.toArray (0, 0) _ hg Tryz.underlying68 rfl (by rw [Zqf, List.size_toArray, NV.len hl])
  simp [results, h, hp', asAddr, hr]
theorem Zd6 (h : fn.results = #[.cell p 68, .tmp u]) {post : Ending → World → Prop} {Q : Exit → Act → World → Prop} {a : Act} (hQ : bodyPost Tryz.prog fn post .ret a w → Q .ret a w) (g : Nat) (y : NV) (vv : Value) (hl : y.c.d.length = 32)
    (hp : a.tmps.getD p undef = .pointer (some ⟨g, 0, none⟩)) (hu : a.tmps.getD u undef = vv) (hd : a.defers = []) (hg : w.heap[g]? = some (.cells y.cells.toArray 68)) (hpost : post (.returned (.tuple #[.agg y.cells.toArray, vv])) w) :
    Code.wp Tryz.prog .ret Q a w := by
  subst hu
  exact wp_ret (hQ <| bodyPost_ret (Zbg h a.tmps w g y hl hp hg) hd hpost)
def OwnP (P : Nat → Prop) (w : World) (g : Nat) : Prop := P g ∧ ∀ o, w.frozen? ⟨g, o, none⟩ = false
theorem Keep.setRowP {v : World} (hg : g < base) (hP : ∀ k, base ≤ k → P k) : Keep (Own base v) (OwnP P (v.setRow g C)) v (v.setRow g C) := fun k hK hk => by
  have e : (v.setRow g C).heap[k]? = v.heap[k]? := setRow_other _ _ _ _ (by have := hK.1; omega)
  exact ⟨e, hP k hK.1, fun o => (World.frozen?_of_block (w := v) e).trans (hK.2 o)⟩
def NPost (P : Nat → Prop) (w : World) (o : Option PN) : Ending → World → Prop := fun e w' => Below w.heap.size w w' ∧
  match o with
  | none => ∃ y : NV, y.c.d.length = 32 ∧ e = .returned (.tuple #[.agg y.cells.toArray, .bool false])
  | some n => ∃ y : NV, e = .returned (.tuple #[.agg y.cells.toArray, .bool true]) ∧ NodeAt (OwnP P w') w' y n
theorem Zbe {y : NV} (h : y.c.d.length = 32) : (nz.cells.toArray : Array Value).size = y.cells.toArray.size := by rw [List.size_toArray, List.size_toArray, NV.len h]; rfl
theorem Zbj {y : NV} (h : y.c.d.length = 32) : (Tryz.prog.info? 68).map (·.size) = some y.cells.toArray.size := by rw [Zqf, List.size_toArray, NV.len h]
structure Pn (w v : World) (x y : V) : Prop where
  row : v.heap[w.heap.size + 1 + 1]? = some (.cells nz.cells.toArray 68)
  bx : B1 w.heap.size v x
  by' : B1 (w.heap.size + 1) v y
  bel : Below w.heap.size w v
  sz : w.heap.size + 3 ≤ v.heap.size
theorem Pn.go {v v' : World} {x : V} (h : Pn w v x y) (hb : Below v.heap.size v v') : Pn w v' x y := ⟨Below.row hb h.row, h.bx.go hb, h.by'.go hb, below_go h.bel hb, Nat.le_trans h.sz hb.size⟩
theorem Zxq (w : World) (x y : V) : Pn w (((w.alloc (.cells #[.bool x.l, .slice x.ba x.bn x.bc, .slice x.ia x.m x.ic] 76)).alloc (.cells #[.bool y.l, .slice y.ba y.bn y.bc, .slice y.ia y.m y.ic] 76)).alloc (.cells nz.cells.toArray 68)) x y := by
  generalize hw1 : w.alloc (.cells #[.bool x.l, .slice x.ba x.bn x.bc, .slice x.ia x.m x.ic] 76) = w1
  have s1 : w1.heap.size = w.heap.size + 1 := by rw [← hw1]; simp
  have b1 : B1 w.heap.size w1 x := by rw [← hw1]; exact Zfs w x
  have l1 : Below w.heap.size w w1 := by rw [← hw1]; exact below_new w _
  have b2 := Zfs w1 y
  rw [s1] at b2
  generalize hw2 : w1.alloc (.cells #[.bool y.l, .slice y.ba y.bn y.bc, .slice y.ia y.m y.ic] 76) = w2 at b2 ⊢
  have s2 : w2.heap.size = w.heap.size + 1 + 1 := by rw [← hw2]; simp [s1]
  have l2 : Below w1.heap.size w1 w2 := by rw [← hw2]; exact below_new w1 _
  refine ⟨?_, (b1.go l2).alloc _, b2.alloc _, below_go (below_go l1 l2) (below_new _ _), by simp [s2]⟩
  rw [← s2]
  exact heap_alloc_new _ _
theorem Zwh {m : Nat} {w0 : World} {a : Option Addr} {bs : List Int} (h : Ni.Cut w base a m bs) (hm : m ≤ 140737488351232) : AgK (Own base w) w a m m bs := ⟨h.ag, hm, fun g off e h0 => by
  obtain ⟨g', off', cur, e', hb, hr⟩ := h.own h0
  rw [e] at e'
  cases e'
  exact ⟨hb, fun o => frozen_of_row _ _ _ _ _ hr⟩⟩
theorem Zju {l : Bool} {bs : List Int} {its : List T} (h : LiesP P w (.mk l bs its) y) : AgK (OwnP P w) w y.ba y.bn y.bc bs := by
  obtain ⟨⟨_, h2, _, _, _, h6, h8⟩, _⟩ := liesP_eq.1 h
  exact ⟨h2, h6.1, fun g off e h0 => h8 g off e h0⟩
theorem Zby {h : Nat} {v : World} (b : B1 g v y) (hne : g ≠ h) : B1 g (v.setRow h C) y := by
  have e : (v.setRow h C).heap[g]? = v.heap[g]? := setRow_other _ _ _ _ hne
  exact ⟨(World.cell?_of_block (w := v) e).trans b.c0, (World.cell?_of_block (w := v) e).trans b.c1, (World.cell?_of_block (w := v) e).trans b.c2⟩
theorem Zmd (K : Nat → Prop) (w : World) (a : Option Addr) : KidsAt K w a [] := fun j r hr => by simp at hr
set_option maxHeartbeats 4000000 in
theorem Zjo (P : Nat → Prop) (t u : T) (x y : V) (w : World) (hx : Lies w t x) (hy : LiesP P w u y) (hb : ∀ g, w.heap.size ≤ g → P g) (hxn : t.bs.length ≤ 16777216) :
    Calls Tryz.prog 84 #[.agg #[.bool x.l, .slice x.ba x.bn x.bc, .slice x.ia x.m x.ic], .agg #[.bool y.l, .slice y.ba y.bn y.bc, .slice y.ia y.m y.ic]] w (NPost P w (pathP t u)) := by
  obtain ⟨l, bs, its⟩ := t
  obtain ⟨l2, bs2, its2⟩ := u
  obtain ⟨hl, hag, -⟩ := lies_eq.1 hx
  obtain ⟨⟨hl2, -⟩, -⟩ := liesP_eq.1 hy
  subst hl hl2
  have hxn : bs.length ≤ 16777216 := hxn
  have HAG := Hid.mk hag
  have HY := Hid.mk hy
  have HBASE := Hid.mk hb
  have HU := Hid.mk (show ∀ v, Below w.heap.size w v → Calls Tryz.prog 111 #[.slice x.ba x.bn x.bc] v fun e w' => (∃ a' m, e = .returned (.tuple #[.slice a' m m, .bool (unpP bs).2.1, .int .i64 ((unpP bs).2.2 : Nat)]) ∧ Ni.Cut w' v.heap.size a' m (unpP bs).1) ∧ Below v.heap.size v w' from fun v hv => Ni.unpack_any _ _ _ _ v (hag.at hv) (by have := hag.l; omega))
  have HPL := Hid.mk (Ni.unp_le bs)
  have HXN := Hid.mk hxn
  obtain ⟨res, hres⟩ : ∃ res, pathP (.mk x.l bs its) (.mk y.l bs2 its2) = res := ⟨_, rfl⟩
  rw [hres]
  have hres : (if x.l = true ∨ (unpP bs).2.2 ≠ 0 then none
    else if (unpP bs).2.1 = true then (if y.l = true then none else some (⟨1, (unpP bs).1, bs2, r0, []⟩ : PN))
    else match refOfP (.mk y.l bs2 its2) with
      | none => none
      | some c => some ⟨2, (unpP bs).1, [], c, []⟩) = res := hres
  obtain ⟨pp, hpp⟩ : ∃ pp, (unpP bs).1 = pp := ⟨_, rfl⟩
  obtain ⟨lf, hlf⟩ : ∃ lf, (unpP bs).2.1 = lf := ⟨_, rfl⟩
  obtain ⟨er, her⟩ : ∃ er, (unpP bs).2.2 = er := ⟨_, rfl⟩
  rw [hpp, hlf, her] at hres
  rw [hpp, hlf, her] at HU
  rw [hpp] at HPL
  have HRES := Hid.mk hres
  have HPN := Hid.mk (Zxq w x y)
  clear hx hy hag hb hxn hres hpp hlf her
  go_enter Tryz.func84, Tryz.ntmps84
  go_upto_region 1 with fail
  refine gen_w (p := fun v => Code.wp _ _ _ _ v) (q := fun v => Pn w v x y) HPN.out ?_
  clear HPN
  intro v P0
  have c1 := P0.bx.c1
  have HP0 := Hid.mk P0
  clear P0
  go_wp2_with fail
  refine (HU.out v HP0.out.bel).mono ?_
  rintro e w1 ⟨⟨a', m, rfl, hcut⟩, hb1⟩
  have P1 := HP0.out.go hb1
  have HM := Hid.mk (show m ≤ 140737488351232 from by have := hcut.ag.l; have := HPL.out; have := HXN.out; omega)
  have HPA := Hid.mk (Zwh (w0 := w) hcut HM.out)
  have HVS := Hid.mk HP0.out.sz
  have c0 := P1.bx.c0
  have d0 := P1.by'.c0
  have d1 := P1.by'.c1
  have d2 := P1.by'.c2
  have HP1 := Hid.mk P1
  clear hcut hb1 P1 c1 HP0 HU
  by_cases hbad : x.l = true ∨ er ≠ 0
  · have hr := HRES.out
    rw [if_pos hbad] at hr
    subst hr
    by_cases hxl : x.l = true
    · rw [hxl] at c0
      go_wp2_with (first | refine wpList_store_row rfl 68 _ _ rfl _ nz.cells.toArray rfl rfl 68 _ HP1.out.row (Zbj rfl) (Zbe rfl) (all_oneCell_toArray (NV.one _)) ?_)
      refine bodyPost_ret (Zbg Tryz.results84 _ _ (w.heap.size + 1 + 1) nz rfl rfl (setRow_heap _ _ _ _ _ _ HP1.out.row)) rfl ?_
      exact ⟨Below.setRow HP1.out.bel (by omega) _, nz, rfl, rfl⟩
    · have hxf : x.l = false := by simpa using hxl
      have hee : ((er : Int) != 0) = true := by rw [bne_iff_ne]; have := hbad.resolve_left hxl; omega
      rw [hxf] at c0
      clear hxl hbad hxf
      go_wp2_with (first | refine wpList_store_row rfl 68 _ _ rfl _ nz.cells.toArray rfl rfl 68 _ HP1.out.row (Zbj rfl) (Zbe rfl) (all_oneCell_toArray (NV.one _)) ?_)
      refine bodyPost_ret (Zbg Tryz.results84 _ _ (w.heap.size + 1 + 1) nz rfl rfl (setRow_heap _ _ _ _ _ _ HP1.out.row)) rfl ?_
      exact ⟨Below.setRow HP1.out.bel (by omega) _, nz, rfl, rfl⟩
  · have hr := HRES.out
    rw [if_neg hbad] at hr
    have hxf : x.l = false := by cases hq : x.l with
      | false => rfl
      | true => exact absurd (.inl hq) hbad
    have he0 : er = 0 := Decidable.byContradiction fun h => hbad (.inr h)
    subst he0
    rw [hxf] at c0
    rw [show ((0 : Nat) : Int) = 0 from rfl]
    clear hxf hbad HRES
    cases lf with
    | true =>
      rw [if_pos rfl] at hr
      have HR := Hid.mk hr
      clear hr
      go_upto_region 5 with fail
      rename_i KK hkk
      refine wp_region_held_drew (S := fun v => B1 (w.heap.size + 1) v y) (by kernel_rfl) ⟨HP1.out.by'.c0, HP1.out.by'.c1, HP1.out.by'.c2⟩ (fun hS => ?_)
      refine Zay 0 26 (.slice a' m m) rfl rfl (by kernel_rfl) (by kernel_rfl) (by kernel_rfl) (fun _ _ _ h => h) (by kernel_rfl) (fun v _ => by kernel_rfl) hS ?_
      refine Zay 1 27 (.pointer (some ⟨w.heap.size + 1, 1, none⟩)) rfl rfl (by kernel_rfl) (by kernel_rfl) (by kernel_rfl) (fun _ _ _ h => h) (by kernel_rfl) (fun v _ => by kernel_rfl) hS ?_
      refine Zay 2 28 (.slice y.ba y.bn y.bc) rfl rfl (by kernel_rfl) (by kernel_rfl) (by kernel_rfl) (fun _ _ _ h => h) (by kernel_rfl) (fun v hv => Zik rfl (by kernel_rfl) hv.c1) hS ?_
      refine Zay 3 29 (.agg (NV.cells ⟨1, a', m, m, y.ba, y.bn, y.bc, rz, none, 0, 0⟩).toArray) rfl rfl (by kernel_rfl) (by kernel_rfl) (by kernel_rfl) (fun _ _ _ h => h) (by kernel_rfl) (fun v _ => Zdz 68 _ rfl [(0, .int .i64 1), (1, .slice a' m m), (2, .slice y.ba y.bn y.bc)] (by kernel_rfl) _ (Zmx _ _ _ _ _ _)) hS ?_
      refine Zay 4 30 (.pointer (some ⟨w.heap.size + 1, 0, none⟩)) rfl rfl (by kernel_rfl) (by kernel_rfl) (by kernel_rfl) (fun _ _ _ h => h) (by kernel_rfl) (fun v _ => by kernel_rfl) hS ?_
      refine Zay 5 31 (.bool y.l) rfl rfl (by kernel_rfl) (by kernel_rfl) (by kernel_rfl) (fun _ _ _ h => h) (by kernel_rfl) (fun v hv => Zlw rfl (by kernel_rfl) hv.c0) hS ?_
      refine Zay 6 32 (.bool (!y.l)) rfl rfl (by kernel_rfl) (by kernel_rfl) (by kernel_rfl) (fun _ _ _ h => h) (by kernel_rfl) (fun v _ => by kernel_rfl) hS ?_
      refine wpAnyH_ready (rs := [7]) (by kernel_rfl) (by simp) ?_
      refine Zdq 7 rfl rfl (by kernel_rfl) (Zck 68 _ _ rfl (w.heap.size + 1 + 1) (NV.cells ⟨1, a', m, m, y.ba, y.bn, y.bc, rz, none, 0, 0⟩).toArray (by kernel_rfl) (by kernel_rfl) 68 nz.cells.toArray HP1.out.row (Zbj rfl) (Zbe rfl) (all_oneCell_toArray (NV.one _))) ?_ ?_ AllReadyH.nil
      · exact Zby hS (by omega)
      refine Zay 8 5 (.bool (!y.l)) rfl rfl (by kernel_rfl) (by kernel_rfl) (by kernel_rfl) (fun _ _ _ h => h) (by kernel_rfl) (fun v _ => by kernel_rfl) (Zby hS (by omega)) ?_
      refine wpAnyH_done (by kernel_rfl) ?_ _
      refine hkk _ _ ?_
      refine Zd6 Tryz.results84 (fun h => h) (w.heap.size + 1 + 1) ⟨1, a', m, m, y.ba, y.bn, y.bc, rz, none, 0, 0⟩ (.bool (!y.l)) rfl (by kernel_rfl) (by kernel_rfl) (by kernel_rfl) (setRow_heap _ _ _ _ _ _ HP1.out.row) ?_
      have hr := HR.out
      refine ⟨Below.setRow HP1.out.bel.drew (by omega) _, ?_⟩
      cases hyl : y.l with
      | true =>
        rw [hyl, if_pos rfl] at hr
        subst hr
        exact ⟨⟨1, a', m, m, y.ba, y.bn, y.bc, rz, none, 0, 0⟩, rfl, rfl⟩
      | false =>
        rw [hyl, if_neg (by simp)] at hr
        subst hr
        have hk1 : Keep (Own v.heap.size w1) (OwnP P (w1.drew.setRow (w.heap.size + 1 + 1) (NV.cells ⟨1, a', m, m, y.ba, y.bn, y.bc, rz, none, 0, 0⟩).toArray)) w1 (w1.drew.setRow (w.heap.size + 1 + 1) (NV.cells ⟨1, a', m, m, y.ba, y.bn, y.bc, rz, none, 0, 0⟩).toArray) :=
          Keep.setRowP (v := w1.drew) (base := v.heap.size) (by have := HVS.out; omega) (fun k hk => HBASE.out k (by have := HVS.out; omega))
        have hk2 : Keep (OwnP P w) (OwnP P (w1.drew.setRow (w.heap.size + 1 + 1) (NV.cells ⟨1, a', m, m, y.ba, y.bn, y.bc, rz, none, 0, 0⟩).toArray)) w (w1.drew.setRow (w.heap.size + 1 + 1) (NV.cells ⟨1, a', m, m, y.ba, y.bn, y.bc, rz, none, 0, 0⟩).toArray) := fun k hK hk => by
          have e : ((w1.drew.setRow (w.heap.size + 1 + 1) (NV.cells ⟨1, a', m, m, y.ba, y.bn, y.bc, rz, none, 0, 0⟩).toArray)).heap[k]? = w.heap[k]? := (setRow_other _ _ _ _ (by omega)).trans (HP1.out.bel.block k hk)
          exact ⟨e, hK.1, fun o => (World.frozen?_of_block (w := w) e).trans (hK.2 o)⟩
        exact ⟨⟨1, a', m, m, y.ba, y.bn, y.bc, rz, none, 0, 0⟩, rfl, rfl, HPA.out.go hk1, (Zju HY.out).go hk2, Ze8 _ _, ⟨rfl, Nat.zero_le _, Nat.zero_le _, Nat.zero_le _, fun _ => ⟨rfl, rfl⟩⟩, Zmd _ _ _⟩
    | false =>
      rw [if_neg (by simp)] at hr
      have HR := Hid.mk hr
      have HRO := Hid.mk (Zji (.mk y.l bs2 its2) y w1 (Zcq HP1.out.bel _ y (Zcn _ _ HY.out)))
      clear hr
      go_wp2_with fail
      refine HRO.out.mono ?_
      intro e w2 hp
      obtain ⟨hb2, hp⟩ := hp
      have HP2 := Hid.mk (HP1.out.go hb2)
      have HW1 := Hid.mk HP1.out.sz
      have hr := HR.out
      cases hq : refOfP (.mk y.l bs2 its2) with
      | none =>
        rw [hq] at hp hr
        subst hr
        obtain ⟨y', hyl', rfl⟩ := hp
        have HYL := Hid.mk hyl'
        clear hb2 hq hyl'
        go_upto_region 7 with (first | refine wpList_store_row rfl 65 _ _ rfl _ y'.cells.toArray rfl rfl 65 _ (heap_alloc_new _ _) (Zbw HYL.out) (Zbq HYL.out) (all_oneCell_toArray (RV.one _)) ?_)
        refine gen_w (p := fun v => Code.wp _ _ _ _ v) (q := fun u => RBx w2.heap.size u y' ∧ Pn w u x y) ⟨⟨setRow_heap _ _ _ _ _ _ (heap_alloc_new _ _), HYL.out⟩, HP2.out.go (Below.setRow (below_new w2 _) (Nat.le_refl _) _)⟩ ?_
        rintro v3 ⟨B3, P3⟩
        have HB3 := Hid.mk B3
        have HP3 := Hid.mk P3
        clear B3 P3
        rename_i KK hkk
        refine wp_region_lit ?_
        refine Zcf 38 (.slice a' m m) rfl (by kernel_rfl) (by kernel_rfl) ?_
        refine Zcf 39 (.agg y'.cells.toArray) rfl (by kernel_rfl) (Zgh rfl (by kernel_rfl) HYL.out HB3.out.all) ?_
        refine Zcf 40 (.agg (NV.cells ⟨2, a', m, m, none, 0, 0, y', none, 0, 0⟩).toArray) rfl (by kernel_rfl) (Zdz 68 _ rfl [(0, .int .i64 2), (1, .slice a' m m), (3, .agg y'.cells.toArray)] (by kernel_rfl) _ (Zi6 _ _ _ _ HYL.out)) ?_
        refine Zcf 41 (.bool false) rfl (by kernel_rfl) (by kernel_rfl) ?_
        refine Zkl rfl (by kernel_rfl) (Zck 68 _ _ rfl (w.heap.size + 1 + 1) (NV.cells ⟨2, a', m, m, none, 0, 0, y', none, 0, 0⟩).toArray (by kernel_rfl) (by kernel_rfl) 68 nz.cells.toArray HP3.out.row (Zbj HYL.out) (Zbe HYL.out) (all_oneCell_toArray (NV.one _))) ?_
        refine Zcf 5 (.bool false) rfl (by kernel_rfl) (by kernel_rfl) ?_
        refine hkk _ _ ?_
        refine Zd6 Tryz.results84 (fun h => h) (w.heap.size + 1 + 1) ⟨2, a', m, m, none, 0, 0, y', none, 0, 0⟩ (.bool false) HYL.out (by kernel_rfl) (by kernel_rfl) (by kernel_rfl) (setRow_heap _ _ _ _ _ _ HP3.out.row) ?_
        exact ⟨Below.setRow HP3.out.bel (by omega) _, ⟨2, a', m, m, none, 0, 0, y', none, 0, 0⟩, HYL.out, rfl⟩
      | some c =>
        rw [hq] at hp hr
        subst hr
        obtain ⟨y', rfl, hy'⟩ := hp
        have HYL := Hid.mk hy'.len
        have HYR := Hid.mk hy'
        have HB2 := Hid.mk hb2
        clear hb2 hq hy'
        go_upto_region 7 with (first | refine wpList_store_row rfl 65 _ _ rfl _ y'.cells.toArray rfl rfl 65 _ (heap_alloc_new _ _) (Zbw HYL.out) (Zbq HYL.out) (all_oneCell_toArray (RV.one _)) ?_)
        refine gen_w (p := fun v => Code.wp _ _ _ _ v) (q := fun u => RBx w2.heap.size u y' ∧ Pn w u x y ∧ Below w2.heap.size w2 u) ⟨⟨setRow_heap _ _ _ _ _ _ (heap_alloc_new _ _), HYL.out⟩, HP2.out.go (Below.setRow (below_new w2 _) (Nat.le_refl _) _), Below.setRow (below_new w2 _) (Nat.le_refl _) _⟩ ?_
        rintro v3 ⟨B3, P3, b3⟩
        have HB3 := Hid.mk B3
        have HP3 := Hid.mk P3
        have HBB := Hid.mk b3
        clear b3
        clear B3 P3
        rename_i KK hkk
        refine wp_region_lit ?_
        refine Zcf 38 (.slice a' m m) rfl (by kernel_rfl) (by kernel_rfl) ?_
        refine Zcf 39 (.agg y'.cells.toArray) rfl (by kernel_rfl) (Zgh rfl (by kernel_rfl) HYL.out HB3.out.all) ?_
        refine Zcf 40 (.agg (NV.cells ⟨2, a', m, m, none, 0, 0, y', none, 0, 0⟩).toArray) rfl (by kernel_rfl) (Zdz 68 _ rfl [(0, .int .i64 2), (1, .slice a' m m), (3, .agg y'.cells.toArray)] (by kernel_rfl) _ (Zi6 _ _ _ _ HYL.out)) ?_
        refine Zcf 41 (.bool true) rfl (by kernel_rfl) (by kernel_rfl) ?_
        refine Zkl rfl (by kernel_rfl) (Zck 68 _ _ rfl (w.heap.size + 1 + 1) (NV.cells ⟨2, a', m, m, none, 0, 0, y', none, 0, 0⟩).toArray (by kernel_rfl) (by kernel_rfl) 68 nz.cells.toArray HP3.out.row (Zbj HYL.out) (Zbe HYL.out) (all_oneCell_toArray (NV.one _))) ?_
        refine Zcf 5 (.bool true) rfl (by kernel_rfl) (by kernel_rfl) ?_
        refine hkk _ _ ?_
        refine Zd6 Tryz.results84 (fun h => h) (w.heap.size + 1 + 1) ⟨2, a', m, m, none, 0, 0, y', none, 0, 0⟩ (.bool true) HYL.out (by kernel_rfl) (by kernel_rfl) (by kernel_rfl) (setRow_heap _ _ _ _ _ _ HP3.out.row) ?_
        have hk1 : Keep (Own v.heap.size w1) (OwnP P (v3.setRow (w.heap.size + 1 + 1) (NV.cells ⟨2, a', m, m, none, 0, 0, y', none, 0, 0⟩).toArray)) w1 (v3.setRow (w.heap.size + 1 + 1) (NV.cells ⟨2, a', m, m, none, 0, 0, y', none, 0, 0⟩).toArray) := fun k hK hk => by
          have e : ((v3.setRow (w.heap.size + 1 + 1) (NV.cells ⟨2, a', m, m, none, 0, 0, y', none, 0, 0⟩).toArray)).heap[k]? = w1.heap[k]? := (setRow_other _ _ _ _ (by have := hK.1; have := HVS.out; omega)).trans ((HBB.out.block k (Nat.lt_of_lt_of_le hk HB2.out.size)).trans (HB2.out.block k hk))
          exact ⟨e, HBASE.out k (by have := hK.1; have := HVS.out; omega), fun o => (World.frozen?_of_block (w := w1) e).trans (hK.2 o)⟩
        have hk2 : Keep (Own w1.heap.size w2) (OwnP P (v3.setRow (w.heap.size + 1 + 1) (NV.cells ⟨2, a', m, m, none, 0, 0, y', none, 0, 0⟩).toArray)) w2 (v3.setRow (w.heap.size + 1 + 1) (NV.cells ⟨2, a', m, m, none, 0, 0, y', none, 0, 0⟩).toArray) := fun k hK hk => by
          have e : ((v3.setRow (w.heap.size + 1 + 1) (NV.cells ⟨2, a', m, m, none, 0, 0, y', none, 0, 0⟩).toArray)).heap[k]? = w2.heap[k]? := (setRow_other _ _ _ _ (by have := hK.1; have := HW1.out; omega)).trans (HBB.out.block k hk)
          exact ⟨e, HBASE.out k (by have := hK.1; have := HW1.out; omega), fun o => (World.frozen?_of_block (w := w2) e).trans (hK.2 o)⟩
        exact ⟨Below.setRow HP3.out.bel (by omega) _, ⟨2, a', m, m, none, 0, 0, y', none, 0, 0⟩, rfl, rfl, HPA.out.go hk1, Zha _ _, HYR.out.go hk2, ⟨rfl, Nat.zero_le _, Nat.zero_le _, Nat.zero_le _, fun _ => ⟨rfl, rfl⟩⟩, Zmd _ _ _⟩
end Go.Proofs.YtchgejomcgoaeaaGreat
