/- A row of items as a list in memory; what Text answers. -/
import Derived.Test.YtchgejomcgoaeaaGreatG05
set_option linter.unusedVariables false
set_option maxRecDepth 100000
namespace Go.Proofs.YtchgejomcgoaeaaGreat
open Go.RowKit
variable {P : Nat → Prop} {w : World} {base g m : Nat} {ys : List V} {ts : List T} {fn : Func} {p u : Tmp} {b r : List Int} {deep : Bool} {x : Int}
def AllP (P : Nat → Prop) (w : World) : List T → List V → Prop
  | [], [] => True
  | t :: ts, y :: ys => LiesP P w t y ∧ AllP P w ts ys
  | _, _ => False
theorem AllP.len {P : Nat → Prop} {w : World} : ∀ {ts : List T} {ys : List V}, AllP P w ts ys → ts.length = ys.length
  | [], [], _ => rfl
  | t :: ts, y :: ys, h => by have := AllP.len h.2; simp [this]
theorem AllP.mono {P Q : Nat → Prop} {w w' : World} (hk : ∀ b, P b → b < w.heap.size → w'.heap[b]? = w.heap[b]? ∧ Q b) : ∀ {ts : List T} {ys : List V}, AllP P w ts ys → AllP Q w' ts ys
  | [], [], _ => trivial
  | t :: ts, y :: ys, h => ⟨Zax hk t y h.1, AllP.mono hk h.2⟩
theorem AllP.snoc {P : Nat → Prop} {w : World} {t : T} {y : V} (h1 : LiesP P w t y) : ∀ {ts : List T} {ys : List V}, AllP P w ts ys → AllP P w (ts ++ [t]) (ys ++ [y])
  | [], [], _ => ⟨h1, trivial⟩
  | _ :: ts, _ :: ys, h => ⟨h.1, AllP.snoc h1 h.2⟩
theorem Ze0 (pre : List V) (y : V) (ys : List V) (j : Nat) (u : Value) (h : (V.cells y)[j]? = some u) : ((pre ++ y :: ys).flatMap V.cells)[pre.length * 3 + j]? = some u := by
  rw [List.flatMap_append, List.getElem?_append_right (by rw [Zd5]; omega), Zd5, Nat.add_sub_cancel_left, List.flatMap_cons, List.getElem?_append_left (List.getElem?_eq_some_iff.1 h).1, h]
theorem Zlr {P : Nat → Prop} {w : World} {g : Nat} {all : List V} (hc : ∀ j u, (all.flatMap V.cells)[j]? = some u → w.cell? ((⟨g, 0, none⟩ : Addr).add j) = some u) (hP : P g) :
    ∀ (ts : List T) (ys pre : List V), all = pre ++ ys → AllP P w ts ys → LiesPAll P w ts (some ⟨g, 0, none⟩) pre.length
  | [], [], pre, _, _ => Zbs
  | t :: ts, y :: ys, pre, e, h => by
    have hr := Zlr hc hP ts ys (pre ++ [y]) (by rw [e]; simp) h.2
    rw [List.length_append] at hr
    refine liesPAll_cons.2 ⟨⟨g, 0, y, ⟨rfl, hP⟩, ?_, ?_, ?_, h.1⟩, hr⟩
    · have := hc (pre.length * 3 + 0) (.bool y.l) (by rw [e]; exact Ze0 pre y ys 0 _ rfl)
      rw [Zbb] at this
      simpa using this
    · have := hc (pre.length * 3 + 1) (.slice y.ba y.bn y.bc) (by rw [e]; exact Ze0 pre y ys 1 _ rfl)
      rw [Zbb] at this
      rw [show 0 + pre.length * 3 + 1 = 0 + (pre.length * 3 + 1) from by omega]
      exact this
    · have := hc (pre.length * 3 + 2) (.slice y.ia y.m y.ic) (by rw [e]; exact Ze0 pre y ys 2 _ rfl)
      rw [Zbb] at this
      rw [show 0 + pre.length * 3 + 2 = 0 + (pre.length * 3 + 2) from by omega]
      exact this
theorem Zl2 {v : Value} (hown : OwnI w base v ys) (h : AllP P w ts ys) (hP : ∀ g, v.ownBlock = some g → P g) :
    ∃ ia ic, v = .slice ia ts.length ic ∧ ts.length ≤ ic ∧ ic ≤ maxLen ∧ LiesPAll P w ts ia 0 := by
  have hl := h.len
  rcases hown.2 with ⟨rfl, hn0⟩ | ⟨g, cap, cur, rfl, hbg, hg, hnc, hcm, hcs, htake⟩
  · have : ts = [] := List.eq_nil_of_length_eq_zero (by omega)
    subst this
    exact ⟨none, 0, rfl, Nat.le_refl _, by unfold maxLen; omega, Zbs⟩
  · exact ⟨some ⟨g, 0, none⟩, cap, by rw [hl], by omega, hcm, Zlr (World.ownsRow.cells hown (g := g) rfl) (hP g rfl) ts ys [] rfl h⟩
theorem Zdp (h : fn.results = #[.cell p 76, .tmp u]) (tmps : Array Value) (w : World) (g : Nat) (a b c : Value)
    (hp : tmps.getD p undef = .pointer (some ⟨g, 0, none⟩)) (hg : w.heap[g]? = some (.cells #[a, b, c] 76)) :
    (results fn tmps).run Tryz.prog w = .ok (.tuple #[.agg #[a, b, c], tmps.getD u undef]) w := by
  have hp' : tmps[p]?.getD undef = .pointer (some ⟨g, 0, none⟩) := by simpa using hp
  simp [results, h, hp', asAddr, run_loadVar_row (P := Tryz.prog) w g 76 76 #[a, b, c] (0, 0) _ hg Tryz.underlying76 rfl (by kernel_rfl)]
theorem Za3 {v : Tmp} (h : fn.results = #[.cell p 76, .tmp u, .tmp v]) (tmps : Array Value) (w : World) (g : Nat) (a b c : Value)
    (hp : tmps.getD p undef = .pointer (some ⟨g, 0, none⟩)) (hg : w.heap[g]? = some (.cells #[a, b, c] 76)) :
    (results fn tmps).run Tryz.prog w = .ok (.tuple #[.agg #[a, b, c], tmps.getD u undef, tmps.getD v undef]) w := by
  have hp' : tmps[p]?.getD undef = .pointer (some ⟨g, 0, none⟩) := by simpa using hp
  simp [results, h, hp', asAddr, run_loadVar_row (P := Tryz.prog) w g 76 76 #[a, b, c] (0, 0) _ hg Tryz.underlying76 rfl (by kernel_rfl)]
theorem put3 {t : Nat} {x0 x1 x2 : Value} (h : w.heap[g]? = some (.cells #[x0, x1, x2] t)) (a b c : Value) :
    (((w.setCell ⟨g, 0, none⟩ a).setCell ⟨g, 1, none⟩ b).setCell ⟨g, 2, none⟩ c).heap[g]? = some (.cells #[a, b, c] t) := by
  have h1 := heap_setCell_same w g 0 _ t a h
  have h2 := heap_setCell_same _ g 1 _ t b h1
  have h3 := heap_setCell_same _ g 2 _ t c h2
  simpa using h3
theorem Zcd {k : Nat} (hk : k ≠ g) (a b c : Value) : (((w.setCell ⟨g, 0, none⟩ a).setCell ⟨g, 1, none⟩ b).setCell ⟨g, 2, none⟩ c).heap[k]? = w.heap[k]? := by
  rw [heap_setCell_other _ _ _ _ hk, heap_setCell_other _ _ _ _ hk, heap_setCell_other _ _ _ _ hk]
theorem Zbx {B : Nat} {w0 : World} (h : Below B w0 w) (hg : B ≤ g) (a b c : Value) : Below B w0 (((w.setCell ⟨g, 0, none⟩ a).setCell ⟨g, 1, none⟩ b).setCell ⟨g, 2, none⟩ c) :=
  ((h.setCell hg a).setCell hg b).setCell hg c
def z3 : Array Value := #[.bool false, .slice none 0 0, .slice none 0 0]
set_option maxHeartbeats 1000000 in
theorem Zcx (a : Option Addr) (n c : Nat) (b : List Int) (w : World) (h : Ag w a n c b) (hn : n ≤ 140737488351232) :
    Calls Tryz.prog 31 #[.slice a n c] w fun e w' => e = .returned (.agg #[.bool false, .slice (some ⟨w.heap.size + 1, 0, none⟩) n n, .slice none 0 0]) ∧ Row (w.heap.size + 1) w' b ∧ Below w.heap.size w w' := by
  have hmk := run_make_row' (P := Tryz.prog) 29 5 (.int .u8 0) 1 Tryz.underlying29 info5b rfl .i64 .i64 n (by omega) (by omega)
  obtain ⟨w0, hw0⟩ : ∃ w0, w.alloc (.cells #[.bool false, .slice none 0 0, .slice none 0 0] 76) = w0 := ⟨_, rfl⟩
  have hs0 : w0.heap.size = w.heap.size + 1 := by rw [← hw0]; simp
  have hbw0 : Below w.heap.size w w0 := by rw [← hw0]; exact (Below.refl _ _).alloc (Nat.le_refl _) _
  have hres : w0.heap[w.heap.size]? = some (.cells #[.bool false, .slice none 0 0, .slice none 0 0] 76) := by rw [← hw0]; exact heap_alloc_new _ _
  have hrow : Row w0.heap.size (w0.alloc (.cells (madeCells #[.int .u8 0] n) 5)) (List.replicate n 0) := by
    unfold Row; rw [heap_alloc_new, made_bytes]
  have hbw : Below w.heap.size w (w0.alloc (.cells (madeCells #[.int .u8 0] n) 5)) := hbw0.alloc (by omega) _
  obtain ⟨w1, hrun, hrow1, ht⟩ := Zi4 (o := 0) (dl := n) (dc := n) (da := some ⟨w0.heap.size, 0, none⟩) hrow (h.at hbw) rfl (by simp) (fun _ => rfl)
  rw [List.take_zero, List.nil_append, Nat.zero_add, List.drop_of_length_le (by simp), List.append_nil] at hrow1
  have hres1 : w1.heap[w.heap.size]? = some (.cells #[.bool false, .slice none 0 0, .slice none 0 0] 76) := (ht.block _ (by simp; omega) (by omega)).trans ((Below.heap_alloc _ _ _ (by omega)).trans hres)
  have hb1 := Touch.below hbw ht (by omega) hbw.size
  rw [hs0] at hrun hrow1
  rw [← hw0] at hrun
  have HRUN := Hid.mk hrun
  have HROW := Hid.mk hrow1
  have HB := Hid.mk hb1
  have HRES := Hid.mk hres1
  have x0 : w1.cell? ⟨w.heap.size, 0, none⟩ = some (.bool false) := by rw [cell_of_row _ _ _ _ _ _ hres1]; rfl
  have x1 : w1.cell? ⟨w.heap.size, 1, none⟩ = some (.slice none 0 0) := by rw [cell_of_row _ _ _ _ _ _ hres1]; rfl
  have x2 : w1.cell? ⟨w.heap.size, 2, none⟩ = some (.slice none 0 0) := by rw [cell_of_row _ _ _ _ _ _ hres1]; rfl
  have xf : ∀ o, w1.frozen? ⟨w.heap.size, o, none⟩ = false := fun o => frozen_of_row _ _ _ _ _ hres1
  clear hrow hrun hrow1 ht hbw h hw0 hs0 hbw0 hres hres1 hb1
  go_enter Tryz.func31, Tryz.ntmps31
  go_wp2_with (first | refine wpl_copy rfl _ _ rfl _ _ rfl rfl (HRUN.out _) ?_)
  have hr := put3 HRES.out (.bool false) (.slice (some ⟨w.heap.size + 1, 0, none⟩) n n) (.slice none 0 0)
  refine bodyPost_ret (results_cell_row Tryz.results31 _ _ w.heap.size 76 _ (0, 0) _ rfl hr Tryz.underlying76 rfl (by kernel_rfl)) rfl ?_
  exact ⟨rfl, (Zcd (by omega) _ _ _).trans HROW.out, Zbx HB.out (Nat.le_refl _) _ _ _⟩
def lenOf : Value → Nat | .slice _ n _ => n | _ => 0
theorem Ze4 {w : World} {ops : Array Oper} {rest : List Oper} {o : Oper} {a : Act} {Q : Exit → Act → World → Prop} (hgd : o.guard = none) (s x : Operand)
    (ho : o.op = .call { callee := .builtin .append, args := #[s, x], argTypes := #[74, 74] }) (v u : Value) (hd : a.eval s = v) (hx : a.eval x = u) {v' : Value} {w' : World}
    (hr : (Builtin.append_ #[74, 74] o.type #[v, u]).run Tryz.prog w = .ok v' w') (h : wpList Tryz.prog ops Q rest (a.put o.dst v') w') : wpList Tryz.prog ops Q (o :: rest) a w := by
  refine wpList_plain hgd fun K hK => ?_
  unfold Oper.wp
  simp [execOp, ho, resolve, invoke, builtin, hd, hx, hr, Result.andThen]
  exact hK _ _ h
def ReadPost (w : World) (r : R) : Ending → World → Prop := fun e w' => Below w.heap.size w w' ∧
  match r with
  | .bad er => e = .returned (.tuple #[.agg #[.bool false, .slice none 0 0, .slice none 0 0], .int .i64 0, .int .i64 (er : Nat)]) ∧ er ≠ 0
  | .ok t m => ∃ y : V, e = .returned (.tuple #[.agg #[.bool y.l, .slice y.ba y.bn y.bc, .slice y.ia y.m y.ic], .int .i64 (m : Nat), .int .i64 0]) ∧ LiesP (fun b => w.heap.size ≤ b) w' t y
def ReadSaid (k : Nat) : Prop := ∀ (a : Option Addr) (n c d : Nat) (b : List Int) (w : World), Ag w a n c b → d + k = 8 → n ≤ 140737488351232 → Calls Tryz.prog 110 #[.slice a n c, .int .i64 d] w (ReadPost w (rd k b))
def AllPost (w : World) (r : RL) : Ending → World → Prop := fun e w' => Below w.heap.size w w' ∧
  match r with
  | .bad er => e = .returned (.tuple #[.slice none 0 0, .int .i64 (er : Nat)]) ∧ er ≠ 0
  | .ok ts => ∃ ia ic, e = .returned (.tuple #[.slice ia ts.length ic, .int .i64 0]) ∧ ts.length ≤ ic ∧ ic ≤ maxLen ∧ LiesPAll (fun b => w.heap.size ≤ b) w' ts ia 0
def RL.pre (ts : List T) : RL → RL
  | .bad e => .bad e
  | .ok us => .ok (ts ++ us)
theorem Zvd (r : RL) : RL.pre [] r = r := by cases r <;> rfl
theorem Zsb {f : List Int → R} (hf : ∀ b t m, f b = .ok t m → 1 ≤ m) {t : T} (hb : b ≠ []) (h : f b = .ok t m) : RL.pre ts (rdAll f b.length b) = RL.pre (ts ++ [t]) (rdAll f (b.drop m).length (b.drop m)) := by
  have hm := hf _ _ _ h
  have hl : 0 < b.length := List.length_pos_iff.2 hb
  obtain ⟨n, hn⟩ : ∃ n, b.length = n + 1 := ⟨b.length - 1, by omega⟩
  rw [hn, Zd0 hb h, Zhx hf n (b.drop m).length (b.drop m) (by rw [List.length_drop]; omega) (Nat.le_refl _)]
  cases rdAll f (b.drop m).length (b.drop m) with
  | bad e => rfl
  | ok us => simp [RL.pre]
theorem Zgi {f : List Int → R} (hf : ∀ b t m, f b = .ok t m → 1 ≤ m ∧ m ≤ b.length) : ∀ n b ts, rdAll f n b = .ok ts → ts.length ≤ b.length
  | n, [], ts, h => by rw [Zc3] at h; cases h; simp
  | 0, _ :: _, ts, h => by cases h
  | n + 1, x :: b, ts, h => by
    cases hx : f (x :: b) with
    | bad e => rw [Zds (by simp) hx] at h; cases h
    | ok t m =>
      have hm := hf _ _ _ hx
      rw [Zd0 (by simp) hx] at h
      cases hr : rdAll f n ((x :: b).drop m) with
      | bad e => rw [hr] at h; cases h
      | ok us =>
        rw [hr] at h
        cases h
        have := Zgi hf n _ us hr
        rw [List.length_drop] at this
        simp only [List.length_cons] at *
        omega
theorem Zl1 {v : Value} (h : OwnI w base v ys) (hg : v.ownBlock = some g) : base ≤ g ∧ g < w.heap.size := by
  rcases h.2 with ⟨rfl, _⟩ | ⟨g', cap, cur, rfl, hbg, hh, _⟩
  · cases hg
  · cases hg
    exact ⟨hbg, lt_of_get hh⟩
theorem Zl3 {w' : World} {v : Value} (h : OwnI w base v ys) (hk : ∀ g, v.ownBlock = some g → g < w.heap.size → w'.heap[g]? = w.heap[g]?) : OwnI w' base v ys := by
  refine ⟨h.1, ?_⟩
  rcases h.2 with h2 | ⟨g, cap, cur, hv, hb, hh, r⟩
  · exact .inl h2
  · exact .inr ⟨g, cap, cur, hv, hb, (hk g (by rw [hv]; rfl) (lt_of_get hh)).trans hh, r⟩
theorem Zm7 {wr w1 : World} {it : Value} {y : V} {t : T} (hown : OwnI wr w.heap.size it ys) (hall : AllP (fun b => w.heap.size ≤ b ∧ it.ownBlock ≠ some b) wr ts ys) (hbel : Below w.heap.size w wr) (hb1 : Below wr.heap.size wr w1)
    (hy : LiesP (fun b => wr.heap.size ≤ b) w1 t y) (hlen : ys.length ≤ 1000000000) (ty : TypeId) :
    ∃ v' w3, (Builtin.append_ #[74, 74] ty #[it, .slice (some ⟨w1.heap.size + 1, 0, none⟩) 1 1]).run Tryz.prog ((w1.alloc (.cells #[.bool y.l, .slice y.ba y.bn y.bc, .slice y.ia y.m y.ic] 76)).alloc (.cells #[.bool y.l, .slice y.ba y.bn y.bc, .slice y.ia y.m y.ic] 76)) = .ok v' w3 ∧
      OwnI w3 w.heap.size v' (ys ++ [y]) ∧ AllP (fun b => w.heap.size ≤ b ∧ v'.ownBlock ≠ some b) w3 (ts ++ [t]) (ys ++ [y]) ∧ Below w.heap.size w w3 := by
  obtain ⟨Y, hY⟩ : ∃ Y : Obj, Obj.cells #[.bool y.l, .slice y.ba y.bn y.bc, .slice y.ia y.m y.ic] 76 = Y := ⟨_, rfl⟩
  rw [hY]
  have hs2 : ((w1.alloc Y).alloc Y).heap.size = w1.heap.size + 2 := by simp
  have hb2 : Below wr.heap.size wr ((w1.alloc Y).alloc Y) := (hb1.alloc hb1.size _).alloc (by have := hb1.size; simp; omega) _
  have hz := hbel.size
  have hz1 := hb1.size
  have hblk : ((w1.alloc Y).alloc Y).heap[w1.heap.size + 1]? = some Y := heap_alloc2_new w1 Y Y
  have hnews : ∀ j u, (V.cells y)[j]? = some u → ((w1.alloc Y).alloc Y).cell? ((⟨w1.heap.size + 1, 0, none⟩ : Addr).add j) = some u := by
    intro j u hu
    rw [Zbb, Nat.zero_add]
    rw [← hY] at hblk ⊢
    rw [cell_of_row _ _ _ _ _ _ hblk]
    simpa [V.cells] using hu
  obtain ⟨v', w3, hrun, hown3, hgr, hown4⟩ := Zm0 (Zl3 hown fun g _ hg => hb2.block g hg) y _ 1 hnews (by omega) hlen ty
  have hfar : ∀ b, b < w1.heap.size + 2 → it.ownBlock ≠ some b → w3.heap[b]? = ((w1.alloc Y).alloc Y).heap[b]? := fun b hb hne => hgr.block b (by rw [hs2]; exact hb) (fun h => hne h.symm)
  have hit : ∀ g, it.ownBlock = some g → g < wr.heap.size := fun g hg => (Zl1 hown hg).2
  have hv' : ∀ b, b < w1.heap.size → it.ownBlock ≠ some b → v'.ownBlock ≠ some b := fun b hb hne h => by
    rcases hown4 with h4 | h4
    · exact hne (h4.symm.trans h)
    · rw [h4, hs2] at h; cases h; omega
  refine ⟨v', w3, hrun, hown3, AllP.snoc ?_ (hall.mono fun b hb hlt => ⟨?_, hb.1, hv' b (by omega) hb.2⟩), ?_⟩
  · refine Zax (fun b hb hlt => ⟨?_, by omega, ?_⟩) t y hy
    · have hne : it.ownBlock ≠ some b := fun h => by have := hit b h; omega
      rw [hfar b (by omega) hne, Below.heap_alloc _ _ _ (by simp; omega), Below.heap_alloc _ _ _ hlt]
    · exact hv' b hlt (fun h => by have := hit b h; omega)
  · rw [hfar b (by omega) hb.2]
    exact hb2.block b hlt
  · refine hbel.trans ⟨hgr.os.trans hb2.os, hgr.tape.trans hb2.tape, hgr.output.trans hb2.output, Nat.le_trans hb2.size hgr.size, fun b hb => ?_⟩
    rw [hfar b (by omega) (fun h => by have := (Zl1 hown h).1; omega)]
    exact hb2.block b (by omega)
set_option maxHeartbeats 1000000 in
theorem Zks (k : Nat) (hread : ReadSaid k) (a : Option Addr) (n c d : Nat) (b : List Int) (w : World) (h : Ag w a n c b) (hd : d + k = 8) (hn : n < 16777216) :
    Calls Tryz.prog 123 #[.slice a n c, .int .i64 d] w (AllPost w (rdAll (rd k) b.length b)) := by
  have HRD := Hid.mk hread
  have HA := Hid.mk h
  obtain ⟨res, hres⟩ : ∃ r, rdAll (rd k) b.length b = r := ⟨_, rfl⟩
  rw [hres]
  have HRES := Hid.mk hres
  have HL := Hid.mk h.l
  clear hread h hres
  go_enter Tryz.func123, Tryz.ntmps123
  go_wp2_with fail
  go_loopw [0, 6] (fun bo it v => ∃ (aj : Option Addr) (nj cj : Nat) (bj : List Int) (ts : List T) (ys : List V), bo = .slice aj nj cj ∧ Ag w aj nj cj bj ∧ nj + ts.length ≤ n ∧ res = RL.pre ts (rdAll (rd k) bj.length bj) ∧ OwnI v w.heap.size it ys ∧ AllP (fun b => w.heap.size ≤ b ∧ it.ownBlock ≠ some b) v ts ys ∧ Below w.heap.size w v) (fun bo _ _ => lenOf bo)
  case atStart => exact ⟨a, n, c, b, [], [], rfl, HA.out, by simp, by rw [Zvd]; exact HRES.out.symm, World.ownsRow_nil _ _ _ _, trivial, Below.refl _ _⟩
  case round =>
    obtain ⟨aj, nj, cj, bj, ts, ys, rfl, hag, hnj, hres, hown, hall, hbel⟩ := hrel
    have hlj := hag.l
    by_cases h0 : nj = 0
    · subst h0
      have hb0 : bj = [] := List.eq_nil_of_length_eq_zero hlj
      subst hb0
      rw [Zc3] at hres
      obtain ⟨ia, ic, rfl, e2, e3, e4⟩ := Zl2 (P := fun b => w.heap.size ≤ b) hown (hall.mono fun b hb _ => ⟨rfl, hb.1⟩) (fun g hg => World.ownsRow.lt hown g hg |>.1)
      have HF : Hid (AllPost w res (.returned (.tuple #[.slice ia ts.length ic, .int .i64 0])) wr) := by
        rw [hres]
        simp only [RL.pre, List.append_nil]
        exact ⟨hbel, ia, ic, rfl, e2, e3, e4⟩
      clear hag hres hown hall hbel e2 e3 e4 hlj
      go_wp2_with fail
      go_ret2
      exact HF.out
    · have hb0 : bj ≠ [] := fun h => by rw [h] at hlj; simp at hlj; omega
      have hni : (0 : Int) < nj := by omega
      have hnn : 0 < nj := by omega
      obtain ⟨gj, offj, rfl, hc1, hc2, hcc⟩ := ag_head hag hnn
      unfold maxLen at hc2
      have hcal := HRD.out _ nj cj d bj wr (hag.at hbel) hd (by omega)
      have HCAL := Hid.mk hcal
      have HAG := Hid.mk hag
      have HREL := Hid.mk (And.intro hres (And.intro hown (And.intro hall hbel)))
      clear hcal hag hres hown hall hbel hcc hlj
      go_wp2_with fail
      refine HCAL.out.mono ?_
      rintro e w1 ⟨hb1, hm⟩
      obtain ⟨hres, hown, hall, hbel⟩ := HREL.out
      cases hr : rd k bj with
      | bad er =>
        rw [hr] at hm
        obtain ⟨rfl, her⟩ := hm
        have hfin : res = .bad er := by
          rw [hres]
          obtain ⟨q, hq⟩ : ∃ q, bj.length = q + 1 := ⟨bj.length - 1, by have := HAG.out.l; omega⟩
          rw [hq, Zds hb0 hr]
          rfl
        have HF : Hid (∀ w', Below w.heap.size w w' → AllPost w res (.returned (.tuple #[.slice none 0 0, .int .i64 (er : Nat)])) w') := fun w' hw' => by rw [hfin]; exact ⟨hw', rfl, her⟩
        have hee : ((er : Int) != 0) = true := by rw [bne_iff_ne]; omega
        have HB := Hid.mk ((hbel.trans (hb1.mono hbel.size)).alloc (Nat.le_trans hbel.size hb1.size) (.cells #[.bool false, .slice none 0 0, .slice none 0 0] 76))
        clear hfin hres hown hall hbel hb1 her hr HREL
        go_wp2_with fail
        go_ret2
        exact HF.out _ HB.out
      | ok t m =>
        rw [hr] at hm
        obtain ⟨y, rfl, hy⟩ := hm
        have HH := Hid.mk (And.intro hres (And.intro hown (And.intro hall (And.intro hbel (And.intro hb1 hy)))))
        obtain ⟨hm1, hm2⟩ := rd_n hr
        have hml := HAG.out.l
        have HRR := Hid.mk hr
        have hyl : ys.length ≤ 1000000000 := by have := hall.len; omega
        obtain ⟨v', w3, hrun, s1, s2, s3⟩ := Zm7 hown hall hbel hb1 hy hyl 74
        have HRUN := Hid.mk hrun
        have hdrop := Zrb HAG.out (k := m) (by omega)
        have hpre := Zsb (f := rd k) (ts := ts) (fun b t m h => (rd_n h).1) hb0 hr
        have HEND : Hid (∃ (bj' : List Int) (ts' : List T) (ys' : List V), Ag w (if cj = m then some ⟨gj, offj, none⟩ else some ⟨gj, offj + m, none⟩) (nj - m) (cj - m) bj' ∧ nj - m + ts'.length ≤ n ∧ res = RL.pre ts' (rdAll (rd k) bj'.length bj') ∧ OwnI w3 w.heap.size v' ys' ∧ AllP (fun b => w.heap.size ≤ b ∧ v'.ownBlock ≠ some b) w3 ts' ys' ∧ Below w.heap.size w w3) :=
          ⟨bj.drop m, ts ++ [t], ys ++ [y], hdrop, by rw [List.length_append]; simp; omega, by rw [hres, hpre], s1, s2, s3⟩
        have hmi : (m : Int) ≤ nj := by omega
        clear hres hown hall hbel hb1 hy hr HREL hrun s1 s2 s3 hdrop hpre hyl HH
        go_wp2_with (first | refine Ze4 rfl _ _ rfl _ _ rfl rfl HRUN.out ?_)
        obtain ⟨bj', ts', ys', e1, e2, e3, e4, e5, e6⟩ := HEND.out
        refine ⟨⟨_, nj - m, cj - m, bj', ts', ys', rfl, e1, e2, e3, e4, e5, e6⟩, ?_⟩
        simp only [lenOf]
        omega
theorem Zv9 {e : Nat} (h : hdr deep b = .bad e) : e ≠ 0 := by
  unfold hdr at h
  split at h
  · cases h; decide
  · split at h
    · cases h; decide
    · split at h
      · cases h
      · split at h
        · split at h
          · cases h; assumption
          · split at h
            · cases h; decide
            · cases h
        · split at h
          · cases h; decide
          · cases h
theorem Zs3 {f t : Nat} (h : hdr deep (x :: r) = .ok f t) (hx : x < 256) : t - f < 16777216 ∨ ∃ y ∈ r, ¬ (0 ≤ y ∧ y < 256) := by
  by_cases hall : ∀ y ∈ r, 0 ≤ y ∧ y < 256
  · left
    simp only [hdr] at h
    split at h
    · cases h
    · split at h
      · cases h; decide
      · split at h
        · split at h
          · cases h
          · rename_i h4
            obtain ⟨a1, a2, _, _, a3⟩ := Zev (Decidable.not_not.1 h4)
            split at h
            · cases h
            · cases h
              obtain ⟨v1, v2⟩ := Zda hall a2 a1
              omega
        · split at h
          · cases h
          · cases h
            omega
  · right
    simpa using hall
theorem Zs4 (hx : 192 ≤ x) : hdr true (x :: r) = .bad 21 := by
  simp [hdr, hx]
theorem Zui {off n c : Nat} (h : Ag w (some ⟨g, off, none⟩) n c b) {f t : Nat} (hf : f ≤ t) (ht : t ≤ n) : Ag w (if c = f then some ⟨g, off, none⟩ else some ⟨g, off + f, none⟩) (t - f) (c - f) ((b.take t).drop f) := by
  have hl := h.l
  have hl2 : ((b.take t).drop f).length = t - f := by rw [List.length_drop, List.length_take]; omega
  refine ⟨?_, ?_, hl2, fun x hx => h.b x (List.mem_of_mem_take (List.mem_of_mem_drop hx))⟩
  · by_cases h0 : t - f = 0
    · exact .inl ⟨h0, List.eq_nil_of_length_eq_zero (by omega)⟩
    · rcases h.i with ⟨h1, _⟩ | ⟨g', off', h1, h2, h3, h4, h5, h6⟩
      · omega
      · cases h1
        refine .inr ⟨g, off + f, if_neg (by omega), hl2, by omega, by omega, by omega, fun j hj => ?_⟩
        rw [hl2] at hj
        have := h6 (f + j) (by omega)
        rw [Nat.add_assoc, this]
        simp [List.getD, List.getElem?_drop, List.getElem?_take_of_lt (show f + j < t by omega)]
  · intro hh
    split at hh <;> cases hh
set_option maxHeartbeats 1000000 in
theorem Zr4 (a : Option Addr) (n c d : Nat) (b : List Int) (w : World) (h : Ag w a n c b) (hd : d ≤ 8) (hn : n ≤ 140737488351232) (er : Nat) (hh : hdr (decide (d = 8)) b = .bad er) :
    Calls Tryz.prog 110 #[.slice a n c, .int .i64 d] w (ReadPost w (.bad er)) := by
  have hcal := fun w' (hb : Below w.heap.size w w') => Zfg a n c d b w' (h.at hb) hd (by omega)
  simp only [hh, HR.f, HR.t, HR.e] at hcal
  have her := Zv9 hh
  have hee : ((er : Int) != 0) = true := by rw [bne_iff_ne]; omega
  have HCAL := Hid.mk hcal
  clear hcal hh h
  go_enter Tryz.func110, Tryz.ntmps110
  go_wp2_with fail
  refine (HCAL.out _ ((Below.refl _ _).alloc (Nat.le_refl _) _)).mono ?_
  rintro e w1 ⟨rfl, hb⟩
  rw [show ((0 : Nat) : Int) = 0 from rfl]
  have hres1 : w1.heap[w.heap.size]? = some (.cells #[.bool false, .slice none 0 0, .slice none 0 0] 76) := Below.row hb (heap_alloc_new _ _)
  have hb1 : Below w.heap.size w w1 := ((Below.refl w.heap.size w).alloc (Nat.le_refl _) _).trans (hb.mono (by simp))
  have x0 : w1.cell? ⟨w.heap.size, 0, none⟩ = some (.bool false) := by rw [cell_of_row _ _ _ _ _ _ hres1]; rfl
  have x1 : w1.cell? ⟨w.heap.size, 1, none⟩ = some (.slice none 0 0) := by rw [cell_of_row _ _ _ _ _ _ hres1]; rfl
  have x2 : w1.cell? ⟨w.heap.size, 2, none⟩ = some (.slice none 0 0) := by rw [cell_of_row _ _ _ _ _ _ hres1]; rfl
  have xf : ∀ o, w1.frozen? ⟨w.heap.size, o, none⟩ = false := fun o => frozen_of_row _ _ _ _ _ hres1
  have HR := Hid.mk hres1
  have HB1 := Hid.mk hb1
  clear hres1 hb hb1
  go_wp2_with fail
  have hr := put3 HR.out (.bool false) (.slice none 0 0) (.slice none 0 0)
  refine bodyPost_ret (Za3 Tryz.results110 _ _ w.heap.size _ _ _ rfl hr) rfl ?_
  exact ⟨Zbx HB1.out (Nat.le_refl _) _ _ _, rfl, her⟩
theorem Zc5 {bs : List Int} (h : Row g w bs) (hl : bs.length = m) (hb : ∀ x ∈ bs, 0 ≤ x ∧ x < 256) (hm : m ≤ 140737488351232) (hP : P g) : LiesP P w (.mk false bs []) ⟨false, some ⟨g, 0, none⟩, m, m, none, 0, 0⟩ := by
  have hm2 : m ≤ 9223372036854775807 := by omega
  refine liesP_eq.2 ⟨⟨rfl, row_ag h hl hb hm2, rfl, Nat.le_refl _, by show 0 ≤ maxLen; unfold maxLen; omega, ⟨hm, by show 0 ≤ _; omega⟩, fun g' off e _ => ?_⟩, Zbs⟩
  cases e
  exact ⟨hP, fun o => frozen_of_row _ _ _ _ _ h⟩
set_option maxHeartbeats 2000000 in
theorem Zo1 (a : Option Addr) (n c d : Nat) (x : Int) (r : List Int) (w : World) (h : Ag w a n c (x :: r)) (hd : d ≤ 8) (hn : n ≤ 140737488351232) (f t : Nat) (hh : hdr (decide (d = 8)) (x :: r) = .ok f t) (hx : x < 192) (res : R)
    (hres : (if f = 1 ∧ t = 2 ∧ (x :: r).getD 1 0 < 128 then R.bad 23 else R.ok (.mk false (((x :: r).take t).drop f) []) t) = res) :
    Calls Tryz.prog 110 #[.slice a n c, .int .i64 d] w (ReadPost w res) := by
  have hcal := fun w' (hb : Below w.heap.size w w') => Zfg a n c d (x :: r) w' (h.at hb) hd (by omega)
  simp only [hh, HR.f, HR.t, HR.e] at hcal
  obtain ⟨hft, htn, ht1, _⟩ := Zj4 hh
  rw [h.l] at htn
  obtain ⟨g, off, rfl, hc1, hc2, hc⟩ := ag_head h (by omega)
  unfold maxLen at hc2
  have hsub := Zui h hft htn
  have HCAL := Hid.mk hcal
  have HA := Hid.mk h
  have HC := Hid.mk hc
  have HSUB := Hid.mk hsub
  have HRES := Hid.mk hres
  have hbb := h.b x (by simp)
  obtain ⟨hx0, hx1⟩ := hbb
  have hn1 : 0 < n := by omega
  have hn2 : (0 : Int) < n := by omega
  clear hcal hh h hc hsub hres
  go_enter Tryz.func110, Tryz.ntmps110
  go_wp2_with fail
  refine (HCAL.out _ ((Below.refl _ _).alloc (Nat.le_refl _) _)).mono ?_
  rintro e w1 ⟨rfl, hb⟩
  rw [show ((0 : Nat) : Int) = 0 from rfl]
  have hres1 : w1.heap[w.heap.size]? = some (.cells #[.bool false, .slice none 0 0, .slice none 0 0] 76) := Below.row hb (heap_alloc_new _ _)
  have hb1 : Below w.heap.size w w1 := ((Below.refl w.heap.size w).alloc (Nat.le_refl _) _).trans (hb.mono (by simp))
  have x0 : w1.cell? ⟨w.heap.size, 0, none⟩ = some (.bool false) := by rw [cell_of_row _ _ _ _ _ _ hres1]; rfl
  have x1 : w1.cell? ⟨w.heap.size, 1, none⟩ = some (.slice none 0 0) := by rw [cell_of_row _ _ _ _ _ _ hres1]; rfl
  have x2 : w1.cell? ⟨w.heap.size, 2, none⟩ = some (.slice none 0 0) := by rw [cell_of_row _ _ _ _ _ _ hres1]; rfl
  have xf : ∀ o, w1.frozen? ⟨w.heap.size, o, none⟩ = false := fun o => frozen_of_row _ _ _ _ _ hres1
  have y0 : w1.cell? ⟨g, off, none⟩ = some (.int .u8 x) := by have := HC.out 0 hn1; exact (hb1.cell (p := ⟨g, off, none⟩) (block_lt_of_cell this)).trans this
  have HR := Hid.mk hres1
  have HB1 := Hid.mk hb1
  clear hres1 hb hb1
  have fin : ∀ w1', w1' = w1 → True := fun _ _ => trivial
  by_cases h12 : f = 1 ∧ t = 2
  · obtain ⟨rfl, rfl⟩ := h12
    have y1 : w1.cell? ⟨g, off + 1, none⟩ = some (.int .u8 ((x :: r).getD 1 0)) := by have := HC.out 1 (by omega); exact (HB1.out.cell (p := ⟨g, off + 1, none⟩) (block_lt_of_cell this)).trans this
    have hz := HA.out.b ((x :: r).getD 1 0) (by have hl := HA.out.l; rw [List.getD, List.getElem?_eq_getElem (by omega)]; exact List.getElem_mem _)
    have hres := HRES.out
    obtain ⟨z, hzz⟩ : ∃ z, (x :: r).getD 1 0 = z := ⟨_, rfl⟩
    rw [hzz] at y1 hz hres
    obtain ⟨hz0, hz1⟩ := hz
    have hn3 : (1 : Int) < n := by omega
    clear hzz
    by_cases hz8 : z < 128
    · rw [if_pos ⟨rfl, rfl, hz8⟩] at hres
      subst hres
      go_wp2_with fail
      have hr := put3 HR.out (.bool false) (.slice none 0 0) (.slice none 0 0)
      refine bodyPost_ret (Za3 Tryz.results110 _ _ w.heap.size _ _ _ rfl hr) rfl ?_
      exact ⟨Zbx HB1.out (Nat.le_refl _) _ _ _, rfl, by decide⟩
    · rw [if_neg (by intro h; exact hz8 h.2.2)] at hres
      subst hres
      have hsub := HSUB.out
      rw [if_neg (by omega)] at hsub
      have HCT := Hid.mk (Zcx _ (2 - 1) (c - 1) _ w1 (hsub.at HB1.out) (by omega))
      clear hsub
      go_wp2_with fail
      refine HCT.out.mono ?_
      rintro e w2 ⟨rfl, hrow2, hb2⟩
      have hres2 := Below.row hb2 HR.out
      have x0 : w2.cell? ⟨w.heap.size, 0, none⟩ = some (.bool false) := by rw [cell_of_row _ _ _ _ _ _ hres2]; rfl
      have x1 : w2.cell? ⟨w.heap.size, 1, none⟩ = some (.slice none 0 0) := by rw [cell_of_row _ _ _ _ _ _ hres2]; rfl
      have x2 : w2.cell? ⟨w.heap.size, 2, none⟩ = some (.slice none 0 0) := by rw [cell_of_row _ _ _ _ _ _ hres2]; rfl
      have xf : ∀ o, w2.frozen? ⟨w.heap.size, o, none⟩ = false := fun o => frozen_of_row _ _ _ _ _ hres2
      have HR2 := Hid.mk hres2
      have HROW := Hid.mk hrow2
      have HB2 := Hid.mk (HB1.out.trans (hb2.mono HB1.out.size))
      clear hres2 hrow2 hb2
      go_wp2_with fail
      have hr := put3 HR2.out (.bool false) (.slice (some ⟨w1.heap.size + 1, 0, none⟩) (2 - 1) (2 - 1)) (.slice none 0 0)
      refine bodyPost_ret (Za3 Tryz.results110 _ _ w.heap.size _ _ _ rfl hr) rfl ?_
      have hz1 := HB1.out.size
      refine ⟨Zbx HB2.out (Nat.le_refl _) _ _ _, ⟨false, some ⟨w1.heap.size + 1, 0, none⟩, 2 - 1, 2 - 1, none, 0, 0⟩, rfl, ?_⟩
      exact Zc5 ((Zcd (by omega) _ _ _).trans HROW.out) HSUB.out.l HSUB.out.b (by omega) (by show w.heap.size ≤ _; omega)
  · have hres := HRES.out
    rw [if_neg (fun h => h12 ⟨h.1, h.2.1⟩)] at hres
    subst hres
    have hsub := HSUB.out
    have HSL0 := Hid.mk hsub.l
    have HSB := Hid.mk hsub.b
    have hfi : (f : Int) ≤ t := by omega
    have hti : (t : Int) ≤ n := by omega
    by_cases hcf : c = f
    · rw [if_pos hcf] at hsub
      have e1 : t = f := by omega
      have e2 : n = f := by omega
      subst e1 e2 hcf
      rw [Nat.sub_self] at hsub HSL0
      have HCT := Hid.mk (Zcx _ 0 0 _ w1 (hsub.at HB1.out) (by omega))
      have HSL := HSL0
      clear hsub HSUB HSL0
      by_cases hf1 : c = 1
      · subst hf1
        have ht2 : ((1 : Int) == 2) = false := by decide
        go_wp2_with fail
        refine HCT.out.mono ?_
        rintro e w2 ⟨rfl, hrow2, hb2⟩
        have hres2 := Below.row hb2 HR.out
        have x0 : w2.cell? ⟨w.heap.size, 0, none⟩ = some (.bool false) := by rw [cell_of_row _ _ _ _ _ _ hres2]; rfl
        have x1 : w2.cell? ⟨w.heap.size, 1, none⟩ = some (.slice none 0 0) := by rw [cell_of_row _ _ _ _ _ _ hres2]; rfl
        have x2 : w2.cell? ⟨w.heap.size, 2, none⟩ = some (.slice none 0 0) := by rw [cell_of_row _ _ _ _ _ _ hres2]; rfl
        have xf : ∀ o, w2.frozen? ⟨w.heap.size, o, none⟩ = false := fun o => frozen_of_row _ _ _ _ _ hres2
        have HR2 := Hid.mk hres2
        have HROW := Hid.mk hrow2
        have HB2 := Hid.mk (HB1.out.trans (hb2.mono HB1.out.size))
        clear hres2 hrow2 hb2
        go_wp2_with fail
        have hr := put3 HR2.out (.bool false) (.slice (some ⟨w1.heap.size + 1, 0, none⟩) 0 0) (.slice none 0 0)
        refine bodyPost_ret (Za3 Tryz.results110 _ _ w.heap.size _ _ _ rfl hr) rfl ?_
        have hz1 := HB1.out.size
        refine ⟨Zbx HB2.out (Nat.le_refl _) _ _ _, ⟨false, some ⟨w1.heap.size + 1, 0, none⟩, 0, 0, none, 0, 0⟩, rfl, ?_⟩
        exact Zc5 ((Zcd (by omega) _ _ _).trans HROW.out) HSL.out HSB.out (by omega) (by show w.heap.size ≤ _; omega)
      · have hf2 : ((c : Int) == 1) = false := by simp; omega
        go_wp2_with fail
        refine HCT.out.mono ?_
        rintro e w2 ⟨rfl, hrow2, hb2⟩
        have hres2 := Below.row hb2 HR.out
        have x0 : w2.cell? ⟨w.heap.size, 0, none⟩ = some (.bool false) := by rw [cell_of_row _ _ _ _ _ _ hres2]; rfl
        have x1 : w2.cell? ⟨w.heap.size, 1, none⟩ = some (.slice none 0 0) := by rw [cell_of_row _ _ _ _ _ _ hres2]; rfl
        have x2 : w2.cell? ⟨w.heap.size, 2, none⟩ = some (.slice none 0 0) := by rw [cell_of_row _ _ _ _ _ _ hres2]; rfl
        have xf : ∀ o, w2.frozen? ⟨w.heap.size, o, none⟩ = false := fun o => frozen_of_row _ _ _ _ _ hres2
        have HR2 := Hid.mk hres2
        have HROW := Hid.mk hrow2
        have HB2 := Hid.mk (HB1.out.trans (hb2.mono HB1.out.size))
        clear hres2 hrow2 hb2
        go_wp2_with fail
        have hr := put3 HR2.out (.bool false) (.slice (some ⟨w1.heap.size + 1, 0, none⟩) 0 0) (.slice none 0 0)
        refine bodyPost_ret (Za3 Tryz.results110 _ _ w.heap.size _ _ _ rfl hr) rfl ?_
        have hz1 := HB1.out.size
        refine ⟨Zbx HB2.out (Nat.le_refl _) _ _ _, ⟨false, some ⟨w1.heap.size + 1, 0, none⟩, 0, 0, none, 0, 0⟩, rfl, ?_⟩
        exact Zc5 ((Zcd (by omega) _ _ _).trans HROW.out) HSL.out HSB.out (by omega) (by show w.heap.size ≤ _; omega)
    · rw [if_neg hcf] at hsub
      obtain ⟨q, hq⟩ : ∃ q, q = t - f := ⟨_, rfl⟩
      have HCT := Hid.mk (Zcx _ (t - f) (c - f) _ w1 (hsub.at HB1.out) (by omega))
      have HSL : Hid ((((x :: r).take t).drop f).length = q) := by rw [hq]; exact HSL0
      have hq2 : q ≤ 140737488351232 := by omega
      have HQ := Hid.mk hq
      clear hsub HSUB HSL0 hq
      by_cases hf1 : f = 1
      · subst hf1
        have ht2 : ((t : Int) == 2) = false := by simp at h12 ⊢; omega
        go_wp2_with fail
        refine HCT.out.mono ?_
        rw [← HQ.out]
        rintro e w2 ⟨rfl, hrow2, hb2⟩
        have hres2 := Below.row hb2 HR.out
        have x0 : w2.cell? ⟨w.heap.size, 0, none⟩ = some (.bool false) := by rw [cell_of_row _ _ _ _ _ _ hres2]; rfl
        have x1 : w2.cell? ⟨w.heap.size, 1, none⟩ = some (.slice none 0 0) := by rw [cell_of_row _ _ _ _ _ _ hres2]; rfl
        have x2 : w2.cell? ⟨w.heap.size, 2, none⟩ = some (.slice none 0 0) := by rw [cell_of_row _ _ _ _ _ _ hres2]; rfl
        have xf : ∀ o, w2.frozen? ⟨w.heap.size, o, none⟩ = false := fun o => frozen_of_row _ _ _ _ _ hres2
        have HR2 := Hid.mk hres2
        have HROW := Hid.mk hrow2
        have HB2 := Hid.mk (HB1.out.trans (hb2.mono HB1.out.size))
        clear hres2 hrow2 hb2
        go_wp2_with fail
        have hr := put3 HR2.out (.bool false) (.slice (some ⟨w1.heap.size + 1, 0, none⟩) q q) (.slice none 0 0)
        refine bodyPost_ret (Za3 Tryz.results110 _ _ w.heap.size _ _ _ rfl hr) rfl ?_
        have hz1 := HB1.out.size
        refine ⟨Zbx HB2.out (Nat.le_refl _) _ _ _, ⟨false, some ⟨w1.heap.size + 1, 0, none⟩, q, q, none, 0, 0⟩, rfl, ?_⟩
        exact Zc5 ((Zcd (by omega) _ _ _).trans HROW.out) HSL.out HSB.out (by omega) (by show w.heap.size ≤ _; omega)
      · have hf2 : ((f : Int) == 1) = false := by simp; omega
        go_wp2_with fail
        refine HCT.out.mono ?_
        rw [← HQ.out]
        rintro e w2 ⟨rfl, hrow2, hb2⟩
        have hres2 := Below.row hb2 HR.out
        have x0 : w2.cell? ⟨w.heap.size, 0, none⟩ = some (.bool false) := by rw [cell_of_row _ _ _ _ _ _ hres2]; rfl
        have x1 : w2.cell? ⟨w.heap.size, 1, none⟩ = some (.slice none 0 0) := by rw [cell_of_row _ _ _ _ _ _ hres2]; rfl
        have x2 : w2.cell? ⟨w.heap.size, 2, none⟩ = some (.slice none 0 0) := by rw [cell_of_row _ _ _ _ _ _ hres2]; rfl
        have xf : ∀ o, w2.frozen? ⟨w.heap.size, o, none⟩ = false := fun o => frozen_of_row _ _ _ _ _ hres2
        have HR2 := Hid.mk hres2
        have HROW := Hid.mk hrow2
        have HB2 := Hid.mk (HB1.out.trans (hb2.mono HB1.out.size))
        clear hres2 hrow2 hb2
        go_wp2_with fail
        have hr := put3 HR2.out (.bool false) (.slice (some ⟨w1.heap.size + 1, 0, none⟩) q q) (.slice none 0 0)
        refine bodyPost_ret (Za3 Tryz.results110 _ _ w.heap.size _ _ _ rfl hr) rfl ?_
        have hz1 := HB1.out.size
        refine ⟨Zbx HB2.out (Nat.le_refl _) _ _ _, ⟨false, some ⟨w1.heap.size + 1, 0, none⟩, q, q, none, 0, 0⟩, rfl, ?_⟩
        exact Zc5 ((Zcd (by omega) _ _ _).trans HROW.out) HSL.out HSB.out (by omega) (by show w.heap.size ≤ _; omega)
end Go.Proofs.YtchgejomcgoaeaaGreat
