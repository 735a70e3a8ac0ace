/- Steps through a region whose order is drawn, while something holds of the world: what yields wherever it holds, a call by its contract. -/
import Derived.Test.YtalhnnjpjaeakaaGreatG15
import Derived.Deep.RegionHeld3
import Derived.Test.YtalhnnjpjaeakaaGreatG11
namespace Go.Proofs.YtalhnnjpjaeakaaGreat
open Go.RowKit
set_option linter.unusedVariables false
set_option maxRecDepth 100000
section
variable {P : Program} {md : Region.Mode} {ops : Array Oper} {Q : Exit → Act → World → Prop} {S : World → Prop} {fuel : Nat} {listed : Array Bool} {a : Act} {w : World}
theorem rd_take (i d : Nat) (v : Value) {o : Oper} (ho : ops[i]? = some o) (hd : o.dst = some d) (hs : Region.noSelect ops = true) (hf : Region.free md ops listed i = true) (hr : (Region.ready md ops listed).contains i = true)
    (hQ : ∀ c a w, Q (.panic c) (a.put o.dst v) w → Q (.panic c) a w) (hg : Region.wanted o (yielded ops a.tmps) = true) (hy : ∀ w, S w → (execOp a.eval o).run P w = .ok (.value v) w) (hS : S w)
    (h : wpAnyH P md ops Q S fuel (listed.setIfInBounds i true) (a.put (some d) v) w) : wpAnyH P md ops Q S (fuel + 1) listed a w :=
  wpAnyH_take ho hs hf hr hQ (Or.inl ⟨hg, hy⟩) hS (hd ▸ h)
theorem rd_skip (i d : Nat) {o : Oper} (ho : ops[i]? = some o) (hd : o.dst = some d) (hs : Region.noSelect ops = true) (hf : Region.free md ops listed i = true) (hr : (Region.ready md ops listed).contains i = true)
    (hQ : ∀ c a w, Q (.panic c) (a.put o.dst undef) w → Q (.panic c) a w) (hg : Region.wanted o (yielded ops a.tmps) = false) (hS : S w)
    (h : wpAnyH P md ops Q S fuel (listed.setIfInBounds i true) (a.put (some d) undef) w) : wpAnyH P md ops Q S (fuel + 1) listed a w :=
  wpAnyH_take ho hs hf hr hQ (Or.inr ⟨hg, rfl⟩) hS (hd ▸ h)
theorem rd_run (i d : Nat) (v : Value) {rs : List Nat} {w' : World} {o : Oper} (ho : ops[i]? = some o) (hd : o.dst = some d) (hg : Region.wanted o (yielded ops a.tmps) = true) (hrun : (execOp a.eval o).run P w = .ok (.value v) w') (hS : S w')
    (h : wpAnyH P md ops Q S fuel (listed.setIfInBounds i true) (a.put (some d) v) w') (hs : AllReadyH P md ops Q S fuel listed a w rs) : AllReadyH P md ops Q S fuel listed a w (i :: rs) :=
  AllReadyH.cons ho (fun K hK => by
    rw [if_pos hg]
    unfold Oper.wp
    rw [hrun, Oper.upon_value]
    exact hK _ _ hS (fun _ => hd ▸ h)) hs
theorem rd_call (i d : Nat) {rs : List Nat} {o : Oper} (ho : ops[i]? = some o) (hd : o.dst = some d) (hg : Region.wanted o (yielded ops a.tmps) = true) (f : FuncId) (args : Array Value) (hrun : (execOp a.eval o).run P w = .ok (.enter f args) w)
    {R : Value → World → Prop} (hc : Calls P f args w fun e w' => ∃ v, e = .returned v ∧ R v w') (hSS : ∀ v w', R v w' → S w') (h : ∀ v w', R v w' → wpAnyH P md ops Q S fuel (listed.setIfInBounds i true) (a.put (some d) v) w')
    (hs : AllReadyH P md ops Q S fuel listed a w rs) : AllReadyH P md ops Q S fuel listed a w (i :: rs) :=
  AllReadyH.cons ho (fun K hK => by
    rw [if_pos hg]
    unfold Oper.wp
    rw [hrun, Oper.upon_enter]
    refine hc.mono ?_
    rintro e w' ⟨v, rfl, hR⟩
    exact hK _ _ (hSS v w' hR) (fun _ => hd ▸ h v w' hR)) hs
theorem rd_conv {s : ByteArray} {t u : TypeId} {x : Operand} {v : Value} {o : Oper} (ho : o.op = .convert t u x) (hx : a.eval x = v) (hc : (convert t u v).run P w = .ok (.string s) w) : (execOp a.eval o).run P w = .ok (.value (.string s)) w := by
  simp [execOp, ho, hx, hc]
end
section
variable {a : Act} {w : World}
theorem rd_loadB {x : Operand} {p : Addr} {v : Value} {o : Oper} (ho : o.op = .load 27 x) (hx : a.eval x = .pointer (some p)) (hc : w.cell? p = some v) : (execOp a.eval o).run Tryz.prog w = .ok (.value v) w := by
  unfold execOp
  rw [ho]
  simp only [hx]
  go_simp
theorem rd_loadL {x : Operand} {p : Addr} {v : Value} {o : Oper} (ho : o.op = .load 108 x) (hx : a.eval x = .pointer (some p)) (hc : w.cell? p = some v) : (execOp a.eval o).run Tryz.prog w = .ok (.value v) w := by
  unfold execOp
  rw [ho]
  simp only [hx]
  go_simp
theorem rd_loadb {x : Operand} {p : Addr} {v : Value} {o : Oper} (ho : o.op = .load 4 x) (hx : a.eval x = .pointer (some p)) (hc : w.cell? p = some v) : (execOp a.eval o).run Tryz.prog w = .ok (.value v) w := by
  unfold execOp
  rw [ho]
  simp only [hx]
  go_simp
theorem rd_loadI {x : Operand} {g off : Nat} {v0 v1 v2 : Value} {o : Oper} (ho : o.op = .load 110 x) (hx : a.eval x = .pointer (some ⟨g, off, none⟩)) (h0 : w.cell? ⟨g, off, none⟩ = some v0) (h1 : w.cell? ⟨g, off + 1, none⟩ = some v1) (h2 : w.cell? ⟨g, off + 2, none⟩ = some v2) : (execOp a.eval o).run Tryz.prog w = .ok (.value (.agg #[v0, v1, v2])) w := by
  unfold execOp
  rw [ho]
  simp only [hx]
  go_simp
theorem rd_index {x y : Operand} {g off j m c : Nat} {o : Oper} (ho : o.op = .indexAddr 108 x y) (hx : a.eval x = .slice (some ⟨g, off, none⟩) m c) (hy : a.eval y = .int .i64 j) (hj : j < m) : (execOp a.eval o).run Tryz.prog w = .ok (.value (.pointer (some ⟨g, off + j * 3, none⟩))) w := by
  have hji : (j : Int) < m := by omega
  unfold execOp
  rw [ho]
  simp only [hx, hy]
  go_simp
theorem rd_eqE {p q : Int} {r : TypeId} {x y : Operand} {b : Bool} {o : Oper} (ho : o.op = .binOp .eql 33 x y r) (hx : a.eval x = .int .i64 p) (hy : a.eval y = .int .i64 q) (hb : (p == q) = b) : (execOp a.eval o).run Tryz.prog w = .ok (.value (.bool b)) w := by
  subst hb
  unfold execOp
  rw [ho]
  simp only [hx, hy]
  go_simp
theorem rd_eqi {p q : Int} {r : TypeId} {x y : Operand} {b : Bool} {o : Oper} (ho : o.op = .binOp .eql 3 x y r) (hx : a.eval x = .int .i64 p) (hy : a.eval y = .int .i64 q) (hb : (p == q) = b) : (execOp a.eval o).run Tryz.prog w = .ok (.value (.bool b)) w := by
  subst hb
  unfold execOp
  rw [ho]
  simp only [hx, hy]
  go_simp
theorem rd_eqb {p q : Bool} {r : TypeId} {x y : Operand} {b : Bool} {o : Oper} (ho : o.op = .binOp .eql 4 x y r) (hx : a.eval x = .bool p) (hy : a.eval y = .bool q) (hb : (p == q) = b) : (execOp a.eval o).run Tryz.prog w = .ok (.value (.bool b)) w := by
  subst hb
  unfold execOp
  rw [ho]
  simp only [hx, hy]
  go_simp
end
theorem below_go {w0 w w' : World} (h : Below w0.heap.size w0 w) (hb : Below w.heap.size w w') : Below w0.heap.size w0 w' := h.trans (hb.mono h.size)
theorem below_cell {w w' : World} (hb : Below w.heap.size w w') {g o : Nat} {v : Value} (h : w.cell? ⟨g, o, none⟩ = some v) : w'.cell? ⟨g, o, none⟩ = some v := (hb.cell (p := ⟨g, o, none⟩) (block_lt_of_cell h)).trans h
theorem end_ret {N : Nat} {w0 : World} {a : Act} {w' : World} {fn : Func} (t : Tmp) (hr : fn.results = #[.tmp t]) (h1 : a.defers = []) (h2 : a.tmps.getD t undef = .bool true) (hb : Below N w0 w') :
    Code.wp Tryz.prog .ret (bodyPost Tryz.prog fn fun e w' => e = .returned (.bool true) ∧ Below N w0 w') a w' :=
  wp_ret (bodyPost_ret ((results_tmp (t := t) hr _ _ _).trans (by rw [h2])) h1 ⟨rfl, hb⟩)
theorem cut_at {K : Act → World → Prop} {Q : Exit → Act → World → Prop} {a F : Act} {w : World} (h : a = F) (hk : K F w) : Exit.then K Q .normal a w := by
  subst h
  exact hk
theorem Ag.drew {w : World} {a : Option Addr} {len cap : Nat} {bs : List Int} (h : Ag w a len cap bs) : Ag w.drew a len cap bs := ⟨h.i.drew, h.nil, h.l, h.b⟩
theorem ag_nil (w : World) : Ag w none 0 0 [] := ⟨.inl ⟨rfl, rfl⟩, fun _ => ⟨rfl, rfl⟩, rfl, fun x hx => by cases hx⟩
end Go.Proofs.YtalhnnjpjaeakaaGreat
/- A box that holds an item. -/
namespace Go.Proofs.YtalhnnjpjaeakaaGreat
open Go.RowKit
set_option linter.unusedVariables false
/-- A box that holds an item. -/
structure B1 (g : Nat) (v : World) (y : V) : Prop where
  c0 : v.cell? ⟨g, 0, none⟩ = some (.bool y.l)
  c1 : v.cell? ⟨g, 1, none⟩ = some (.slice y.ba y.bn y.bc)
  c2 : v.cell? ⟨g, 2, none⟩ = some (.slice y.ia y.m y.ic)
theorem B1.go {g : Nat} {v v' : World} {y : V} (h : B1 g v y) (hb : Below v.heap.size v v') : B1 g v' y := ⟨below_cell hb h.c0, below_cell hb h.c1, below_cell hb h.c2⟩
theorem b1_new (w : World) (y : V) : B1 w.heap.size (w.alloc (.cells #[.bool y.l, .slice y.ba y.bn y.bc, .slice y.ia y.m y.ic] 110)) y := by
  have h := heap_alloc_new w (.cells #[.bool y.l, .slice y.ba y.bn y.bc, .slice y.ia y.m y.ic] 110)
  exact ⟨by rw [cell_of_row _ _ _ _ _ _ h]; rfl, by rw [cell_of_row _ _ _ _ _ _ h]; rfl, by rw [cell_of_row _ _ _ _ _ _ h]; rfl⟩
theorem below_new (w : World) (o : Obj) : Below w.heap.size w (w.alloc o) := (Below.refl _ _).alloc (Nat.le_refl _) _
theorem B1.alloc {g : Nat} {v : World} {y : V} (h : B1 g v y) (o : Obj) : B1 g (v.alloc o) y := h.go (below_new v o)
theorem lies_alloc {w : World} {t : T} {y : V} (h : Lies w t y) (o : Obj) : Lies (w.alloc o) t y := lies_mono (below_new w o) t y h
theorem encP_yes {t : T} (h : (mP t).2 = 0) : encP t = (enc t, 0) := by unfold encP; rw [if_pos h]
theorem encP_no {t : T} (h : (mP t).2 ≠ 0) : encP t = ([], (mP t).2) := by unfold encP; rw [if_neg h]
theorem enc_le {t : T} (h : (mP t).2 = 0) : (enc t).length ≤ 16777220 := enc_len_le (encP_ok h).2.1
end Go.Proofs.YtalhnnjpjaeakaaGreat
/- What Encode of nest answers, once more: in new memory that may be written. -/
namespace Go.Proofs.YtalhnnjpjaeakaaGreat
open Go.RowKit
set_option linter.unusedVariables false
set_option maxRecDepth 100000
/-- What is there of it lies in new memory that may be written. -/
def Fr (base : Nat) (w : World) (a : Option Addr) (n : Nat) : Prop := ∀ g off, a = some ⟨g, off, none⟩ → 0 < n → base ≤ g ∧ ∀ o, w.frozen? ⟨g, o, none⟩ = false
set_option maxHeartbeats 1000000 in
theorem encode_own (t : T) (x : V) (w : World) (hli : Lies w t x) :
    Calls Tryz.prog 54 #[.agg #[.bool x.l, .slice x.ba x.bn x.bc, .slice x.ia x.m x.ic]] w fun e w' => (∃ a n c, e = .returned (.tuple #[.slice a n c, .int .i64 ((encP t).2 : Nat)]) ∧ Ag w' a n c (encP t).1 ∧ Fr w.heap.size w' a n) ∧ Below w.heap.size w w' := by
  have HLI := Hid.mk hli
  have HBY := Hid.mk (lies_byt t x hli)
  clear hli
  by_cases h0 : (mP t).2 = 0
  · obtain ⟨hm1, hm2, hm3⟩ := encP_ok h0
    have hel := enc_len_le hm2
    have he : encP t = (enc t, 0) := by rw [encP, if_pos h0]
    rw [he]
    have HE := Hid.mk (enc_bounds t HBY.out hm2)
    have HF := Hid.mk hm3
    have HM2 := Hid.mk hm2
    have HM1 := Hid.mk hm1
    have H0 := Hid.mk h0
    obtain ⟨en, hen⟩ : ∃ en, enc t = en := ⟨_, rfl⟩
    rw [hen] at HE HM1 hel ⊢
    have HEN := Hid.mk hen
    obtain ⟨n, hn⟩ : ∃ n, en.length = n := ⟨_, rfl⟩
    rw [hn] at HM1 hel
    have HN := Hid.mk hn
    have hmk := run_make_row' (P := Tryz.prog) 27 5 (.int .u8 0) 1 Tryz.underlying27 info5b rfl .i64 .i64 n (by omega) (by omega)
    clear h0 hm1 hm2 hm3 he hen hn
    go_enter Tryz.func54, Tryz.ntmps54
    go_wp2_with fail
    refine (measure_any t x _ (lies_mono ((Below.refl _ _).alloc (Nat.le_refl _) _) t x HLI.out)).mono ?_
    rintro e w1 ⟨rfl, hb⟩
    rw [HM1.out, H0.out]
    rw [show ((0 : Nat) : Int) = 0 from rfl]
    have hx : w1.heap[w.heap.size]? = some (.cells #[.bool x.l, .slice x.ba x.bn x.bc, .slice x.ia x.m x.ic] 110) := Below.row hb (heap_alloc_new _ _)
    have y0 := cell_alloc (show w1.cell? ⟨w.heap.size, 0, none⟩ = some (.bool x.l) from by rw [cell_of_row _ _ _ _ _ _ hx]; rfl)
    have y1 := cell_alloc (show w1.cell? ⟨w.heap.size, 1, none⟩ = some (.slice x.ba x.bn x.bc) from by rw [cell_of_row _ _ _ _ _ _ hx]; rfl)
    have y2 := cell_alloc (show w1.cell? ⟨w.heap.size, 2, none⟩ = some (.slice x.ia x.m x.ic) from by rw [cell_of_row _ _ _ _ _ _ hx]; rfl)
    have hb1 : Below w.heap.size w w1 := ((Below.refl w.heap.size w).alloc (Nat.le_refl _) _).trans (hb.mono (by simp))
    have hb2 : Below w.heap.size w (w1.alloc (.cells (madeCells #[.int .u8 0] n) 5)) := hb1.alloc hb1.size _
    have hrow : Row w1.heap.size (w1.alloc (.cells (madeCells #[.int .u8 0] n) 5)) (List.replicate n 0) := by
      unfold Row; rw [heap_alloc_new, made_bytes]
    have hcal := put_any t HF.out x w1.heap.size n n (List.replicate n 0) w _ HLI.out hb2 hb1.size hrow (by simp) (Nat.le_refl _) (by omega) HM2.out (by rw [HEN.out, HN.out]; exact Nat.le_refl _)
    rw [HEN.out, HN.out, Nat.sub_self, List.take_zero, List.nil_append, List.drop_of_length_le (by simp), List.append_nil] at hcal
    have HCAL := Hid.mk hcal
    have HB1 := Hid.mk hb1
    have HB2 := Hid.mk hb2
    clear hcal hrow hx hb hb1 hb2
    go_wp2_with fail
    refine HCAL.out.mono ?_
    rintro e w2 ⟨rfl, hr2, ht2⟩
    have HR2 := Hid.mk hr2
    have HB3 := Hid.mk (Touch.below HB2.out ht2 HB1.out.size HB2.out.size)
    clear hr2 ht2
    go_wp2_with fail
    go_ret2
    refine ⟨⟨_, _, _, rfl, ?_, ?_⟩, HB3.out⟩
    · exact row_ag HR2.out HN.out HE.out (by omega)
    · intro g off e _
      cases e
      exact ⟨HB1.out.size, fun o => frozen_of_row _ _ _ _ _ HR2.out⟩
  · obtain ⟨m1, hm1⟩ : ∃ m1, (mP t).1 = m1 := ⟨_, rfl⟩
    obtain ⟨er, her⟩ : ∃ er, (mP t).2 = er := ⟨_, rfl⟩
    have he : encP t = ([], er) := by rw [encP, if_neg h0, her]
    rw [he]
    rw [her] at h0
    have hee : ((er : Int) != 0) = true := by rw [bne_iff_ne]; omega
    have HM1 := Hid.mk hm1
    have HER := Hid.mk her
    clear hm1 her h0 he
    go_enter Tryz.func54, Tryz.ntmps54
    go_wp2_with fail
    refine (measure_any t x _ (lies_mono ((Below.refl _ _).alloc (Nat.le_refl _) _) t x HLI.out)).mono ?_
    rintro e w1 ⟨rfl, hb⟩
    rw [HM1.out, HER.out]
    have HB1 := Hid.mk (((Below.refl w.heap.size w).alloc (Nat.le_refl _) _).trans (hb.mono (by simp)))
    clear hb
    go_wp2_with fail
    go_ret2
    exact ⟨⟨none, 0, 0, rfl, ⟨.inl ⟨rfl, rfl⟩, fun _ => ⟨rfl, rfl⟩, rfl, fun x hx => by cases hx⟩, fun g off e => by cases e⟩, HB1.out⟩
end Go.Proofs.YtalhnnjpjaeakaaGreat
