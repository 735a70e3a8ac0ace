/- What Encode of nest answers, once more: in new memory that may be written. -/
import Derived.Test.YtchgejomcgoaeaaGreatG04
import Derived.Test.YtchgejomcgoaeaaGreatG17
import Derived.Laws.CopyRow
import Derived.Test.YtchgejomcgoaeaaGreatG09
import Derived.Deep.MidRow
set_option linter.unusedVariables false
set_option maxRecDepth 100000
namespace Go.Proofs.YtchgejomcgoaeaaGreat
open Go.RowKit
variable {w w' v' : World} {g o n c : Nat} {K L : Nat → Prop} {a : Option Addr} {r : PR} {cs : List Value}
def Fr (base : Nat) (w : World) (a : Option Addr) (n : Nat) : Prop := ∀ g off, a = some ⟨g, off, none⟩ → 0 < n → base ≤ g ∧ ∀ o, w.frozen? ⟨g, o, none⟩ = false
set_option maxHeartbeats 1000000 in
theorem Zfe (t : T) (x : V) (w : World) (hli : Lies w t x) :
    Calls Tryz.prog 30 #[.agg #[.bool x.l, .slice x.ba x.bn x.bc, .slice x.ia x.m x.ic]] w fun e w' => (∃ a n c, e = .returned (.tuple #[.slice a n c, .int .i64 ((encP t).2 : Nat)]) ∧ Ag w' a n c (encP t).1 ∧ Fr w.heap.size w' a n) ∧ Below w.heap.size w w' := by
  have HLI := Hid.mk hli
  have HBY := Hid.mk (Zsx t x hli)
  clear hli
  by_cases h0 : (mP t).2 = 0
  · obtain ⟨hm1, hm2, hm3⟩ := Zg4 h0
    have hel := Zh3 hm2
    have he : encP t = (enc t, 0) := by rw [encP, if_pos h0]
    rw [he]
    have HE := Hid.mk (Znp t HBY.out hm2)
    have HF := Hid.mk hm3
    have HM2 := Hid.mk hm2
    have HM1 := Hid.mk hm1
    have H0 := Hid.mk h0
    obtain ⟨en, hen⟩ : ∃ en, enc t = en := ⟨_, rfl⟩
    rw [hen] at HE HM1 hel ⊢
    have HEN := Hid.mk hen
    obtain ⟨n, hn⟩ : ∃ n, en.length = n := ⟨_, rfl⟩
    rw [hn] at HM1 hel
    have HN := Hid.mk hn
    have hmk := run_make_row' (P := Tryz.prog) 29 5 (.int .u8 0) 1 Tryz.underlying29 info5b rfl .i64 .i64 n (by omega) (by omega)
    clear h0 hm1 hm2 hm3 he hen hn
    go_enter Tryz.func30, Tryz.ntmps30
    go_wp2_with fail
    refine (Zgs t x _ (Zcq ((Below.refl _ _).alloc (Nat.le_refl _) _) t x HLI.out)).mono ?_
    rintro e w1 ⟨rfl, hb⟩
    rw [HM1.out, H0.out]
    rw [show ((0 : Nat) : Int) = 0 from rfl]
    have hx : w1.heap[w.heap.size]? = some (.cells #[.bool x.l, .slice x.ba x.bn x.bc, .slice x.ia x.m x.ic] 76) := Below.row hb (heap_alloc_new _ _)
    have y0 := cell_alloc (show w1.cell? ⟨w.heap.size, 0, none⟩ = some (.bool x.l) from by rw [cell_of_row _ _ _ _ _ _ hx]; rfl)
    have y1 := cell_alloc (show w1.cell? ⟨w.heap.size, 1, none⟩ = some (.slice x.ba x.bn x.bc) from by rw [cell_of_row _ _ _ _ _ _ hx]; rfl)
    have y2 := cell_alloc (show w1.cell? ⟨w.heap.size, 2, none⟩ = some (.slice x.ia x.m x.ic) from by rw [cell_of_row _ _ _ _ _ _ hx]; rfl)
    have hb1 : Below w.heap.size w w1 := ((Below.refl w.heap.size w).alloc (Nat.le_refl _) _).trans (hb.mono (by simp))
    have hb2 : Below w.heap.size w (w1.alloc (.cells (madeCells #[.int .u8 0] n) 5)) := hb1.alloc hb1.size _
    have hrow : Row w1.heap.size (w1.alloc (.cells (madeCells #[.int .u8 0] n) 5)) (List.replicate n 0) := by
      unfold Row; rw [heap_alloc_new, made_bytes]
    have hcal := Zvc t HF.out x w1.heap.size n n (List.replicate n 0) w _ HLI.out hb2 hb1.size hrow (by simp) (Nat.le_refl _) (by omega) HM2.out (by rw [HEN.out, HN.out]; exact Nat.le_refl _)
    rw [HEN.out, HN.out, Nat.sub_self, List.take_zero, List.nil_append, List.drop_of_length_le (by simp), List.append_nil] at hcal
    have HCAL := Hid.mk hcal
    have HB1 := Hid.mk hb1
    have HB2 := Hid.mk hb2
    clear hcal hrow hx hb hb1 hb2
    go_wp2_with fail
    refine HCAL.out.mono ?_
    rintro e w2 ⟨rfl, hr2, ht2⟩
    have HR2 := Hid.mk hr2
    have HB3 := Hid.mk (Touch.below HB2.out ht2 HB1.out.size HB2.out.size)
    clear hr2 ht2
    go_wp2_with fail
    go_ret2
    refine ⟨⟨_, _, _, rfl, ?_, ?_⟩, HB3.out⟩
    · exact row_ag HR2.out HN.out HE.out (by omega)
    · intro g off e _
      cases e
      exact ⟨HB1.out.size, fun o => frozen_of_row _ _ _ _ _ HR2.out⟩
  · obtain ⟨m1, hm1⟩ : ∃ m1, (mP t).1 = m1 := ⟨_, rfl⟩
    obtain ⟨er, her⟩ : ∃ er, (mP t).2 = er := ⟨_, rfl⟩
    have he : encP t = ([], er) := by rw [encP, if_neg h0, her]
    rw [he]
    rw [her] at h0
    have hee : ((er : Int) != 0) = true := by rw [bne_iff_ne]; omega
    have HM1 := Hid.mk hm1
    have HER := Hid.mk her
    clear hm1 her h0 he
    go_enter Tryz.func30, Tryz.ntmps30
    go_wp2_with fail
    refine (Zgs t x _ (Zcq ((Below.refl _ _).alloc (Nat.le_refl _) _) t x HLI.out)).mono ?_
    rintro e w1 ⟨rfl, hb⟩
    rw [HM1.out, HER.out]
    have HB1 := Hid.mk (((Below.refl w.heap.size w).alloc (Nat.le_refl _) _).trans (hb.mono (by simp)))
    clear hb
    go_wp2_with fail
    go_ret2
    exact ⟨⟨none, 0, 0, rfl, ⟨.inl ⟨rfl, rfl⟩, fun _ => ⟨rfl, rfl⟩, rfl, fun x hx => by cases hx⟩, fun g off e => by cases e⟩, HB1.out⟩
theorem Zhd (w : World) (ty : TypeId) (g m dc : Nat) (a : Addr) (sCap : Nat) (cur : Array Value) (t : TypeId) (cs : List Value)
    (hg : w.heap[g]? = some (.cells cur t (0, 0))) (hn : cs.length = m * 3) (hsrc : ∀ j v, cs[j]? = some v → w.cell? (a.add j) = some v) (hfit : cs.length = cur.size) (h1 : ∀ v ∈ cs, v.oneCell' = true) :
    (Builtin.copy_ #[74, 74] ty #[.slice (some ⟨g, 0, none⟩) m dc, .slice (some a) m sCap]).run Tryz.prog w = .ok (goInt m) (w.setRow g cs.toArray) := by
  have hl := run_loadCells_list (P := Tryz.prog) w a cs hsrc
  have hst := run_storeCells_at Tryz.prog g 0 t cs 0 cur w hg (by omega) h1
  rw [Nat.zero_add, List.take_zero, List.nil_append, Nat.zero_add, List.drop_of_length_le (by simp [hfit]), List.append_nil] at hst
  rw [hn] at hl
  simp [Builtin.copy_, run_underlying Tryz.underlying74, Builtin.lenOf, Builtin.firstCells, hl, hst]
theorem Zif (w : World) (ty : TypeId) (g dc : Nat) (a : Option Addr) (sCap : Nat) (ha : a = none → sCap = 0) :
    (Builtin.copy_ #[74, 74] ty #[.slice (some ⟨g, 0, none⟩) 0 dc, .slice a 0 sCap]).run Tryz.prog w = .ok (goInt 0) w := by
  cases a with
  | none =>
    rw [ha rfl]
    simp [Builtin.copy_, run_underlying Tryz.underlying74, Builtin.lenOf, Builtin.firstCells, storeCells]
  | some a =>
    have hl := run_loadCells_list (P := Tryz.prog) w a [] (fun j v h => by simp at h)
    have hl2 : (loadCells a 0).run Tryz.prog w = .ok #[] w := by simpa using hl
    simp [Builtin.copy_, run_underlying Tryz.underlying74, Builtin.lenOf, Builtin.firstCells, storeCells, hl2]
theorem Zn0 {w : World} {ops : Array Oper} {rest : List Oper} {o : Oper} {a : Act} {Q : Exit → Act → World → Prop} (hgd : o.guard = none) (d x : Operand)
    (ho : o.op = .call { callee := .builtin .copy, args := #[d, x], argTypes := #[74, 74] }) (v u : Value) (hd : a.eval d = v) (hx : a.eval x = u) {v' : Value} {w' : World}
    (hr : (Builtin.copy_ #[74, 74] o.type #[v, u]).run Tryz.prog w = .ok v' w') (h : wpList Tryz.prog ops Q rest (a.put o.dst v') w') : wpList Tryz.prog ops Q (o :: rest) a w := by
  refine wpList_plain hgd fun K hK => ?_
  unfold Oper.wp
  simp [execOp, ho, resolve, invoke, builtin, hd, hx, hr, Result.andThen]
  exact hK _ _ h
theorem Zgz {w : World} {a : Option Addr} : ∀ {ts : List T} {k : Nat}, LiesAll w ts a k → ∃ ys : List V, ys.length = ts.length ∧ ∀ i y, ys[i]? = some y → ∃ g off t, At w a (k + i) t g off y
  | [], k, _ => ⟨[], rfl, fun i y h => by simp at h⟩
  | t :: r, k, h => by
    obtain ⟨⟨g, off, y, h1, h2, h3, h4, h5⟩, hr⟩ := liesAll_cons.1 h
    obtain ⟨ys, e1, e2⟩ := Zgz hr
    refine ⟨y :: ys, by rw [List.length_cons, List.length_cons, e1], fun i z hz => ?_⟩
    cases i with
    | zero =>
      have : y = z := by simpa using hz
      subst this
      exact ⟨g, off, t, h1, h2, h3, h4, h5⟩
    | succ i =>
      obtain ⟨g', off', t', A⟩ := e2 i z (by simpa using hz)
      rw [show k + 1 + i = k + (i + 1) from by omega] at A
      exact ⟨g', off', t', A⟩
theorem Zov {off : Nat} {ys : List V} (h : ∀ i y, ys[i]? = some y → w.cell? ⟨g, off + i * 3, none⟩ = some (.bool y.l) ∧ w.cell? ⟨g, off + i * 3 + 1, none⟩ = some (.slice y.ba y.bn y.bc) ∧ w.cell? ⟨g, off + i * 3 + 2, none⟩ = some (.slice y.ia y.m y.ic)) :
    ∀ j v, (ys.flatMap V.cells)[j]? = some v → w.cell? ((⟨g, off, none⟩ : Addr).add j) = some v := by
  intro j v hv
  rw [Zbb]
  have hj := (List.getElem?_eq_some_iff.1 hv).1
  rw [Zd5] at hj
  obtain ⟨y, hy⟩ : ∃ y, ys[j / 3]? = some y := ⟨ys[j / 3]'(by omega), List.getElem?_eq_getElem _⟩
  have hs := Zjb hy
  obtain ⟨q0, q1, q2⟩ := h (j / 3) y hy
  have hlen : (ys.take (j / 3)).length = j / 3 := by rw [List.length_take]; omega
  have hr : j % 3 = 0 ∨ j % 3 = 1 ∨ j % 3 = 2 := by omega
  have hget : ∀ u, (V.cells y)[j % 3]? = some u → (ys.flatMap V.cells)[j]? = some u := by
    intro u hu
    have := Ze0 (ys.take (j / 3)) y (ys.drop (j / 3 + 1)) (j % 3) u hu
    rw [← hs, hlen, show j / 3 * 3 + j % 3 = j from by omega] at this
    exact this
  rcases hr with e | e | e
  · have := hget (.bool y.l) (by rw [e]; rfl)
    rw [hv] at this
    rw [Option.some.inj this, show off + j = off + j / 3 * 3 from by omega]
    exact q0
  · have := hget (.slice y.ba y.bn y.bc) (by rw [e]; rfl)
    rw [hv] at this
    rw [Option.some.inj this, show off + j = off + j / 3 * 3 + 1 from by omega]
    exact q1
  · have := hget (.slice y.ia y.m y.ic) (by rw [e]; rfl)
    rw [hv] at this
    rw [Option.some.inj this, show off + j = off + j / 3 * 3 + 2 from by omega]
    exact q2
theorem Zqt (ys : List V) : ∀ v ∈ ys.flatMap V.cells, v.oneCell' = true := by
  intro v hv
  obtain ⟨y, _, hy⟩ := List.mem_flatMap.1 hv
  exact Zg7 y v hy
set_option maxHeartbeats 1000000 in
theorem Zsw (a : Option Addr) (m c : Nat) (ts : List T) (hm : m = ts.length ∧ m ≤ c ∧ c ≤ maxLen ∧ m ≤ 140737488351232) (w : World) (hall : LiesAll w ts a 0) (hb56 : 56 * m ≤ 281474976710656) (hnil : a = none → c = 0) :
    Calls Tryz.prog 100 #[.slice a m c] w fun e w' => ∃ ys : List V, ys.length = m ∧ e = .returned (.agg #[.bool true, .slice none 0 0, .slice (some ⟨w.heap.size + 1, 0, none⟩) m m]) ∧ w'.heap[w.heap.size + 1]? = some (.cells (ys.flatMap V.cells).toArray 76) ∧ (∀ i y, ys[i]? = some y → ∃ g off t, At w a i t g off y) ∧ Below w.heap.size w w' := by
  obtain ⟨hm1, hm2, hm3, hm4⟩ := hm
  obtain ⟨ys, hy1, hy2⟩ := Zgz hall
  obtain ⟨iI, hi, hz, hsz, hby⟩ := Zx8
  have hmk := fun w => run_make (P := Tryz.prog) w 74 76 iI _ Tryz.underlying74 hi hz .i64 .i64 m m (by omega) (by omega) (by rw [hby]; omega) (by omega)
  rw [hsz, Int.toNat_natCast] at hmk
  obtain ⟨w0, hw0⟩ : ∃ w0, w.alloc (.cells #[.bool false, .slice none 0 0, .slice none 0 0] 76) = w0 := ⟨_, rfl⟩
  have hs0 : w0.heap.size = w.heap.size + 1 := by rw [← hw0]; simp
  have hbw0 : Below w.heap.size w w0 := by rw [← hw0]; exact below_new _ _
  have hres : w0.heap[w.heap.size]? = some (.cells #[.bool false, .slice none 0 0, .slice none 0 0] 76) := by rw [← hw0]; exact heap_alloc_new _ _
  obtain ⟨MC, hMC⟩ : ∃ MC, madeCells (Value.agg #[.bool false, .slice none 0 0, .slice none 0 0]).cells (m * 3) = MC := ⟨_, rfl⟩
  rw [hMC] at hmk
  have hms : MC.size = m * 3 := by rw [← hMC, size_madeCells]
  have hyl : ys.length = m := by rw [hy1, hm1]
  obtain ⟨w1, hrun, hrow1, hoth, hbel1⟩ : ∃ w1, (∀ ty, (Builtin.copy_ #[74, 74] ty #[.slice (some ⟨w0.heap.size, 0, none⟩) m m, .slice a m c]).run Tryz.prog (w0.alloc (.cells MC 76)) = .ok (goInt m) w1) ∧ w1.heap[w0.heap.size]? = some (.cells (ys.flatMap V.cells).toArray 76) ∧ w1.heap[w.heap.size]? = some (.cells #[.bool false, .slice none 0 0, .slice none 0 0] 76) ∧ Below w0.heap.size w0 w1 := by
    by_cases h0 : m = 0
    · subst h0
      have hys : ys = [] := List.eq_nil_of_length_eq_zero hyl
      subst hys
      have hMC0 : MC = #[] := Array.eq_empty_of_size_eq_zero (by omega)
      subst hMC0
      exact ⟨_, fun ty => Zif _ ty _ _ a c hnil, heap_alloc_new _ _, (Below.heap_alloc _ _ _ (by omega)).trans hres, below_new _ _⟩
    · obtain ⟨y0, hy0⟩ : ∃ y, ys[0]? = some y := ⟨ys[0]'(by omega), List.getElem?_eq_getElem _⟩
      obtain ⟨g, off, t, A⟩ := hy2 0 y0 hy0
      have ha := A.ha
      subst ha
      have hbb : Below w.heap.size w (w0.alloc (.cells MC 76)) := hbw0.alloc (by omega) _
      have hcs := Zov (w := w0.alloc (.cells MC 76)) (g := g) (off := off) (ys := ys) (fun i y h => by
        obtain ⟨g', off', t', A'⟩ := hy2 i y h
        have ha' := A'.ha
        cases ha'
        have c0 := A'.c0
        have c1 := A'.c1
        have c2 := A'.c2
        rw [Nat.zero_add] at c0 c1 c2
        exact ⟨Zaw hbb c0, Zaw hbb c1, Zaw hbb c2⟩)
      refine ⟨_, fun ty => Zhd _ ty w0.heap.size m m ⟨g, off, none⟩ c MC 76 (ys.flatMap V.cells) (heap_alloc_new _ _) (by rw [Zd5, hyl]) hcs (by rw [Zd5, hyl, hms]) (Zqt ys), setRow_heap _ _ _ _ _ _ (heap_alloc_new _ _), ?_, ?_⟩
      · rw [setRow_other _ _ _ _ (by omega)]
        exact (Below.heap_alloc _ _ _ (by omega)).trans hres
      · exact Touch.below (below_new _ _) (Touch.setRow _ _ _) (Nat.le_refl _) (by simp)
  rw [hs0] at hrun hrow1
  rw [← hw0] at hrun
  have HRUN := Hid.mk hrun
  have HROW := Hid.mk hrow1
  have HB := Hid.mk (below_go hbw0 hbel1)
  have HRES := Hid.mk hoth
  have x0 : w1.cell? ⟨w.heap.size, 0, none⟩ = some (.bool false) := by rw [cell_of_row _ _ _ _ _ _ hoth]; rfl
  have x1 : w1.cell? ⟨w.heap.size, 1, none⟩ = some (.slice none 0 0) := by rw [cell_of_row _ _ _ _ _ _ hoth]; rfl
  have x2 : w1.cell? ⟨w.heap.size, 2, none⟩ = some (.slice none 0 0) := by rw [cell_of_row _ _ _ _ _ _ hoth]; rfl
  have xf : ∀ o, w1.frozen? ⟨w.heap.size, o, none⟩ = false := fun o => frozen_of_row _ _ _ _ _ hoth
  have HY := Hid.mk hy2
  have HYL := Hid.mk hyl
  clear hrun hrow1 hbel1 hoth hw0 hs0 hbw0 hres hMC hms hall hy1 hy2 hm1 hyl hi hz hsz hby hnil
  go_enter Tryz.func100, Tryz.ntmps100
  go_wp2_with (first | refine Zn0 rfl _ _ rfl _ _ rfl rfl (HRUN.out _) ?_)
  have hr := put3 HRES.out (.bool true) (.slice none 0 0) (.slice (some ⟨w.heap.size + 1, 0, none⟩) m m)
  refine bodyPost_ret (results_cell_row Tryz.results100 _ _ w.heap.size 76 _ (0, 0) _ rfl hr Tryz.underlying76 rfl (by kernel_rfl)) rfl ?_
  exact ⟨ys, HYL.out, rfl, (Zcd (by omega) _ _ _).trans HROW.out, fun i y h => by have := HY.out i y h; simpa using this, Zbx HB.out (Nat.le_refl _) _ _ _⟩
structure RV where
  k : Int
  d : List Int
  a : Option Addr
  n : Nat
  c : Nat
def RV.cells (x : RV) : List Value := .int .i64 x.k :: (x.d.map (Value.int .u8) ++ [.slice x.a x.n x.c])
structure NV where
  k : Int
  pa : Option Addr
  pn : Nat
  pc : Nat
  va : Option Addr
  vn : Nat
  vc : Nat
  c : RV
  ka : Option Addr
  kn : Nat
  kc : Nat
def NV.cells (x : NV) : List Value := .int .i64 x.k :: .slice x.pa x.pn x.pc :: .slice x.va x.vn x.vc :: (x.c.cells ++ [.slice x.ka x.kn x.kc])
def AgK (K : Nat → Prop) (w : World) (a : Option Addr) (n c : Nat) (bs : List Int) : Prop := Ag w a n c bs ∧ n ≤ 140737488351232 ∧ ∀ g off, a = some ⟨g, off, none⟩ → 0 < n → K g
def RefAt (K : Nat → Prop) (w : World) (x : RV) (r : PR) : Prop := x.k = r.k ∧ x.d = r.d ∧ isB r.d ∧ r.d.length = 32 ∧ AgK K w x.a x.n x.c r.i
def KidsAt (K : Nat → Prop) (w : World) (a : Option Addr) (ks : List PR) : Prop := ∀ j r, ks[j]? = some r → ∃ g off y, a = some ⟨g, off, none⟩ ∧ K g ∧ w.rangeAt g (off + j * 34) y.cells ∧ RefAt K w y r
structure NodeAt (K : Nat → Prop) (w : World) (x : NV) (n : PN) : Prop where
  k : x.k = n.k
  p : AgK K w x.pa x.pn x.pc n.p
  v : AgK K w x.va x.vn x.vc n.v
  c : RefAt K w x.c n.c
  m : x.kn = n.ks.length ∧ x.kn ≤ x.kc ∧ x.kc ≤ maxLen ∧ x.kn ≤ 2199023255488 ∧ (x.ka = none → x.kn = 0 ∧ x.kc = 0)
  ks : KidsAt K w x.ka n.ks
theorem RV.len {x : RV} (h : x.d.length = 32) : x.cells.length = 34 := by simp [RV.cells, h]
theorem NV.len {x : NV} (h : x.c.d.length = 32) : x.cells.length = 38 := by simp [NV.cells, RV.len h]
theorem RV.one (x : RV) : ∀ u ∈ x.cells, u.oneCell' = true := by
  intro u hu
  simp only [RV.cells, List.mem_cons, List.mem_append, List.mem_map, List.not_mem_nil, or_false] at hu
  rcases hu with rfl | ⟨y, _, rfl⟩ | rfl <;> rfl
theorem NV.one (x : NV) : ∀ u ∈ x.cells, u.oneCell' = true := by
  intro u hu
  simp only [NV.cells, List.mem_cons, List.mem_append, List.not_mem_nil, or_false] at hu
  rcases hu with rfl | rfl | rfl | hu | rfl
  · rfl
  · rfl
  · rfl
  · exact x.c.one u hu
  · rfl
theorem Zqw {v : Value} (h : w.cell? ⟨g, o, none⟩ = some v) (hk : g < w.heap.size → w'.heap[g]? = w.heap[g]?) : w'.cell? ⟨g, o, none⟩ = some v := (World.cell?_of_block (w := w) (hk (block_lt_of_cell h))).trans h
def Keep (K L : Nat → Prop) (w w' : World) : Prop := ∀ g, K g → g < w.heap.size → w'.heap[g]? = w.heap[g]? ∧ L g
theorem AgK.go (hk : Keep K L w w') {bs : List Int} (h : AgK K w a n c bs) : AgK L w' a n c bs := by
  refine ⟨Zra h.1 (fun g off e h0 hl => (hk g (h.2.2 g off e h0) hl).1), h.2.1, fun g off e h0 => ?_⟩
  obtain ⟨g', off', e', _, _, hc⟩ := ag_head h.1 h0
  rw [e] at e'
  cases e'
  exact (hk g (h.2.2 g off e h0) (block_lt_of_cell (hc 0 h0))).2
theorem RefAt.go (hk : Keep K L w w') {x : RV} (h : RefAt K w x r) : RefAt L w' x r := ⟨h.1, h.2.1, h.2.2.1, h.2.2.2.1, h.2.2.2.2.go hk⟩
theorem RefAt.len {x : RV} (h : RefAt K w x r) : x.d.length = 32 := by rw [h.2.1]; exact h.2.2.2.1
theorem Zd1 (h : w.rangeAt g o cs) (hk : g < w.heap.size → w'.heap[g]? = w.heap[g]?) : w'.rangeAt g o cs := fun j v hv => Zqw (h j v hv) hk
theorem Zr5 (h : w.rangeAt g o cs) (h0 : 0 < cs.length) : g < w.heap.size := block_lt_of_cell (h 0 _ (List.getElem?_eq_getElem h0))
theorem KidsAt.go (hk : Keep K L w w') {ks : List PR} (h : KidsAt K w a ks) : KidsAt L w' a ks := fun j r hr => by
  obtain ⟨g, off, y, e, hg, hc, hy⟩ := h j r hr
  have hl := Zr5 hc (by rw [RV.len hy.len]; omega)
  exact ⟨g, off, y, e, (hk g hg hl).2, Zd1 hc (fun hl => (hk g hg hl).1), hy.go hk⟩
theorem NodeAt.go (hk : Keep K L w w') {x : NV} {n : PN} (h : NodeAt K w x n) : NodeAt L w' x n := ⟨h.k, h.p.go hk, h.v.go hk, h.c.go hk, h.m, h.ks.go hk⟩
theorem Keep.below (h : Below w.heap.size w w') : Keep K K w w' := fun g hK hg => ⟨h.block g hg, hK⟩
theorem Keep.any (h : Below w.heap.size w w') : Keep K (fun _ => True) w w' := fun g hK hg => ⟨h.block g hg, trivial⟩
def Own (base : Nat) (w : World) (g : Nat) : Prop := base ≤ g ∧ ∀ o, w.frozen? ⟨g, o, none⟩ = false
theorem Keep.own {base base' : Nat} (h : Below w.heap.size w w') (hb : base' ≤ base) : Keep (Own base w) (Own base' w') w w' := fun g hK hg => ⟨h.block g hg, Nat.le_trans hb hK.1, fun o => (World.frozen?_of_block (w := w) (h.block g hg)).trans (hK.2 o)⟩
theorem AgK.l {bs : List Int} (h : AgK K w a n c bs) : bs.length = n := h.1.l
theorem NodeAt.okN {x : NV} {n : PN} (h : NodeAt K w x n) : okN n := by
  refine ⟨h.p.1.b, h.v.1.b, ⟨h.c.2.2.1, h.c.2.2.2.1, h.c.2.2.2.2.1.b⟩, fun r hr => ?_⟩
  obtain ⟨j, hj⟩ := List.getElem?_of_mem hr
  obtain ⟨_, _, y, _, _, _, hy⟩ := h.ks j r hj
  exact ⟨hy.2.2.1, hy.2.2.2.1, hy.2.2.2.2.1.b⟩
structure NBx (g : Nat) (v : World) (x : NV) : Prop where
  row : v.heap[g]? = some (.cells x.cells.toArray 68)
  l : x.c.d.length = 32
structure RBx (g : Nat) (v : World) (x : RV) : Prop where
  row : v.heap[g]? = some (.cells x.cells.toArray 65)
  l : x.d.length = 32
theorem NBx.at {v : World} {x : NV} (h : NBx g v x) (j : Nat) : v.cell? ⟨g, j, none⟩ = x.cells[j]? := by rw [cell_of_row _ _ _ _ _ _ h.row]; simp
theorem RBx.at {v : World} {x : RV} (h : RBx g v x) (j : Nat) : v.cell? ⟨g, j, none⟩ = x.cells[j]? := by rw [cell_of_row _ _ _ _ _ _ h.row]; simp
theorem NBx.c0 {v : World} {x : NV} (h : NBx g v x) : v.cell? ⟨g, 0, none⟩ = some (.int .i64 x.k) := h.at 0
theorem NBx.c1 {v : World} {x : NV} (h : NBx g v x) : v.cell? ⟨g, 1, none⟩ = some (.slice x.pa x.pn x.pc) := h.at 1
theorem NBx.c2 {v : World} {x : NV} (h : NBx g v x) : v.cell? ⟨g, 2, none⟩ = some (.slice x.va x.vn x.vc) := h.at 2
theorem NBx.c3 {v : World} {x : NV} (h : NBx g v x) : v.cell? ⟨g, 3, none⟩ = some (.int .i64 x.c.k) := h.at 3
theorem RV.last {x : RV} (h : x.d.length = 32) : x.cells[33]? = some (.slice x.a x.n x.c) := by
  rw [RV.cells, List.getElem?_cons_succ, List.getElem?_append_right (by simp [h])]
  simp [h]
theorem NBx.c37 {v : World} {x : NV} (h : NBx g v x) : v.cell? ⟨g, 37, none⟩ = some (.slice x.ka x.kn x.kc) := by
  rw [h.at 37, NV.cells, List.getElem?_cons_succ, List.getElem?_cons_succ, List.getElem?_cons_succ, List.getElem?_append_right (by rw [RV.len h.l]; omega), RV.len h.l]
  rfl
theorem NBx.child {v : World} {x : NV} (h : NBx g v x) : v.rangeAt g 3 x.c.cells := fun j u hu => by
  rw [h.at, NV.cells, Nat.add_comm 3 j, List.getElem?_cons_succ, List.getElem?_cons_succ, List.getElem?_cons_succ, List.getElem?_append_left (List.getElem?_eq_some_iff.1 hu).1]
  exact hu
theorem NBx.all {v : World} {x : NV} (h : NBx g v x) : v.rangeAt g 0 x.cells := fun j u hu => by rw [h.at, Nat.zero_add]; exact hu
theorem RBx.all {v : World} {x : RV} (h : RBx g v x) : v.rangeAt g 0 x.cells := fun j u hu => by rw [h.at, Nat.zero_add]; exact hu
theorem RBx.c0 {v : World} {x : RV} (h : RBx g v x) : v.cell? ⟨g, 0, none⟩ = some (.int .i64 x.k) := h.at 0
theorem RBx.c33 {v : World} {x : RV} (h : RBx g v x) : v.cell? ⟨g, 33, none⟩ = some (.slice x.a x.n x.c) := by rw [h.at]; exact RV.last h.l
theorem RBx.digest {v : World} {x : RV} (h : RBx g v x) : v.rangeAt g 1 (x.d.map (Value.int .u8)) := fun j u hu => by
  rw [h.at, RV.cells, Nat.add_comm 1 j, List.getElem?_cons_succ, List.getElem?_append_left (List.getElem?_eq_some_iff.1 hu).1]
  exact hu
theorem NBx.go {v : World} {x : NV} (h : NBx g v x) (hb : Below v.heap.size v v') : NBx g v' x := ⟨Below.row hb h.row, h.l⟩
theorem RBx.go {v : World} {x : RV} (h : RBx g v x) (hb : Below v.heap.size v v') : RBx g v' x := ⟨Below.row hb h.row, h.l⟩
theorem Zeg (w : World) (x : NV) (h : x.c.d.length = 32) : NBx w.heap.size (w.alloc (.cells x.cells.toArray 68)) x := ⟨heap_alloc_new _ _, h⟩
theorem Zkt (w : World) (x : RV) (h : x.d.length = 32) : RBx w.heap.size (w.alloc (.cells x.cells.toArray 65)) x := ⟨heap_alloc_new _ _, h⟩
theorem Zqf : (Tryz.prog.info? 68).map (·.size) = some 38 := by kernel_rfl
theorem Zhi : (Tryz.prog.info? 65).map (·.size) = some 34 := by kernel_rfl
theorem Zv7 : (Tryz.prog.info? 23).map (·.size) = some 32 := by kernel_rfl
end Go.Proofs.YtchgejomcgoaeaaGreat
