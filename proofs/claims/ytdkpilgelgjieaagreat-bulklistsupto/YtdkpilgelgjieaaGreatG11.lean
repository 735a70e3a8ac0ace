/- What Encode of nest answers, once more: in new memory that may be written. -/
import Derived.Test.YtdkpilgelgjieaaGreatG07
import Derived.Test.YtdkpilgelgjieaaGreatG10
import Derived.Laws.CopyRow
import Derived.Deep.MidRow
set_option linter.unusedVariables false
set_option maxRecDepth 100000
namespace Go.Proofs.YtdkpilgelgjieaaGreat
open Go.RowKit
def Fr (base : Nat) (w : World) (a : Option Addr) (n : Nat) : Prop := ∀ g off, a = some ⟨g, off, none⟩ -> 0 < n -> base <= g /\ ∀ o, w.frozen? ⟨g, o, none⟩ = false
set_option maxHeartbeats 1000000 in
theorem Zgj (t : T) (x : V) (w : World) (hli : Lies w t x) :
  Calls Tryz.prog 54 #[.agg #[.bool x.l, .slice x.ba x.bn x.bc, .slice x.ia x.m x.ic]] w fun e w' => (∃ a n c, e = .returned (.tuple #[.slice a n c, .int .i64 ((encP t).2 : Nat)]) /\ Ag w' a n c (encP t).1 /\ Fr w.heap.size w' a n) /\ Below w.heap.size w w' := by
 have HLI := Hid.mk hli
 have HBY := Hid.mk (Zu7 t x hli)
 clear hli
 by_cases h0 : (mP t).2 = 0
 ·obtain ⟨hm1, hm2, hm3⟩ := Zi1 h0
  have hel := Zj6 hm2
  have he : encP t = (enc t, 0) := by rw [encP, if_pos h0]
  rw [he]
  have HE := Hid.mk (Zqo t HBY.out hm2)
  have HF := Hid.mk hm3
  have HM2 := Hid.mk hm2
  have HM1 := Hid.mk hm1
  have H0 := Hid.mk h0
  obtain ⟨en, hen⟩ : ∃ en, enc t = en := ⟨_, rfl⟩
  rw [hen] at HE HM1 hel ⊢
  have HEN := Hid.mk hen
  obtain ⟨n, hn⟩ : ∃ n, en.length = n := ⟨_, rfl⟩
  rw [hn] at HM1 hel
  have HN := Hid.mk hn
  have hmk := run_make_row' (P := Tryz.prog) 32 5 (.int .u8 0) 1 Tryz.underlying32 info5b rfl .i64 .i64 n (by omega) (by omega)
  clear h0 hm1 hm2 hm3 he hen hn
  go_enter Tryz.func54, Tryz.ntmps54
  go_wp2_with fail
  refine (Zio t x _ (Zaw ((Below.refl _ _).alloc (Nat.le_refl _) _) t x HLI.out)).mono ?_
  rintro e w1 ⟨rfl, hb⟩
  rw [HM1.out, H0.out]
  rw [show ((0 : Nat) : Int) = 0 from rfl]
  have hx : w1.heap[w.heap.size]? = some (.cells #[.bool x.l, .slice x.ba x.bn x.bc, .slice x.ia x.m x.ic] 94) := Below.row hb (heap_alloc_new _ _)
  have y0 := cell_alloc (show w1.cell? ⟨w.heap.size, 0, none⟩ = some (.bool x.l) from by rw [cell_of_row _ _ _ _ _ _ hx]; rfl)
  have y1 := cell_alloc (show w1.cell? ⟨w.heap.size, 1, none⟩ = some (.slice x.ba x.bn x.bc) from by rw [cell_of_row _ _ _ _ _ _ hx]; rfl)
  have y2 := cell_alloc (show w1.cell? ⟨w.heap.size, 2, none⟩ = some (.slice x.ia x.m x.ic) from by rw [cell_of_row _ _ _ _ _ _ hx]; rfl)
  have hb1 : Below w.heap.size w w1 := ((Below.refl w.heap.size w).alloc (Nat.le_refl _) _).trans (hb.mono (by simp))
  have hb2 : Below w.heap.size w (w1.alloc (.cells (madeCells #[.int .u8 0] n) 5)) := hb1.alloc hb1.size _
  have hrow : Row w1.heap.size (w1.alloc (.cells (madeCells #[.int .u8 0] n) 5)) (List.replicate n 0) := by
   unfold Row; rw [heap_alloc_new, made_bytes]
  have hcal := Zxn t HF.out x w1.heap.size n n (List.replicate n 0) w _ HLI.out hb2 hb1.size hrow (by simp) (Nat.le_refl _) (by omega) HM2.out (by rw [HEN.out, HN.out]; exact Nat.le_refl _)
  rw [HEN.out, HN.out, Nat.sub_self, List.take_zero, List.nil_append, List.drop_of_length_le (by simp), List.append_nil] at hcal
  have HCAL := Hid.mk hcal
  have HB1 := Hid.mk hb1
  have HB2 := Hid.mk hb2
  clear hcal hrow hx hb hb1 hb2
  go_wp2_with fail
  refine HCAL.out.mono ?_
  rintro e w2 ⟨rfl, hr2, ht2⟩
  have HR2 := Hid.mk hr2
  have HB3 := Hid.mk (Touch.below HB2.out ht2 HB1.out.size HB2.out.size)
  clear hr2 ht2
  go_wp2_with fail
  go_ret2
  refine ⟨⟨_, _, _, rfl, ?_, ?_⟩, HB3.out⟩
  ·exact row_ag HR2.out HN.out HE.out (by omega)
  ·intro g off e _
   cases e
   exact ⟨HB1.out.size, fun o => frozen_of_row _ _ _ _ _ HR2.out⟩
 ·obtain ⟨m1, hm1⟩ : ∃ m1, (mP t).1 = m1 := ⟨_, rfl⟩
  obtain ⟨er, her⟩ : ∃ er, (mP t).2 = er := ⟨_, rfl⟩
  have he : encP t = ([], er) := by rw [encP, if_neg h0, her]
  rw [he]
  rw [her] at h0
  have hee : ((er : Int) != 0) = true := by rw [bne_iff_ne]; omega
  have HM1 := Hid.mk hm1
  have HER := Hid.mk her
  clear hm1 her h0 he
  go_enter Tryz.func54, Tryz.ntmps54
  go_wp2_with fail
  refine (Zio t x _ (Zaw ((Below.refl _ _).alloc (Nat.le_refl _) _) t x HLI.out)).mono ?_
  rintro e w1 ⟨rfl, hb⟩
  rw [HM1.out, HER.out]
  have HB1 := Hid.mk (((Below.refl w.heap.size w).alloc (Nat.le_refl _) _).trans (hb.mono (by simp)))
  clear hb
  go_wp2_with fail
  go_ret2
  exact ⟨⟨none, 0, 0, rfl, ⟨.inl ⟨rfl, rfl⟩, fun _ => ⟨rfl, rfl⟩, rfl, fun x hx => by cases hx⟩, fun g off e => by cases e⟩, HB1.out⟩
theorem Zi7 (w : World) (ty : TypeId) (g m dc : Nat) (a : Addr) (sCap : Nat) (cur : Array Value) (t : TypeId) (cs : List Value)
  (hg : w.heap[g]? = some (.cells cur t (0, 0))) (hn : cs.length = m * 3) (hsrc : ∀ j v, cs[j]? = some v -> w.cell? (a.add j) = some v) (hfit : cs.length = cur.size) (h1 : ∀ v ∈ cs, v.oneCell' = true) :
  (Builtin.copy_ #[92, 92] ty #[.slice (some ⟨g, 0, none⟩) m dc, .slice (some a) m sCap]).run Tryz.prog w = .ok (goInt m) (w.setRow g cs.toArray) := by
 have hl := run_loadCells_list (P := Tryz.prog) w a cs hsrc
 have hst := run_storeCells_at Tryz.prog g 0 t cs 0 cur w hg (by omega) h1
 rw [Nat.zero_add, List.take_zero, List.nil_append, Nat.zero_add, List.drop_of_length_le (by simp [hfit]), List.append_nil] at hst
 rw [hn] at hl
 simp [Builtin.copy_, run_underlying Tryz.underlying92, Builtin.lenOf, Builtin.firstCells, hl, hst]
theorem Zkq (w : World) (ty : TypeId) (g dc : Nat) (a : Option Addr) (sCap : Nat) (ha : a = none -> sCap = 0) :
  (Builtin.copy_ #[92, 92] ty #[.slice (some ⟨g, 0, none⟩) 0 dc, .slice a 0 sCap]).run Tryz.prog w = .ok (goInt 0) w := by
 cases a with
 | none =>
  rw [ha rfl]
  simp [Builtin.copy_, run_underlying Tryz.underlying92, Builtin.lenOf, Builtin.firstCells, storeCells]
 | some a =>
  have hl := run_loadCells_list (P := Tryz.prog) w a [] (fun j v h => by simp at h)
  have hl2 : (loadCells a 0).run Tryz.prog w = .ok #[] w := by simpa using hl
  simp [Builtin.copy_, run_underlying Tryz.underlying92, Builtin.lenOf, Builtin.firstCells, storeCells, hl2]
theorem Zq2 {w : World} {ops : Array Oper} {rest : List Oper} {o : Oper} {a : Act} {Q : Exit -> Act -> World -> Prop} (hgd : o.guard = none) (d x : Operand)
  (ho : o.op = .call { callee := .builtin .copy, args := #[d, x], argTypes := #[92, 92] }) (v u : Value) (hd : a.eval d = v) (hx : a.eval x = u) {v' : Value} {w' : World}
  (hr : (Builtin.copy_ #[92, 92] o.type #[v, u]).run Tryz.prog w = .ok v' w') (h : wpList Tryz.prog ops Q rest (a.put o.dst v') w') : wpList Tryz.prog ops Q (o :: rest) a w := by
 refine wpList_plain hgd fun K hK => ?_
 unfold Oper.wp
 simp [execOp, ho, resolve, invoke, builtin, hd, hx, hr, Result.andThen]
 exact hK _ _ h
theorem Zit {w : World} {a : Option Addr} : ∀ {ts : List T} {k : Nat}, LiesAll w ts a k -> ∃ ys : List V, ys.length = ts.length /\ ∀ i y, ys[i]? = some y -> ∃ g off t, At w a (k + i) t g off y
 | [], k, _ => ⟨[], rfl, fun i y h => by simp at h⟩
 | t :: r, k, h => by
  obtain ⟨⟨g, off, y, h1, h2, h3, h4, h5⟩, hr⟩ := liesAll_cons.1 h
  obtain ⟨ys, e1, e2⟩ := Zit hr
  refine ⟨y :: ys, by rw [List.length_cons, List.length_cons, e1], fun i z hz => ?_⟩
  cases i with
  | zero =>
   have : y = z := by simpa using hz
   subst this
   exact ⟨g, off, t, h1, h2, h3, h4, h5⟩
  | succ i =>
   obtain ⟨g', off', t', A⟩ := e2 i z (by simpa using hz)
   rw [show k + 1 + i = k + (i + 1) from by omega] at A
   exact ⟨g', off', t', A⟩
theorem Zrm {w : World} {g off : Nat} {ys : List V} (h : ∀ i y, ys[i]? = some y -> w.cell? ⟨g, off + i * 3, none⟩ = some (.bool y.l) /\ w.cell? ⟨g, off + i * 3 + 1, none⟩ = some (.slice y.ba y.bn y.bc) /\ w.cell? ⟨g, off + i * 3 + 2, none⟩ = some (.slice y.ia y.m y.ic)) :
  ∀ j v, (ys.flatMap V.cells)[j]? = some v -> w.cell? ((⟨g, off, none⟩ : Addr).add j) = some v := by
 intro j v hv
 rw [Zax]
 have hj := (List.getElem?_eq_some_iff.1 hv).1
 rw [Zev] at hj
 obtain ⟨y, hy⟩ : ∃ y, ys[j / 3]? = some y := ⟨ys[j / 3]'(by omega), List.getElem?_eq_getElem _⟩
 have hs := Zll hy
 obtain ⟨q0, q1, q2⟩ := h (j / 3) y hy
 have hlen : (ys.take (j / 3)).length = j / 3 := by rw [List.length_take]; omega
 have hr : j % 3 = 0 \/ j % 3 = 1 \/ j % 3 = 2 := by omega
 have hget : ∀ u, (V.cells y)[j % 3]? = some u -> (ys.flatMap V.cells)[j]? = some u := by
  intro u hu
  have := Zdd (ys.take (j / 3)) y (ys.drop (j / 3 + 1)) (j % 3) u hu
  rw [<- hs, hlen, show j / 3 * 3 + j % 3 = j from by omega] at this
  exact this
 rcases hr with e | e | e
 ·have := hget (.bool y.l) (by rw [e]; rfl)
  rw [hv] at this
  rw [Option.some.inj this, show off + j = off + j / 3 * 3 from by omega]
  exact q0
 ·have := hget (.slice y.ba y.bn y.bc) (by rw [e]; rfl)
  rw [hv] at this
  rw [Option.some.inj this, show off + j = off + j / 3 * 3 + 1 from by omega]
  exact q1
 ·have := hget (.slice y.ia y.m y.ic) (by rw [e]; rfl)
  rw [hv] at this
  rw [Option.some.inj this, show off + j = off + j / 3 * 3 + 2 from by omega]
  exact q2
theorem Ztn (ys : List V) : ∀ v ∈ ys.flatMap V.cells, v.oneCell' = true := by
 intro v hv
 obtain ⟨y, _, hy⟩ := List.mem_flatMap.1 hv
 exact Zi3 y v hy
set_option maxHeartbeats 1000000 in
theorem Zu6 (a : Option Addr) (m c : Nat) (ts : List T) (hm : m = ts.length /\ m <= c /\ c <= maxLen /\ m <= 140737488351232) (w : World) (hall : LiesAll w ts a 0) (hb56 : 56 * m <= 281474976710656) (hnil : a = none -> c = 0) :
  Calls Tryz.prog 102 #[.slice a m c] w fun e w' => ∃ ys : List V, ys.length = m /\ e = .returned (.agg #[.bool true, .slice none 0 0, .slice (some ⟨w.heap.size + 1, 0, none⟩) m m]) /\ w'.heap[w.heap.size + 1]? = some (.cells (ys.flatMap V.cells).toArray 94) /\ (∀ i y, ys[i]? = some y -> ∃ g off t, At w a i t g off y) /\ Below w.heap.size w w' := by
 obtain ⟨hm1, hm2, hm3, hm4⟩ := hm
 obtain ⟨ys, hy1, hy2⟩ := Zit hall
 obtain ⟨iI, hi, hz, hsz, hby⟩ := Zzt
 have hmk := fun w => run_make (P := Tryz.prog) w 92 94 iI _ Tryz.underlying92 hi hz .i64 .i64 m m (by omega) (by omega) (by rw [hby]; omega) (by omega)
 rw [hsz, Int.toNat_natCast] at hmk
 obtain ⟨w0, hw0⟩ : ∃ w0, w.alloc (.cells #[.bool false, .slice none 0 0, .slice none 0 0] 94) = w0 := ⟨_, rfl⟩
 have hs0 : w0.heap.size = w.heap.size + 1 := by rw [<- hw0]; simp
 have hbw0 : Below w.heap.size w w0 := by rw [<- hw0]; exact below_new _ _
 have hres : w0.heap[w.heap.size]? = some (.cells #[.bool false, .slice none 0 0, .slice none 0 0] 94) := by rw [<- hw0]; exact heap_alloc_new _ _
 obtain ⟨MC, hMC⟩ : ∃ MC, madeCells (Value.agg #[.bool false, .slice none 0 0, .slice none 0 0]).cells (m * 3) = MC := ⟨_, rfl⟩
 rw [hMC] at hmk
 have hms : MC.size = m * 3 := by rw [<- hMC, size_madeCells]
 have hyl : ys.length = m := by rw [hy1, hm1]
 obtain ⟨w1, hrun, hrow1, hoth, hbel1⟩ : ∃ w1, (∀ ty, (Builtin.copy_ #[92, 92] ty #[.slice (some ⟨w0.heap.size, 0, none⟩) m m, .slice a m c]).run Tryz.prog (w0.alloc (.cells MC 94)) = .ok (goInt m) w1) /\ w1.heap[w0.heap.size]? = some (.cells (ys.flatMap V.cells).toArray 94) /\ w1.heap[w.heap.size]? = some (.cells #[.bool false, .slice none 0 0, .slice none 0 0] 94) /\ Below w0.heap.size w0 w1 := by
  by_cases h0 : m = 0
  ·subst h0
   have hys : ys = [] := List.eq_nil_of_length_eq_zero hyl
   subst hys
   have hMC0 : MC = #[] := Array.eq_empty_of_size_eq_zero (by omega)
   subst hMC0
   exact ⟨_, fun ty => Zkq _ ty _ _ a c hnil, heap_alloc_new _ _, (Below.heap_alloc _ _ _ (by omega)).trans hres, below_new _ _⟩
  ·obtain ⟨y0, hy0⟩ : ∃ y, ys[0]? = some y := ⟨ys[0]'(by omega), List.getElem?_eq_getElem _⟩
   obtain ⟨g, off, t, A⟩ := hy2 0 y0 hy0
   have ha := A.ha
   subst ha
   have hbb : Below w.heap.size w (w0.alloc (.cells MC 94)) := hbw0.alloc (by omega) _
   have hcs := Zrm (w := w0.alloc (.cells MC 94)) (g := g) (off := off) (ys := ys) (fun i y h => by
    obtain ⟨g', off', t', A'⟩ := hy2 i y h
    have ha' := A'.ha
    cases ha'
    have c0 := A'.c0
    have c1 := A'.c1
    have c2 := A'.c2
    rw [Nat.zero_add] at c0 c1 c2
    exact ⟨Zae hbb c0, Zae hbb c1, Zae hbb c2⟩)
   refine ⟨_, fun ty => Zi7 _ ty w0.heap.size m m ⟨g, off, none⟩ c MC 94 (ys.flatMap V.cells) (heap_alloc_new _ _) (by rw [Zev, hyl]) hcs (by rw [Zev, hyl, hms]) (Ztn ys), setRow_heap _ _ _ _ _ _ (heap_alloc_new _ _), ?_, ?_⟩
   ·rw [setRow_other _ _ _ _ (by omega)]
    exact (Below.heap_alloc _ _ _ (by omega)).trans hres
   ·exact Touch.below (below_new _ _) (Touch.setRow _ _ _) (Nat.le_refl _) (by simp)
 rw [hs0] at hrun hrow1
 rw [<- hw0] at hrun
 have HRUN := Hid.mk hrun
 have HROW := Hid.mk hrow1
 have HB := Hid.mk (below_go hbw0 hbel1)
 have HRES := Hid.mk hoth
 have x0 : w1.cell? ⟨w.heap.size, 0, none⟩ = some (.bool false) := by rw [cell_of_row _ _ _ _ _ _ hoth]; rfl
 have x1 : w1.cell? ⟨w.heap.size, 1, none⟩ = some (.slice none 0 0) := by rw [cell_of_row _ _ _ _ _ _ hoth]; rfl
 have x2 : w1.cell? ⟨w.heap.size, 2, none⟩ = some (.slice none 0 0) := by rw [cell_of_row _ _ _ _ _ _ hoth]; rfl
 have xf : ∀ o, w1.frozen? ⟨w.heap.size, o, none⟩ = false := fun o => frozen_of_row _ _ _ _ _ hoth
 have HY := Hid.mk hy2
 have HYL := Hid.mk hyl
 clear hrun hrow1 hbel1 hoth hw0 hs0 hbw0 hres hMC hms hall hy1 hy2 hm1 hyl hi hz hsz hby hnil
 go_enter Tryz.func102, Tryz.ntmps102
 go_wp2_with (first | refine Zq2 rfl _ _ rfl _ _ rfl rfl (HRUN.out _) ?_)
 have hr := put3 HRES.out (.bool true) (.slice none 0 0) (.slice (some ⟨w.heap.size + 1, 0, none⟩) m m)
 refine bodyPost_ret (results_cell_row Tryz.results102 _ _ w.heap.size 94 _ (0, 0) _ rfl hr Tryz.underlying94 rfl (by kernel_rfl)) rfl ?_
 exact ⟨ys, HYL.out, rfl, (Zbv (by omega) _ _ _).trans HROW.out, fun i y h => by have := HY.out i y h; simpa using this, Za0 HB.out (Nat.le_refl _) _ _ _⟩
structure RV where
 k : Int
 d : List Int
 a : Option Addr
 n : Nat
 c : Nat
def RV.cells (x : RV) : List Value := .int .i64 x.k :: (x.d.map (Value.int .u8) ++ [.slice x.a x.n x.c])
structure NV where
 k : Int
 pa : Option Addr
 pn : Nat
 pc : Nat
 va : Option Addr
 vn : Nat
 vc : Nat
 c : RV
 ka : Option Addr
 kn : Nat
 kc : Nat
def NV.cells (x : NV) : List Value := .int .i64 x.k :: .slice x.pa x.pn x.pc :: .slice x.va x.vn x.vc :: (x.c.cells ++ [.slice x.ka x.kn x.kc])
def AgK (K : Nat -> Prop) (w : World) (a : Option Addr) (n c : Nat) (bs : List Int) : Prop := Ag w a n c bs /\ n <= 140737488351232 /\ ∀ g off, a = some ⟨g, off, none⟩ -> 0 < n -> K g
def RefAt (K : Nat -> Prop) (w : World) (x : RV) (r : PR) : Prop := x.k = r.k /\ x.d = r.d /\ isB r.d /\ r.d.length = 32 /\ AgK K w x.a x.n x.c r.i
def KidsAt (K : Nat -> Prop) (w : World) (a : Option Addr) (ks : List PR) : Prop := ∀ j r, ks[j]? = some r -> ∃ g off y, a = some ⟨g, off, none⟩ /\ K g /\ w.rangeAt g (off + j * 34) y.cells /\ RefAt K w y r
structure NodeAt (K : Nat -> Prop) (w : World) (x : NV) (n : PN) : Prop where
 k : x.k = n.k
 p : AgK K w x.pa x.pn x.pc n.p
 v : AgK K w x.va x.vn x.vc n.v
 c : RefAt K w x.c n.c
 m : x.kn = n.ks.length /\ x.kn <= x.kc /\ x.kc <= maxLen /\ x.kn <= 2199023255488 /\ (x.ka = none -> x.kn = 0 /\ x.kc = 0)
 ks : KidsAt K w x.ka n.ks
theorem RV.len {x : RV} (h : x.d.length = 32) : x.cells.length = 34 := by simp [RV.cells, h]
theorem NV.len {x : NV} (h : x.c.d.length = 32) : x.cells.length = 38 := by simp [NV.cells, RV.len h]
theorem RV.one (x : RV) : ∀ u ∈ x.cells, u.oneCell' = true := by
 intro u hu
 simp only [RV.cells, List.mem_cons, List.mem_append, List.mem_map, List.not_mem_nil, or_false] at hu
 rcases hu with rfl | ⟨y, _, rfl⟩ | rfl <;> rfl
theorem NV.one (x : NV) : ∀ u ∈ x.cells, u.oneCell' = true := by
 intro u hu
 simp only [NV.cells, List.mem_cons, List.mem_append, List.not_mem_nil, or_false] at hu
 rcases hu with rfl | rfl | rfl | hu | rfl
 ·rfl
 ·rfl
 ·rfl
 ·exact x.c.one u hu
 ·rfl
theorem Ztp {w w' : World} {g o : Nat} {v : Value} (h : w.cell? ⟨g, o, none⟩ = some v) (hk : g < w.heap.size -> w'.heap[g]? = w.heap[g]?) : w'.cell? ⟨g, o, none⟩ = some v := (World.cell?_of_block (w := w) (hk (block_lt_of_cell h))).trans h
def Keep (K L : Nat -> Prop) (w w' : World) : Prop := ∀ g, K g -> g < w.heap.size -> w'.heap[g]? = w.heap[g]? /\ L g
theorem AgK.go {K L : Nat -> Prop} {w w' : World} (hk : Keep K L w w') {a : Option Addr} {n c : Nat} {bs : List Int} (h : AgK K w a n c bs) : AgK L w' a n c bs := by
 refine ⟨Zle h.1 (fun g off e h0 hl => (hk g (h.2.2 g off e h0) hl).1), h.2.1, fun g off e h0 => ?_⟩
 obtain ⟨g', off', e', _, _, hc⟩ := ag_head h.1 h0
 rw [e] at e'
 cases e'
 exact (hk g (h.2.2 g off e h0) (block_lt_of_cell (hc 0 h0))).2
theorem RefAt.go {K L : Nat -> Prop} {w w' : World} (hk : Keep K L w w') {x : RV} {r : PR} (h : RefAt K w x r) : RefAt L w' x r := ⟨h.1, h.2.1, h.2.2.1, h.2.2.2.1, h.2.2.2.2.go hk⟩
theorem RefAt.len {K : Nat -> Prop} {w : World} {x : RV} {r : PR} (h : RefAt K w x r) : x.d.length = 32 := by rw [h.2.1]; exact h.2.2.2.1
theorem Zco {w w' : World} {g o : Nat} {cs : List Value} (h : w.rangeAt g o cs) (hk : g < w.heap.size -> w'.heap[g]? = w.heap[g]?) : w'.rangeAt g o cs := fun j v hv => Ztp (h j v hv) hk
theorem Zuw {w : World} {g o : Nat} {cs : List Value} (h : w.rangeAt g o cs) (h0 : 0 < cs.length) : g < w.heap.size := block_lt_of_cell (h 0 _ (List.getElem?_eq_getElem h0))
theorem KidsAt.go {K L : Nat -> Prop} {w w' : World} (hk : Keep K L w w') {a : Option Addr} {ks : List PR} (h : KidsAt K w a ks) : KidsAt L w' a ks := fun j r hr => by
 obtain ⟨g, off, y, e, hg, hc, hy⟩ := h j r hr
 have hl := Zuw hc (by rw [RV.len hy.len]; omega)
 exact ⟨g, off, y, e, (hk g hg hl).2, Zco hc (fun hl => (hk g hg hl).1), hy.go hk⟩
theorem NodeAt.go {K L : Nat -> Prop} {w w' : World} (hk : Keep K L w w') {x : NV} {n : PN} (h : NodeAt K w x n) : NodeAt L w' x n := ⟨h.k, h.p.go hk, h.v.go hk, h.c.go hk, h.m, h.ks.go hk⟩
theorem Keep.below {K : Nat -> Prop} {w w' : World} (h : Below w.heap.size w w') : Keep K K w w' := fun g hK hg => ⟨h.block g hg, hK⟩
theorem Keep.any {K : Nat -> Prop} {w w' : World} (h : Below w.heap.size w w') : Keep K (fun _ => True) w w' := fun g hK hg => ⟨h.block g hg, trivial⟩
def Own (base : Nat) (w : World) (g : Nat) : Prop := base <= g /\ ∀ o, w.frozen? ⟨g, o, none⟩ = false
theorem Keep.own {base base' : Nat} {w w' : World} (h : Below w.heap.size w w') (hb : base' <= base) : Keep (Own base w) (Own base' w') w w' := fun g hK hg => ⟨h.block g hg, Nat.le_trans hb hK.1, fun o => (World.frozen?_of_block (w := w) (h.block g hg)).trans (hK.2 o)⟩
theorem AgK.l {K : Nat -> Prop} {w : World} {a : Option Addr} {n c : Nat} {bs : List Int} (h : AgK K w a n c bs) : bs.length = n := h.1.l
theorem NodeAt.okN {K : Nat -> Prop} {w : World} {x : NV} {n : PN} (h : NodeAt K w x n) : okN n := by
 refine ⟨h.p.1.b, h.v.1.b, ⟨h.c.2.2.1, h.c.2.2.2.1, h.c.2.2.2.2.1.b⟩, fun r hr => ?_⟩
 obtain ⟨j, hj⟩ := List.getElem?_of_mem hr
 obtain ⟨_, _, y, _, _, _, hy⟩ := h.ks j r hj
 exact ⟨hy.2.2.1, hy.2.2.2.1, hy.2.2.2.2.1.b⟩
structure NBx (g : Nat) (v : World) (x : NV) : Prop where
 row : v.heap[g]? = some (.cells x.cells.toArray 104)
 l : x.c.d.length = 32
structure RBx (g : Nat) (v : World) (x : RV) : Prop where
 row : v.heap[g]? = some (.cells x.cells.toArray 60)
 l : x.d.length = 32
theorem NBx.at {g : Nat} {v : World} {x : NV} (h : NBx g v x) (j : Nat) : v.cell? ⟨g, j, none⟩ = x.cells[j]? := by rw [cell_of_row _ _ _ _ _ _ h.row]; simp
theorem RBx.at {g : Nat} {v : World} {x : RV} (h : RBx g v x) (j : Nat) : v.cell? ⟨g, j, none⟩ = x.cells[j]? := by rw [cell_of_row _ _ _ _ _ _ h.row]; simp
theorem NBx.c0 {g : Nat} {v : World} {x : NV} (h : NBx g v x) : v.cell? ⟨g, 0, none⟩ = some (.int .i64 x.k) := h.at 0
theorem NBx.c1 {g : Nat} {v : World} {x : NV} (h : NBx g v x) : v.cell? ⟨g, 1, none⟩ = some (.slice x.pa x.pn x.pc) := h.at 1
theorem NBx.c2 {g : Nat} {v : World} {x : NV} (h : NBx g v x) : v.cell? ⟨g, 2, none⟩ = some (.slice x.va x.vn x.vc) := h.at 2
theorem NBx.c3 {g : Nat} {v : World} {x : NV} (h : NBx g v x) : v.cell? ⟨g, 3, none⟩ = some (.int .i64 x.c.k) := h.at 3
theorem RV.last {x : RV} (h : x.d.length = 32) : x.cells[33]? = some (.slice x.a x.n x.c) := by
 rw [RV.cells, List.getElem?_cons_succ, List.getElem?_append_right (by simp [h])]
 simp [h]
theorem NBx.c37 {g : Nat} {v : World} {x : NV} (h : NBx g v x) : v.cell? ⟨g, 37, none⟩ = some (.slice x.ka x.kn x.kc) := by
 rw [h.at 37, NV.cells, List.getElem?_cons_succ, List.getElem?_cons_succ, List.getElem?_cons_succ, List.getElem?_append_right (by rw [RV.len h.l]; omega), RV.len h.l]
 rfl
theorem NBx.fz {g : Nat} {v : World} {x : NV} (h : NBx g v x) (o : Nat) : v.frozen? ⟨g, o, none⟩ = false := frozen_of_row _ _ _ _ _ h.row
theorem NBx.child {g : Nat} {v : World} {x : NV} (h : NBx g v x) : v.rangeAt g 3 x.c.cells := fun j u hu => by
 rw [h.at, NV.cells, Nat.add_comm 3 j, List.getElem?_cons_succ, List.getElem?_cons_succ, List.getElem?_cons_succ, List.getElem?_append_left (List.getElem?_eq_some_iff.1 hu).1]
 exact hu
theorem NBx.all {g : Nat} {v : World} {x : NV} (h : NBx g v x) : v.rangeAt g 0 x.cells := fun j u hu => by rw [h.at, Nat.zero_add]; exact hu
theorem RBx.all {g : Nat} {v : World} {x : RV} (h : RBx g v x) : v.rangeAt g 0 x.cells := fun j u hu => by rw [h.at, Nat.zero_add]; exact hu
theorem RBx.c0 {g : Nat} {v : World} {x : RV} (h : RBx g v x) : v.cell? ⟨g, 0, none⟩ = some (.int .i64 x.k) := h.at 0
theorem RBx.c33 {g : Nat} {v : World} {x : RV} (h : RBx g v x) : v.cell? ⟨g, 33, none⟩ = some (.slice x.a x.n x.c) := by rw [h.at]; exact RV.last h.l
theorem RBx.fz {g : Nat} {v : World} {x : RV} (h : RBx g v x) (o : Nat) : v.frozen? ⟨g, o, none⟩ = false := frozen_of_row _ _ _ _ _ h.row
theorem RBx.digest {g : Nat} {v : World} {x : RV} (h : RBx g v x) : v.rangeAt g 1 (x.d.map (Value.int .u8)) := fun j u hu => by
 rw [h.at, RV.cells, Nat.add_comm 1 j, List.getElem?_cons_succ, List.getElem?_append_left (List.getElem?_eq_some_iff.1 hu).1]
 exact hu
theorem NBx.go {g : Nat} {v v' : World} {x : NV} (h : NBx g v x) (hb : Below v.heap.size v v') : NBx g v' x := ⟨Below.row hb h.row, h.l⟩
theorem RBx.go {g : Nat} {v v' : World} {x : RV} (h : RBx g v x) (hb : Below v.heap.size v v') : RBx g v' x := ⟨Below.row hb h.row, h.l⟩
theorem Zcw (w : World) (x : NV) (h : x.c.d.length = 32) : NBx w.heap.size (w.alloc (.cells x.cells.toArray 104)) x := ⟨heap_alloc_new _ _, h⟩
theorem Zic (w : World) (x : RV) (h : x.d.length = 32) : RBx w.heap.size (w.alloc (.cells x.cells.toArray 60)) x := ⟨heap_alloc_new _ _, h⟩
theorem Zge : (Tryz.prog.info? 104).map (·.size) = some 38 := by kernel_rfl
theorem Zix : (Tryz.prog.info? 60).map (·.size) = some 34 := by kernel_rfl
theorem Zzu : (Tryz.prog.info? 24).map (·.size) = some 32 := by kernel_rfl
def rz : RV := ⟨0, z32, none, 0, 0⟩
def nz : NV := ⟨0, none, 0, 0, none, 0, 0, rz, none, 0, 0⟩
def DPost (w : World) (o : Option PN) : Ending -> World -> Prop := fun e w' => Below w.heap.size w w' ∧
 match o with
 | none => e = .returned (.tuple #[.agg nz.cells.toArray, .int .i64 50])
 | some n => ∃ y : NV, e = .returned (.tuple #[.agg y.cells.toArray, .int .i64 0]) /\ NodeAt (Own w.heap.size w') w' y n
def DecSaid (b : List Int) : Prop := ∀ (a : Option Addr) (n c : Nat) (w : World), Ag w a n c b -> n <= 140737488351232 -> Calls Tryz.prog 118 #[.slice a n c] w (DPost w (ND b))
theorem Zx4 {w : World} {o : Option PN} {e : Ending} {w' : World} (h : DPost w o e w') : Below w.heap.size w w' /\ ∃ y : NV, ∃ er : Int, e = .returned (.tuple #[.agg y.cells.toArray, .int .i64 er]) /\ y.k = kd o /\ y.c.d.length = 32 := by
 obtain ⟨hb, hm⟩ := h
 refine ⟨hb, ?_⟩
 cases o with
 | none => exact ⟨nz, 50, hm, rfl, rfl⟩
 | some n =>
  obtain ⟨y, e1, hy⟩ := hm
  exact ⟨y, 0, e1, hy.k, hy.c.len⟩
theorem Below.setRow {B : Nat} {w0 w : World} {g : Nat} (h : Below B w0 w) (hg : B <= g) (cs : Array Value) : Below B w0 (w.setRow g cs) :=
 h.trans ⟨rfl, rfl, rfl, by simp, fun k hk => setRow_other w g k cs (by omega)⟩
theorem Zwj : (nz.cells.toArray : Array Value).size = 38 := rfl
set_option maxHeartbeats 1000000 in
theorem Ze2 (K : Nat -> Prop) (x : RV) (r : PR) (w : World) (h : RefAt K w x r) (hd : DecSaid r.i) :
  Calls Tryz.prog 111 #[.agg x.cells.toArray] w fun e w' => e = .returned (.int .i64 (KD r.i)) /\ Below w.heap.size w w' := by
 have B := Zic w x h.len
 have HB := Hid.mk (below_new w (.cells x.cells.toArray 60))
 have HD := Hid.mk (show ∀ v, Below w.heap.size w v -> Calls Tryz.prog 118 #[.slice x.a x.n x.c] v (DPost v (ND r.i)) from fun v hv => hd _ _ _ v (h.2.2.2.2.1.at hv) h.2.2.2.2.2.1)
 obtain ⟨kr, hkr⟩ : ∃ kr, KD r.i = kr := ⟨_, rfl⟩
 have HK := Hid.mk (show kd (ND r.i) = kr from hkr)
 rw [hkr]
 clear h hd hkr
 go_enter Tryz.func111, Tryz.ntmps111
 go_upto_region 1 with fail
 refine gen_w (p := fun v => Code.wp _ _ _ _ v) (q := fun v => RBx w.heap.size v x /\ Below w.heap.size w v) ⟨B, HB.out⟩ ?_
 clear B HB
 rintro v ⟨B, hb⟩
 have HB := Hid.mk hb
 have c0 := B.c33
 clear hb B
 go_wp2_with fail
 refine (HD.out v HB.out).mono ?_
 intro e w1 hp
 obtain ⟨hb1, y, er, rfl, hyk, hyl⟩ := Zx4 hp
 rw [HK.out] at hyk
 have HB1 := Hid.mk (below_go HB.out hb1)
 have HS := Hid.mk (show (nz.cells.toArray : Array Value).size = y.cells.toArray.size from by rw [Zwj, List.size_toArray, NV.len hyl])
 have HI := Hid.mk (show (Tryz.prog.info? 104).map (·.size) = some y.cells.toArray.size from by rw [Zge, List.size_toArray, NV.len hyl])
 have HO := Hid.mk (all_oneCell_toArray y.one)
 have HYK := Hid.mk hyk
 have HYL := Hid.mk hyl
 clear hp hb1 hyk hyl HD HK HB c0
 go_upto_region 2 with (first | refine wpList_store_row rfl 104 _ _ rfl _ y.cells.toArray rfl rfl 104 _ (heap_alloc_new w1 _) HI.out HS.out HO.out ?_)
 refine gen_w (p := fun v => Code.wp _ _ _ _ v) (q := fun v => NBx w1.heap.size v y /\ Below w.heap.size w v) ⟨⟨setRow_heap _ _ _ _ _ _ (heap_alloc_new w1 _), HYL.out⟩, Below.setRow (HB1.out.alloc HB1.out.size _) HB1.out.size _⟩ ?_
 rintro v2 ⟨B, hb⟩
 have c0 := B.c0
 rw [HYK.out] at c0
 have HB2 := Hid.mk hb
 clear B hb
 go_wp2_with fail
 go_ret
 exact ⟨rfl, HB2.out⟩
def B8 (bs : List Int) : Array Value := (bs.map (Value.int .u8)).toArray
theorem B8_size (bs : List Int) : (B8 bs).size = bs.length := by simp [B8]
theorem B8_get (bs : List Int) (k : Nat) (h : k < bs.length) : (B8 bs)[k]? = some (.int .u8 (bs.getD k 0)) := by simp [B8, h]
theorem Ztb (xs ys : List Int) (hx : xs.length = 32) (hy : ys.length = 32) (d : Nat) : ∀ (n k : Nat) (w : World), k + n = 32 →
  (forIn (m := Sem) (List.range' k n) ((none : Option Bool), ()) fun i _ => do
      let a ← part 5 (B8 xs) (i * 1)
      let b ← part 5 (B8 ys) (i * 1)
      let r ← Op.equalIn (d + 1) 5 a b
      if (!r) = true then pure (ForInStep.done (some false, ())) else pure (ForInStep.yield (none, ()))).run Tryz.prog w =
   .ok (if xs.drop k == ys.drop k then (none, ()) else (some false, ())) w
 | 0, k, w, hk => by
  have e1 : xs.drop k = [] := List.drop_eq_nil_of_le (by omega)
  have e2 : ys.drop k = [] := List.drop_eq_nil_of_le (by omega)
  rw [e1, e2]
  simp
 | n + 1, k, w, hk => by
  have ih := Ztb xs ys hx hy d n (k + 1) w (by omega)
  have hlx : k < xs.length := by omega
  have hly : k < ys.length := by omega
  have px : (part 5 (B8 xs) (k * 1)).run Tryz.prog w = .ok (.int .u8 (xs.getD k 0)) w := by
   simp only [part, Sem.run_bind, isAgg, run_underlying Tryz.underlying5, Result.andThen_ok, Sem.run_pure, Bool.false_eq_true, if_false, Nat.mul_one, B8_get xs k hlx]
  have py : (part 5 (B8 ys) (k * 1)).run Tryz.prog w = .ok (.int .u8 (ys.getD k 0)) w := by
   simp only [part, Sem.run_bind, isAgg, run_underlying Tryz.underlying5, Result.andThen_ok, Sem.run_pure, Bool.false_eq_true, if_false, Nat.mul_one, B8_get ys k hly]
  have pe := run_equalIn_int w d 5 .u8 .u8 (xs.getD k 0) (ys.getD k 0) (P := Tryz.prog) Tryz.underlying5
  have dx : xs.drop k = xs.getD k 0 :: xs.drop (k + 1) := by rw [List.drop_eq_getElem_cons hlx]; simp [List.getD, List.getElem?_eq_getElem hlx]
  have dy : ys.drop k = ys.getD k 0 :: ys.drop (k + 1) := by rw [List.drop_eq_getElem_cons hly]; simp [List.getD, List.getElem?_eq_getElem hly]
  rw [List.range'_succ, List.forIn_cons]
  simp only [Sem.run_bind, px, py, pe, Result.andThen_ok]
  rw [dx, dy, List.cons_beq_cons]
  cases hc : (xs.getD k 0 == ys.getD k 0) with
  | false => simp
  | true =>
   simp only [Bool.not_true, Bool.false_eq_true, if_false, Sem.run_pure, Result.andThen_ok, Bool.true_and]
   exact ih
theorem Zz1 (xs ys : List Int) (hx : xs.length = 32) (hy : ys.length = 32) (d : Nat) (w : World) :
  (Op.equalIn (d + 1 + 1) 24 (.agg (B8 xs)) (.agg (B8 ys))).run Tryz.prog w = .ok (xs == ys) w := by
 have hs : (Tryz.prog.info? 5).map (·.size) = some 1 := by kernel_rfl
 cases hq : Tryz.prog.info? 5 with
 | none => simp [hq] at hs
 | some y =>
  have hy1 : y.size = 1 := by simpa [hq] using hs
  rw [Op.equalIn]
  simp only [Sem.run_bind, run_underlying Tryz.underlying24, Result.andThen_ok, sizeOf, typeInfo, run_program, hq, hy1, Sem.run_pure]
  have e := Ztb xs ys hx hy d 32 0 w (by omega)
  rw [Std.Legacy.Range.forIn_eq_forIn_range']
  simp only [Std.Legacy.Range.size, List.drop_zero] at e ⊢
  rw [show (32 - 0 + 1 - 1) / 1 = 32 from rfl]
  rw [e]
  cases xs == ys <;> simp
theorem eqD (xs ys : List Int) (hx : xs.length = 32) (hy : ys.length = 32) (w : World) : (Op.equalIn 10000 24 (.agg (B8 xs)) (.agg (B8 ys))).run Tryz.prog w = .ok (xs == ys) w := Zz1 xs ys hx hy 9998 w
section
variable {w : World} {ops : Array Oper} {rest : List Oper} {o : Oper} {a : Act} {Q : Exit → Act → World → Prop}
theorem Zm2 (hw : Region.wanted o (yielded ops a.tmps) = true) (h : ∀ K : Act -> World -> Prop, (∀ a w, wpList Tryz.prog ops Q rest a w -> K a w) -> o.wp Tryz.prog a w K Q) : wpList Tryz.prog ops Q (o :: rest) a w :=
 wpList_step fun K hK => by rw [if_pos hw]; exact h K hK
theorem Ze4 (hw : Region.wanted o (yielded ops a.tmps) = true) (x y : Operand) (ho : o.op = .binOp .eql 24 x y 24) (xs ys : List Int) (hx : a.eval x = .agg (B8 xs)) (hy : a.eval y = .agg (B8 ys)) (lx : xs.length = 32) (ly : ys.length = 32) (q : Bool) (hq : (xs == ys) = q)
  (h : wpList Tryz.prog ops Q rest (a.put o.dst (.bool q)) w) : wpList Tryz.prog ops Q (o :: rest) a w := by
 subst hq
 refine Zm2 hw fun K hK => ?_
 have e := eqD xs ys lx ly
 unfold Oper.wp execOp
 simp only [ho, hx, hy]
 go_simp
 exact hK _ _ h
theorem Ze3 (hw : Region.wanted o (yielded ops a.tmps) = true) (x y : Operand) (ho : o.op = .binOp .neq 24 x y 24) (xs ys : List Int) (hx : a.eval x = .agg (B8 xs)) (hy : a.eval y = .agg (B8 ys)) (lx : xs.length = 32) (ly : ys.length = 32) (q : Bool) (hq : (!(xs == ys)) = q)
  (h : wpList Tryz.prog ops Q rest (a.put o.dst (.bool q)) w) : wpList Tryz.prog ops Q (o :: rest) a w := by
 subst hq
 refine Zm2 hw fun K hK => ?_
 have e := eqD xs ys lx ly
 unfold Oper.wp execOp
 simp only [ho, hx, hy]
 go_simp
 exact hK _ _ h
theorem Zke (hw : Region.wanted o (yielded ops a.tmps) = true) (ty : TypeId) (x : Operand) (ho : o.op = .load ty x) (b off : Nat) (hx : a.eval x = .pointer (some ⟨b, off, none⟩)) (cs : List Value) (d : TypeDesc) (hc : w.rangeAt b off cs)
  (hu : Tryz.prog.underlying ty = some d) (hd : d.isRow = true) (hi : (Tryz.prog.info? ty).map (·.size) = some cs.length) (h : wpList Tryz.prog ops Q rest (a.put o.dst (.agg cs.toArray)) w) : wpList Tryz.prog ops Q (o :: rest) a w :=
 Zm2 hw fun _ hK => wp_load_mid ty x ho b off hx cs d hc hu hd hi (hK _ _ h)
theorem Za8 (hw : Region.wanted o (yielded ops a.tmps) = true) (x : Operand) (ho : o.op = .load 104 x) (b : Nat) (hx : a.eval x = .pointer (some ⟨b, 0, none⟩)) (y : NV) (hc : NBx b w y)
  (h : wpList Tryz.prog ops Q rest (a.put o.dst (.agg y.cells.toArray)) w) : wpList Tryz.prog ops Q (o :: rest) a w :=
 Zke hw 104 x ho b 0 hx y.cells _ hc.all Tryz.underlying104 rfl (by rw [Zge, NV.len hc.l]) h
theorem Za4 (hw : Region.wanted o (yielded ops a.tmps) = true) (x : Operand) (ho : o.op = .load 60 x) (b off : Nat) (hx : a.eval x = .pointer (some ⟨b, off, none⟩)) (y : RV) (hl : y.d.length = 32) (hc : w.rangeAt b off y.cells)
  (h : wpList Tryz.prog ops Q rest (a.put o.dst (.agg y.cells.toArray)) w) : wpList Tryz.prog ops Q (o :: rest) a w :=
 Zke hw 60 x ho b off hx y.cells _ hc Tryz.underlying60 rfl (by rw [Zix, RV.len hl]) h
theorem Zcg (hw : Region.wanted o (yielded ops a.tmps) = true) (x : Operand) (ho : o.op = .load 24 x) (b off : Nat) (hx : a.eval x = .pointer (some ⟨b, off, none⟩)) (ds : List Int) (hl : ds.length = 32) (hc : w.rangeAt b off (ds.map (Value.int .u8)))
  (h : wpList Tryz.prog ops Q rest (a.put o.dst (.agg (B8 ds))) w) : wpList Tryz.prog ops Q (o :: rest) a w :=
 Zke hw 24 x ho b off hx (ds.map (Value.int .u8)) _ hc Tryz.underlying24 rfl (by rw [Zzu, List.length_map, hl]) h
end
theorem Ztr : (fun (a : Option Addr) (n c : Nat) => Tryz.prog.built 60 [(0, .int .i64 1), (2, .slice a n c)]) = fun a n c => some (RV.cells ⟨1, z32, a, n, c⟩).toArray := by kernel_rfl
theorem Zvn (a : Option Addr) (n c : Nat) : Tryz.prog.built 60 [(0, .int .i64 1), (2, .slice a n c)] = some (RV.cells ⟨1, z32, a, n, c⟩).toArray := congrFun (congrFun (congrFun Ztr a) n) c
theorem Ztv : (fun (pa : Option Addr) (pn pc : Nat) (va : Option Addr) (vn vc : Nat) => Tryz.prog.built 104 [(0, .int .i64 1), (1, .slice pa pn pc), (2, .slice va vn vc)]) = fun pa pn pc va vn vc => some (NV.cells ⟨1, pa, pn, pc, va, vn, vc, rz, none, 0, 0⟩).toArray := by kernel_rfl
theorem Zho (pa : Option Addr) (pn pc : Nat) (va : Option Addr) (vn vc : Nat) : Tryz.prog.built 104 [(0, .int .i64 1), (1, .slice pa pn pc), (2, .slice va vn vc)] = some (NV.cells ⟨1, pa, pn, pc, va, vn, vc, rz, none, 0, 0⟩).toArray := congrFun (congrFun (congrFun (congrFun (congrFun (congrFun Ztv pa) pn) pc) va) vn) vc
theorem Zts : (fun (va : Option Addr) (vn vc : Nat) (ka : Option Addr) (kn kc : Nat) => Tryz.prog.built 104 [(0, .int .i64 3), (2, .slice va vn vc), (4, .slice ka kn kc)]) = fun va vn vc ka kn kc => some (NV.cells ⟨3, none, 0, 0, va, vn, vc, rz, ka, kn, kc⟩).toArray := by kernel_rfl
theorem Zpj (va : Option Addr) (vn vc : Nat) (ka : Option Addr) (kn kc : Nat) : Tryz.prog.built 104 [(0, .int .i64 3), (2, .slice va vn vc), (4, .slice ka kn kc)] = some (NV.cells ⟨3, none, 0, 0, va, vn, vc, rz, ka, kn, kc⟩).toArray := congrFun (congrFun (congrFun (congrFun (congrFun (congrFun Zts va) vn) vc) ka) kn) kc
theorem Ztu : (fun (pa : Option Addr) (pn pc : Nat) (k : Int) (a : Option Addr) (n c : Nat) (d0 d1 d2 d3 d4 d5 d6 d7 d8 d9 d10 d11 d12 d13 d14 d15 d16 d17 d18 d19 d20 d21 d22 d23 d24 d25 d26 d27 d28 d29 d30 d31 : Int) => Tryz.prog.built 104 [(0, .int .i64 2), (1, .slice pa pn pc), (3, .agg (RV.cells ⟨k, [d0, d1, d2, d3, d4, d5, d6, d7, d8, d9, d10, d11, d12, d13, d14, d15, d16, d17, d18, d19, d20, d21, d22, d23, d24, d25, d26, d27, d28, d29, d30, d31], a, n, c⟩).toArray)]) =
  fun pa pn pc k a n c d0 d1 d2 d3 d4 d5 d6 d7 d8 d9 d10 d11 d12 d13 d14 d15 d16 d17 d18 d19 d20 d21 d22 d23 d24 d25 d26 d27 d28 d29 d30 d31 => some (NV.cells ⟨2, pa, pn, pc, none, 0, 0, ⟨k, [d0, d1, d2, d3, d4, d5, d6, d7, d8, d9, d10, d11, d12, d13, d14, d15, d16, d17, d18, d19, d20, d21, d22, d23, d24, d25, d26, d27, d28, d29, d30, d31], a, n, c⟩, none, 0, 0⟩).toArray := by kernel_rfl
theorem Zf4 (pa : Option Addr) (pn pc : Nat) (r : RV) (h : r.d.length = 32) : Tryz.prog.built 104 [(0, .int .i64 2), (1, .slice pa pn pc), (3, .agg r.cells.toArray)] = some (NV.cells ⟨2, pa, pn, pc, none, 0, 0, r, none, 0, 0⟩).toArray := by
 obtain ⟨k, d, a, n, c⟩ := r
 match d, h with
 | [d0, d1, d2, d3, d4, d5, d6, d7, d8, d9, d10, d11, d12, d13, d14, d15, d16, d17, d18, d19, d20, d21, d22, d23, d24, d25, d26, d27, d28, d29, d30, d31], _ =>
  have e := Ztu
  have e := congrFun e pa
  have e := congrFun e pn
  have e := congrFun e pc
  have e := congrFun e k
  have e := congrFun e a
  have e := congrFun e n
  have e := congrFun e c
  have e := congrFun e d0
  have e := congrFun e d1
  have e := congrFun e d2
  have e := congrFun e d3
  have e := congrFun e d4
  have e := congrFun e d5
  have e := congrFun e d6
  have e := congrFun e d7
  have e := congrFun e d8
  have e := congrFun e d9
  have e := congrFun e d10
  have e := congrFun e d11
  have e := congrFun e d12
  have e := congrFun e d13
  have e := congrFun e d14
  have e := congrFun e d15
  have e := congrFun e d16
  have e := congrFun e d17
  have e := congrFun e d18
  have e := congrFun e d19
  have e := congrFun e d20
  have e := congrFun e d21
  have e := congrFun e d22
  have e := congrFun e d23
  have e := congrFun e d24
  have e := congrFun e d25
  have e := congrFun e d26
  have e := congrFun e d27
  have e := congrFun e d28
  have e := congrFun e d29
  have e := congrFun e d30
  have e := congrFun e d31
  exact e
end Go.Proofs.YtdkpilgelgjieaaGreat
