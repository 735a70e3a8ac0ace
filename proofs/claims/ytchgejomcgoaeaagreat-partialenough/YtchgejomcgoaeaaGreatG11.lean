/- What the method Sum of digest.Hash answers, for every Hash that lies in memory: the last bytes, the mark, the length, mixed in; nothing that was there is changed. -/
import Derived.Test.YtchgejomcgoaeaaGreatG10
import Derived.Laws.CopyOwn
import Derived.Deep.RegionLaw
import Derived.Deep.RegionHeld3
import Derived.Deep.DrawnRows
import Derived.Laws.AppendOwnNone
set_option maxRecDepth 100000
namespace Go.Proofs.YtchgejomcgoaeaaGreat.Di
open Go.RowKit
def HC (s : S4) (tl : List Int) (n : Nat) : Array Value := (#[Value.int .u64 s.a, Value.int .u64 s.b, Value.int .u64 s.c, Value.int .u64 s.d] ++ B8 tl).push (.int .i64 n)
theorem Zlf (s : S4) (tl : List Int) (n : Nat) : (HC s tl n).size = tl.length + 5 := by simp [HC, B8_size]; omega
theorem Zrc (s : S4) (tl : List Int) (n : Nat) (k : Nat) (h : k < tl.length) : (HC s tl n)[4 + k]? = some (.int .u8 (tl.getD k 0)) := by
  unfold HC
  rw [Array.getElem?_push_lt (by simp [B8_size]; omega), Array.getElem_append_right (by simp)]
  have := B8_get tl k h
  simp [Array.getElem?_eq_some_iff] at this
  obtain ⟨_, e⟩ := this
  simp [e]
theorem Ztp (s : S4) (tl : List Int) (n : Nat) : (HC s tl n)[0]? = some (.int .u64 s.a) ∧ (HC s tl n)[1]? = some (.int .u64 s.b) ∧ (HC s tl n)[2]? = some (.int .u64 s.c) ∧ (HC s tl n)[3]? = some (.int .u64 s.d) := by
  unfold HC
  refine ⟨?_, ?_, ?_, ?_⟩ <;> (rw [Array.getElem?_push_lt (by simp [B8_size]; omega), Array.getElem_append_left (by simp)]; simp)
theorem Zto (s : S4) (tl : List Int) (n : Nat) (h : tl.length = 32) : (HC s tl n)[36]? = some (.int .i64 n) := by
  unfold HC
  rw [Array.getElem?_push, if_pos (by simp [B8_size, h])]
theorem Zdk {w : World} {g : Nat} {a b c d : Int} {tl : List Int} {n : Nat} (h : w.heap[g]? = some (.cells (HC ⟨a, b, c, d⟩ tl n) 102)) (hl : tl.length = 32) :
    w.cell? ⟨g, 0, none⟩ = some (.int .u64 a) ∧ w.cell? ⟨g, 1, none⟩ = some (.int .u64 b) ∧ w.cell? ⟨g, 2, none⟩ = some (.int .u64 c) ∧ w.cell? ⟨g, 3, none⟩ = some (.int .u64 d) ∧ w.cell? ⟨g, 36, none⟩ = some (.int .i64 n) ∧ (∀ o, w.frozen? ⟨g, o, none⟩ = false) := by
  obtain ⟨e0, e1, e2, e3⟩ := Ztp ⟨a, b, c, d⟩ tl n
  have e4 := Zto ⟨a, b, c, d⟩ tl n hl
  exact ⟨by rw [cell_of_row w g _ _ _ _ h, e0], by rw [cell_of_row w g _ _ _ _ h, e1], by rw [cell_of_row w g _ _ _ _ h, e2], by rw [cell_of_row w g _ _ _ _ h, e3], by rw [cell_of_row w g _ _ _ _ h, e4], fun o => frozen_of_row w g o _ _ h⟩
theorem tailH {w : World} {g : Nat} {s : S4} {tl : List Int} {n : Nat} (h : w.heap[g]? = some (.cells (HC s tl n) 102)) (f : Nat) (hf : f ≤ tl.length) :
    ∀ j v, ((tl.take f).map (Value.int .u8))[j]? = some v → w.cell? ((⟨g, 4, none⟩ : Addr).add j) = some v := by
  intro j v hv
  have hadd : (⟨g, 4, none⟩ : Addr).add j = ⟨g, 4 + j, none⟩ := by unfold Addr.add; split <;> simp_all
  have hj : j < f := by
    have := (List.getElem?_eq_some_iff.1 hv).1
    simp at this
    omega
  rw [hadd, cell_of_row w g _ _ _ _ h, Zrc s tl n j (by omega), ← hv]
  simp [hj, List.getElem?_eq_getElem (show j < tl.length by omega)]
theorem Zey {V : World} {p q : World → Prop} (F : q V) (h : ∀ v, q v → p v) : p V := h V F
theorem step_copy {P : Program} {ops : Array Oper} {o : Oper} {a : Act} {w : World} {K : Act → World → Prop} {Q : Exit → Act → World → Prop} {E : Prop}
    (hg : o.guard = none) (d x : Operand) (dT sT : TypeId) (hop : o.op = Op.call { callee := Callee.builtin Builtin.copy, args := #[d, x], argTypes := #[dT, sT] })
    (v u : Value) (hd : a.eval d = v) (hx : a.eval x = u) {v' : Value} {w' : World} (hr : (Builtin.copy_ #[dT, sT] o.type #[v, u]).run P w = .ok v' w') (hK : K (a.put o.dst v') w') :
    if Region.wanted o (yielded ops a.tmps) = true then Oper.wp P o a w K Q else E := by
  have hw : Region.wanted o (yielded ops a.tmps) = true := by simp [Region.wanted, hg]
  rw [if_pos hw]
  unfold Oper.wp
  simp [execOp, hop, resolve, invoke, builtin, hd, hx, hr, Result.andThen]
  exact hK
theorem Zlg (bs : List Int) : ∀ v ∈ bs.map (Value.int .u8), v.oneCell' = true := by
  intro v hv
  obtain ⟨x, _, rfl⟩ := List.mem_map.1 hv
  rfl
theorem Zwi {w : World} {N t o dl dc sl sc : Nat} {ad : Addr} {ds xs : List Int} (hN : w.heap[N]? = some (.cells (B8 ds) t)) (hn : xs.length = Nat.min sl dl) (hfit : o + xs.length ≤ ds.length)
    (hsrc : ∀ j v, (xs.map (Value.int .u8))[j]? = some v → w.cell? (ad.add j) = some v) (ty : TypeId) :
    (Builtin.copy_ #[29, 29] ty #[.slice (some ⟨N, o, none⟩) dl dc, .slice (some ad) sl sc]).run Tryz.prog w = .ok (.int .i64 xs.length) (w.setRow N (B8 (ds.take o ++ xs ++ ds.drop (o + xs.length)))) := by
  have h := run_copy_row Tryz.prog w 29 29 ty 5 N o dl dc ad sl sc (B8 ds) t (xs.map (Value.int .u8)) Tryz.underlying29 (by kernel_rfl) hN (by simpa using hn) hsrc (by simpa [B8_size] using hfit) (Zlg _)
  rw [h]
  simp [goInt, B8]
theorem Zrx {w : World} {g N : Nat} {s : S4} {tl : List Int} {n f : Nat} (hg : w.heap[g]? = some (.cells (HC s tl n) 102)) (hl : tl.length = 32) (hf : f ≤ 32) (hN : w.heap[N]? = some (.cells (B8 (List.replicate 32 0)) 22)) (ty : TypeId) :
    (Builtin.copy_ #[29, 29] ty #[.slice (some ⟨N, 0, none⟩) 32 32, .slice (some ⟨g, 4, none⟩) f 32]).run Tryz.prog w = .ok (.int .i64 f) (w.setRow N (B8 (tl.take f ++ List.replicate (32 - f) 0))) := by
  have e : (tl.take f).length = f := by rw [List.length_take]; omega
  have h := Zwi (o := 0) (dl := 32) (dc := 32) (sl := f) (sc := 32) (xs := tl.take f) hN (by rw [e]; exact (Nat.min_eq_left hf).symm) (by rw [e, List.length_replicate]; omega) (tailH hg f (by omega)) ty
  rw [h, e]
  simp only [List.take_zero, List.nil_append, Nat.zero_add, List.drop_replicate]
structure SW (g N : Nat) (w0 w : World) (H Z L : Obj) : Prop where
  hg : w.heap[g]? = some H
  h0 : w.heap[N]? = some Z
  h1 : w.heap[N + 1]? = some L
  bel : Below N w0 w
  sz : w.heap.size = N + 1 + 1
theorem Zxb {w : World} {g : Nat} {H : Obj} (hg : w.heap[g]? = some H) (Z L : Obj) : SW g w.heap.size w ((w.alloc Z).alloc L) H Z L := by
  have s1 : (w.alloc Z).heap.size = w.heap.size + 1 := by simp
  have h1 := heap_alloc_new w Z
  have h2 := heap_alloc_new (w.alloc Z) L
  rw [s1] at h2
  have l := lt_of_get hg
  exact ⟨by rw [Below.heap_alloc _ _ _ (by omega), Below.heap_alloc _ _ _ (by omega)]; exact hg, by rw [Below.heap_alloc _ _ _ (by omega)]; exact h1, h2, ((Below.refl _ _).alloc (Nat.le_refl _) _).alloc (by omega) _, by simp⟩
theorem SW.setL {g N : Nat} {w0 w : World} {H Z : Obj} {L L' : Array Value} {t : Nat} (h : SW g N w0 w H Z (.cells L t)) (hgN : g < N) : SW g N w0 (w.setRow (N + 1) L') H Z (.cells L' t) :=
  ⟨(setRow_other _ _ _ _ (by omega)).trans h.hg, (setRow_other _ _ _ _ (by omega)).trans h.h0, setRow_heap _ _ _ _ _ _ h.h1, Below.setRow h.bel (by omega) _, by simpa using h.sz⟩
theorem SW.drew {g N : Nat} {w0 w : World} {H Z L : Obj} (h : SW g N w0 w H Z L) : SW g N w0 w.drew H Z L := ⟨h.hg, h.h0, h.h1, h.bel.drew, h.sz⟩
structure S5 (g N : Nat) (w0 w : World) (H Z L S : Obj) : Prop where
  hg : w.heap[g]? = some H
  h0 : w.heap[N]? = some Z
  h1 : w.heap[N + 1]? = some L
  h2 : w.heap[N + 1 + 1]? = some S
  bel : Below N w0 w
  gN : g < N
theorem SW.next {g N : Nat} {w0 w : World} {H Z : Obj} {ds : List Int} {t : Nat} (h : SW g N w0 w H Z (.cells (B8 ds) t)) (hgN : g < N) (f : Nat) (x : Int) (S : Obj) :
    S5 g N w0 ((w.setCell ⟨N + 1, f, none⟩ (.int .u8 x)).alloc S) H Z (.cells (B8 (ds.set f x)) t) S := by
  have sz : (w.setCell ⟨N + 1, f, none⟩ (.int .u8 x)).heap.size = N + 1 + 1 := by simpa using h.sz
  have h2 := heap_alloc_new (w.setCell ⟨N + 1, f, none⟩ (.int .u8 x)) S
  rw [sz] at h2
  refine ⟨?_, ?_, ?_, h2, (h.bel.setCell (by simp) _).alloc (by omega) _, hgN⟩
  · rw [Below.heap_alloc _ _ _ (by omega), heap_setCell_other _ _ _ _ (by simp; omega)]; exact h.hg
  · rw [Below.heap_alloc _ _ _ (by omega), heap_setCell_other _ _ _ _ (by simp)]; exact h.h0
  · rw [Below.heap_alloc _ _ _ (by omega), heap_setCell_same w (N + 1) f _ t _ h.h1, Zrd]
theorem S5.call {g N : Nat} {w0 v w1 : World} {H Z L S : Obj} (h : S5 g N w0 v H Z L S) (hb : Below v.heap.size v w1) : S5 g N w0 w1 H Z L S := by
  have l := lt_of_get h.h2
  have := h.gN
  exact ⟨(hb.block _ (by omega)).trans h.hg, (hb.block _ (by omega)).trans h.h0, (hb.block _ (by omega)).trans h.h1, (hb.block _ (by omega)).trans h.h2, h.bel.trans (hb.mono (by omega)), h.gN⟩
theorem S5.alloc {g N : Nat} {w0 v : World} {H Z L S : Obj} (h : S5 g N w0 v H Z L S) (o : Obj) : S5 g N w0 (v.alloc o) H Z L S := by
  have l := lt_of_get h.h2
  have := h.gN
  exact ⟨(Below.heap_alloc _ _ _ (by omega)).trans h.hg, (Below.heap_alloc _ _ _ (by omega)).trans h.h0, (Below.heap_alloc _ _ _ (by omega)).trans h.h1, (Below.heap_alloc _ _ _ (by omega)).trans h.h2, h.bel.alloc (by omega) _, h.gN⟩
theorem S5.sizes {g N : Nat} {w0 v : World} {H Z L S : Obj} (h : S5 g N w0 v H Z L S) : g < v.heap.size ∧ N < v.heap.size ∧ N + 1 < v.heap.size ∧ N + 1 + 1 < v.heap.size := by
  have l := lt_of_get h.h2
  have := h.gN
  omega
theorem S5.drew {g N : Nat} {w0 w : World} {H Z L S : Obj} (h : S5 g N w0 w H Z L S) : S5 g N w0 w.drew H Z L S := ⟨h.hg, h.h0, h.h1, h.h2, h.bel.drew, h.gN⟩
theorem S5.setS {g N : Nat} {w0 w : World} {H Z L : Obj} {x0 x1 x2 x3 : Value} (h : S5 g N w0 w H Z L (.cells #[x0, x1, x2, x3] 99)) (a b c d : Value) :
    S5 g N w0 ((((w.setCell ⟨N + 1 + 1, 0, none⟩ a).setCell ⟨N + 1 + 1, 1, none⟩ b).setCell ⟨N + 1 + 1, 2, none⟩ c).setCell ⟨N + 1 + 1, 3, none⟩ d) H Z L (.cells #[a, b, c, d] 99) := by
  have := h.gN
  exact ⟨(Zer (by omega) a b c d).trans h.hg, (Zer (by omega) a b c d).trans h.h0, (Zer (by omega) a b c d).trans h.h1, put4 h.h2 a b c d, Zh7 h.bel (by omega) a b c d, h.gN⟩
theorem S5.setL {g N : Nat} {w0 w : World} {H Z S : Obj} {L L' : Array Value} {t : Nat} (h : S5 g N w0 w H Z (.cells L t) S) : S5 g N w0 (w.setRow (N + 1) L') H Z (.cells L' t) S := by
  have := h.gN
  exact ⟨(setRow_other _ _ _ _ (by omega)).trans h.hg, (setRow_other _ _ _ _ (by omega)).trans h.h0, setRow_heap _ _ _ _ _ _ h.h1, (setRow_other _ _ _ _ (by omega)).trans h.h2, Below.setRow h.bel (by omega) _, h.gN⟩
def load23V (v : Value) : Sem Value := Instr.loadAt 22 v
theorem Zgw (v : Value) : Instr.loadAt 22 v = load23V v := rfl
theorem Znh {w : World} {N t : Nat} {ls : List Int} (h : w.heap[N]? = some (.cells (B8 ls) t)) (hl : ls.length = 32) : (load23V (.pointer (some ⟨N, 0, none⟩))).run Tryz.prog w = .ok (.agg (B8 ls)) w := by
  have hs : (Tryz.prog.info? 22).map (·.size) = some (B8 ls).size := by rw [B8_size, hl]; kernel_rfl
  simp only [load23V, Instr.loadAt, Instr.sureAddr, Sem.run_bind, Sem.run_pure, Result.andThen_ok, run_loadVar_row w N t 22 (B8 ls) (0, 0) _ h Tryz.underlying22 rfl hs]
attribute [local go_sem ↓] Zgw Go.wp_at_zero Go.wp_at_succ
theorem Zf4 : ∀ x ∈ List.replicate 32 (0 : Int), 0 ≤ x ∧ x < 256 := by
  intro x hx
  rw [(List.mem_replicate.1 hx).2]
  omega
theorem Zk0 {tl : List Int} (h : ∀ x ∈ tl, 0 ≤ x ∧ x < 256) {f : Nat} : ∀ x ∈ (List.take f tl ++ List.replicate (32 - f) 0).set f 128, 0 ≤ x ∧ x < 256 := by
  intro x hx
  rcases List.mem_or_eq_of_mem_set hx with hx | hx
  · rcases List.mem_append.1 hx with hx | hx
    · exact h x (List.mem_of_mem_take hx)
    · rw [(List.mem_replicate.1 hx).2]; omega
  · omega
def lastOf (f : Nat) (tl : List Int) : List Int := (List.take f tl ++ List.replicate (32 - f) 0).set f 128
def finS (s : S4) (tl : List Int) (n : Nat) : S4 :=
  if n % 32 < 24 then mix s { words (lastOf (n % 32) tl) with d := n } else mix (mix s (words (lastOf (n % 32) tl))) { words (List.replicate 32 0) with d := n }
theorem Zno {s : S4} {tl ls : List Int} {n f : Nat} {ma mb mc md a b c d : Int} (hf : n % 32 = f) (h : f < 24) (hl : ls = lastOf f tl) (hm : S4.mk ma mb mc md = words ls) (hx : S4.mk a b c d = mix s ⟨ma, mb, mc, n⟩) : S4.mk a b c d = finS s tl n := by
  unfold finS
  rw [hf, if_pos h, ← hl, ← hm, hx]
theorem Zqo {s s' : S4} {tl ls : List Int} {n f : Nat} {ma mb mc md a b c d : Int} (hf : n % 32 = f) (h : ¬ f < 24) (hl : ls = lastOf f tl) (hs : s' = mix s (words ls)) (hm : S4.mk ma mb mc md = words (List.replicate 32 0)) (hx : S4.mk a b c d = mix s' ⟨ma, mb, mc, n⟩) : S4.mk a b c d = finS s tl n := by
  unfold finS
  rw [hf, if_neg h, ← hl, ← hm, hx, hs]
theorem Zvy (f : Nat) (tl : List Int) : (List.take f tl ++ List.replicate (32 - f) 0).set f 128 = lastOf f tl := rfl
set_option maxHeartbeats 1000000 in
theorem Zu4 (g : Nat) (a b c d : Int) (tl : List Int) (n : Nat) (hl : tl.length = 32) (htl : ∀ x ∈ tl, 0 ≤ x ∧ x < 256) (hn : n < 9223372036854775808) (w : World) (hg : w.heap[g]? = some (.cells (HC ⟨a, b, c, d⟩ tl n) 102)) :
    Calls Tryz.prog 52 #[.pointer (some ⟨g, 0, none⟩)] w fun e w' => e = .returned (.agg (B8 (dig (finS ⟨a, b, c, d⟩ tl n)))) ∧ Below w.heap.size w w' := by
  obtain ⟨c0, c1, c2, c3, c36, cf⟩ := Zdk hg hl
  have hlt := lt_of_get hg
  have F0 := Zxb hg (.cells (B8 (List.replicate 32 0)) 23) (.cells (B8 (List.replicate 32 0)) 22)
  have hl' := Hid.mk hl
  clear hg hl
  go_enter Tryz.func52, Tryz.ntmps52
  go_wp2_with fail
  obtain ⟨f, hf⟩ : ∃ f : Nat, n % 32 = f := ⟨_, rfl⟩
  rw [show ((n : Int) % 32) = (f : Int) from by omega]
  have hf32 : f < 32 := by omega
  have hfi : (f : Int) < 32 := by omega
  have hfj : (f : Int) ≤ 32 := by omega
  have HF := Hid.mk hf
  clear hf
  refine Zey (p := fun v => Code.wp _ _ _ _ v) (q := fun v => SW g w.heap.size w v (.cells (HC ⟨a, b, c, d⟩ tl n) 102) (.cells (B8 (List.replicate 32 0)) 23) (.cells (B8 (List.replicate 32 0)) 22)) F0 ?_
  clear F0
  intro v F1
  go_region_law (refine step_copy rfl _ _ _ _ rfl _ _ rfl rfl (Zrx (f := f) F1.drew.hg hl'.out (by omega) F1.drew.h1 _) ?_)
  refine Zey (p := fun v => Exit.then _ _ _ _ v) (q := fun v => SW g w.heap.size w v (.cells (HC ⟨a, b, c, d⟩ tl n) 102) (.cells (B8 (List.replicate 32 0)) 23) (.cells (B8 (tl.take f ++ List.replicate (32 - f) 0)) 22)) (F1.drew.setL hlt) ?_
  clear F1
  intro v F1
  have hcell := Zlh F1.h1 f (by simp [hl'.out]; omega)
  have hfr := frozen_of_row _ _ f _ _ F1.h1
  generalize (List.take f tl ++ List.replicate (32 - f) 0).getD f 0 = y at hcell
  clear c0 c1 c2 c3 c36 cf
  obtain ⟨c0, c1, c2, c3, c36, cf⟩ := Zdk F1.hg hl'.out
  have hne : ¬ w.heap.size + 1 = g := by omega
  have hsz := F1.sz
  have F2 := F1.next hlt f 128 (.cells #[.int .u64 a, .int .u64 b, .int .u64 c, .int .u64 d] 99)
  clear F1
  have hls : ((List.take f tl ++ List.replicate (32 - f) 0).set f 128).length = 32 := by simp [hl'.out]; omega
  have HB := Hid.mk (Zk0 htl (f := f))
  have HW := Hid.mk (Zvy f tl)
  generalize (List.take f tl ++ List.replicate (32 - f) 0).set f 128 = ls at F2 hls HB HW
  have HI : Hid ((Tryz.prog.info? 22).map (·.size) = some (B8 ls).size) := by unfold Hid; rw [B8_size, hls]; kernel_rfl
  have Hls := Hid.mk hls
  clear hls
  by_cases hge : f < 24
  · have hgi : ¬ (24 : Int) ≤ f := by omega
    go_wp2_with (first | refine wpList_load_row rfl 22 _ rfl _ rfl 22 _ _ _ F2.h1 Tryz.underlying22 rfl HI.out ?_)
    clear c0 c1 c2 c3 c36 cf hcell hfr
    refine (Zdm ls Hls.out HB.out _).mono ?_
    rintro e w6 ⟨⟨ma, mb, mc, md, rfl, H6⟩, hb6⟩
    have F3 := F2.call hb6
    clear hb6 F2
    obtain ⟨c0, c1, c2, c3, c36, cf⟩ := Zdk F3.hg hl'.out
    obtain ⟨p0, p1, p2, p3, pf⟩ := Zbn F3.h2
    obtain ⟨z0, z1, z2, z3⟩ := F3.sizes
    go_wp2_with fail
    refine (Zgr _ _ _ _ _ _ _ _ _).mono ?_
    rintro e w7 ⟨⟨a7, b7, c7, d7, rfl, H7⟩, hb7⟩
    have F4 := (F3.alloc _).call hb7
    clear hb7 F3 c0 c1 c2 c3 c36 cf p0 p1 p2 p3 pf
    go_wp2_with fail
    refine (Zkg _ _ _ _ _).mono ?_
    rintro e w8 ⟨rfl, hb8⟩
    have F5 := F4.call hb8
    clear hb8 F4
    have HX := Hid.mk (Zno HF.out hge HW.out H6.out H7.out)
    rw [HX.out]
    have HI2 : Hid ((Tryz.prog.info? 23).map (·.size) = some (B8 (dig (finS ⟨a, b, c, d⟩ tl n))).size) := by unfold Hid; rw [B8_size]; kernel_rfl
    have hdl : (dig (finS ⟨a, b, c, d⟩ tl n)).length = 32 := by simp [dig]
    generalize hds : dig (finS ⟨a, b, c, d⟩ tl n) = ds at HI2 hdl ⊢
    have HD := Hid.mk hds
    clear hds
    go_wp2_with (first | refine wpList_store_row rfl 23 _ _ rfl _ (B8 ds) rfl rfl 23 _ F5.h0 HI2.out (by rw [B8_size, B8_size, hdl, List.length_replicate]) (B8_one _) ?_)
    refine bodyPost_ret (results_cell_row Tryz.results52 _ _ w.heap.size 23 (B8 ds) (0, 0) _ rfl (setRow_heap _ _ _ _ _ _ F5.h0) Tryz.underlying23 rfl HI2.out) rfl ?_
    exact ⟨by rw [HD.out], Below.setRow F5.bel (by omega) _⟩
  · have hgi : (24 : Int) ≤ f := by omega
    have hu := Tryz.underlying22
    have hi : (Tryz.prog.info? 22).map (·.size) = some (ls.map (Value.int .u8)).length := by rw [List.length_map, Hls.out]; kernel_rfl
    have hll : (ls.map (Value.int .u8)).length = 32 := by rw [List.length_map, Hls.out]
    have hoo := Zlg ls
    go_wp2_with fail
    refine Zey (p := fun v => Code.wp _ _ _ _ v) (q := fun v => S5 g w.heap.size w v _ _ _ _) F2 ?_
    clear F2 c0 c1 c2 c3 c36 cf hcell hfr hsz hne v
    intro v F2
    obtain ⟨q0, q1, q2, q3, qf⟩ := Zbn F2.h2
    have n1 := Znh (w := v.drew) F2.h1 Hls.out
    clear hu hi hll hoo
    go_region_with (first
      | (go_at_call 81; refine (Zdm ls Hls.out HB.out _).mono ?_; rintro e w6 ⟨⟨ma, mb, mc, md, rfl, H6⟩, hb6⟩; have F3 := F2.drew.call hb6; clear hb6; obtain ⟨q0, q1, q2, q3, qf⟩ := Zbn F3.h2)
      | (go_at_call 80; refine (Zgr _ _ _ _ _ _ _ _ _).mono ?_; rintro e w7 ⟨⟨a7, b7, c7, d7, rfl, H7⟩, hb7⟩; have F4 := F3.call hb7; clear hb7; obtain ⟨q0, q1, q2, q3, qf⟩ := Zbn F4.h2))
    all_goals
      refine Zey (p := fun v => Exit.then _ _ _ _ v) (q := fun v => S5 g w.heap.size w v (.cells (HC ⟨a, b, c, d⟩ tl n) 102) (.cells (B8 (List.replicate 32 0)) 23) (.cells (B8 ls) 22) (.cells #[.int .u64 a7, .int .u64 b7, .int .u64 c7, .int .u64 d7] 99)) (F4.setS _ _ _ _) ?_
      have H7' := Hid.mk (H7.out.trans (congrArg (mix ⟨a, b, c, d⟩) H6.out))
      clear n1 q0 q1 q2 q3 qf F4 F3 F2 H7 H6
      intro v5 F5
      have F6 := S5.setL (L' := B8 (List.replicate 32 0)) F5
      have HIz : Hid ((Tryz.prog.info? 22).map (·.size) = some (B8 (List.replicate 32 0)).size) := by unfold Hid; rw [B8_size]; kernel_rfl
      have HSz : Hid ((B8 ls).size = (B8 (List.replicate 32 0)).size) := by unfold Hid; rw [B8_size, B8_size, Hls.out, List.length_replicate]
      go_wp2_with (first | refine wpList_store_row rfl 22 _ _ rfl _ (B8 (List.replicate 32 0)) rfl rfl 22 _ F5.h1 HIz.out HSz.out (B8_one _) ?_ | refine wpList_load_row rfl 22 _ rfl _ rfl 22 _ _ _ F6.h1 Tryz.underlying22 rfl HIz.out ?_)
      refine (Zdm (List.replicate 32 0) List.length_replicate Zf4 _).mono ?_
      rintro e w6 ⟨⟨ma, mb, mc, md, rfl, H6⟩, hb6⟩
      have F7 := F6.call hb6
      clear hb6 F5 F6
      obtain ⟨c0, c1, c2, c3, c36, cf⟩ := Zdk F7.hg hl'.out
      obtain ⟨p0, p1, p2, p3, pf⟩ := Zbn F7.h2
      obtain ⟨z0, z1, z2, z3⟩ := F7.sizes
      go_wp2_with fail
      refine (Zgr _ _ _ _ _ _ _ _ _).mono ?_
      rintro e w8 ⟨⟨a8, b8, c8, d8, rfl, H8⟩, hb8⟩
      have F8 := (F7.alloc _).call hb8
      clear hb8 F7 c0 c1 c2 c3 c36 cf p0 p1 p2 p3 pf
      go_wp2_with fail
      refine (Zkg _ _ _ _ _).mono ?_
      rintro e w9 ⟨rfl, hb9⟩
      have F9 := F8.call hb9
      clear hb9 F8
      have HX := Hid.mk (Zqo HF.out hge HW.out H7'.out H6.out H8.out)
      rw [HX.out]
      have HI2 : Hid ((Tryz.prog.info? 23).map (·.size) = some (B8 (dig (finS ⟨a, b, c, d⟩ tl n))).size) := by unfold Hid; rw [B8_size]; kernel_rfl
      have hdl : (dig (finS ⟨a, b, c, d⟩ tl n)).length = 32 := by simp [dig]
      generalize hds : dig (finS ⟨a, b, c, d⟩ tl n) = ds at HI2 hdl ⊢
      have HD := Hid.mk hds
      clear hds
      go_wp2_with (first | refine wpList_store_row rfl 23 _ _ rfl _ (B8 ds) rfl rfl 23 _ F9.h0 HI2.out (by rw [B8_size, B8_size, hdl, List.length_replicate]) (B8_one _) ?_)
      refine bodyPost_ret (results_cell_row Tryz.results52 _ _ w.heap.size 23 (B8 ds) (0, 0) _ rfl (setRow_heap _ _ _ _ _ _ F9.h0) Tryz.underlying23 rfl HI2.out) rfl ?_
      exact ⟨by rw [HD.out], Below.setRow F9.bel (by omega) _⟩
end Go.Proofs.YtchgejomcgoaeaaGreat.Di
namespace Go.Proofs.YtchgejomcgoaeaaGreat.Di
open Go.RowKit
set_option maxHeartbeats 400000 in
theorem rrot (x k : Int) (w : World) (hk0 : 0 ≤ k) (hk1 : k < 64) :
    Calls Tryz.prog 34 #[.int .u64 x, .int .i64 k] w fun e w' => e = .returned (.int .u64 (rotl x k)) ∧ ∃ n, w' = w.drewN n := by
  go_enter Tryz.func34, Tryz.ntmps34
  go_wp2_with fail
  go_quiet (fail)
  go_wp2
  go_ret
  exact ⟨rfl, _, rfl⟩
def wd (bs : List Int) (at_ : Nat) : Nat → Int
  | 0 => 0
  | k + 1 => or8 (wd bs at_ k) (bs.getD (at_ + k) 0)
theorem Zvf (m b : Int) : IntKind.u64.wrap (IntKind.u64.wrap (m * 256) + b) = or8 m b := by
  unfold or8 wr
  simp only [IntKind.wrap_u64]
  omega
set_option maxHeartbeats 400000 in
theorem Zrf (g len cap at_ : Nat) (bs : List Int) (w : World) (hlen : at_ + 8 ≤ len) (hm : len ≤ maxLen)
    (hc : ∀ k, k < 8 → w.cell? ⟨g, at_ + k, none⟩ = some (.int .u8 (bs.getD (at_ + k) 0))) (hb : ∀ k, k < 8 → 0 ≤ bs.getD (at_ + k) 0 ∧ bs.getD (at_ + k) 0 < 256) :
    Calls Tryz.prog 33 #[.slice (some ⟨g, 0, none⟩) len cap, .int .i64 at_] w fun e w' => e = .returned (.int .u64 (wd bs at_ 8)) ∧ w' = w := by
  unfold maxLen at hm
  have HC := Hid.mk hc
  have HB := Hid.mk hb
  clear hc hb
  go_enter Tryz.func33, Tryz.ntmps33
  go_wp2_with fail
  go_loop [5, 6] (fun v i => ∃ k : Nat, k ≤ 8 ∧ i = .int .i64 k ∧ v = .int .u64 (wd bs at_ k)) (fun _ i => 8 - (intOf i).toNat)
  case atStart => exact ⟨0, by omega, rfl, rfl⟩
  case round =>
    obtain ⟨k, hk, rfl, rfl⟩ := hrel
    by_cases hlt : k < 8
    · have hcell := HC.out k hlt
      have hbd := HB.out k hlt
      have HS : Hid (wd bs at_ (k + 1) = or8 (wd bs at_ k) (bs.getD (at_ + k) 0)) := rfl
      generalize bs.getD (at_ + k) 0 = b at hcell hbd HS
      obtain ⟨hb0, hb1⟩ := hbd
      generalize wd bs at_ k = m at HS
      have hidx : (at_ : Int) + k < len := by omega
      have hfit : ((at_ : Int) + k).toNat = at_ + k := by omega
      go_wp2
      go_round
      case rel => exact ⟨k + 1, by omega, by go_num, by rw [HS.out, Zvf]⟩
      case measure => simp [intOf]; omega
    · have hk2 : k = 8 := by omega
      subst hk2
      go_wp2
      go_ret
      exact ⟨rfl, rfl⟩
theorem B8_one2 (bs : List Int) : ∀ v ∈ bs.map (Value.int .u8), v.oneCell' = true := by
  intro v hv
  obtain ⟨x, _, rfl⟩ := List.mem_map.1 hv
  rfl
def OwnB (w : World) (base : Nat) (v : Value) (bs : List Int) : Prop := w.ownsRow base 5 1 v bs.length (bs.map (Value.int .u8))
theorem info5 : ∃ i, Tryz.prog.info? 5 = some i ∧ i.zero = some (.int .u8 0) ∧ i.size = 1 ∧ i.bytes = 1 := by
  have h : (Tryz.prog.info? 5).map (fun i => (i.zero, i.size, i.bytes)) = some (some (.int .u8 0), 1, 1) := by kernel_rfl
  cases hq : Tryz.prog.info? 5 with
  | none => rw [hq] at h; simp at h
  | some i => rw [hq] at h; simp at h; exact ⟨i, rfl, h.1, h.2.1, h.2.2⟩
theorem app_own {w : World} {ops : Array Oper} {rest : List Oper} {o : Oper} {a : Act} {Q : Exit → Act → World → Prop} (hgd : o.guard = none) (s x : Operand)
    (ho : o.op = .call { callee := .builtin .append, args := #[s, x], argTypes := #[29, 29] }) (base : Nat) (v : Value) (bs : List Int) (hs : a.eval s = v) (hown : OwnB w base v bs)
    (ad : Addr) (m c : Nat) (news : List Int) (hx : a.eval x = .slice (some ad) m c) (hl : news.length = m) (hnews : ∀ j u, (news.map (Value.int .u8))[j]? = some u → w.cell? (ad.add j) = some u)
    (hbytes : bs.length + m ≤ 140737488355328) (hbase : base ≤ w.heap.size)
    (h : ∀ v' w', OwnB w' base v' (bs ++ news) → w.grownBy w' v.ownBlock → (v' = .slice none 0 0 ↔ v = .slice none 0 0 ∧ m = 0) → wpList Tryz.prog ops Q rest (a.put o.dst v') w') : wpList Tryz.prog ops Q (o :: rest) a w := by
  obtain ⟨i, hi, hz, hsz, hby⟩ := info5
  refine wpList_append_own w hgd s x 29 ho base 5 i (.int .u8 0) 1 1 Tryz.underlying29 hi hz hsz hby rfl (by decide) v bs.length (bs.map (Value.int .u8)) hs hown ad m c (news.map (Value.int .u8)) hx (by simpa using hl) hnews (B8_one2 _) (by unfold maxLen; omega) (by omega) hbase ?_
  intro v' w' h1 h2 h3
  refine h v' w' ?_ h2 h3
  unfold OwnB
  rw [List.length_append, hl, List.map_append]
  exact h1
theorem app_none {w : World} {ops : Array Oper} {rest : List Oper} {o : Oper} {a : Act} {Q : Exit → Act → World → Prop} (hgd : o.guard = none) (s x : Operand)
    (ho : o.op = .call { callee := .builtin .append, args := #[s, x], argTypes := #[29, 29] }) (base : Nat) (v : Value) (bs : List Int) (hs : a.eval s = v) (hown : OwnB w base v bs)
    (hx : a.eval x = .slice none 0 0) (h : wpList Tryz.prog ops Q rest (a.put o.dst v) w) : wpList Tryz.prog ops Q (o :: rest) a w := by
  obtain ⟨i, hi, _, _, _⟩ := info5
  exact wpList_append_own_none hgd s x 29 ho base 5 i 1 Tryz.underlying29 hi v bs.length _ hs hown hx h
def InB (w : World) (a : Option Addr) (len cap : Nat) (bs : List Int) : Prop :=
  (a = none ∧ len = 0 ∧ cap = 0 ∧ bs = []) ∨ ∃ ad, a = some ad ∧ bs.length = len ∧ ∀ j u, (bs.map (Value.int .u8))[j]? = some u → w.cell? (ad.add j) = some u
def zc (n : Nat) : Nat := (55 - n % 32) % 32
def len8 (n : Nat) (k : Nat) : List Int := (List.range k).map fun i => (n : Int) / 2 ^ (56 - 8 * i) % 256
def padded (bs : List Int) : List Int := bs ++ [128] ++ List.replicate (zc bs.length) 0 ++ len8 bs.length 8
theorem Zei (n k : Nat) : (len8 n k).length = k := by simp [len8]
theorem Zjv (n k : Nat) : len8 n k ++ [(n : Int) / 2 ^ (56 - 8 * k) % 256] = len8 n (k + 1) := by simp [len8, List.range_succ]
def lenOf : Value → Nat | .slice _ n _ => n | _ => 0
theorem OwnB.slice {w : World} {base : Nat} {v : Value} {bs : List Int} (h : OwnB w base v bs) (hne : 0 < bs.length) :
    ∃ g cap, v = .slice (some ⟨g, 0, none⟩) bs.length cap ∧ base ≤ g ∧ g < w.heap.size ∧ bs.length ≤ cap ∧ cap ≤ maxLen ∧ ∀ j, j < bs.length → w.cell? ⟨g, j, none⟩ = some (.int .u8 (bs.getD j 0)) := by
  obtain ⟨_, h2⟩ := h
  rcases h2 with ⟨_, h2⟩ | ⟨g, cap, cur, hv, hg, hh, hn, hcap, hsz, ht⟩
  · omega
  · refine ⟨g, cap, hv, hg, lt_of_get hh, hn, hcap, ?_⟩
    intro j hj
    rw [cell_of_row w g j _ _ _ hh]
    have e : (cur.toList.take (bs.length * 1))[j]? = (bs.map (Value.int .u8))[j]? := by rw [ht]
    rw [List.getElem?_take_of_lt (by omega)] at e
    simp at e
    rw [e]
    simp [List.getElem?_eq_getElem hj]
theorem OwnB.alloc {w : World} {base : Nat} {v : Value} {bs : List Int} (h : OwnB w base v bs) (o : Obj) : OwnB (w.alloc o) base v bs := World.ownsRow.alloc h o
theorem OwnB.new (w : World) : OwnB (w.alloc (.cells #[] 5)) w.heap.size (.slice (some ⟨w.heap.size, 0, none⟩) 0 0) [] :=
  ⟨rfl, .inr ⟨w.heap.size, 0, #[], rfl, Nat.le_refl _, heap_alloc_new _ _, Nat.le_refl _, by unfold maxLen; omega, rfl, rfl⟩⟩
theorem OwnB.lt {w : World} {base : Nat} {v : Value} {bs : List Int} (h : OwnB w base v bs) : ∀ k, v.ownBlock = some k → base ≤ k := fun k hk => (World.ownsRow.lt h k hk).1
theorem one_new (w : World) (x : Int) : ∀ j u, ([x].map (Value.int .u8))[j]? = some u → (w.alloc (.cells #[.int .u8 x] 5)).cell? ((⟨w.heap.size, 0, none⟩ : Addr).add j) = some u := by
  intro j u h
  cases j with
  | zero =>
    simp at h
    subst h
    rw [show (⟨w.heap.size, 0, none⟩ : Addr).add 0 = ⟨w.heap.size, 0, none⟩ from rfl, cell_of_row _ _ _ _ _ _ (heap_alloc_new w _)]
    rfl
  | succ j => simp at h
theorem OwnB.len {w : World} {base : Nat} {v : Value} {bs : List Int} (h : OwnB w base v bs) : lenOf v = bs.length := by
  obtain ⟨_, h2⟩ := h
  rcases h2 with ⟨hv, h2⟩ | ⟨g, cap, cur, hv, _⟩
  · rw [hv, h2]; rfl
  · rw [hv]; rfl
theorem Znw (n k : Nat) (hk : k ≤ zc n) : ((n + 1 + k) % 32 = 24 ↔ k = zc n) := by
  unfold zc at *
  omega
set_option maxHeartbeats 400000 in
theorem Znc (a : Option Addr) (len cap : Nat) (bs : List Int) (w : World) (hin : InB w a len cap bs) (hlen : bs.length ≤ 140737488351232) :
    Calls Tryz.prog 32 #[.slice a len cap] w fun e w' => ∃ v', e = .returned v' ∧ OwnB w' w.heap.size v' (padded bs) ∧ Below w.heap.size w w' := by
  rcases hin with ⟨rfl, rfl, rfl, rfl⟩ | ⟨ad, rfl, rfl, hc⟩
  · have hm : Hid ((0 : Nat) ≤ 140737488351232) := Nat.zero_le _
    go_enter Tryz.func32, Tryz.ntmps32
    go_wp2_with (first
      | (at_builtin; refine app_none rfl (.tmp 6) (.tmp 7) rfl w.heap.size _ [] rfl (OwnB.new w) rfl ?_)
      | (at_builtin; refine app_own rfl (.tmp 9) (.tmp 10) rfl w.heap.size _ [] rfl (OwnB.alloc (OwnB.new w) _) ⟨w.heap.size + 1, 0, none⟩ 1 1 [128] rfl rfl (by have := one_new (w.alloc (.cells #[] 5)) 128; simpa using this) (by simp) (by simp; omega) ?_; intro v2 w2 o2 g2 n2))
    have b2 : Below w.heap.size w w2 := (((Below.refl _ _).alloc (Nat.le_refl _) _).alloc (by simp) _).grown g2 (by simp; omega) (OwnB.new w).lt
    clear g2 n2
    clear hm
    obtain ⟨bs, hbs⟩ : ∃ bs : List Int, [] = bs := ⟨_, rfl⟩
    have o3 : OwnB w2 w.heap.size v2 (bs ++ [128]) := by rw [← hbs]; exact o2
    have hm : Hid (bs.length ≤ 140737488351232) := by unfold Hid; rw [← hbs]; exact Nat.zero_le _
    have hbb := Hid.mk hbs
    clear hbs o2
    have o2 := o3
    clear o3
    obtain ⟨z, hz⟩ : ∃ z, zc bs.length = z := ⟨_, rfl⟩
    have hz31 : z ≤ 31 := by unfold zc at hz; omega
    have HZ := Hid.mk hz
    clear hz
    have hli : (bs.length : Int) ≤ 140737488351232 := by have := hm.out; omega
    go_loopw [3] (fun s v => ∃ k : Nat, k ≤ z ∧ OwnB v w.heap.size s (bs ++ [128] ++ List.replicate k 0) ∧ Below w.heap.size w v) (fun s _ => bs.length + 1 + z - lenOf s)
    case atStart => exact ⟨0, by omega, by simpa using o2, b2⟩
    case round =>
      clear o2 b2
      obtain ⟨k, hk, ow, bw⟩ := hrel
      have hL : (bs ++ [128] ++ List.replicate k 0).length = bs.length + 1 + k := by rw [List.length_append, List.length_append, List.length_replicate]; rfl
      obtain ⟨g, c, hv, hg0, hg1, hg2, hg3, _⟩ := ow.slice (by omega)
      rw [hL] at hv
      have hz := Znw bs.length k (by rw [HZ.out]; exact hk)
      rw [HZ.out] at hz
      subst hv
      by_cases hlt : k = z
      · have ht : ((bs.length : Int) + 1 + (k : Int)) % 32 = 24 := by have := hz.2 hlt; omega
        have ht2 : (((bs.length : Int) + 1 + (k : Int)) % 32 != 24) = false := by rw [ht]; rfl
        clear hz hL hg0 hg1 hg2 hg3 ht
        subst hlt
        go_wp2_with fail
        go_loopw [3, 5] (fun s i v => ∃ j : Nat, j ≤ 8 ∧ i = .int .i64 j ∧ OwnB v w.heap.size s (bs ++ [128] ++ List.replicate k 0 ++ len8 bs.length j) ∧ Below w.heap.size w v) (fun _ i _ => 8 - (intOf i).toNat)
        case atStart => exact ⟨0, by omega, rfl, by simpa [len8] using ow, bw⟩
        case round =>
          clear ow bw
          obtain ⟨j, hj, rfl, ow, bw⟩ := hrel
          have hL : (bs ++ [128] ++ List.replicate k 0 ++ len8 bs.length j).length = bs.length + 1 + k + j := by rw [List.length_append, List.length_append, List.length_append, List.length_replicate, Zei]; rfl
          by_cases hlt : j < 8
          · have hbs := bw.size
            go_wp2_with (first
              | (at_builtin; refine app_own rfl (.tmp 26) (.tmp 33) rfl w.heap.size _ (bs ++ [128] ++ List.replicate k 0 ++ len8 bs.length j) rfl (ow.alloc _) ⟨wr.heap.size, 0, none⟩ 1 1 [0] rfl rfl (one_new wr _) (by rw [hL]; have := hm.out; omega) (by simp; omega) ?_; intro v5 w5 o5 g5 n5))
            refine ⟨⟨j + 1, by omega, by go_num, ?_, (bw.alloc (by omega) _).grown g5 (by simp; omega) (ow.lt)⟩, by simp [intOf]; omega⟩
            rw [← Zjv, ← List.append_assoc, show ((bs.length : Int) / 2 ^ (56 - 8 * j) % 256) = 0 from by rw [← hbb.out]; simp]
            exact o5
          · have hj8 : j = 8 := by omega
            subst hj8
            go_wp2
            go_ret
            refine ⟨_, rfl, ?_, bw⟩
            rw [hbb.out]
            unfold padded
            rw [HZ.out]
            exact ow
      · have ht : (((bs.length : Int) + 1 + (k : Int)) % 32 != 24) = true := by
          rw [bne_iff_ne]; intro h; exact hlt (hz.1 (by omega))
        have hkz : k < z := by omega
        clear hz hlt
        have hbs := bw.size
        go_wp2_with (first
          | (at_builtin; refine app_own rfl (.tmp 16) (.tmp 17) rfl w.heap.size _ (bs ++ [128] ++ List.replicate k 0) rfl (ow.alloc _) ⟨wr.heap.size, 0, none⟩ 1 1 [0] rfl rfl (one_new wr 0) (by rw [hL]; have := hm.out; omega) (by simp; omega) ?_; intro v4 w4 o4 g4 n4))
        have e : bs ++ [128] ++ List.replicate k 0 ++ [0] = bs ++ [128] ++ List.replicate (k + 1) (0 : Int) := by rw [List.append_assoc, ← List.replicate_succ']
        rw [e] at o4
        refine ⟨⟨k + 1, by omega, o4, (bw.alloc (by omega) _).grown g4 (by simp; omega) (ow.lt)⟩, ?_⟩
        rw [o4.len]
        simp [lenOf]
        omega
  · have hc' : ∀ j u, (bs.map (Value.int .u8))[j]? = some u → (w.alloc (.cells #[] 5)).cell? (ad.add j) = some u := fun j u h => by
      exact (World.cell?_of_block (w := w) (Below.heap_alloc w _ _ (block_lt_of_cell (hc j u h)))).trans (hc j u h)
    have HC := Hid.mk hc'
    have hm := Hid.mk hlen
    clear hc hc' hlen
    go_enter Tryz.func32, Tryz.ntmps32
    go_wp2_with (first
      | (at_builtin; refine app_own rfl (.tmp 6) (.tmp 7) rfl w.heap.size _ [] rfl (OwnB.new w) ad bs.length cap bs rfl rfl HC.out (by have := hm.out; simp; omega) (by simp) ?_; intro v1 w1 o1 g1 n1; rw [List.nil_append] at o1)
      | (at_builtin; refine app_own rfl (.tmp 9) (.tmp 10) rfl w.heap.size _ bs rfl (OwnB.alloc o1 _) ⟨w1.heap.size, 0, none⟩ 1 1 [128] rfl rfl (one_new w1 128) (by have := hm.out; omega) (by have := g1.size; simp at this; simp; omega) ?_; intro v2 w2 o2 g2 n2))
    have b2 : Below w.heap.size w w2 := ((((Below.refl _ _).alloc (Nat.le_refl _) _).grown g1 (by simp) (OwnB.new w).lt).alloc (by have := g1.size; simp at this; omega) _).grown g2 (by have := g1.size; simp at this; simp; omega) (o1.lt)
    clear g1 g2 n1 n2 o1
    obtain ⟨z, hz⟩ : ∃ z, zc bs.length = z := ⟨_, rfl⟩
    have hz31 : z ≤ 31 := by unfold zc at hz; omega
    have HZ := Hid.mk hz
    clear hz
    have hli : (bs.length : Int) ≤ 140737488351232 := by have := hm.out; omega
    go_loopw [3] (fun s v => ∃ k : Nat, k ≤ z ∧ OwnB v w.heap.size s (bs ++ [128] ++ List.replicate k 0) ∧ Below w.heap.size w v) (fun s _ => bs.length + 1 + z - lenOf s)
    case atStart => exact ⟨0, by omega, by simpa using o2, b2⟩
    case round =>
      clear o2 b2
      obtain ⟨k, hk, ow, bw⟩ := hrel
      have hL : (bs ++ [128] ++ List.replicate k 0).length = bs.length + 1 + k := by rw [List.length_append, List.length_append, List.length_replicate]; rfl
      obtain ⟨g, c, hv, hg0, hg1, hg2, hg3, _⟩ := ow.slice (by omega)
      rw [hL] at hv
      have hz := Znw bs.length k (by rw [HZ.out]; exact hk)
      rw [HZ.out] at hz
      subst hv
      by_cases hlt : k = z
      · have ht : ((bs.length : Int) + 1 + (k : Int)) % 32 = 24 := by have := hz.2 hlt; omega
        have ht2 : (((bs.length : Int) + 1 + (k : Int)) % 32 != 24) = false := by rw [ht]; rfl
        clear hz hL hg0 hg1 hg2 hg3 ht
        subst hlt
        go_wp2_with fail
        go_loopw [3, 5] (fun s i v => ∃ j : Nat, j ≤ 8 ∧ i = .int .i64 j ∧ OwnB v w.heap.size s (bs ++ [128] ++ List.replicate k 0 ++ len8 bs.length j) ∧ Below w.heap.size w v) (fun _ i _ => 8 - (intOf i).toNat)
        case atStart => exact ⟨0, by omega, rfl, by simpa [len8] using ow, bw⟩
        case round =>
          clear ow bw
          obtain ⟨j, hj, rfl, ow, bw⟩ := hrel
          have hL : (bs ++ [128] ++ List.replicate k 0 ++ len8 bs.length j).length = bs.length + 1 + k + j := by rw [List.length_append, List.length_append, List.length_append, List.length_replicate, Zei]; rfl
          by_cases hlt : j < 8
          · have hbs := bw.size
            go_wp2_with (first
              | (at_builtin; refine app_own rfl (.tmp 26) (.tmp 33) rfl w.heap.size _ (bs ++ [128] ++ List.replicate k 0 ++ len8 bs.length j) rfl (ow.alloc _) ⟨wr.heap.size, 0, none⟩ 1 1 [(bs.length : Int) / 2 ^ (56 - 8 * j) % 256] rfl rfl (one_new wr _) (by rw [hL]; have := hm.out; omega) (by simp; omega) ?_; intro v5 w5 o5 g5 n5))
            refine ⟨⟨j + 1, by omega, by go_num, ?_, (bw.alloc (by omega) _).grown g5 (by simp; omega) (ow.lt)⟩, by simp [intOf]; omega⟩
            rw [← Zjv, ← List.append_assoc]
            exact o5
          · have hj8 : j = 8 := by omega
            subst hj8
            go_wp2
            go_ret
            refine ⟨_, rfl, ?_, bw⟩
            unfold padded
            rw [HZ.out]
            exact ow
      · have ht : (((bs.length : Int) + 1 + (k : Int)) % 32 != 24) = true := by
          rw [bne_iff_ne]; intro h; exact hlt (hz.1 (by omega))
        have hkz : k < z := by omega
        clear hz hlt
        have hbs := bw.size
        go_wp2_with (first
          | (at_builtin; refine app_own rfl (.tmp 16) (.tmp 17) rfl w.heap.size _ (bs ++ [128] ++ List.replicate k 0) rfl (ow.alloc _) ⟨wr.heap.size, 0, none⟩ 1 1 [0] rfl rfl (one_new wr 0) (by rw [hL]; have := hm.out; omega) (by simp; omega) ?_; intro v4 w4 o4 g4 n4))
        have e : bs ++ [128] ++ List.replicate k 0 ++ [0] = bs ++ [128] ++ List.replicate (k + 1) (0 : Int) := by rw [List.append_assoc, ← List.replicate_succ']
        rw [e] at o4
        refine ⟨⟨k + 1, by omega, o4, (bw.alloc (by omega) _).grown g4 (by simp; omega) (ow.lt)⟩, ?_⟩
        rw [o4.len]
        simp [lenOf]
        omega
end Go.Proofs.YtchgejomcgoaeaaGreat.Di
namespace Go.Proofs.YtchgejomcgoaeaaGreat.Di
open Go.RowKit
theorem Zya : ∃ i, Tryz.prog.info? 79 = some i ∧ i.zero = some (.int .u64 0) ∧ i.size = 1 ∧ i.bytes = 8 := by
  have h : (Tryz.prog.info? 79).map (fun i => (i.zero, i.size, i.bytes)) = some (some (.int .u64 0), 1, 8) := by kernel_rfl
  cases hq : Tryz.prog.info? 79 with
  | none => rw [hq] at h; simp at h
  | some i => rw [hq] at h; simp at h; exact ⟨i, rfl, h.1, h.2.1, h.2.2⟩
theorem Ztl {w : World} {ops : Array Oper} {rest : List Oper} {o : Oper} {a : Act} {Q : Exit → Act → World → Prop} (hgd : o.guard = none) (s x : Operand)
    (ho : o.op = .call { callee := .builtin .append, args := #[s, x], argTypes := #[80, 80] }) (hs : a.eval s = .slice (some ⟨w.heap.size, 0, none⟩) 0 0)
    (g : Nat) (hx : a.eval x = .slice (some ⟨g, 0, none⟩) 4 4) (xa xb xc xd : Int) (hg : w.heap[g]? = some (.cells #[.int .u64 xa, .int .u64 xb, .int .u64 xc, .int .u64 xd] 79))
    (h : ∀ gp cap w', w.heap.size ≤ gp → gp < w'.heap.size → w'.cell? ⟨gp, 0, none⟩ = some (.int .u64 xa) → w'.cell? ⟨gp, 1, none⟩ = some (.int .u64 xb) → w'.cell? ⟨gp, 2, none⟩ = some (.int .u64 xc) → w'.cell? ⟨gp, 3, none⟩ = some (.int .u64 xd) → Below w.heap.size w w' → wpList Tryz.prog ops Q rest (a.put o.dst (.slice (some ⟨gp, 0, none⟩) 4 cap)) w') :
    wpList Tryz.prog ops Q (o :: rest) a (w.alloc (.cells #[] 79)) := by
  obtain ⟨i, hi, hz, hsz, hby⟩ := Zya
  have hg' : (w.alloc (.cells #[] 79)).heap[g]? = some (.cells #[.int .u64 xa, .int .u64 xb, .int .u64 xc, .int .u64 xd] 79) := (Below.heap_alloc _ _ _ (lt_of_get hg)).trans hg
  refine wpList_append_own _ hgd s x 80 ho w.heap.size 79 i (.int .u64 0) 1 8 Tryz.underlying80 hi hz hsz hby rfl (by decide) _ 0 [] hs (World.ownsRow_made w #[] 0 (Nat.le_refl _) (by unfold maxLen; omega) rfl) ⟨g, 0, none⟩ 4 4 [.int .u64 xa, .int .u64 xb, .int .u64 xc, .int .u64 xd] hx rfl ?_ ?_ (by unfold maxLen; omega) (by omega) (by simp) ?_
  · intro j u hu
    have hadd : (⟨g, 0, none⟩ : Addr).add j = ⟨g, j, none⟩ := by unfold Addr.add; split <;> simp_all
    rw [hadd, cell_of_row _ _ _ _ _ _ hg', ← hu]
    rw [← List.getElem?_toArray]
  · intro u hu
    simp at hu
    rcases hu with rfl | rfl | rfl | rfl <;> rfl
  · intro v' w' h1 h2 h3
    obtain ⟨h4, h5⟩ := h1
    rcases h5 with ⟨_, h5⟩ | ⟨gp, cap, cur, rfl, hb, hh, hn, hcap, hcs, ht⟩
    · omega
    · have hc : ∀ j, j < 4 → w'.cell? ⟨gp, j, none⟩ = [Value.int .u64 xa, .int .u64 xb, .int .u64 xc, .int .u64 xd][j]? := by
        intro j hj
        rw [cell_of_row _ _ _ _ _ _ hh]
        have e : (cur.toList.take 4)[j]? = [Value.int .u64 xa, .int .u64 xb, .int .u64 xc, .int .u64 xd][j]? := by
          have := ht; simp at this; rw [this]
        rw [List.getElem?_take_of_lt hj] at e
        simpa using e
      exact h gp cap w' hb (lt_of_get hh) (hc 0 (by omega)) (hc 1 (by omega)) (hc 2 (by omega)) (hc 3 (by omega)) (((Below.refl _ _).alloc (Nat.le_refl _) _).grown h2 (by simp) (fun k hk => by simp [Value.ownBlock] at hk; omega))
def wordsAt (bs : List Int) (p : Nat) : S4 := ⟨wd bs p 8, wd bs (p + 8) 8, wd bs (p + 16) 8, wd bs (p + 24) 8⟩
def s0 : S4 := ⟨kk, wr (2 * kk), wr (3 * kk), wr (4 * kk)⟩
def stOf (bs : List Int) : Nat → S4
  | 0 => s0
  | i + 1 => mix (stOf bs i) (wordsAt bs (32 * i))
def mAt (m : S4) (k : Nat) : Int := if k % 4 = 0 then m.a else if k % 4 = 1 then m.b else if k % 4 = 2 then m.c else m.d
def rk (s m : S4) : Nat → S4
  | 0 => xor4 s m
  | k + 1 => rnd (rk s m k) (wr (mAt m k + wr ((k + 1 : Nat) * kk)))
theorem Zxi (s m : S4) : xor4 (rk s m 8) s = mix s m := rfl
structure OfW (N gt gs : Nat) (w0 w : World) (ps : List Int) (S : S4) : Prop where
  h0 : w.heap[N]? = some (.cells (B8 (List.replicate 32 0)) 23)
  ht : ∀ j, j < ps.length → w.cell? ⟨gt, j, none⟩ = some (.int .u8 (ps.getD j 0))
  hs : w.heap[gs]? = some (.cells (V4 S) 79)
  gtl : gt < w.heap.size
  gsl : N < gs
  bel : Below N w0 w
theorem OfW.call {N gt gs : Nat} {w0 w w' : World} {ps : List Int} {S : S4} (h : OfW N gt gs w0 w ps S) (hb : Below w.heap.size w w') : OfW N gt gs w0 w' ps S := by
  have l0 := lt_of_get h.h0
  have l1 := lt_of_get h.hs
  exact ⟨(hb.block _ l0).trans h.h0, fun j hj => (hb.cell (p := ⟨gt, j, none⟩) h.gtl).trans (h.ht j hj), (hb.block _ l1).trans h.hs, Nat.lt_of_lt_of_le h.gtl hb.size, h.gsl, h.bel.trans (hb.mono (by omega))⟩
theorem OfW.drewN {N gt gs : Nat} {w0 w : World} {ps : List Int} {S : S4} (h : OfW N gt gs w0 w ps S) (n : Nat) : OfW N gt gs w0 (w.drewN n) ps S := ⟨h.h0, h.ht, h.hs, h.gtl, h.gsl, below_drewN h.bel n⟩
theorem OfW.alloc {N gt gs : Nat} {w0 w : World} {ps : List Int} {S : S4} (h : OfW N gt gs w0 w ps S) (o : Obj) : OfW N gt gs w0 (w.alloc o) ps S := h.call ((Below.refl _ _).alloc (Nat.le_refl _) _)
theorem OfW.state {N gt gs : Nat} {w0 w : World} {ps : List Int} {S : S4} (h : OfW N gt gs w0 w ps S) (S' : S4) : OfW N gt w.heap.size w0 (w.alloc (.cells (V4 S') 79)) ps S' := by
  have a := h.alloc (.cells (V4 S') 79)
  have l0 := lt_of_get h.h0
  exact ⟨a.h0, a.ht, heap_alloc_new _ _, a.gtl, l0, a.bel⟩
theorem InB.alloc {w : World} {a : Option Addr} {len cap : Nat} {bs : List Int} (h : InB w a len cap bs) (o : Obj) : InB (w.alloc o) a len cap bs := by
  rcases h with h | ⟨ad, h1, h2, h3⟩
  · exact .inl h
  · exact .inr ⟨ad, h1, h2, fun j u hu => (World.cell?_of_block (w := w) (Below.heap_alloc w _ _ (block_lt_of_cell (h3 j u hu)))).trans (h3 j u hu)⟩
theorem Zdc (bs : List Int) : (padded bs).length = bs.length + 1 + zc bs.length + 8 := by
  unfold padded
  rw [List.length_append, List.length_append, List.length_append, List.length_replicate, Zei]
  rfl
theorem Znb (bs : List Int) : (padded bs).length % 32 = 0 ∧ 0 < (padded bs).length := by
  rw [Zdc]
  unfold zc
  omega
theorem Zim (bs : List Int) (h : ∀ x ∈ bs, 0 ≤ x ∧ x < 256) : ∀ x ∈ padded bs, 0 ≤ x ∧ x < 256 := by
  intro x hx
  unfold padded at hx
  simp only [List.mem_append] at hx
  rcases hx with ((hx | hx) | hx) | hx
  · exact h x hx
  · simp at hx; omega
  · rw [(List.mem_replicate.1 hx).2]; omega
  · unfold len8 at hx
    obtain ⟨i, _, rfl⟩ := List.mem_map.1 hx
    omega
structure OfM (N gt gs gp gm : Nat) (w0 w : World) (ps : List Int) (S M : S4) : Prop where
  f : OfW N gt gs w0 w ps S
  hm : w.heap[gm]? = some (.cells (V4 M) 79)
  p0 : w.cell? ⟨gp, 0, none⟩ = some (.int .u64 S.a)
  p1 : w.cell? ⟨gp, 1, none⟩ = some (.int .u64 S.b)
  p2 : w.cell? ⟨gp, 2, none⟩ = some (.int .u64 S.c)
  p3 : w.cell? ⟨gp, 3, none⟩ = some (.int .u64 S.d)
theorem Zvm {N gt gs gp : Nat} {w0 w : World} {ps : List Int} {S : S4} (M : S4) (h : OfW N gt gs w0 w ps S) (hd : w.cell? ⟨gp, 0, none⟩ = some (.int .u64 S.a) ∧ w.cell? ⟨gp, 1, none⟩ = some (.int .u64 S.b) ∧ w.cell? ⟨gp, 2, none⟩ = some (.int .u64 S.c) ∧ w.cell? ⟨gp, 3, none⟩ = some (.int .u64 S.d)) :
    OfM N gt gs gp w.heap.size w0 (w.alloc (.cells (V4 M) 79)) ps S M := by
  obtain ⟨d0, d1, d2, d3⟩ := hd
  have l := block_lt_of_cell d0
  have e : ∀ j, (w.alloc (.cells (V4 M) 79)).cell? ⟨gp, j, none⟩ = w.cell? ⟨gp, j, none⟩ := fun j => World.cell?_of_block (w := w) (Below.heap_alloc w _ _ l)
  exact ⟨h.alloc _, heap_alloc_new _ _, by rw [e, d0], by rw [e, d1], by rw [e, d2], by rw [e, d3]⟩
theorem OfM.drewN {N gt gs gp gm : Nat} {w0 w : World} {ps : List Int} {S M : S4} (h : OfM N gt gs gp gm w0 w ps S M) (n : Nat) : OfM N gt gs gp gm w0 (w.drewN n) ps S M := ⟨h.f.drewN n, h.hm, h.p0, h.p1, h.p2, h.p3⟩
theorem gen_w {V : World} {p q : World → Prop} (F : q V) (h : ∀ v, q v → p v) : p V := h V F
def kx (k : Nat) : Int := wr ((k : Int) * kk)
theorem Zcy (x : Int) (k : Nat) (h : x = kx k) : IntKind.u64.wrap (x + 11400714819323198485) = kx (k + 1) := by
  subst h
  unfold kx wr kk
  simp only [IntKind.wrap_u64]
  omega
theorem Zvz : Hid ((0 : Int) = kx 0) := by
  unfold Hid kx wr
  rw [IntKind.wrap_u64]
  simp
theorem Zm2 (ra rb mm ad : Int) : IntKind.u64.wrap (IntKind.u64.wrap (IntKind.u64.wrap (ra + rb) + mm) + ad) = wr (ra + wr (rb + wr (mm + ad))) := by
  unfold wr
  simp only [IntKind.wrap_u64]
  omega
theorem Zls (ra rb rc rd X A D C B A2 D2 C2 B2 : Int) (hA : A = wr (ra + wr (rb + X))) (hD : D = rotl (bits BinOp.xor IntKind.u64 rd A) 32) (hC : C = IntKind.u64.wrap (rc + D)) (hB : B = rotl (bits BinOp.xor IntKind.u64 rb C) 24)
    (hA2 : A2 = IntKind.u64.wrap (A + B)) (hD2 : D2 = rotl (bits BinOp.xor IntKind.u64 D A2) 16) (hC2 : C2 = IntKind.u64.wrap (C + D2)) (hB2 : B2 = rotl (bits BinOp.xor IntKind.u64 B C2) 63) : S4.mk B2 C2 D2 A2 = rnd ⟨ra, rb, rc, rd⟩ X := by
  subst hB2 hC2 hD2 hA2 hB hC hD hA
  rfl
theorem Zig {S M : S4} {k : Nat} {r r' : S4} {ad mm : Int} (h : r = rk S M k) (had : ad = kx (k + 1)) (hmm : mAt M k = mm) (h' : r' = rnd r (wr (mm + ad))) : r' = rk S M (k + 1) := by
  rw [h', h, had, ← hmm]
  rfl
theorem OfW.drew {N gt gs : Nat} {w0 w : World} {ps : List Int} {S : S4} (h : OfW N gt gs w0 w ps S) : OfW N gt gs w0 w.drew ps S := ⟨h.h0, h.ht, h.hs, h.gtl, h.gsl, h.bel.drew⟩
theorem OfM.drew {N gt gs gp gm : Nat} {w0 w : World} {ps : List Int} {S M : S4} (h : OfM N gt gs gp gm w0 w ps S M) : OfM N gt gs gp gm w0 w.drew ps S M := ⟨h.f.drew, h.hm, h.p0, h.p1, h.p2, h.p3⟩
theorem OfM.alloc {N gt gs gp gm : Nat} {w0 w : World} {ps : List Int} {S M : S4} (h : OfM N gt gs gp gm w0 w ps S M) (o : Obj) : OfM N gt gs gp gm w0 (w.alloc o) ps S M := by
  have l := block_lt_of_cell h.p0
  have e : ∀ j, (w.alloc o).cell? ⟨gp, j, none⟩ = w.cell? ⟨gp, j, none⟩ := fun j => World.cell?_of_block (w := w) (Below.heap_alloc w _ _ l)
  exact ⟨h.f.alloc _, (Below.heap_alloc _ _ _ (lt_of_get h.hm)).trans h.hm, by rw [e, h.p0], by rw [e, h.p1], by rw [e, h.p2], by rw [e, h.p3]⟩
theorem Zvl {N gt gs gp gm : Nat} {w0 w : World} {ps : List Int} {sa sb sc sd : Int} {M : S4} (h : OfM N gt gs gp gm w0 w ps ⟨sa, sb, sc, sd⟩ M) : (w.cell? ⟨gp, 0, none⟩ = some (.int .u64 sa) ∧ w.cell? ⟨gp, 1, none⟩ = some (.int .u64 sb) ∧ w.cell? ⟨gp, 2, none⟩ = some (.int .u64 sc) ∧ w.cell? ⟨gp, 3, none⟩ = some (.int .u64 sd)) ∧ OfM N gt gs gp gm w0 w ps ⟨sa, sb, sc, sd⟩ M := ⟨⟨h.p0, h.p1, h.p2, h.p3⟩, h⟩
theorem Zu6 {ps : List Int} {i : Nat} {S M r : S4} (hS : S = stOf ps i) (hM : M = wordsAt ps (32 * i)) (hr : r = rk S M 8) : xor4 r S = stOf ps (i + 1) := by
  rw [hr, Zxi, hS, hM]
  rfl
structure Ex (N gs go : Nat) (w0 w : World) (sa sb sc sd : Int) (ds : List Int) : Prop where
  h0 : w.heap[N]? = some (.cells (B8 (List.replicate 32 0)) 23)
  hs : w.heap[gs]? = some (.cells (V4 ⟨sa, sb, sc, sd⟩) 79)
  ho : w.heap[go]? = some (.cells (B8 ds) 23)
  bel : Below N w0 w
theorem Ex.setO {N gs go : Nat} {w0 w : World} {sa sb sc sd : Int} {ds : List Int} (h : Ex N gs go w0 w sa sb sc sd ds) (hgs : ¬ gs = go) (hgo : N < go) (k : Nat) (x : Int) : Ex N gs go w0 (w.setCell ⟨go, k, none⟩ (.int .u8 x)) sa sb sc sd (ds.set k x) :=
  ⟨(heap_setCell_other _ _ _ _ (by simp; omega)).trans h.h0, (heap_setCell_other _ _ _ _ hgs).trans h.hs, by rw [heap_setCell_same w go k _ 23 _ h.ho, Zrd], h.bel.setCell (by simp; omega) _⟩
theorem Zxd : V4 s0 = #[.int .u64 11400714819323198485, .int .u64 (IntKind.u64.wrap 22801429638646396970), .int .u64 (IntKind.u64.wrap (IntKind.u64.wrap 22801429638646396970 + 11400714819323198485)), .int .u64 (IntKind.u64.wrap (IntKind.u64.wrap (IntKind.u64.wrap 22801429638646396970 + 11400714819323198485) + 11400714819323198485))] := by
  have e2 : wr (2 * kk) = IntKind.u64.wrap 22801429638646396970 := rfl
  have e3 : wr (3 * kk) = IntKind.u64.wrap (IntKind.u64.wrap 22801429638646396970 + 11400714819323198485) := by
    unfold wr kk
    simp only [IntKind.wrap_u64]
    omega
  have e4 : wr (4 * kk) = IntKind.u64.wrap (IntKind.u64.wrap (IntKind.u64.wrap 22801429638646396970 + 11400714819323198485) + 11400714819323198485) := by
    unfold wr kk
    simp only [IntKind.wrap_u64]
    omega
  unfold V4 s0
  simp only [e2, e3, e4]
  rfl
theorem Zia (g len cap : Nat) (p : Int) (at_ : Nat) (bs : List Int) (w : World) (hp : p = at_) (hlen : at_ + 8 ≤ len) (hm : len ≤ maxLen)
    (hc : ∀ k, k < 8 → w.cell? ⟨g, at_ + k, none⟩ = some (.int .u8 (bs.getD (at_ + k) 0))) (hb : ∀ k, k < 8 → 0 ≤ bs.getD (at_ + k) 0 ∧ bs.getD (at_ + k) 0 < 256) :
    Calls Tryz.prog 33 #[.slice (some ⟨g, 0, none⟩) len cap, .int .i64 p] w fun e w' => e = .returned (.int .u64 (wd bs at_ 8)) ∧ w' = w := by
  subst hp
  exact Zrf g len cap at_ bs w hlen hm hc hb
set_option maxHeartbeats 1000000 in
set_option maxRecDepth 100000 in
theorem rof_any (a : Option Addr) (len cap : Nat) (bs : List Int) (w : World) (hin : InB w a len cap bs) (hb : ∀ x ∈ bs, 0 ≤ x ∧ x < 256) (hlen : bs.length ≤ 140737488351232) :
    Calls Tryz.prog 16 #[.slice a len cap] w fun e w' => e = .returned (.agg (B8 (dig (stOf (padded bs) ((padded bs).length / 32))))) ∧ Below w.heap.size w w' := by
  have hpad := fun v => Znc a len cap bs v
  have HP := Hid.mk hpad
  clear hpad
  have hin' : ∀ o, InB (w.alloc o) a len cap bs := fun o => hin.alloc o
  have HIN := Hid.mk hin'
  have HL := Hid.mk hlen
  have HB := Hid.mk hb
  clear hin' hin hlen hb
  go_enter Tryz.func16, Tryz.ntmps16
  go_wp2_with fail
  refine (HP.out _ (HIN.out _) HL.out).mono ?_
  rintro e w1 ⟨v1, rfl, ow, hb1⟩
  have hlen32 := Zdc bs
  have hpb := Hid.mk (Zim bs HB.out)
  have hpm : (padded bs).length ≤ 140737488352000 := by rw [hlen32]; have := HL.out; unfold zc; omega
  have hpm2 := Hid.mk (Znb bs)
  generalize hps : padded bs = ps at ow hpb hpm hpm2
  have HPS := Hid.mk hps
  clear hps
  clear hlen32 HB HIN HL HP
  obtain ⟨q, hq⟩ : ∃ q, ps.length = 32 * q := ⟨ps.length / 32, by have := hpm2.out; omega⟩
  obtain ⟨gt, ct, rfl, hg0, hg1, hg2, hg3, hct⟩ := ow.slice (by have := hpm2.out; omega)
  have hct2 := Hid.mk hct
  clear hct ow hg0
  have hN : w1.heap[w.heap.size]? = some (.cells (B8 (List.replicate 32 0)) 23) := Below.row hb1 (heap_alloc_new w _)
  have F0 : OfW w.heap.size gt w1.heap.size w (w1.alloc (.cells (V4 s0) 79)) ps s0 := by
    have l0 := lt_of_get hN
    refine ⟨(Below.heap_alloc _ _ _ l0).trans hN, fun j hj => (World.cell?_of_block (w := w1) (Below.heap_alloc w1 _ _ hg1)).trans (hct2.out j hj), heap_alloc_new _ _, by simp; omega, l0, ?_⟩
    exact (((Below.refl _ _).alloc (Nat.le_refl _) _).trans (hb1.mono (by simp))).alloc (by omega) _
  clear hN hct2
  have hq1 : 32 * q ≤ 140737488352000 := by omega
  have HQ := Hid.mk hq
  go_wp2_with fail
  go_loopw [5, 6] (fun s t v => ∃ (i gs : Nat) (S : S4), i ≤ q ∧ t = .int .i64 (32 * (i : Int)) ∧ s = .slice (some ⟨gs, 0, none⟩) 4 4 ∧ Hid (S = stOf ps i) ∧ OfW w.heap.size gt gs w v ps S) (fun _ t _ => 32 * q - (intOf t).toNat)
  case atStart =>
    refine ⟨0, w1.heap.size, s0, by omega, rfl, rfl, rfl, ?_⟩
    rw [Zxd] at F0
    exact F0
  case round =>
    clear F0
    obtain ⟨i, gs, ⟨sa, sb, sc, sd⟩, hi, rfl, rfl, HS, F⟩ := hrel
    by_cases hlt : i < q
    · have hg := F.hs
      have hg' : wr.heap[gs]? = some (.cells #[.int .u64 sa, .int .u64 sb, .int .u64 sc, .int .u64 sd] 79) := hg
      have HG := Hid.mk hg'
      clear hg hg'
      go_wp2_with (first | (at_builtin; refine Ztl rfl (.tmp 43) (.tmp 44) rfl rfl gs rfl sa sb sc sd HG.out ?_; intro gp cp w2 hgp0 hgp1 d0 d1 d2 d3 hb2))
      have F2 := F.call hb2
      have hsz2 := hb2.size
      have HD := Hid.mk (And.intro d0 (And.intro d1 (And.intro d2 d3)))
      clear d0 d1 d2 d3 hb2
      have hcb : ∀ p, p + 8 ≤ 32 * q → ∀ k, k < 8 → 0 ≤ ps.getD (p + k) 0 ∧ ps.getD (p + k) 0 < 256 := fun p hp k hk => hpb.out _ (getD_mem ps _ (by rw [HQ.out]; omega))
      have HCB := Hid.mk hcb
      clear hcb
      refine (Zia gt (32 * q) ct _ (32 * i) ps _ (by omega) (by omega) (by unfold maxLen; omega) (fun k hk => F2.ht _ (by rw [HQ.out]; omega)) (HCB.out (32 * i) (by omega))).mono ?_
      rintro e w3 ⟨rfl, rfl⟩
      obtain ⟨ma, hma⟩ : ∃ x, wd ps (32 * i) 8 = x := ⟨_, rfl⟩
      rw [hma]
      have Hma := Hid.mk hma
      clear hma
      go_wp2_with fail
      refine (Zia gt (32 * q) ct _ (32 * i + 8) ps _ (by omega) (by omega) (by unfold maxLen; omega) (fun k hk => F2.ht _ (by rw [HQ.out]; omega)) (HCB.out (32 * i + 8) (by omega))).mono ?_
      rintro e w3 ⟨rfl, rfl⟩
      obtain ⟨mb, hmb⟩ : ∃ x, wd ps (32 * i + 8) 8 = x := ⟨_, rfl⟩
      rw [hmb]
      have Hmb := Hid.mk hmb
      clear hmb
      go_wp2_with fail
      refine (Zia gt (32 * q) ct _ (32 * i + 16) ps _ (by omega) (by omega) (by unfold maxLen; omega) (fun k hk => F2.ht _ (by rw [HQ.out]; omega)) (HCB.out (32 * i + 16) (by omega))).mono ?_
      rintro e w3 ⟨rfl, rfl⟩
      obtain ⟨mc, hmc⟩ : ∃ x, wd ps (32 * i + 16) 8 = x := ⟨_, rfl⟩
      rw [hmc]
      have Hmc := Hid.mk hmc
      clear hmc
      go_wp2_with fail
      refine (Zia gt (32 * q) ct _ (32 * i + 24) ps _ (by omega) (by omega) (by unfold maxLen; omega) (fun k hk => F2.ht _ (by rw [HQ.out]; omega)) (HCB.out (32 * i + 24) (by omega))).mono ?_
      rintro e w3 ⟨rfl, rfl⟩
      obtain ⟨md, hmd⟩ : ∃ x, wd ps (32 * i + 24) 8 = x := ⟨_, rfl⟩
      rw [hmd]
      have Hmd := Hid.mk hmd
      clear hmd
      go_wp2_with fail
      have G := Zvm (S := ⟨sa, sb, sc, sd⟩) ⟨ma, mb, mc, md⟩ F2 HD.out
      clear F F2 HD HCB HG
      obtain ⟨gm, hgm⟩ : ∃ gm, w3.heap.size = gm := ⟨_, rfl⟩
      rw [hgm] at G ⊢
      refine gen_w (p := fun v => Code.wp _ _ _ _ v) (q := fun v => OfM w.heap.size gt gs gp gm w v ps ⟨sa, sb, sc, sd⟩ ⟨ma, mb, mc, md⟩) G ?_
      clear G hgm hsz2 hgp0 hgp1 w3
      intro v G
      obtain ⟨c0, c1, c2, c3, cf⟩ := Zbn (show v.heap[gs]? = some (.cells #[.int .u64 sa, .int .u64 sb, .int .u64 sc, .int .u64 sd] 79) from G.f.hs)
      obtain ⟨e0, e1, e2, e3, ef⟩ := Zbn (show v.heap[gm]? = some (.cells #[.int .u64 ma, .int .u64 mb, .int .u64 mc, .int .u64 md] 79) from G.hm)
      clear cf ef
      go_quiet (fail)
      go_wp2_with fail
      go_quiet (fail)
      go_wp2_with fail
      go_quiet (fail)
      go_wp2_with fail
      go_quiet (fail)
      go_wp2_with fail
      clear c0 c1 c2 c3 e0 e1 e2 e3
      go_loopw [9, 10, 11, 12, 13, 14] (fun ta tb tc td tx tk v => ∃ (k : Nat) (ra rb rc rd x : Int), k ≤ 8 ∧ tk = .int .i64 k ∧ ta = .int .u64 ra ∧ tb = .int .u64 rb ∧ tc = .int .u64 rc ∧ td = .int .u64 rd ∧ tx = .int .u64 x ∧ Hid (S4.mk ra rb rc rd = rk ⟨sa, sb, sc, sd⟩ ⟨ma, mb, mc, md⟩ k) ∧ Hid (x = kx k) ∧ OfM w.heap.size gt gs gp gm w v ps ⟨sa, sb, sc, sd⟩ ⟨ma, mb, mc, md⟩) (fun _ _ _ _ _ tk _ => 8 - (intOf tk).toNat)
      case atStart => exact ⟨0, _, _, _, _, _, by omega, rfl, rfl, rfl, rfl, rfl, rfl, rfl, Zvz, (((G.drewN _).drewN _).drewN _).drewN _⟩
      case round =>
        clear G
        obtain ⟨k, ra, rb, rc, rd, x, hk, rfl, rfl, rfl, rfl, rfl, rfl, HR, HX, G⟩ := hrel
        by_cases hk8 : k < 8
        · obtain ⟨e0, e1, e2, e3, ef⟩ := Zbn (show wr.heap[gm]? = some (.cells #[.int .u64 ma, .int .u64 mb, .int .u64 mc, .int .u64 md] 79) from G.hm)
          clear ef
          have hc : k % 4 = 0 ∨ k % 4 = 1 ∨ k % 4 = 2 ∨ k % 4 = 3 := by omega
          rcases hc with hc | hc | hc | hc
          · have hq4 : (k : Int) % 4 = 0 := by omega
            have hmm := Hid.mk (show mAt ⟨ma, mb, mc, md⟩ k = ma from by simp [mAt, hc])
            clear hc
            go_wp2_with (first | (go_at_call 34; refine (rrot _ _ _ (by omega) (by omega)).mono ?_; rintro e w' ⟨rfl, nn, rfl⟩))
            refine ⟨⟨k + 1, _, _, _, _, _, by omega, by go_num, rfl, rfl, rfl, rfl, rfl, Zig HR.out (Zcy _ _ HX.out) hmm.out (Zls ra rb rc rd _ _ _ _ _ _ _ _ _ (Zm2 _ _ _ _) rfl rfl rfl rfl rfl rfl rfl), Zcy _ _ HX.out, ?_⟩, by simp [intOf]; omega⟩
            repeat (first | exact G | refine OfM.drewN ?_ _)
          · have hq4 : (k : Int) % 4 = 1 := by omega
            have hmm := Hid.mk (show mAt ⟨ma, mb, mc, md⟩ k = mb from by simp [mAt, hc])
            clear hc
            go_wp2_with (first | (go_at_call 34; refine (rrot _ _ _ (by omega) (by omega)).mono ?_; rintro e w' ⟨rfl, nn, rfl⟩))
            refine ⟨⟨k + 1, _, _, _, _, _, by omega, by go_num, rfl, rfl, rfl, rfl, rfl, Zig HR.out (Zcy _ _ HX.out) hmm.out (Zls ra rb rc rd _ _ _ _ _ _ _ _ _ (Zm2 _ _ _ _) rfl rfl rfl rfl rfl rfl rfl), Zcy _ _ HX.out, ?_⟩, by simp [intOf]; omega⟩
            repeat (first | exact G | refine OfM.drewN ?_ _)
          · have hq4 : (k : Int) % 4 = 2 := by omega
            have hmm := Hid.mk (show mAt ⟨ma, mb, mc, md⟩ k = mc from by simp [mAt, hc])
            clear hc
            go_wp2_with (first | (go_at_call 34; refine (rrot _ _ _ (by omega) (by omega)).mono ?_; rintro e w' ⟨rfl, nn, rfl⟩))
            refine ⟨⟨k + 1, _, _, _, _, _, by omega, by go_num, rfl, rfl, rfl, rfl, rfl, Zig HR.out (Zcy _ _ HX.out) hmm.out (Zls ra rb rc rd _ _ _ _ _ _ _ _ _ (Zm2 _ _ _ _) rfl rfl rfl rfl rfl rfl rfl), Zcy _ _ HX.out, ?_⟩, by simp [intOf]; omega⟩
            repeat (first | exact G | refine OfM.drewN ?_ _)
          · have hq4 : (k : Int) % 4 = 3 := by omega
            have hmm := Hid.mk (show mAt ⟨ma, mb, mc, md⟩ k = md from by simp [mAt, hc])
            clear hc
            go_wp2_with (first | (go_at_call 34; refine (rrot _ _ _ (by omega) (by omega)).mono ?_; rintro e w' ⟨rfl, nn, rfl⟩))
            refine ⟨⟨k + 1, _, _, _, _, _, by omega, by go_num, rfl, rfl, rfl, rfl, rfl, Zig HR.out (Zcy _ _ HX.out) hmm.out (Zls ra rb rc rd _ _ _ _ _ _ _ _ _ (Zm2 _ _ _ _) rfl rfl rfl rfl rfl rfl rfl), Zcy _ _ HX.out, ?_⟩, by simp [intOf]; omega⟩
            repeat (first | exact G | refine OfM.drewN ?_ _)
        · have hk2 : k = 8 := by omega
          subst hk2
          clear hk hk8
          obtain ⟨p0, p1, p2, p3⟩ := And.intro G.p0 (And.intro G.p1 (And.intro G.p2 G.p3))
          have HM : Hid (S4.mk ma mb mc md = wordsAt ps (32 * i)) := by unfold Hid wordsAt; rw [Hma.out, Hmb.out, Hmc.out, Hmd.out]
          have HN := Hid.mk (Zu6 HS.out HM.out HR.out)
          clear HM HS HR HX Hma Hmb Hmc Hmd
          go_wp2_with fail
          go_region_held3 (fun v => (v.cell? ⟨gp, 0, none⟩ = some (.int .u64 sa) ∧ v.cell? ⟨gp, 1, none⟩ = some (.int .u64 sb) ∧ v.cell? ⟨gp, 2, none⟩ = some (.int .u64 sc) ∧ v.cell? ⟨gp, 3, none⟩ = some (.int .u64 sd)) ∧ OfM w.heap.size gt gs gp gm w v ps ⟨sa, sb, sc, sd⟩ ⟨ma, mb, mc, md⟩)
            ((first | exact Zvl G.drew | exact Zvl (G.alloc _).drew | exact Zvl (G.drew.alloc _)))
            (fail)
          go_wp2_with fail
          refine ⟨⟨i + 1, wr.heap.size, xor4 ⟨ra, rb, rc, rd⟩ ⟨sa, sb, sc, sd⟩, by omega, by go_num, rfl, HN.out, (G.f.state (xor4 ⟨ra, rb, rc, rd⟩ ⟨sa, sb, sc, sd⟩)).drew⟩, by simp [intOf]; omega⟩
    · have hiq : i = q := by omega
      subst hiq
      have hfin : Hid (dig ⟨sa, sb, sc, sd⟩ = dig (stOf ps (ps.length / 32))) := by unfold Hid; rw [HS.out, HQ.out, Nat.mul_div_cancel_left i (by omega)]
      clear HS HQ
      have hN := F.h0
      have hgN := F.gsl
      have hbel := F.bel
      have l0 := lt_of_get hN
      have l1 := lt_of_get F.hs
      have K0 : Ex w.heap.size gs wr.heap.size w (wr.alloc (.cells (B8 (List.replicate 32 0)) 23)) sa sb sc sd (List.replicate 32 0) := ⟨(Below.heap_alloc _ _ _ l0).trans hN, (Below.heap_alloc _ _ _ l1).trans F.hs, heap_alloc_new _ _, hbel.alloc (by omega) _⟩
      have hNe : ¬ wr.heap.size = w.heap.size := by omega
      clear hN hbel F
      obtain ⟨go, hgo⟩ : ∃ go, wr.heap.size = go := ⟨_, rfl⟩
      rw [hgo] at K0 hNe
      have hgoN : w.heap.size < go := by omega
      have hgs : ¬ gs = go := by omega
      go_wp2_with fail
      refine gen_w (p := fun v => Code.wp _ _ _ _ v) (q := fun v => Ex w.heap.size gs go w v sa sb sc sd (List.replicate 32 0)) K0 ?_
      clear K0 hgo l0 l1 hgN hNe
      intro v K0
      go_loopw [17] (fun t v => ∃ k : Nat, k ≤ 32 ∧ t = .int .i64 k ∧ Ex w.heap.size gs go w v sa sb sc sd (digk ⟨sa, sb, sc, sd⟩ k)) (fun t _ => 32 - (intOf t).toNat)
      case atStart => exact ⟨0, by omega, rfl, K0⟩
      case round =>
        clear K0
        obtain ⟨k, hk, rfl, R⟩ := hrel
        by_cases hlt : k < 32
        · obtain ⟨p, q, r, s, f⟩ := Zbn (show wr.heap[gs]? = some (.cells #[.int .u64 sa, .int .u64 sb, .int .u64 sc, .int .u64 sd] 79) from R.hs)
          clear f
          have hcell := Zlh R.ho k (by rw [Zg5]; omega)
          have hfr := frozen_of_row _ _ k _ _ R.ho
          generalize (digk ⟨sa, sb, sc, sd⟩ k).getD k 0 = y at hcell
          have hc : k < 8 ∨ (8 ≤ k ∧ k < 16) ∨ (16 ≤ k ∧ k < 24) ∨ 24 ≤ k := by omega
          rcases hc with hc | hc | hc | hc
          · have hq : (k : Int) / 8 = 0 := by omega
            have T := R.setO hgs (by omega) k (bt (sel ⟨sa, sb, sc, sd⟩ k) k)
            have e : sel ⟨sa, sb, sc, sd⟩ k = sa := by simp [sel, hc]
            rw [Zce, e] at T
            clear e
            go_wp2_with fail
            exact ⟨⟨k + 1, by omega, by go_num, T⟩, by simp [intOf]; omega⟩
          · have hq : (k : Int) / 8 = 1 := by omega
            have T := R.setO hgs (by omega) k (bt (sel ⟨sa, sb, sc, sd⟩ k) k)
            have e : sel ⟨sa, sb, sc, sd⟩ k = sb := by simp [sel, show ¬ k < 8 from by omega, show k < 16 from by omega]
            rw [Zce, e] at T
            clear e
            go_wp2_with fail
            exact ⟨⟨k + 1, by omega, by go_num, T⟩, by simp [intOf]; omega⟩
          · have hq : (k : Int) / 8 = 2 := by omega
            have T := R.setO hgs (by omega) k (bt (sel ⟨sa, sb, sc, sd⟩ k) k)
            have e : sel ⟨sa, sb, sc, sd⟩ k = sc := by simp [sel, show ¬ k < 8 from by omega, show ¬ k < 16 from by omega, show k < 24 from by omega]
            rw [Zce, e] at T
            clear e
            go_wp2_with fail
            exact ⟨⟨k + 1, by omega, by go_num, T⟩, by simp [intOf]; omega⟩
          · have hq : (k : Int) / 8 = 3 := by omega
            have T := R.setO hgs (by omega) k (bt (sel ⟨sa, sb, sc, sd⟩ k) k)
            have e : sel ⟨sa, sb, sc, sd⟩ k = sd := by simp [sel, show ¬ k < 8 from by omega, show ¬ k < 16 from by omega, show ¬ k < 24 from by omega]
            rw [Zce, e] at T
            clear e
            go_wp2_with fail
            exact ⟨⟨k + 1, by omega, by go_num, T⟩, by simp [intOf]; omega⟩
        · have hk2 : k = 32 := by omega
          subst hk2
          rw [Zms, hfin.out] at R
          generalize hds : dig (stOf ps (ps.length / 32)) = ds at R
          have hdl : ds.length = 32 := by rw [← hds]; simp [dig]
          have HD := Hid.mk hds
          clear hds hfin
          have HI2 : Hid ((Tryz.prog.info? 23).map (·.size) = some (B8 ds).size) := by unfold Hid; rw [B8_size, hdl]; kernel_rfl
          have HO := Hid.mk R.ho
          have HN := Hid.mk R.h0
          go_wp2_with (first | refine wpList_load_row rfl 23 _ rfl _ rfl 23 _ _ _ HO.out Tryz.underlying23 rfl HI2.out ?_ | refine wpList_store_row rfl 23 _ _ rfl _ (B8 ds) rfl rfl 23 _ HN.out HI2.out (by rw [B8_size, B8_size, hdl, List.length_replicate]) (B8_one _) ?_)
          refine bodyPost_ret (results_cell_row Tryz.results16 _ _ w.heap.size 23 (B8 ds) (0, 0) _ rfl (setRow_heap _ _ _ _ _ _ HN.out) Tryz.underlying23 rfl HI2.out) rfl ?_
          exact ⟨by rw [HPS.out, HD.out], Below.setRow R.bel (Nat.le_refl _) _⟩
end Go.Proofs.YtchgejomcgoaeaaGreat.Di
