/- The reference's Put. -/
import Derived.Test.YtjpcfdhkgfaeeaaG09
import Derived.Laws.AppendOwnNone
namespace Go.Proofs.Ytjpcfdhkgfaeeaa
open Go.RowKit
open Di (dref dref_len)
set_option linter.unusedVariables false
set_option maxRecDepth 100000
theorem withL_ge {k r : Int} : ∀ {L : List Th} {i : Nat}, Rng L → k < i → withL k r i L = L
  | [], i, _, _ => rfl
  | x :: t, i, h, hk => by
    rw [withL]
    have h1 : keep1 k r i x = x := if_neg (by omega)
    rw [h1, if_pos (by have := (h x (by simp)).1; omega), withL_ge (L := t) (i := i + 1) (fun z hz => h z (List.mem_cons_of_mem _ hz)) (by omega)]
    rfl
theorem withL_eq {r : Int} : ∀ {L : List Th} {i j : Nat} {x : Th}, Rng L → L[j]? = some x → withL ((i + j : Nat) : Int) r i L = if 0 < r then L.set j ⟨x.d, x.s, r⟩ else L.eraseIdx j
  | [], i, j, x, _, h => by simp at h
  | y :: t, i, 0, x, hr, h => by
    simp at h
    subst h
    rw [withL, Nat.add_zero]
    have h1 : keep1 ((i : Nat) : Int) r i y = ⟨y.d, y.s, r⟩ := if_pos rfl
    rw [h1, withL_ge (L := t) (fun z hz => hr z (List.mem_cons_of_mem _ hz)) (by omega)]
    by_cases h0 : 0 < r
    · simp [h0]
    · simp [h0]
  | y :: t, i, j + 1, x, hr, h => by
    rw [withL]
    have h1 : keep1 ((i + (j + 1) : Nat) : Int) r i y = y := if_neg (by omega)
    have ih := withL_eq (r := r) (L := t) (i := i + 1) (j := j) (x := x) (fun z hz => hr z (List.mem_cons_of_mem _ hz)) (by simpa using h)
    rw [show i + 1 + j = i + (j + 1) from by omega] at ih
    rw [h1, if_pos (by have := (hr y (by simp)).1; omega), ih]
    by_cases h0 : 0 < r
    · simp [h0]
    · simp [h0]
theorem with_put {L : List Th} {d : List Int} {j : Nat} {y : Th} {r : Int} (hr : Rng L) (h : findT d L = some (j, y)) (h0 : 0 < r) : withL (j : Int) r 0 L = putT ⟨d, y.s, r⟩ L := by
  obtain ⟨h1, h2⟩ := findT_some h
  have e := withL_eq (r := r) (i := 0) hr h1
  rw [Nat.zero_add, if_pos h0] at e
  rw [e, putT]
  simp only
  rw [h, h2]
theorem with_del {L : List Th} {d : List Int} {j : Nat} {y : Th} {r : Int} (hr : Rng L) (h : findT d L = some (j, y)) (h0 : ¬ 0 < r) : withL (j : Int) r 0 L = delT d L := by
  obtain ⟨h1, h2⟩ := findT_some h
  have e := withL_eq (r := r) (i := 0) hr h1
  rw [Nat.zero_add, if_neg h0] at e
  rw [e, delT, h]
theorem ls_flat {w : World} {g off n c : Nat} {L : List Th} (h : Ls w (some ⟨g, off, none⟩) n c L) : ∀ j u, (flatO L)[j]? = some u → w.cell? ((⟨g, off, none⟩ : Addr).add j) = some u := by
  have key : ∀ (M : List Th) (k : Nat), Lens M → (∀ j x, M[j]? = some x → w.rangeAt g (off + (k + j) * 34) x.cells) → ∀ j u, (flatO M)[j]? = some u → w.cell? ⟨g, off + k * 34 + j, none⟩ = some u := by
    intro M
    induction M with
    | nil => intro k _ _ j u hu; simp [flatO] at hu
    | cons x t ih =>
      intro k hl hr j u hu
      have hx := Th.clen (hl x (by simp))
      rw [show flatO (x :: t) = x.cells ++ flatO t from by unfold flatO; rw [List.flatMap_cons]] at hu
      by_cases hj : j < 34
      · rw [List.getElem?_append_left (by rw [hx]; exact hj)] at hu
        have := hr 0 x rfl j u hu
        rwa [Nat.add_zero] at this
      · rw [List.getElem?_append_right (by rw [hx]; omega), hx] at hu
        have := ih (k + 1) (fun z hz => hl z (List.mem_cons_of_mem _ hz)) (fun i z hz => by
          have := hr (i + 1) z (by simpa using hz)
          rw [show k + (i + 1) = k + 1 + i from by omega] at this
          exact this) (j - 34) u hu
        rw [show off + (k + 1) * 34 + (j - 34) = off + k * 34 + j from by omega] at this
        exact this
  intro j u hu
  rw [addr_add]
  have := key L 0 h.lens (fun i x hx => by
    obtain ⟨g', off', e, hr⟩ := h.rows i x hx
    cases e
    rw [Nat.zero_add]
    exact hr) j u hu
  rwa [Nat.zero_mul, Nat.add_zero] at this
/-- A list appended to none: a list of its own. -/
theorem app_all {w : World} {a : Option Addr} {n c : Nat} {L : List Th} (h : Ls w a n c L) (base : Nat) (hb : base ≤ w.heap.size) (hn : n ≤ 2199023255550) (ty : TypeId) :
    ∃ v' w', (Builtin.append_ #[26, 26] ty #[.slice none 0 0, .slice a n c]).run Try.prog w = .ok v' w' ∧ OwnO w' base v' L ∧ Below base w w' := by
  cases a with
  | none =>
    obtain ⟨h1, h2⟩ := h.nil rfl
    subst h1 h2
    have hL : L = [] := List.eq_nil_of_length_eq_zero h.l.symm
    subst hL
    obtain ⟨i, hi, _, _, _⟩ := infoOz
    exact ⟨.slice none 0 0, w, run_append_owned_none (P := Try.prog) (w := w) base 26 ty 60 i 34 Try.underlying26 hi _ 0 _ (World.ownsRow_nil _ _ _ _), World.ownsRow_nil _ _ _ _, Below.refl _ _⟩
  | some ad =>
    by_cases h0 : L = []
    · subst h0
      have hn0 : n = 0 := h.l
      subst hn0
      have := app_things (w := w) (base := base) (v := .slice none 0 0) (ys := []) (zs := []) (World.ownsRow_nil _ _ _ _) (fun z hz => by cases hz) ad c (fun j u hu => by simp [flatO] at hu) hb (by simp) ty
      exact this
    · obtain ⟨g, off, e, _⟩ := h.rows 0 (L[0]'(List.length_pos_iff.2 h0)) (List.getElem?_eq_getElem _)
      cases e
      have hl := h.l
      have := app_things (w := w) (base := base) (v := .slice none 0 0) (ys := []) (zs := L) (World.ownsRow_nil _ _ _ _) h.lens ⟨g, off, none⟩ c (ls_flat h) hb (by simp; omega) ty
      rw [List.nil_append, ← hl] at this
      exact this
theorem built_Of : (fun (s : ByteArray) (r : Int) (d0 d1 d2 d3 d4 d5 d6 d7 d8 d9 d10 d11 d12 d13 d14 d15 d16 d17 d18 d19 d20 d21 d22 d23 d24 d25 d26 d27 d28 d29 d30 d31 : Int) => Try.prog.built 60 [(0, .agg (B8 [d0, d1, d2, d3, d4, d5, d6, d7, d8, d9, d10, d11, d12, d13, d14, d15, d16, d17, d18, d19, d20, d21, d22, d23, d24, d25, d26, d27, d28, d29, d30, d31])), (1, .string s), (2, .int .i64 r)]) = fun s r d0 d1 d2 d3 d4 d5 d6 d7 d8 d9 d10 d11 d12 d13 d14 d15 d16 d17 d18 d19 d20 d21 d22 d23 d24 d25 d26 d27 d28 d29 d30 d31 => some (Th.cells ⟨[d0, d1, d2, d3, d4, d5, d6, d7, d8, d9, d10, d11, d12, d13, d14, d15, d16, d17, d18, d19, d20, d21, d22, d23, d24, d25, d26, d27, d28, d29, d30, d31], s, r⟩).toArray := by kernel_rfl
theorem built_O (x : Th) (h : x.d.length = 32) : Try.prog.built 60 [(0, .agg (B8 x.d)), (1, .string x.s), (2, .int .i64 x.r)] = some x.cells.toArray := by
  obtain ⟨d, s, r⟩ := x
  match d, h with
  | [d0, d1, d2, d3, d4, d5, d6, d7, d8, d9, d10, d11, d12, d13, d14, d15, d16, d17, d18, d19, d20, d21, d22, d23, d24, d25, d26, d27, d28, d29, d30, d31], _ =>
    have e := built_Of
    have e := congrFun e s
    have e := congrFun e r
    have e := congrFun e d0
    have e := congrFun e d1
    have e := congrFun e d2
    have e := congrFun e d3
    have e := congrFun e d4
    have e := congrFun e d5
    have e := congrFun e d6
    have e := congrFun e d7
    have e := congrFun e d8
    have e := congrFun e d9
    have e := congrFun e d10
    have e := congrFun e d11
    have e := congrFun e d12
    have e := congrFun e d13
    have e := congrFun e d14
    have e := congrFun e d15
    have e := congrFun e d16
    have e := congrFun e d17
    have e := congrFun e d18
    have e := congrFun e d19
    have e := congrFun e d20
    have e := congrFun e d21
    have e := congrFun e d22
    have e := congrFun e d23
    have e := congrFun e d24
    have e := congrFun e d25
    have e := congrFun e d26
    have e := congrFun e d27
    have e := congrFun e d28
    have e := congrFun e d29
    have e := congrFun e d30
    have e := congrFun e d31
    exact e
theorem results_sd {fn : Func} {p q u : Tmp} (h : fn.results = #[.cell p 28, .cell q 30, .tmp u]) (tmps : Array Value) (w : World) (gp gq : Nat) (m : Int) (ia : Option Addr) (n c : Nat) (d : List Int) (hl : d.length = 32) (hp : tmps.getD p undef = .pointer (some ⟨gp, 0, none⟩)) (hq : tmps.getD q undef = .pointer (some ⟨gq, 0, none⟩)) (hg : SBx gp w m ia n c) (hd : DBx gq w d) :
    (results fn tmps).run Try.prog w = .ok (.tuple #[.agg #[.int .i64 m, .slice ia n c], .agg (B8 d), tmps.getD u undef]) w := by
  have hp' : tmps[p]?.getD undef = .pointer (some ⟨gp, 0, none⟩) := by simpa using hp
  have hq' : tmps[q]?.getD undef = .pointer (some ⟨gq, 0, none⟩) := by simpa using hq
  have hr := run_loadVar_row (P := Try.prog) w gp 28 28 #[.int .i64 m, .slice ia n c] (0, 0) _ hg Try.underlying28 rfl (by kernel_rfl)
  have hr2 := run_loadVar_row (P := Try.prog) w gq 30 30 (B8 d) (0, 0) _ hd.row Try.underlying30 rfl (infoD d hd.l)
  simp [results, h, hp', hq', asAddr, hr, hr2]
/-- The boxes, while Put goes on. -/
structure Rp (w v : World) (most : Int) (a : Option Addr) (n c gD : Nat) (d : List Int) : Prop where
  sb : SBx w.heap.size v most a n c
  rb : SBx (w.heap.size + 1) v 0 none 0 0
  qb : DBx (w.heap.size + 2) v z32
  db : DBx gD v d
  bel : Below w.heap.size w v
  gd : w.heap.size + 3 ≤ gD
theorem Rp.go {w v v' : World} {most : Int} {a : Option Addr} {n c gD : Nat} {d : List Int} (h : Rp w v most a n c gD d) (hb : Below v.heap.size v v') : Rp w v' most a n c gD d := ⟨h.sb.go hb, h.rb.go hb, h.qb.go hb, h.db.go hb, below_go h.bel hb, h.gd⟩
theorem Rp.drew {w v : World} {most : Int} {a : Option Addr} {n c gD : Nat} {d : List Int} (h : Rp w v most a n c gD d) : Rp w v.drew most a n c gD d := h.go (Below.refl _ _).drew
/-- What is told: the two results laid into their boxes. -/
theorem rp_end {w v : World} {most m : Int} {a : Option Addr} {n c gD : Nat} {d : List Int} (h : Rp w v most a n c gD d) (ia : Option Addr) (im ic : Nat) (e : List Int) (he : e.length = 32) :
    SBx (w.heap.size + 1) ((v.setRow (w.heap.size + 1) #[.int .i64 m, .slice ia im ic]).setRow (w.heap.size + 2) (B8 e)) m ia im ic ∧ DBx (w.heap.size + 2) ((v.setRow (w.heap.size + 1) #[.int .i64 m, .slice ia im ic]).setRow (w.heap.size + 2) (B8 e)) e ∧ Below w.heap.size w ((v.setRow (w.heap.size + 1) #[.int .i64 m, .slice ia im ic]).setRow (w.heap.size + 2) (B8 e)) :=
  ⟨(setRow_other _ _ _ _ (by omega)).trans (setRow_heap _ _ _ _ _ _ h.rb), ⟨setRow_heap _ _ _ _ _ _ ((setRow_other _ _ _ _ (by omega)).trans h.qb.row), he⟩, Below.setRow (Below.setRow h.bel (by omega) _) (by omega) _⟩
theorem Ls.ends {v : World} {a : Option Addr} {n c g1 g2 : Nat} {L : List Th} {C1 C2 : Array Value} (h : Ls v a n c L) (h1 : ∀ g off, a = some ⟨g, off, none⟩ → 0 < n → g ≠ g1 ∧ g ≠ g2) : Ls ((v.setRow g1 C1).setRow g2 C2) a n c L := ⟨h.l, h.nc, h.nil, fun j x hj => by
  obtain ⟨g, off, e, hr⟩ := h.rows j x hj
  have hn : 0 < n := by rw [h.l]; have := (List.getElem?_eq_some_iff.1 hj).1; omega
  obtain ⟨e1, e2⟩ := h1 g off e hn
  exact ⟨g, off, e, range_keep hr (fun _ => (setRow_other _ _ _ _ e2).trans (setRow_other _ _ _ _ e1))⟩, h.lens⟩
theorem Ls.lt {v : World} {a : Option Addr} {n c : Nat} {L : List Th} (h : Ls v a n c L) : ∀ g off, a = some ⟨g, off, none⟩ → 0 < n → g < v.heap.size := fun g off e hn => by
  have hL : 0 < L.length := by rw [← h.l]; exact hn
  obtain ⟨g', off', e', hr⟩ := h.rows 0 (L[0]) (List.getElem?_eq_getElem hL)
  rw [e] at e'
  cases e'
  exact block_lt_of_cell (hr 0 _ (List.getElem?_eq_getElem (by rw [Th.clen (h.lens _ (List.getElem_mem hL))]; omega)))
end Go.Proofs.Ytjpcfdhkgfaeeaa
/- The reference's Put answers as the store's does. -/
namespace Go.Proofs.Ytjpcfdhkgfaeeaa
open Go.RowKit
open Di (dref dref_len)
set_option linter.unusedVariables false
set_option maxRecDepth 100000
theorem rd_loads {a : Act} {w : World} {x : Operand} {p : Addr} {v : Value} {o : Oper} (ho : o.op = .load 9 x) (hx : a.eval x = .pointer (some p)) (hc : w.cell? p = some v) : (execOp a.eval o).run Try.prog w = .ok (.value v) w := by
  unfold execOp
  rw [ho]
  simp only [hx]
  go_simp
theorem rd_add1 {a : Act} {w : World} {x : Operand} {p : Int} {o : Oper} (ho : o.op = .binOp .add 3 x (.const (.int .i64 1)) 3) (hx : a.eval x = .int .i64 p) (h1 : 1 ≤ p) (h2 : p ≤ 4294967295) : (execOp a.eval o).run Try.prog w = .ok (.value (.int .i64 (p + 1))) w := by
  unfold execOp
  rw [ho]
  have hw : IntKind.i64.wrap (p + 1) = p + 1 := by unfold IntKind.wrap; simp [IntKind.bits, IntKind.signed]; omega
  simp only [hx]
  go_simp
theorem ag_inB {w : World} {ad : Addr} {n c : Nat} {bs : List Int} (h : Ag w (some ad) n c bs) : Di.InB w (some ad) n c bs := by
  rcases h.i with ⟨h0, rfl⟩ | ⟨gb, off, e, h2, h3, h4, h5, hc⟩
  · exact .inr ⟨_, rfl, h.l, fun j u hu => by simp at hu⟩
  · cases e
    refine .inr ⟨_, rfl, h.l, fun j u hu => ?_⟩
    have hj : j < bs.length := by
      have := (List.getElem?_eq_some_iff.1 hu).1
      simpa using this
    rw [addr_add, hc j hj]
    rw [List.getElem?_map, List.getElem?_eq_getElem hj] at hu
    rw [← hu]
    simp [List.getD, List.getElem?_eq_getElem hj]
theorem rp_new (w : World) (most : Int) (a : Option Addr) (n c : Nat) : SBx w.heap.size (((w.alloc (.cells #[.int .i64 most, .slice a n c] 28)).alloc (.cells #[.int .i64 0, .slice none 0 0] 28)).alloc (.cells (B8 z32) 30)) most a n c ∧ SBx (w.heap.size + 1) (((w.alloc (.cells #[.int .i64 most, .slice a n c] 28)).alloc (.cells #[.int .i64 0, .slice none 0 0] 28)).alloc (.cells (B8 z32) 30)) 0 none 0 0 ∧ DBx (w.heap.size + 2) (((w.alloc (.cells #[.int .i64 most, .slice a n c] 28)).alloc (.cells #[.int .i64 0, .slice none 0 0] 28)).alloc (.cells (B8 z32) 30)) z32 ∧ Below w.heap.size w (((w.alloc (.cells #[.int .i64 most, .slice a n c] 28)).alloc (.cells #[.int .i64 0, .slice none 0 0] 28)).alloc (.cells (B8 z32) 30)) ∧ (((w.alloc (.cells #[.int .i64 most, .slice a n c] 28)).alloc (.cells #[.int .i64 0, .slice none 0 0] 28)).alloc (.cells (B8 z32) 30)).heap.size = w.heap.size + 3 := by
  have s1 : (w.alloc (.cells #[.int .i64 most, .slice a n c] 28)).heap.size = w.heap.size + 1 := by simp
  have s2 : ((w.alloc (.cells #[.int .i64 most, .slice a n c] 28)).alloc (.cells #[.int .i64 0, .slice none 0 0] 28)).heap.size = w.heap.size + 2 := by simp
  have h1 : SBx w.heap.size (w.alloc (.cells #[.int .i64 most, .slice a n c] 28)) most a n c := heap_alloc_new _ _
  have h2 : SBx (w.heap.size + 1) ((w.alloc (.cells #[.int .i64 most, .slice a n c] 28)).alloc (.cells #[.int .i64 0, .slice none 0 0] 28)) 0 none 0 0 := by unfold SBx; rw [← s1]; exact heap_alloc_new _ _
  have h3 := dbx_new ((w.alloc (.cells #[.int .i64 most, .slice a n c] 28)).alloc (.cells #[.int .i64 0, .slice none 0 0] 28)) z32 rfl
  rw [s2] at h3
  exact ⟨(h1.go (below_new _ _)).go (below_new _ _), h2.go (below_new _ _), h3, below_go (below_go (below_new _ _) (below_new _ _)) (below_new _ _), by simp⟩
set_option maxHeartbeats 8000000 in
theorem rput_any (most : Int) (a : Option Addr) (n c : Nat) (L : List Th) (s : ByteArray) (w : World) (h : Ls w a n c L) (hr : Rng L) (hn : n ≤ 2199023255549) (hs : s.size ≤ 140737488351232) :
    Calls Try.prog 18 #[.agg #[.int .i64 most, .slice a n c], .string s] w fun e w' => (∃ a' n' c', e = .returned (.tuple #[.agg #[.int .i64 most, .slice a' n' c'], .agg (B8 (putP most s L).2.1), .int .i64 (putP most s L).2.2]) ∧ Ls w' a' n' c' (putP most s L).1) ∧ Below w.heap.size w w' := by
  have HH := Hid.mk h
  have HRN := Hid.mk hr
  have HSS := Hid.mk hs
  have HP0 := Hid.mk (rp_new w most a n c)
  have HL := Hid.mk h.l
  obtain ⟨d, hd⟩ : ∃ d, dref (nums s) = d := ⟨_, rfl⟩
  have hdl : d.length = 32 := by rw [← hd]; exact dref_len _
  obtain ⟨⟨L', d', e'⟩, hpr⟩ : ∃ x, putP most s L = x := ⟨_, rfl⟩
  rw [hpr]
  unfold putP at hpr
  rw [hd] at hpr
  have HPR := Hid.mk hpr
  have HD := Hid.mk hd
  have HDL := Hid.mk hdl
  clear h hr hs hd hdl hpr
  simp only
  go_enter Try.func18, Try.ntmps18
  go_upto_region 1 with fail
  refine gen_w (p := fun v => Code.wp _ _ _ _ v) (q := fun v => SBx w.heap.size v most a n c ∧ SBx (w.heap.size + 1) v 0 none 0 0 ∧ DBx (w.heap.size + 2) v z32 ∧ Below w.heap.size w v ∧ v.heap.size = w.heap.size + 3) HP0.out ?_
  clear HP0
  rintro v ⟨hsb, hrb, hqb, hbe, hsz⟩
  have HSB := Hid.mk hsb
  have HRB := Hid.mk hrb
  have HQB := Hid.mk hqb
  have HBE := Hid.mk hbe
  have HSZ := Hid.mk hsz
  clear hsb hrb hqb hbe hsz
  rename_i KK hkk
  refine wp_region_lit ?_
  refine wl_pure 10 (.string s) rfl (by kernel_rfl) (by kernel_rfl) ?_
  refine wl_run 11 (.slice (some ⟨v.heap.size, 0, none⟩) s.size (grownCap v s.size 0 5)) rfl (by kernel_rfl) (rd_convX rfl (by kernel_rfl) (str_conv v s)) ?_
  have hag := bytes_ag v s HSS.out
  refine wl_call 12 rfl (by kernel_rfl) 20 #[.slice (some ⟨v.heap.size, 0, none⟩) s.size (grownCap v s.size 0 5)] (by kernel_rfl) (R := fun val w' => val = .agg (B8 d) ∧ Below (Lib.bytesWorld v 5 s).heap.size (Lib.bytesWorld v 5 s) w') ((Di.rof_any _ _ _ (nums s) _ (ag_inB hag) (nums_b s) (by rw [nums_len]; exact HSS.out)).mono (fun e w' h => ⟨_, h.1, by rw [← HD.out]; rfl, h.2⟩)) ?_
  rintro val v2 ⟨rfl, hb2⟩
  have hbb := below_go (bytes_below v s) hb2
  refine wl_run 7 (.pointer (some ⟨v2.heap.size, 0, none⟩)) rfl (by kernel_rfl) (rd_allocD rfl) ?_
  refine wl_skip rfl (by kernel_rfl) (rd_store 30 _ _ rfl v2.heap.size (B8 d) (by kernel_rfl) (by kernel_rfl) 30 (B8 z32) (heap_alloc_new _ _) (infoD d HDL.out) (z8_size HDL.out) (B8_ones _)) ?_
  refine hkk _ _ ?_
  have hb3 : Below v2.heap.size v2 ((v2.alloc (.cells (B8 z32) 30)).setRow v2.heap.size (B8 d)) := Below.setRow (below_new _ _) (Nat.le_refl _) _
  have hb4 := below_go hbb hb3
  have HP := Hid.mk (show Rp w ((v2.alloc (.cells (B8 z32) 30)).setRow v2.heap.size (B8 d)) most a n c v2.heap.size d from ⟨HSB.out.go hb4, HRB.out.go hb4, HQB.out.go hb4, ⟨setRow_heap _ _ _ _ _ _ (heap_alloc_new _ _), HDL.out⟩, below_go HBE.out hb4, by have h2 := hbb.size; have := HSZ.out; omega⟩)
  generalize (v2.alloc (.cells (B8 z32) 30)).setRow v2.heap.size (B8 d) = u at HP ⊢
  obtain ⟨gD, hgD⟩ : ∃ gD, v2.heap.size = gD := ⟨_, rfl⟩
  rw [hgD] at HP ⊢
  obtain ⟨c2, hc2⟩ : ∃ c2, grownCap v s.size 0 5 = c2 := ⟨_, rfl⟩
  rw [hc2]
  clear HSB HRB HQB HBE HSZ hb2 hb3 hb4 hbb hag hkk hgD hc2
  go_frame
  have HAT := Hid.mk (rat_any most a n c L d HDL.out u (HH.out.go HP.out.bel) (by omega))
  go_upto_region 2 with fail
  rename_i KK hkk
  refine wp_region_lit ?_
  refine wl_pure 13 (.agg #[.int .i64 most, .slice a n c]) rfl (by kernel_rfl) (rd_loadS rfl (by kernel_rfl) HP.out.sb) ?_
  refine wl_pure 14 (.agg (B8 d)) rfl (by kernel_rfl) (rd_loadDd rfl (by kernel_rfl) HP.out.db) ?_
  refine wl_call 15 rfl (by kernel_rfl) 22 #[.agg #[.int .i64 most, .slice a n c], .agg (B8 d)] (by kernel_rfl) (R := fun val w' => val = .int .i64 (atT d L) ∧ Below u.heap.size u w') (HAT.out.mono (fun e w' h => ⟨_, h.1, rfl, h.2⟩)) ?_
  rintro val u1 ⟨rfl, hb1⟩
  refine wl_pure 8 (.int .i64 (atT d L)) rfl (by kernel_rfl) (by kernel_rfl) ?_
  refine hkk _ _ ?_
  have hP1 := HP.out.go hb1
  clear HP hb1 hkk HAT
  have HP := Hid.mk hP1
  clear hP1
  go_frame
  cases hf : findT d L with
  | none =>
    have hat : atT d L = -1 := by unfold atT; rw [hf]
    rw [hat]
    have hpr := HPR.out
    rw [hf] at hpr
    have hpr : (if most ≤ L.length then (L, z32, (62 : Int)) else (putT ⟨d, s, 1⟩ L, d, 0)) = (L', d', e') := hpr
    have c0 := HP.out.sb.c0
    have c1 := HP.out.sb.c1
    by_cases hfull : most ≤ L.length
    · rw [if_pos hfull] at hpr
      cases hpr
      have hfi : (n : Int) ≥ most := by rw [HL.out]; exact hfull
      clear hat
      go_upto_region 10 with fail
      rename_i KK hkk
      refine wp_region_lit ?_
      refine wl_pure 54 (.agg #[.int .i64 most, .slice a n c]) rfl (by kernel_rfl) (rd_loadS rfl (by kernel_rfl) HP.out.sb) ?_
      refine wl_pure 55 (.agg (B8 z32)) rfl (by kernel_rfl) (rd_build 30 _ rfl [] (by kernel_rfl) _ built_D) ?_
      refine wl_skip rfl (by kernel_rfl) (rd_store 28 _ _ rfl (w.heap.size + 1) #[.int .i64 most, .slice a n c] (by kernel_rfl) (by kernel_rfl) 28 #[.int .i64 0, .slice none 0 0] HP.out.rb (by kernel_rfl) rfl (s_one _ _ _ _)) ?_
      refine wl_skip rfl (by kernel_rfl) (rd_store 30 _ _ rfl (w.heap.size + 2) (B8 z32) (by kernel_rfl) (by kernel_rfl) 30 (B8 z32) ((setRow_other _ _ _ _ (by omega)).trans HP.out.qb.row) (infoD z32 rfl) rfl (B8_ones _)) ?_
      refine wl_pure 6 (.int .i64 62) rfl (by kernel_rfl) (by kernel_rfl) ?_
      refine hkk _ _ ?_
      have HEND := Hid.mk (rp_end HP.out (m := most) a n c z32 rfl)
      have HLS := Hid.mk (show Ls ((u1.setRow (w.heap.size + 1) #[.int .i64 most, .slice a n c]).setRow (w.heap.size + 2) (B8 z32)) a n c L from (HH.out.go HP.out.bel).ends (fun g off e hn => by have := HH.out.lt g off e hn; omega))
      clear hkk
      generalize (u1.setRow (w.heap.size + 1) #[.int .i64 most, .slice a n c]).setRow (w.heap.size + 2) (B8 z32) = uE at HEND HLS ⊢
      go_frame
      go_wp2_with fail
      refine bodyPost_ret (results_sd Try.results18 _ _ (w.heap.size + 1) (w.heap.size + 2) most a n c z32 rfl rfl rfl HEND.out.1 HEND.out.2.1) rfl ?_
      exact ⟨⟨a, n, c, rfl, HLS.out⟩, HEND.out.2.2⟩
    · rw [if_neg hfull] at hpr
      cases hpr
      have hfi : ¬ (n : Int) ≥ most := by rw [HL.out]; exact hfull
      have HPT := Hid.mk (show putT ⟨d, s, 1⟩ L = L ++ [⟨d, s, 1⟩] from by unfold putT; simp only; rw [hf])
      clear hat hf
      go_upto_region 11 with fail
      rename_i KK hkk
      refine wp_region_lit ?_
      refine wl_pure 56 (.pointer (some ⟨w.heap.size, 0, none⟩)) rfl (by kernel_rfl) (by kernel_rfl) ?_
      refine wl_pure 57 (.int .i64 most) rfl (by kernel_rfl) (rd_loadi rfl (by kernel_rfl) c0) ?_
      refine wl_pure 58 (.agg #[.int .i64 most, .slice none 0 0]) rfl (by kernel_rfl) (rd_build 28 _ rfl [(0, .int .i64 most)] (by kernel_rfl) _ (built_RS _)) ?_
      refine wl_run 9 (.pointer (some ⟨u1.heap.size, 0, none⟩)) rfl (by kernel_rfl) (rd_allocS rfl) ?_
      refine wl_skip rfl (by kernel_rfl) (rd_store 28 _ _ rfl u1.heap.size #[.int .i64 most, .slice none 0 0] (by kernel_rfl) (by kernel_rfl) 28 #[.int .i64 0, .slice none 0 0] (heap_alloc_new _ _) (by kernel_rfl) rfl (s_one _ _ _ _)) ?_
      refine hkk _ _ ?_
      have hbT : Below u1.heap.size u1 ((u1.alloc (.cells #[.int .i64 0, .slice none 0 0] 28)).setRow u1.heap.size #[.int .i64 most, .slice none 0 0]) := Below.setRow (below_new _ _) (Nat.le_refl _) _
      have hTB : SBx u1.heap.size ((u1.alloc (.cells #[.int .i64 0, .slice none 0 0] 28)).setRow u1.heap.size #[.int .i64 most, .slice none 0 0]) most none 0 0 := setRow_heap _ _ _ _ _ _ (heap_alloc_new _ _)
      have hzT : u1.heap.size + 1 ≤ ((u1.alloc (.cells #[.int .i64 0, .slice none 0 0] 28)).setRow u1.heap.size #[.int .i64 most, .slice none 0 0]).heap.size := by simp
      have hP2 := HP.out.go hbT
      have hgT : gD < u1.heap.size := lt_of_get HP.out.db.row
      generalize (u1.alloc (.cells #[.int .i64 0, .slice none 0 0] 28)).setRow u1.heap.size #[.int .i64 most, .slice none 0 0] = u2 at hTB hP2 hzT ⊢
      obtain ⟨gT, hgT'⟩ : ∃ gT, u1.heap.size = gT := ⟨_, rfl⟩
      rw [hgT'] at hTB hgT hzT ⊢
      clear HP hbT hkk c0 c1 hgT'
      have HP := Hid.mk hP2
      have HTB := Hid.mk hTB
      have HGT := Hid.mk hgT
      have HZT := Hid.mk hzT
      clear hP2 hTB hgT hzT
      go_frame
      obtain ⟨v3, w3, hrun, hown, hb3⟩ := app_all (HH.out.go HP.out.bel) (gT + 1) HZT.out (by omega) 26
      obtain ⟨ta, tc, hv3, hls, -⟩ := ownO_ls hown HH.out.lens
      subst hv3
      rw [← HL.out] at hrun hown
      have HRUN := Hid.mk hrun
      have hTB3 : SBx gT w3 most none 0 0 := (hb3.block gT (by omega)).trans HTB.out
      have hP3 : Rp w (w3.setCell ⟨gT, 1, none⟩ (.slice ta n tc)) most a n c gD d := by
        have h1 := HP.out.gd
        have h2 := HGT.out
        have ho : ∀ k, k ≠ gT → k < gT + 1 → (w3.setCell ⟨gT, 1, none⟩ (.slice ta n tc)).heap[k]? = u2.heap[k]? := fun k hk hk' => (heap_setCell_other _ _ _ _ hk).trans (hb3.block k hk')
        exact ⟨(ho _ (by omega) (by omega)).trans HP.out.sb, (ho _ (by omega) (by omega)).trans HP.out.rb, ⟨(ho _ (by omega) (by omega)).trans HP.out.qb.row, rfl⟩, ⟨(ho _ (by omega) (by omega)).trans HP.out.db.row, HDL.out⟩, (HP.out.bel.trans (hb3.mono (by omega))).setCell (by show w.heap.size ≤ gT; omega) _, h1⟩
      have hTB4 : SBx gT (w3.setCell ⟨gT, 1, none⟩ (.slice ta n tc)) most ta n tc := by
        unfold SBx
        rw [heap_setCell_same w3 gT 1 _ 28 _ hTB3]
        rfl
      have hO4 : OwnO (w3.setCell ⟨gT, 1, none⟩ (.slice ta n tc)) (gT + 1) (.slice ta n tc) L := ownO_keep hown (fun g hg _ => heap_setCell_other _ _ _ _ (by show g ≠ gT; omega))
      have hz4 : gT + 1 ≤ (w3.setCell ⟨gT, 1, none⟩ (.slice ta n tc)).heap.size := by have h1 := hb3.size; have h2 := HZT.out; simp; omega
      have HTB3 := Hid.mk hTB3
      have HSB2 := Hid.mk HP.out.sb
      have HSB3 := Hid.mk (show SBx w.heap.size u2 most a n c from HP.out.sb)
      clear hrun hb3 hls hTB3 hown
      go_upto_region 12 with fail
      rename_i KK2 hkk
      refine wp_region_lit ?_
      refine wl_pure 59 (.pointer (some ⟨gT, 1, none⟩)) rfl (by kernel_rfl) (by kernel_rfl) ?_
      refine wl_pure 60 (.slice none 0 0) rfl (by kernel_rfl) (rd_loadOL rfl (by kernel_rfl) HTB.out.c1) ?_
      refine wl_pure 61 (.pointer (some ⟨w.heap.size, 1, none⟩)) rfl (by kernel_rfl) (by kernel_rfl) ?_
      refine wl_pure 62 (.slice a n c) rfl (by kernel_rfl) (rd_loadOL rfl (by kernel_rfl) HSB3.out.c1) ?_
      refine wl_run 63 (.slice ta n tc) rfl (by kernel_rfl) (rd_appO rfl (.slice none 0 0) (.slice a n c) (by kernel_rfl) (by kernel_rfl) HRUN.out) ?_
      refine wl_pure 64 (.pointer (some ⟨gT, 1, none⟩)) rfl (by kernel_rfl) (by kernel_rfl) ?_
      refine wl_skip rfl (by kernel_rfl) (rd_storeOL rfl gT 1 ta n tc _ (by kernel_rfl) (by kernel_rfl) HTB3.out.c1 HTB3.out.fz) ?_
      refine hkk _ _ ?_
      generalize w3.setCell ⟨gT, 1, none⟩ (.slice ta n tc) = u4 at hP3 hTB4 hO4 hz4 ⊢
      clear hkk HP HTB HTB3 HRUN HSB2 HSB3
      have HP := Hid.mk hP3
      have HTB := Hid.mk hTB4
      have HO := Hid.mk hO4
      have HZ := Hid.mk hz4
      clear hP3 hTB4 hO4 hz4
      go_frame
      obtain ⟨v5, w5, hrun, hown, hb5⟩ := app_things (zs := [⟨d, s, 1⟩]) (w := u4.alloc (.cells (Th.cells ⟨d, s, 1⟩).toArray 60)) (ad := ⟨u4.heap.size, 0, none⟩) (c := 1) (ownO_keep HO.out (fun g hg hl => (below_new u4 _).block g hl)) (fun z hz => by simp only [List.mem_cons, List.not_mem_nil, or_false] at hz; rw [hz]; exact HDL.out) (fun q t ht => by
        rw [flatO_one] at ht
        rw [addr_add, Nat.zero_add, cell_of_row _ _ _ _ _ _ (heap_alloc_new u4 _), List.getElem?_toArray]
        exact ht) (by have := HZ.out; simp; omega) (by have := HL.out; simp; omega) 26
      obtain ⟨tb, td, hv5, hls, hnw⟩ := ownO_ls hown (fun z hz => by
        rcases List.mem_append.1 hz with hz | hz
        · exact HH.out.lens z hz
        · simp only [List.mem_cons, List.not_mem_nil, or_false] at hz; rw [hz]; exact HDL.out)
      obtain ⟨m5, hm5⟩ : ∃ m5, (L ++ [(⟨d, s, 1⟩ : Th)]).length = m5 := ⟨_, rfl⟩
      rw [hm5] at hv5 hls
      subst hv5
      have HRUN := Hid.mk hrun
      have hTB5 : SBx gT w5 most ta n tc := (hb5.block gT (by omega)).trans (HTB.out.go (below_new u4 _))
      have hP6 : Rp w (w5.setCell ⟨gT, 1, none⟩ (.slice tb m5 td)) most a n c gD d := by
        have h1 := HP.out.gd
        have h2 := HGT.out
        have hP5 := HP.out.go (below_new u4 (.cells (Th.cells ⟨d, s, 1⟩).toArray 60))
        have ho : ∀ k, k ≠ gT → k < gT + 1 → (w5.setCell ⟨gT, 1, none⟩ (.slice tb m5 td)).heap[k]? = (u4.alloc (.cells (Th.cells ⟨d, s, 1⟩).toArray 60)).heap[k]? := fun k hk hk' => (heap_setCell_other _ _ _ _ hk).trans (hb5.block k hk')
        exact ⟨(ho _ (by omega) (by omega)).trans hP5.sb, (ho _ (by omega) (by omega)).trans hP5.rb, ⟨(ho _ (by omega) (by omega)).trans hP5.qb.row, rfl⟩, ⟨(ho _ (by omega) (by omega)).trans hP5.db.row, HDL.out⟩, (hP5.bel.trans (hb5.mono (by omega))).setCell (by show w.heap.size ≤ gT; omega) _, h1⟩
      have hTB6 : SBx gT (w5.setCell ⟨gT, 1, none⟩ (.slice tb m5 td)) most tb m5 td := by
        unfold SBx
        rw [heap_setCell_same w5 gT 1 _ 28 _ hTB5]
        rfl
      have hls6 : Ls (w5.setCell ⟨gT, 1, none⟩ (.slice tb m5 td)) tb m5 td (L ++ [⟨d, s, 1⟩]) := hls.keep (fun g off e _ => heap_setCell_other _ _ _ _ (by have := hnw g off e; show g ≠ gT; omega))
      have HTB5 := Hid.mk hTB5
      have HNW := Hid.mk hnw
      have HPX := Hid.mk HP.out
      clear hrun hb5 hls hTB5 hown hm5 hnw
      go_upto_region 13 with fail
      rename_i KK3 hkk
      refine wp_region_lit ?_
      refine wl_pure 65 (.pointer (some ⟨gT, 1, none⟩)) rfl (by kernel_rfl) (by kernel_rfl) ?_
      refine wl_pure 66 (.slice ta n tc) rfl (by kernel_rfl) (rd_loadOL rfl (by kernel_rfl) HTB.out.c1) ?_
      refine wl_pure 67 (.agg (B8 d)) rfl (by kernel_rfl) (rd_loadDd rfl (by kernel_rfl) HPX.out.db) ?_
      refine wl_pure 68 (.string s) rfl (by kernel_rfl) (by kernel_rfl) ?_
      refine wl_pure 69 (.agg (Th.cells ⟨d, s, 1⟩).toArray) rfl (by kernel_rfl) (rd_build 60 _ rfl [(0, .agg (B8 d)), (1, .string s), (2, .int .i64 1)] (by kernel_rfl) _ (built_O ⟨d, s, 1⟩ HDL.out)) ?_
      refine wl_run 70 (.slice (some ⟨u4.heap.size, 0, none⟩) 1 1) rfl (by kernel_rfl) (rd_buildO rfl ⟨d, s, 1⟩ HDL.out (by kernel_rfl)) ?_
      refine wl_run 71 (.slice tb m5 td) rfl (by kernel_rfl) (rd_appO rfl (.slice ta n tc) (.slice (some ⟨u4.heap.size, 0, none⟩) 1 1) (by kernel_rfl) (by kernel_rfl) HRUN.out) ?_
      refine wl_pure 72 (.pointer (some ⟨gT, 1, none⟩)) rfl (by kernel_rfl) (by kernel_rfl) ?_
      refine wl_skip rfl (by kernel_rfl) (rd_storeOL rfl gT 1 tb m5 td _ (by kernel_rfl) (by kernel_rfl) HTB5.out.c1 HTB5.out.fz) ?_
      refine hkk _ _ ?_
      generalize w5.setCell ⟨gT, 1, none⟩ (.slice tb m5 td) = u6 at hP6 hTB6 hls6 ⊢
      clear hkk HP HTB HTB5 HRUN HPX HO HZ
      have HP := Hid.mk hP6
      have HTB := Hid.mk hTB6
      have HLS := Hid.mk hls6
      clear hP6 hTB6 hls6
      go_frame
      go_upto_region 14 with fail
      rename_i KK4 hkk
      refine wp_region_held_drew (S := fun v' => SBx gT v' most tb m5 td ∧ DBx gD v' d) (by kernel_rfl) ⟨HTB.out.go (Below.refl _ _).drew, HP.out.drew.db⟩ (fun hS => ?_)
      refine rd_take 0 73 (.agg #[.int .i64 most, .slice tb m5 td]) rfl rfl (by kernel_rfl) (by kernel_rfl) (by kernel_rfl) (fun _ _ _ h => h) (by kernel_rfl) (fun v' hv => rd_loadS rfl (by kernel_rfl) hv.1) hS ?_
      refine rd_take 1 74 (.agg (B8 d)) rfl rfl (by kernel_rfl) (by kernel_rfl) (by kernel_rfl) (fun _ _ _ h => h) (by kernel_rfl) (fun v' hv => rd_loadDd rfl (by kernel_rfl) hv.2) hS ?_
      have hP2 := HP.out.drew
      have hS1 : SBx gT (u6.drew.setRow (w.heap.size + 1) #[.int .i64 most, .slice tb m5 td]) most tb m5 td ∧ DBx gD (u6.drew.setRow (w.heap.size + 1) #[.int .i64 most, .slice tb m5 td]) d := ⟨(setRow_other _ _ _ _ (by have := hP2.gd; have := HGT.out; omega)).trans hS.1, ⟨(setRow_other _ _ _ _ (by have := hP2.gd; omega)).trans hS.2.row, HDL.out⟩⟩
      have hS2 : SBx gT ((u6.drew.setRow (w.heap.size + 1) #[.int .i64 most, .slice tb m5 td]).setRow (w.heap.size + 2) (B8 d)) most tb m5 td ∧ DBx gD ((u6.drew.setRow (w.heap.size + 1) #[.int .i64 most, .slice tb m5 td]).setRow (w.heap.size + 2) (B8 d)) d := ⟨(setRow_other _ _ _ _ (by have := hP2.gd; have := HGT.out; omega)).trans hS1.1, ⟨(setRow_other _ _ _ _ (by have := hP2.gd; omega)).trans hS1.2.row, HDL.out⟩⟩
      refine wpAnyH_ready (rs := [2]) (by kernel_rfl) (by simp) ?_
      refine rd_run0 2 rfl rfl (by kernel_rfl) (rd_store 28 _ _ rfl (w.heap.size + 1) #[.int .i64 most, .slice tb m5 td] (by kernel_rfl) (by kernel_rfl) 28 #[.int .i64 0, .slice none 0 0] hP2.rb (by kernel_rfl) rfl (s_one _ _ _ _)) hS1 ?_ AllReadyH.nil
      refine wpAnyH_ready (rs := [3]) (by kernel_rfl) (by simp) ?_
      refine rd_run0 3 rfl rfl (by kernel_rfl) (rd_store 30 _ _ rfl (w.heap.size + 2) (B8 d) (by kernel_rfl) (by kernel_rfl) 30 (B8 z32) ((setRow_other _ _ _ _ (by omega)).trans hP2.qb.row) (infoD d HDL.out) (z8_size HDL.out) (B8_ones _)) hS2 ?_ AllReadyH.nil
      refine rd_take 4 6 (.int .i64 0) rfl rfl (by kernel_rfl) (by kernel_rfl) (by kernel_rfl) (fun _ _ _ h => h) (by kernel_rfl) (fun v _ => by kernel_rfl) hS2 ?_
      refine wpAnyH_done (by kernel_rfl) ?_ _
      refine hkk _ _ ?_
      have HEND := Hid.mk (rp_end hP2 (m := most) tb m5 td d HDL.out)
      have HLE := Hid.mk (show Ls ((u6.drew.setRow (w.heap.size + 1) #[.int .i64 most, .slice tb m5 td]).setRow (w.heap.size + 2) (B8 d)) tb m5 td (putT ⟨d, s, 1⟩ L) from by rw [HPT.out]; exact (HLS.out.go (Below.refl _ _).drew).ends (fun g off e hm => by have := HNW.out g off e; have := HP.out.gd; have := HGT.out; omega))
      clear hkk hS hS1 hS2 hP2
      generalize (u6.drew.setRow (w.heap.size + 1) #[.int .i64 most, .slice tb m5 td]).setRow (w.heap.size + 2) (B8 d) = uE at HEND HLE ⊢
      go_frame
      go_wp2_with fail
      refine bodyPost_ret (results_sd Try.results18 _ _ (w.heap.size + 1) (w.heap.size + 2) most tb m5 td d HDL.out rfl rfl HEND.out.1 HEND.out.2.1) rfl ?_
      exact ⟨⟨tb, m5, td, rfl, HLE.out⟩, HEND.out.2.2⟩
  | some p =>
    obtain ⟨j, y⟩ := p
    have hat : atT d L = (j : Int) := by unfold atT; rw [hf]
    rw [hat]
    obtain ⟨hj, hyd⟩ := findT_some hf
    have hjl : j < n := by rw [HL.out]; exact (List.getElem?_eq_some_iff.1 hj).1
    obtain ⟨g, off, ha, hrg⟩ := HH.out.rows j y hj
    have HYL := Hid.mk (HH.out.lens y (List.mem_of_getElem? hj))
    have HRG := Hid.mk hrg
    have HAE := Hid.mk ha
    have hji : (j : Int) ≥ 0 := by omega
    obtain ⟨hr1, hr2⟩ := HRN.out.find hf
    have HF := Hid.mk hf
    have hpr := HPR.out
    rw [hf] at hpr
    have hpr : (if y.s ≠ s then (L, z32, (60 : Int)) else if 4294967295 ≤ y.r then (L, z32, 62) else (putT ⟨d, s, y.r + 1⟩ L, d, 0)) = (L', d', e') := hpr
    have hc1 : ∀ v', Rp w v' most a n c gD d → v'.cell? ⟨w.heap.size, 1, none⟩ = some (.slice (some ⟨g, off, none⟩) n c) := fun v' hv => by have := hv.sb.c1; rwa [HAE.out] at this
    have HC1 := Hid.mk hc1
    have HYR := Hid.mk (show ∀ v', Rp w v' most a n c gD d → v'.rangeAt g (off + j * 34) y.cells from fun v' hv => range_keep HRG.out (fun hl => hv.bel.block g hl))
    clear hat hf hj hyd ha hrg hc1
    go_upto_region 4 with fail
    rename_i KK hkk
    refine wp_region_lit ?_
    refine wl_pure 18 (.pointer (some ⟨w.heap.size, 1, none⟩)) rfl (by kernel_rfl) (by kernel_rfl) ?_
    refine wl_pure 19 (.slice (some ⟨g, off, none⟩) n c) rfl (by kernel_rfl) (rd_loadOL rfl (by kernel_rfl) (HC1.out _ HP.out)) ?_
    refine wl_pure 20 (.int .i64 j) rfl (by kernel_rfl) (by kernel_rfl) ?_
    refine wl_pure 21 (.pointer (some ⟨g, off + j * 34, none⟩)) rfl (by kernel_rfl) (rd_indexO (m := n) (c := c) rfl (by kernel_rfl) (by kernel_rfl) hjl) ?_
    refine wl_pure 22 (.pointer (some ⟨g, off + j * 34 + 32, none⟩)) rfl (by kernel_rfl) (by kernel_rfl) ?_
    refine wl_pure 23 (.string y.s) rfl (by kernel_rfl) (rd_loads rfl (by kernel_rfl) (HYR.out _ HP.out 32 _ (Th.c32 HYL.out))) ?_
    refine wl_pure 24 (.string s) rfl (by kernel_rfl) (by kernel_rfl) ?_
    obtain ⟨q, hq⟩ : ∃ q, decide (y.s ≠ s) = q := ⟨_, rfl⟩
    refine wl_pure 25 (.bool q) rfl (by kernel_rfl) (rd_neqS rfl (by kernel_rfl) (by kernel_rfl) (text_ne.trans hq)) ?_
    refine hkk _ _ ?_
    clear hkk
    go_frame
    by_cases hne : y.s ≠ s
    · rw [decide_eq_true hne] at hq
      subst hq
      rw [if_pos hne] at hpr
      cases hpr
      clear hne
      go_upto_region 5 with fail
      rename_i KK hkk
      refine wp_region_lit ?_
      refine wl_pure 26 (.agg #[.int .i64 most, .slice a n c]) rfl (by kernel_rfl) (rd_loadS rfl (by kernel_rfl) HP.out.sb) ?_
      refine wl_pure 27 (.agg (B8 z32)) rfl (by kernel_rfl) (rd_build 30 _ rfl [] (by kernel_rfl) _ built_D) ?_
      refine wl_skip rfl (by kernel_rfl) (rd_store 28 _ _ rfl (w.heap.size + 1) #[.int .i64 most, .slice a n c] (by kernel_rfl) (by kernel_rfl) 28 #[.int .i64 0, .slice none 0 0] HP.out.rb (by kernel_rfl) rfl (s_one _ _ _ _)) ?_
      refine wl_skip rfl (by kernel_rfl) (rd_store 30 _ _ rfl (w.heap.size + 2) (B8 z32) (by kernel_rfl) (by kernel_rfl) 30 (B8 z32) ((setRow_other _ _ _ _ (by omega)).trans HP.out.qb.row) (infoD z32 rfl) rfl (B8_ones _)) ?_
      refine wl_pure 6 (.int .i64 60) rfl (by kernel_rfl) (by kernel_rfl) ?_
      refine hkk _ _ ?_
      have HEND := Hid.mk (rp_end HP.out (m := most) a n c z32 rfl)
      have HLS := Hid.mk (show Ls ((u1.setRow (w.heap.size + 1) #[.int .i64 most, .slice a n c]).setRow (w.heap.size + 2) (B8 z32)) a n c L from (HH.out.go HP.out.bel).ends (fun g off e hn => by have := HH.out.lt g off e hn; omega))
      clear hkk
      generalize (u1.setRow (w.heap.size + 1) #[.int .i64 most, .slice a n c]).setRow (w.heap.size + 2) (B8 z32) = uE at HEND HLS ⊢
      go_frame
      go_wp2_with fail
      refine bodyPost_ret (results_sd Try.results18 _ _ (w.heap.size + 1) (w.heap.size + 2) most a n c z32 rfl rfl rfl HEND.out.1 HEND.out.2.1) rfl ?_
      exact ⟨⟨a, n, c, rfl, HLS.out⟩, HEND.out.2.2⟩
    · have heq : y.s = s := Decidable.byContradiction hne
      rw [decide_eq_false hne] at hq
      subst hq
      rw [if_neg hne] at hpr
      go_upto_region 6 with fail
      rename_i KK2 hkk
      refine wp_region_lit ?_
      refine wl_pure 28 (.pointer (some ⟨w.heap.size, 1, none⟩)) rfl (by kernel_rfl) (by kernel_rfl) ?_
      refine wl_pure 29 (.slice (some ⟨g, off, none⟩) n c) rfl (by kernel_rfl) (rd_loadOL rfl (by kernel_rfl) (HC1.out _ HP.out)) ?_
      refine wl_pure 30 (.int .i64 j) rfl (by kernel_rfl) (by kernel_rfl) ?_
      refine wl_pure 31 (.pointer (some ⟨g, off + j * 34, none⟩)) rfl (by kernel_rfl) (rd_indexO (m := n) (c := c) rfl (by kernel_rfl) (by kernel_rfl) hjl) ?_
      refine wl_pure 32 (.pointer (some ⟨g, off + j * 34 + 33, none⟩)) rfl (by kernel_rfl) (by kernel_rfl) ?_
      refine wl_pure 33 (.int .i64 y.r) rfl (by kernel_rfl) (rd_loadi rfl (by kernel_rfl) (HYR.out _ HP.out 33 _ (Th.c33 HYL.out))) ?_
      obtain ⟨q2, hq2⟩ : ∃ q2, decide (y.r ≥ 4294967295) = q2 := ⟨_, rfl⟩
      refine wl_pure 34 (.bool q2) rfl (by kernel_rfl) (rd_geqi rfl (by kernel_rfl) (by kernel_rfl) hq2) ?_
      refine hkk _ _ ?_
      clear hkk
      go_frame
      by_cases hmax : 4294967295 ≤ y.r
      · rw [decide_eq_true (show y.r ≥ 4294967295 from hmax)] at hq2
        subst hq2
        rw [if_pos hmax] at hpr
        cases hpr
        clear hmax
        go_upto_region 7 with fail
        rename_i KK hkk
        refine wp_region_lit ?_
        refine wl_pure 35 (.agg #[.int .i64 most, .slice a n c]) rfl (by kernel_rfl) (rd_loadS rfl (by kernel_rfl) HP.out.sb) ?_
        refine wl_pure 36 (.agg (B8 z32)) rfl (by kernel_rfl) (rd_build 30 _ rfl [] (by kernel_rfl) _ built_D) ?_
        refine wl_skip rfl (by kernel_rfl) (rd_store 28 _ _ rfl (w.heap.size + 1) #[.int .i64 most, .slice a n c] (by kernel_rfl) (by kernel_rfl) 28 #[.int .i64 0, .slice none 0 0] HP.out.rb (by kernel_rfl) rfl (s_one _ _ _ _)) ?_
        refine wl_skip rfl (by kernel_rfl) (rd_store 30 _ _ rfl (w.heap.size + 2) (B8 z32) (by kernel_rfl) (by kernel_rfl) 30 (B8 z32) ((setRow_other _ _ _ _ (by omega)).trans HP.out.qb.row) (infoD z32 rfl) rfl (B8_ones _)) ?_
        refine wl_pure 6 (.int .i64 62) rfl (by kernel_rfl) (by kernel_rfl) ?_
        refine hkk _ _ ?_
        have HEND := Hid.mk (rp_end HP.out (m := most) a n c z32 rfl)
        have HLS := Hid.mk (show Ls ((u1.setRow (w.heap.size + 1) #[.int .i64 most, .slice a n c]).setRow (w.heap.size + 2) (B8 z32)) a n c L from (HH.out.go HP.out.bel).ends (fun g off e hn => by have := HH.out.lt g off e hn; omega))
        clear hkk
        generalize (u1.setRow (w.heap.size + 1) #[.int .i64 most, .slice a n c]).setRow (w.heap.size + 2) (B8 z32) = uE at HEND HLS ⊢
        go_frame
        go_wp2_with fail
        refine bodyPost_ret (results_sd Try.results18 _ _ (w.heap.size + 1) (w.heap.size + 2) most a n c z32 rfl rfl rfl HEND.out.1 HEND.out.2.1) rfl ?_
        exact ⟨⟨a, n, c, rfl, HLS.out⟩, HEND.out.2.2⟩
      · rw [decide_eq_false (show ¬ y.r ≥ 4294967295 from hmax)] at hq2
        subst hq2
        rw [if_neg hmax] at hpr
        cases hpr
        have hwp : withL (j : Int) (y.r + 1) 0 L = putT ⟨d, s, y.r + 1⟩ L := by rw [with_put HRN.out HF.out (by omega), heq]
        have HWP := Hid.mk hwp
        clear hwp hne heq
        go_upto_region 8 with fail
        rename_i KK3 hkk
        refine wp_region_held_drew (S := fun v' => SBx w.heap.size v' most a n c ∧ DBx gD v' d ∧ v'.rangeAt g (off + j * 34) y.cells) (by kernel_rfl) ⟨HP.out.drew.sb, HP.out.drew.db, HYR.out _ HP.out.drew⟩ (fun hS => ?_)
        have hc2 : ∀ v', SBx w.heap.size v' most a n c → v'.cell? ⟨w.heap.size, 1, none⟩ = some (.slice (some ⟨g, off, none⟩) n c) := fun v' hv => by have := hv.c1; rwa [HAE.out] at this
        refine rd_take 0 37 (.agg #[.int .i64 most, .slice a n c]) rfl rfl (by kernel_rfl) (by kernel_rfl) (by kernel_rfl) (fun _ _ _ h => h) (by kernel_rfl) (fun v' hv => rd_loadS rfl (by kernel_rfl) hv.1) hS ?_
        refine rd_take 1 38 (.int .i64 j) rfl rfl (by kernel_rfl) (by kernel_rfl) (by kernel_rfl) (fun _ _ _ h => h) (by kernel_rfl) (fun v _ => by kernel_rfl) hS ?_
        refine rd_take 2 39 (.pointer (some ⟨w.heap.size, 1, none⟩)) rfl rfl (by kernel_rfl) (by kernel_rfl) (by kernel_rfl) (fun _ _ _ h => h) (by kernel_rfl) (fun v _ => by kernel_rfl) hS ?_
        refine rd_take 3 40 (.slice (some ⟨g, off, none⟩) n c) rfl rfl (by kernel_rfl) (by kernel_rfl) (by kernel_rfl) (fun _ _ _ h => h) (by kernel_rfl) (fun v' hv => rd_loadOL rfl (by kernel_rfl) (hc2 v' hv.1)) hS ?_
        refine rd_take 4 41 (.int .i64 j) rfl rfl (by kernel_rfl) (by kernel_rfl) (by kernel_rfl) (fun _ _ _ h => h) (by kernel_rfl) (fun v _ => by kernel_rfl) hS ?_
        refine rd_take 5 42 (.pointer (some ⟨g, off + j * 34, none⟩)) rfl rfl (by kernel_rfl) (by kernel_rfl) (by kernel_rfl) (fun _ _ _ h => h) (by kernel_rfl) (fun v' _ => rd_indexO (m := n) (c := c) rfl (by kernel_rfl) (by kernel_rfl) hjl) hS ?_
        refine rd_take 6 43 (.pointer (some ⟨g, off + j * 34 + 33, none⟩)) rfl rfl (by kernel_rfl) (by kernel_rfl) (by kernel_rfl) (fun _ _ _ h => h) (by kernel_rfl) (fun v _ => by kernel_rfl) hS ?_
        refine rd_take 7 44 (.int .i64 y.r) rfl rfl (by kernel_rfl) (by kernel_rfl) (by kernel_rfl) (fun _ _ _ h => h) (by kernel_rfl) (fun v' hv => rd_loadi rfl (by kernel_rfl) (hv.2.2 33 _ (Th.c33 HYL.out))) hS ?_
        refine rd_take 8 45 (.int .i64 (y.r + 1)) rfl rfl (by kernel_rfl) (by kernel_rfl) (by kernel_rfl) (fun _ _ _ h => h) (by kernel_rfl) (fun v' _ => rd_add1 rfl (by kernel_rfl) (by omega) (by omega)) hS ?_
        refine rd_take 10 47 (.agg (B8 d)) rfl rfl (by kernel_rfl) (by kernel_rfl) (by kernel_rfl) (fun _ _ _ h => h) (by kernel_rfl) (fun v' hv => rd_loadDd rfl (by kernel_rfl) hv.2.1) hS ?_
        refine wpAnyH_ready (rs := [9]) (by kernel_rfl) (by simp) ?_
        refine rd_call 9 46 rfl rfl (by kernel_rfl) 32 #[.agg #[.int .i64 most, .slice a n c], .int .i64 j, .int .i64 (y.r + 1)] (by kernel_rfl) (R := fun val w' => (∃ a' m' c', val = .agg #[.int .i64 most, .slice a' m' c'] ∧ Ls w' a' m' c' (putT ⟨d, s, y.r + 1⟩ L) ∧ ∀ g off, a' = some ⟨g, off, none⟩ → 0 < m' → w.heap.size + 3 ≤ g) ∧ Below u1.drew.heap.size u1.drew w') ((rwith_any most a n c L j (y.r + 1) u1.drew (HH.out.go HP.out.drew.bel) (by omega)).mono (fun e w' h => by
            obtain ⟨⟨a', m', c', e1, e2, e3⟩, hb⟩ := h
            rw [HWP.out] at e2
            exact ⟨_, e1, ⟨a', m', c', rfl, e2, fun g off q hm => Nat.le_trans (by have h1 := HP.out.gd; have h2 := lt_of_get HP.out.db.row; show w.heap.size + 3 ≤ u1.heap.size; omega) (e3 g off q)⟩, hb⟩)) (fun val w' h => ⟨hS.1.go h.2, hS.2.1.go h.2, range_keep hS.2.2 (fun hl => h.2.block g hl)⟩) ?_ AllReadyH.nil
        rintro val p1 ⟨⟨a', m', c', rfl, hls, hnw⟩, hbp⟩
        have hP2 := HP.out.drew.go hbp
        have hg1 : g < w.heap.size := HH.out.lt g off HAE.out (by omega)
        have hS1 : SBx w.heap.size (p1.setRow (w.heap.size + 1) #[.int .i64 most, .slice a' m' c']) most a n c ∧ DBx gD (p1.setRow (w.heap.size + 1) #[.int .i64 most, .slice a' m' c']) d ∧ (p1.setRow (w.heap.size + 1) #[.int .i64 most, .slice a' m' c']).rangeAt g (off + j * 34) y.cells := ⟨(setRow_other _ _ _ _ (by omega)).trans hP2.sb, ⟨(setRow_other _ _ _ _ (by have := hP2.gd; omega)).trans hP2.db.row, HDL.out⟩, range_keep (HYR.out _ hP2) (fun _ => setRow_other _ _ _ _ (by omega))⟩
        have hS2 : SBx w.heap.size ((p1.setRow (w.heap.size + 1) #[.int .i64 most, .slice a' m' c']).setRow (w.heap.size + 2) (B8 d)) most a n c ∧ DBx gD ((p1.setRow (w.heap.size + 1) #[.int .i64 most, .slice a' m' c']).setRow (w.heap.size + 2) (B8 d)) d ∧ ((p1.setRow (w.heap.size + 1) #[.int .i64 most, .slice a' m' c']).setRow (w.heap.size + 2) (B8 d)).rangeAt g (off + j * 34) y.cells := ⟨(setRow_other _ _ _ _ (by omega)).trans hS1.1, ⟨(setRow_other _ _ _ _ (by have := hP2.gd; omega)).trans hS1.2.1.row, HDL.out⟩, range_keep hS1.2.2 (fun _ => setRow_other _ _ _ _ (by omega))⟩
        refine wpAnyH_ready (rs := [11]) (by kernel_rfl) (by simp) ?_
        refine rd_run0 11 rfl rfl (by kernel_rfl) (rd_store 28 _ _ rfl (w.heap.size + 1) #[.int .i64 most, .slice a' m' c'] (by kernel_rfl) (by kernel_rfl) 28 #[.int .i64 0, .slice none 0 0] hP2.rb (by kernel_rfl) rfl (s_one _ _ _ _)) hS1 ?_ AllReadyH.nil
        refine wpAnyH_ready (rs := [12]) (by kernel_rfl) (by simp) ?_
        refine rd_run0 12 rfl rfl (by kernel_rfl) (rd_store 30 _ _ rfl (w.heap.size + 2) (B8 d) (by kernel_rfl) (by kernel_rfl) 30 (B8 z32) ((setRow_other _ _ _ _ (by omega)).trans hP2.qb.row) (infoD d HDL.out) (z8_size HDL.out) (B8_ones _)) hS2 ?_ AllReadyH.nil
        refine rd_take 13 6 (.int .i64 0) rfl rfl (by kernel_rfl) (by kernel_rfl) (by kernel_rfl) (fun _ _ _ h => h) (by kernel_rfl) (fun v _ => by kernel_rfl) hS2 ?_
        refine wpAnyH_done (by kernel_rfl) ?_ _
        refine hkk _ _ ?_
        have HEND := Hid.mk (rp_end hP2 (m := most) a' m' c' d HDL.out)
        have HLS := Hid.mk (show Ls ((p1.setRow (w.heap.size + 1) #[.int .i64 most, .slice a' m' c']).setRow (w.heap.size + 2) (B8 d)) a' m' c' (putT ⟨d, s, y.r + 1⟩ L) from hls.ends (fun g off e hm => by have := hnw g off e hm; omega))
        clear hkk hS hS1 hS2 hP2 hls hnw hbp
        generalize (p1.setRow (w.heap.size + 1) #[.int .i64 most, .slice a' m' c']).setRow (w.heap.size + 2) (B8 d) = uE at HEND HLS ⊢
        go_frame
        go_wp2_with fail
        refine bodyPost_ret (results_sd Try.results18 _ _ (w.heap.size + 1) (w.heap.size + 2) most a' m' c' d HDL.out rfl rfl HEND.out.1 HEND.out.2.1) rfl ?_
        exact ⟨⟨a', m', c', rfl, HLS.out⟩, HEND.out.2.2⟩
end Go.Proofs.Ytjpcfdhkgfaeeaa
