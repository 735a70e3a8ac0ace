/- Items that a call makes: in blocks of its own; a row of them that grows; what Text answers. -/
import Derived.Test.YtmofehloiiopfaaG05
import Derived.Test.YtmofehloiiopfaaG04
namespace Go.Proofs.Ytmofehloiiopfaa
open Go.RowKit
set_option linter.unusedVariables false
mutual
/-- An item lies in memory, in blocks of which P holds. -/
def LiesP (P : Nat → Prop) (w : World) : T → V → Prop
  | .mk l bs its, x => (x.l = l ∧ Ag w x.ba x.bn x.bc bs ∧ x.m = its.length ∧ x.m ≤ x.ic ∧ x.ic ≤ maxLen ∧ (x.bn ≤ 140737488351232 ∧ x.m ≤ 140737488351232) ∧ (∀ g off, x.ba = some ⟨g, off, none⟩ → 0 < x.bn → P g ∧ ∀ o, w.frozen? ⟨g, o, none⟩ = false)) ∧ LiesPAll P w its x.ia 0
def LiesPAll (P : Nat → Prop) (w : World) : List T → Option Addr → Nat → Prop
  | [], _, _ => True
  | t :: r, a, k => (∃ g off y, (a = some ⟨g, off, none⟩ ∧ P g) ∧ w.cell? ⟨g, off + k * 3, none⟩ = some (.bool y.l) ∧ w.cell? ⟨g, off + k * 3 + 1, none⟩ = some (.slice y.ba y.bn y.bc) ∧ w.cell? ⟨g, off + k * 3 + 2, none⟩ = some (.slice y.ia y.m y.ic) ∧ LiesP P w t y) ∧ LiesPAll P w r a (k + 1)
end
theorem liesP_eq {P : Nat → Prop} {w : World} {l : Bool} {bs : List Int} {its : List T} {x : V} : LiesP P w (.mk l bs its) x ↔ ((x.l = l ∧ Ag w x.ba x.bn x.bc bs ∧ x.m = its.length ∧ x.m ≤ x.ic ∧ x.ic ≤ maxLen ∧ (x.bn ≤ 140737488351232 ∧ x.m ≤ 140737488351232) ∧ (∀ g off, x.ba = some ⟨g, off, none⟩ → 0 < x.bn → P g ∧ ∀ o, w.frozen? ⟨g, o, none⟩ = false)) ∧ LiesPAll P w its x.ia 0) := by rw [LiesP]
theorem liesPAll_cons {P : Nat → Prop} {w : World} {t : T} {r : List T} {a : Option Addr} {k : Nat} : LiesPAll P w (t :: r) a k ↔ ((∃ g off y, (a = some ⟨g, off, none⟩ ∧ P g) ∧ w.cell? ⟨g, off + k * 3, none⟩ = some (.bool y.l) ∧ w.cell? ⟨g, off + k * 3 + 1, none⟩ = some (.slice y.ba y.bn y.bc) ∧ w.cell? ⟨g, off + k * 3 + 2, none⟩ = some (.slice y.ia y.m y.ic) ∧ LiesP P w t y) ∧ LiesPAll P w r a (k + 1)) := by rw [LiesPAll]
theorem liesPAll_nil {P : Nat → Prop} {w : World} {a : Option Addr} {k : Nat} : LiesPAll P w [] a k := by rw [LiesPAll]; trivial
theorem liesPAll_lies {P : Nat → Prop} {w : World} {a : Option Addr} : ∀ {its : List T} {k : Nat}, (∀ t ∈ its, ∀ x, LiesP P w t x → Lies w t x) → LiesPAll P w its a k → LiesAll w its a k
  | [], _, _, _ => liesAll_nil
  | t :: r, k, ih, h => by
    obtain ⟨⟨g, off, y, ⟨h1, _⟩, h2, h3, h4, h5⟩, hr⟩ := liesPAll_cons.1 h
    exact liesAll_cons.2 ⟨⟨g, off, y, h1, h2, h3, h4, ih t (List.mem_cons_self ..) y h5⟩, liesPAll_lies (fun u hu => ih u (List.mem_cons_of_mem _ hu)) hr⟩
theorem liesP_lies {P : Nat → Prop} {w : World} : ∀ t, ∀ x, LiesP P w t x → Lies w t x := by
  refine T.ind fun l bs its ih x h => ?_
  obtain ⟨⟨h1, h2, h3, h4, h5, h6, _⟩, h7⟩ := liesP_eq.1 h
  exact lies_eq.2 ⟨h1, h2, h3, h4, h5, h6, liesPAll_lies ih h7⟩
theorem ag_keep {w w' : World} {a : Option Addr} {n c : Nat} {bs : List Int} (h : Ag w a n c bs) (hk : ∀ g off, a = some ⟨g, off, none⟩ → 0 < n → g < w.heap.size → w'.heap[g]? = w.heap[g]?) : Ag w' a n c bs := by
  refine ⟨?_, h.nil, h.l, h.b⟩
  rcases h.i with h0 | ⟨g, off, h1, h2, h3, h4, h5, h6⟩
  · exact .inl h0
  · refine .inr ⟨g, off, h1, h2, h3, h4, h5, fun j hj => ?_⟩
    have := h6 j hj
    exact (World.cell?_of_block (w := w) (hk g off h1 h3 (block_lt_of_cell this))).trans this
theorem liesPAll_mono {P Q : Nat → Prop} {w w' : World} {a : Option Addr} (hk : ∀ b, P b → b < w.heap.size → w'.heap[b]? = w.heap[b]? ∧ Q b) : ∀ {its : List T} {k : Nat}, (∀ t ∈ its, ∀ x, LiesP P w t x → LiesP Q w' t x) → LiesPAll P w its a k → LiesPAll Q w' its a k
  | [], _, _, _ => liesPAll_nil
  | t :: r, k, ih, h => by
    obtain ⟨⟨g, off, y, ⟨h1, hp⟩, h2, h3, h4, h5⟩, hr⟩ := liesPAll_cons.1 h
    have hb := hk g hp (block_lt_of_cell h2)
    refine liesPAll_cons.2 ⟨⟨g, off, y, ⟨h1, hb.2⟩, ?_, ?_, ?_, ih t (List.mem_cons_self ..) y h5⟩, liesPAll_mono hk (fun u hu => ih u (List.mem_cons_of_mem _ hu)) hr⟩
    · exact (World.cell?_of_block (w := w) hb.1).trans h2
    · exact (World.cell?_of_block (w := w) hb.1).trans h3
    · exact (World.cell?_of_block (w := w) hb.1).trans h4
theorem liesP_mono {P Q : Nat → Prop} {w w' : World} (hk : ∀ b, P b → b < w.heap.size → w'.heap[b]? = w.heap[b]? ∧ Q b) : ∀ t, ∀ x, LiesP P w t x → LiesP Q w' t x := by
  refine T.ind fun l bs its ih x h => ?_
  obtain ⟨⟨h1, h2, h3, h4, h5, h6, h8⟩, h7⟩ := liesP_eq.1 h
  refine liesP_eq.2 ⟨⟨h1, ag_keep h2 (fun g off e1 e2 e3 => (hk g (h8 g off e1 e2).1 e3).1), h3, h4, h5, h6, fun g off e1 e2 => ?_⟩, liesPAll_mono hk ih h7⟩
  obtain ⟨g', off', e3, _, _, hc⟩ := ag_head h2 e2
  rw [e1] at e3
  cases e3
  have hkk := hk g (h8 g off e1 e2).1 (block_lt_of_cell (hc 0 e2))
  exact ⟨hkk.2, fun o => (World.frozen?_of_block (w := w) hkk.1).trans ((h8 g off e1 e2).2 o)⟩
/-- The cells of an item. -/
def V.cells (y : V) : List Value := [.bool y.l, .slice y.ba y.bn y.bc, .slice y.ia y.m y.ic]
/-- A row of items of the call's own, from block 'base' on. -/
def OwnI (w : World) (base : Nat) (v : Value) (ys : List V) : Prop := w.ownsRow base 45 3 v ys.length (ys.flatMap V.cells)
theorem flat_len (ys : List V) : (ys.flatMap V.cells).length = ys.length * 3 := by
  induction ys with
  | nil => rfl
  | cons y r ih => rw [List.flatMap_cons, List.length_append, ih]; simp [V.cells]; omega
theorem infoI : ∃ i, Try.prog.info? 45 = some i ∧ i.zero = some (.agg #[.bool false, .slice none 0 0, .slice none 0 0]) ∧ i.size = 3 ∧ i.bytes = 56 := by
  have h : (Try.prog.info? 45).map (fun i => (i.zero, i.size, i.bytes)) = some (some (.agg #[.bool false, .slice none 0 0, .slice none 0 0]), 3, 56) := by kernel_rfl
  cases hq : Try.prog.info? 45 with
  | none => rw [hq] at h; simp at h
  | some i => rw [hq] at h; simp at h; exact ⟨i, rfl, h.1, h.2.1, h.2.2⟩
theorem cells_one (y : V) : ∀ u ∈ V.cells y, u.oneCell' = true := by
  intro u hu
  simp [V.cells] at hu
  rcases hu with rfl | rfl | rfl <;> rfl
theorem app_item {w : World} {base : Nat} {v : Value} {ys : List V} (hown : OwnI w base v ys) (y : V) (ad : Addr) (c : Nat) (hnews : ∀ j u, (V.cells y)[j]? = some u → w.cell? (ad.add j) = some u) (hbase : base ≤ w.heap.size) (hlen : ys.length ≤ 1000000000) (ty : TypeId) :
    ∃ v' w', (Builtin.append_ #[43, 43] ty #[v, .slice (some ad) 1 c]).run Try.prog w = .ok v' w' ∧ OwnI w' base v' (ys ++ [y]) ∧ w.grownBy w' v.ownBlock ∧ (v'.ownBlock = v.ownBlock ∨ v'.ownBlock = some w.heap.size) := by
  obtain ⟨i, hi, hz, hsz, hby⟩ := infoI
  obtain ⟨v', w', hrun, hown', hgr, _⟩ := run_append_own (P := Try.prog) w base 43 ty 45 i _ 3 56 Try.underlying43 hi hz hsz hby rfl (by decide) v ys.length (ys.flatMap V.cells) hown ad 1 c (V.cells y) rfl hnews (cells_one y) (by unfold maxLen; omega) (by omega) hbase
  refine ⟨v', w', hrun, ?_, hgr, ?_⟩
  · unfold OwnI
    rw [List.flatMap_append, List.length_append]
    simpa using hown'
  · rcases hown.2 with ⟨rfl, hn0⟩ | ⟨g, cap, cur, rfl, hbg, hg, hnc, hcm, hcs, htake⟩
    · have hr := run_append_nil (P := Try.prog) w 43 ty 45 i _ Try.underlying43 hi hz ad 1 c (V.cells y) (by rw [hsz]; rfl) hnews (by decide) (by decide) (by rw [hby]; decide)
      rw [hrun] at hr
      injection hr with e1 e2
      right
      rw [e1]
      rfl
    · by_cases hroom : ys.length + 1 ≤ cap
      · have hr := run_append_room (P := Try.prog) w 43 ty 45 i Try.underlying43 hi g ys.length cap cur hg ad 1 c (V.cells y) (by rw [hsz]; rfl) hnews (cells_one y) hroom (by rw [hcs, hsz]; simp [V.cells]; omega)
        rw [hrun] at hr
        injection hr with e1 e2
        left
        rw [e1]
        rfl
      · have hr := run_append_grow (P := Try.prog) w 43 ty 45 i _ Try.underlying43 hi hz ⟨g, 0, none⟩ ys.length cap (ys.flatMap V.cells) (by rw [hsz, flat_len]) (World.ownsRow.cells hown (g := g) rfl) ad 1 c (V.cells y) (by rw [hsz]; rfl) hnews (by omega) (by omega) (growslice_fits (by omega) (by rw [hby]; omega))
        rw [hrun] at hr
        injection hr with e1 e2
        right
        rw [e1]
        rfl
end Go.Proofs.Ytmofehloiiopfaa
/- A row of items as a list in memory; what Text answers. -/
namespace Go.Proofs.Ytmofehloiiopfaa
open Go.RowKit
set_option linter.unusedVariables false
set_option maxRecDepth 100000
/-- Things and their values, one by one. -/
def AllP (P : Nat → Prop) (w : World) : List T → List V → Prop
  | [], [] => True
  | t :: ts, y :: ys => LiesP P w t y ∧ AllP P w ts ys
  | _, _ => False
theorem AllP.len {P : Nat → Prop} {w : World} : ∀ {ts : List T} {ys : List V}, AllP P w ts ys → ts.length = ys.length
  | [], [], _ => rfl
  | t :: ts, y :: ys, h => by have := AllP.len h.2; simp [this]
theorem AllP.mono {P Q : Nat → Prop} {w w' : World} (hk : ∀ b, P b → b < w.heap.size → w'.heap[b]? = w.heap[b]? ∧ Q b) : ∀ {ts : List T} {ys : List V}, AllP P w ts ys → AllP Q w' ts ys
  | [], [], _ => trivial
  | t :: ts, y :: ys, h => ⟨liesP_mono hk t y h.1, AllP.mono hk h.2⟩
theorem AllP.snoc {P : Nat → Prop} {w : World} {t : T} {y : V} (h1 : LiesP P w t y) : ∀ {ts : List T} {ys : List V}, AllP P w ts ys → AllP P w (ts ++ [t]) (ys ++ [y])
  | [], [], _ => ⟨h1, trivial⟩
  | _ :: ts, _ :: ys, h => ⟨h.1, AllP.snoc h1 h.2⟩
theorem flat_get (pre : List V) (y : V) (ys : List V) (j : Nat) (u : Value) (h : (V.cells y)[j]? = some u) : ((pre ++ y :: ys).flatMap V.cells)[pre.length * 3 + j]? = some u := by
  rw [List.flatMap_append, List.getElem?_append_right (by rw [flat_len]; omega), flat_len, Nat.add_sub_cancel_left, List.flatMap_cons, List.getElem?_append_left (List.getElem?_eq_some_iff.1 h).1, h]
theorem row_lies {P : Nat → Prop} {w : World} {g : Nat} {all : List V} (hc : ∀ j u, (all.flatMap V.cells)[j]? = some u → w.cell? ((⟨g, 0, none⟩ : Addr).add j) = some u) (hP : P g) :
    ∀ (ts : List T) (ys pre : List V), all = pre ++ ys → AllP P w ts ys → LiesPAll P w ts (some ⟨g, 0, none⟩) pre.length
  | [], [], pre, _, _ => liesPAll_nil
  | t :: ts, y :: ys, pre, e, h => by
    have hr := row_lies hc hP ts ys (pre ++ [y]) (by rw [e]; simp) h.2
    rw [List.length_append] at hr
    refine liesPAll_cons.2 ⟨⟨g, 0, y, ⟨rfl, hP⟩, ?_, ?_, ?_, h.1⟩, hr⟩
    · have := hc (pre.length * 3 + 0) (.bool y.l) (by rw [e]; exact flat_get pre y ys 0 _ rfl)
      rw [addr_add] at this
      simpa using this
    · have := hc (pre.length * 3 + 1) (.slice y.ba y.bn y.bc) (by rw [e]; exact flat_get pre y ys 1 _ rfl)
      rw [addr_add] at this
      rw [show 0 + pre.length * 3 + 1 = 0 + (pre.length * 3 + 1) from by omega]
      exact this
    · have := hc (pre.length * 3 + 2) (.slice y.ia y.m y.ic) (by rw [e]; exact flat_get pre y ys 2 _ rfl)
      rw [addr_add] at this
      rw [show 0 + pre.length * 3 + 2 = 0 + (pre.length * 3 + 2) from by omega]
      exact this
theorem own_lies {P : Nat → Prop} {w : World} {base : Nat} {v : Value} {ys : List V} {ts : List T} (hown : OwnI w base v ys) (h : AllP P w ts ys) (hP : ∀ g, v.ownBlock = some g → P g) :
    ∃ ia ic, v = .slice ia ts.length ic ∧ ts.length ≤ ic ∧ ic ≤ maxLen ∧ LiesPAll P w ts ia 0 := by
  have hl := h.len
  rcases hown.2 with ⟨rfl, hn0⟩ | ⟨g, cap, cur, rfl, hbg, hg, hnc, hcm, hcs, htake⟩
  · have : ts = [] := List.eq_nil_of_length_eq_zero (by omega)
    subst this
    exact ⟨none, 0, rfl, Nat.le_refl _, by unfold maxLen; omega, liesPAll_nil⟩
  · exact ⟨some ⟨g, 0, none⟩, cap, by rw [hl], by omega, hcm, row_lies (World.ownsRow.cells hown (g := g) rfl) (hP g rfl) ts ys [] rfl h⟩
theorem results_row2 {fn : Func} {p u : Tmp} (h : fn.results = #[.cell p 45, .tmp u]) (tmps : Array Value) (w : World) (g : Nat) (a b c : Value)
    (hp : tmps.getD p undef = .pointer (some ⟨g, 0, none⟩)) (hg : w.heap[g]? = some (.cells #[a, b, c] 45)) :
    (results fn tmps).run Try.prog w = .ok (.tuple #[.agg #[a, b, c], tmps.getD u undef]) w := by
  have hp' : tmps[p]?.getD undef = .pointer (some ⟨g, 0, none⟩) := by simpa using hp
  simp [results, h, hp', asAddr, run_loadVar_row (P := Try.prog) w g 45 45 #[a, b, c] (0, 0) _ hg Try.underlying45 rfl (by kernel_rfl)]
theorem results_row3 {fn : Func} {p u v : Tmp} (h : fn.results = #[.cell p 45, .tmp u, .tmp v]) (tmps : Array Value) (w : World) (g : Nat) (a b c : Value)
    (hp : tmps.getD p undef = .pointer (some ⟨g, 0, none⟩)) (hg : w.heap[g]? = some (.cells #[a, b, c] 45)) :
    (results fn tmps).run Try.prog w = .ok (.tuple #[.agg #[a, b, c], tmps.getD u undef, tmps.getD v undef]) w := by
  have hp' : tmps[p]?.getD undef = .pointer (some ⟨g, 0, none⟩) := by simpa using hp
  simp [results, h, hp', asAddr, run_loadVar_row (P := Try.prog) w g 45 45 #[a, b, c] (0, 0) _ hg Try.underlying45 rfl (by kernel_rfl)]
theorem put3 {w : World} {g t : Nat} {x0 x1 x2 : Value} (h : w.heap[g]? = some (.cells #[x0, x1, x2] t)) (a b c : Value) :
    (((w.setCell ⟨g, 0, none⟩ a).setCell ⟨g, 1, none⟩ b).setCell ⟨g, 2, none⟩ c).heap[g]? = some (.cells #[a, b, c] t) := by
  have h1 := heap_setCell_same w g 0 _ t a h
  have h2 := heap_setCell_same _ g 1 _ t b h1
  have h3 := heap_setCell_same _ g 2 _ t c h2
  simpa using h3
theorem other3 {w : World} {g k : Nat} (hk : k ≠ g) (a b c : Value) : (((w.setCell ⟨g, 0, none⟩ a).setCell ⟨g, 1, none⟩ b).setCell ⟨g, 2, none⟩ c).heap[k]? = w.heap[k]? := by
  rw [heap_setCell_other _ _ _ _ hk, heap_setCell_other _ _ _ _ hk, heap_setCell_other _ _ _ _ hk]
theorem below3 {B : Nat} {w0 w : World} {g : Nat} (h : Below B w0 w) (hg : B ≤ g) (a b c : Value) : Below B w0 (((w.setCell ⟨g, 0, none⟩ a).setCell ⟨g, 1, none⟩ b).setCell ⟨g, 2, none⟩ c) :=
  ((h.setCell hg a).setCell hg b).setCell hg c
/-- The value of no item. -/
def z3 : Array Value := #[.bool false, .slice none 0 0, .slice none 0 0]
set_option maxHeartbeats 1000000 in
theorem text_any (a : Option Addr) (n c : Nat) (b : List Int) (w : World) (h : Ag w a n c b) (hn : n ≤ 140737488351232) :
    Calls Try.prog 44 #[.slice a n c] w fun e w' => e = .returned (.agg #[.bool false, .slice (some ⟨w.heap.size + 1, 0, none⟩) n n, .slice none 0 0]) ∧ Row (w.heap.size + 1) w' b ∧ Below w.heap.size w w' := by
  have hmk := run_make_row' (P := Try.prog) 24 5 (.int .u8 0) 1 Try.underlying24 info5b rfl .i64 .i64 n (by omega) (by omega)
  obtain ⟨w0, hw0⟩ : ∃ w0, w.alloc (.cells #[.bool false, .slice none 0 0, .slice none 0 0] 45) = w0 := ⟨_, rfl⟩
  have hs0 : w0.heap.size = w.heap.size + 1 := by rw [← hw0]; simp
  have hbw0 : Below w.heap.size w w0 := by rw [← hw0]; exact (Below.refl _ _).alloc (Nat.le_refl _) _
  have hres : w0.heap[w.heap.size]? = some (.cells #[.bool false, .slice none 0 0, .slice none 0 0] 45) := by rw [← hw0]; exact heap_alloc_new _ _
  have hrow : Row w0.heap.size (w0.alloc (.cells (madeCells #[.int .u8 0] n) 5)) (List.replicate n 0) := by
    unfold Row; rw [heap_alloc_new, made_bytes]
  have hbw : Below w.heap.size w (w0.alloc (.cells (madeCells #[.int .u8 0] n) 5)) := hbw0.alloc (by omega) _
  obtain ⟨w1, hrun, hrow1, ht⟩ := copy_row (o := 0) (dl := n) (dc := n) (da := some ⟨w0.heap.size, 0, none⟩) hrow (h.at hbw) rfl (by simp) (fun _ => rfl)
  rw [List.take_zero, List.nil_append, Nat.zero_add, List.drop_of_length_le (by simp), List.append_nil] at hrow1
  have hres1 : w1.heap[w.heap.size]? = some (.cells #[.bool false, .slice none 0 0, .slice none 0 0] 45) := (ht.block _ (by simp; omega) (by omega)).trans ((Below.heap_alloc _ _ _ (by omega)).trans hres)
  have hb1 := Touch.below hbw ht (by omega) hbw.size
  rw [hs0] at hrun hrow1
  rw [← hw0] at hrun
  have HRUN := Hid.mk hrun
  have HROW := Hid.mk hrow1
  have HB := Hid.mk hb1
  have HRES := Hid.mk hres1
  have x0 : w1.cell? ⟨w.heap.size, 0, none⟩ = some (.bool false) := by rw [cell_of_row _ _ _ _ _ _ hres1]; rfl
  have x1 : w1.cell? ⟨w.heap.size, 1, none⟩ = some (.slice none 0 0) := by rw [cell_of_row _ _ _ _ _ _ hres1]; rfl
  have x2 : w1.cell? ⟨w.heap.size, 2, none⟩ = some (.slice none 0 0) := by rw [cell_of_row _ _ _ _ _ _ hres1]; rfl
  have xf : ∀ o, w1.frozen? ⟨w.heap.size, o, none⟩ = false := fun o => frozen_of_row _ _ _ _ _ hres1
  clear hrow hrun hrow1 ht hbw h hw0 hs0 hbw0 hres hres1 hb1
  go_enter Try.func44, Try.ntmps44
  go_wp2_with (first | refine wpl_copy rfl _ _ rfl _ _ rfl rfl (HRUN.out _) ?_)
  have hr := put3 HRES.out (.bool false) (.slice (some ⟨w.heap.size + 1, 0, none⟩) n n) (.slice none 0 0)
  refine bodyPost_ret (results_cell_row Try.results44 _ _ w.heap.size 45 _ (0, 0) _ rfl hr Try.underlying45 rfl (by kernel_rfl)) rfl ?_
  exact ⟨rfl, (other3 (by omega) _ _ _).trans HROW.out, below3 HB.out (Nat.le_refl _) _ _ _⟩
end Go.Proofs.Ytmofehloiiopfaa
/- What readAll answers, by what read answers. -/
namespace Go.Proofs.Ytmofehloiiopfaa
open Go.RowKit
set_option linter.unusedVariables false
set_option maxRecDepth 100000
def lenOf : Value → Nat | .slice _ n _ => n | _ => 0
theorem wpl_append {w : World} {ops : Array Oper} {rest : List Oper} {o : Oper} {a : Act} {Q : Exit → Act → World → Prop} (hgd : o.guard = none) (s x : Operand)
    (ho : o.op = .call { callee := .builtin .append, args := #[s, x], argTypes := #[43, 43] }) (v u : Value) (hd : a.eval s = v) (hx : a.eval x = u) {v' : Value} {w' : World}
    (hr : (Builtin.append_ #[43, 43] o.type #[v, u]).run Try.prog w = .ok v' w') (h : wpList Try.prog ops Q rest (a.put o.dst v') w') : wpList Try.prog ops Q (o :: rest) a w := by
  refine wpList_plain hgd fun K hK => ?_
  unfold Oper.wp
  simp [execOp, ho, resolve, invoke, builtin, hd, hx, hr, Result.andThen]
  exact hK _ _ h
/-- What read leaves. -/
def ReadPost (w : World) (r : R) : Ending → World → Prop := fun e w' => Below w.heap.size w w' ∧
  match r with
  | .bad er => e = .returned (.tuple #[.agg #[.bool false, .slice none 0 0, .slice none 0 0], .int .i64 0, .int .i64 (er : Nat)]) ∧ er ≠ 0
  | .ok t m => ∃ y : V, e = .returned (.tuple #[.agg #[.bool y.l, .slice y.ba y.bn y.bc, .slice y.ia y.m y.ic], .int .i64 (m : Nat), .int .i64 0]) ∧ LiesP (fun b => w.heap.size ≤ b) w' t y
def ReadSaid (k : Nat) : Prop := ∀ (a : Option Addr) (n c d : Nat) (b : List Int) (w : World), Ag w a n c b → d + k = 8 → n ≤ 140737488351232 → Calls Try.prog 68 #[.slice a n c, .int .i64 d] w (ReadPost w (rd k b))
/-- What readAll leaves. -/
def AllPost (w : World) (r : RL) : Ending → World → Prop := fun e w' => Below w.heap.size w w' ∧
  match r with
  | .bad er => e = .returned (.tuple #[.slice none 0 0, .int .i64 (er : Nat)]) ∧ er ≠ 0
  | .ok ts => ∃ ia ic, e = .returned (.tuple #[.slice ia ts.length ic, .int .i64 0]) ∧ ts.length ≤ ic ∧ ic ≤ maxLen ∧ LiesPAll (fun b => w.heap.size ≤ b) w' ts ia 0
/-- What was read, and what is to come. -/
def RL.pre (ts : List T) : RL → RL
  | .bad e => .bad e
  | .ok us => .ok (ts ++ us)
theorem pre_nil (r : RL) : RL.pre [] r = r := by cases r <;> rfl
theorem pre_snoc {f : List Int → R} (hf : ∀ b t m, f b = .ok t m → 1 ≤ m) {ts : List T} {t : T} {m : Nat} {b : List Int} (hb : b ≠ []) (h : f b = .ok t m) : RL.pre ts (rdAll f b.length b) = RL.pre (ts ++ [t]) (rdAll f (b.drop m).length (b.drop m)) := by
  have hm := hf _ _ _ h
  have hl : 0 < b.length := List.length_pos_iff.2 hb
  obtain ⟨n, hn⟩ : ∃ n, b.length = n + 1 := ⟨b.length - 1, by omega⟩
  rw [hn, rdAll_ok hb h, rdAll_fuel hf n (b.drop m).length (b.drop m) (by rw [List.length_drop]; omega) (Nat.le_refl _)]
  cases rdAll f (b.drop m).length (b.drop m) with
  | bad e => rfl
  | ok us => simp [RL.pre]
theorem rdAll_len {f : List Int → R} (hf : ∀ b t m, f b = .ok t m → 1 ≤ m ∧ m ≤ b.length) : ∀ n b ts, rdAll f n b = .ok ts → ts.length ≤ b.length
  | n, [], ts, h => by rw [rdAll_nil] at h; cases h; simp
  | 0, _ :: _, ts, h => by cases h
  | n + 1, x :: b, ts, h => by
    cases hx : f (x :: b) with
    | bad e => rw [rdAll_bad (by simp) hx] at h; cases h
    | ok t m =>
      have hm := hf _ _ _ hx
      rw [rdAll_ok (by simp) hx] at h
      cases hr : rdAll f n ((x :: b).drop m) with
      | bad e => rw [hr] at h; cases h
      | ok us =>
        rw [hr] at h
        cases h
        have := rdAll_len hf n _ us hr
        rw [List.length_drop] at this
        simp only [List.length_cons] at *
        omega
theorem own_lt {w : World} {base : Nat} {v : Value} {ys : List V} (h : OwnI w base v ys) {g : Nat} (hg : v.ownBlock = some g) : base ≤ g ∧ g < w.heap.size := by
  rcases h.2 with ⟨rfl, _⟩ | ⟨g', cap, cur, rfl, hbg, hh, _⟩
  · cases hg
  · cases hg
    exact ⟨hbg, lt_of_get hh⟩
theorem own_keep {w w' : World} {base : Nat} {v : Value} {ys : List V} (h : OwnI w base v ys) (hk : ∀ g, v.ownBlock = some g → g < w.heap.size → w'.heap[g]? = w.heap[g]?) : OwnI w' base v ys := by
  refine ⟨h.1, ?_⟩
  rcases h.2 with h2 | ⟨g, cap, cur, hv, hb, hh, r⟩
  · exact .inl h2
  · exact .inr ⟨g, cap, cur, hv, hb, (hk g (by rw [hv]; rfl) (lt_of_get hh)).trans hh, r⟩
theorem round_step {w wr w1 : World} {it : Value} {ys : List V} {ts : List T} {y : V} {t : T} (hown : OwnI wr w.heap.size it ys) (hall : AllP (fun b => w.heap.size ≤ b ∧ it.ownBlock ≠ some b) wr ts ys) (hbel : Below w.heap.size w wr) (hb1 : Below wr.heap.size wr w1)
    (hy : LiesP (fun b => wr.heap.size ≤ b) w1 t y) (hlen : ys.length ≤ 1000000000) (ty : TypeId) :
    ∃ v' w3, (Builtin.append_ #[43, 43] ty #[it, .slice (some ⟨w1.heap.size + 1, 0, none⟩) 1 1]).run Try.prog ((w1.alloc (.cells #[.bool y.l, .slice y.ba y.bn y.bc, .slice y.ia y.m y.ic] 45)).alloc (.cells #[.bool y.l, .slice y.ba y.bn y.bc, .slice y.ia y.m y.ic] 45)) = .ok v' w3 ∧
      OwnI w3 w.heap.size v' (ys ++ [y]) ∧ AllP (fun b => w.heap.size ≤ b ∧ v'.ownBlock ≠ some b) w3 (ts ++ [t]) (ys ++ [y]) ∧ Below w.heap.size w w3 := by
  obtain ⟨Y, hY⟩ : ∃ Y : Obj, Obj.cells #[.bool y.l, .slice y.ba y.bn y.bc, .slice y.ia y.m y.ic] 45 = Y := ⟨_, rfl⟩
  rw [hY]
  have hs2 : ((w1.alloc Y).alloc Y).heap.size = w1.heap.size + 2 := by simp
  have hb2 : Below wr.heap.size wr ((w1.alloc Y).alloc Y) := (hb1.alloc hb1.size _).alloc (by have := hb1.size; simp; omega) _
  have hz := hbel.size
  have hz1 := hb1.size
  have hblk : ((w1.alloc Y).alloc Y).heap[w1.heap.size + 1]? = some Y := heap_alloc2_new w1 Y Y
  have hnews : ∀ j u, (V.cells y)[j]? = some u → ((w1.alloc Y).alloc Y).cell? ((⟨w1.heap.size + 1, 0, none⟩ : Addr).add j) = some u := by
    intro j u hu
    rw [addr_add, Nat.zero_add]
    rw [← hY] at hblk ⊢
    rw [cell_of_row _ _ _ _ _ _ hblk]
    simpa [V.cells] using hu
  obtain ⟨v', w3, hrun, hown3, hgr, hown4⟩ := app_item (own_keep hown fun g _ hg => hb2.block g hg) y _ 1 hnews (by omega) hlen ty
  have hfar : ∀ b, b < w1.heap.size + 2 → it.ownBlock ≠ some b → w3.heap[b]? = ((w1.alloc Y).alloc Y).heap[b]? := fun b hb hne => hgr.block b (by rw [hs2]; exact hb) (fun h => hne h.symm)
  have hit : ∀ g, it.ownBlock = some g → g < wr.heap.size := fun g hg => (own_lt hown hg).2
  have hv' : ∀ b, b < w1.heap.size → it.ownBlock ≠ some b → v'.ownBlock ≠ some b := fun b hb hne h => by
    rcases hown4 with h4 | h4
    · exact hne (h4.symm.trans h)
    · rw [h4, hs2] at h; cases h; omega
  refine ⟨v', w3, hrun, hown3, AllP.snoc ?_ (hall.mono fun b hb hlt => ⟨?_, hb.1, hv' b (by omega) hb.2⟩), ?_⟩
  · refine liesP_mono (fun b hb hlt => ⟨?_, by omega, ?_⟩) t y hy
    · have hne : it.ownBlock ≠ some b := fun h => by have := hit b h; omega
      rw [hfar b (by omega) hne, Below.heap_alloc _ _ _ (by simp; omega), Below.heap_alloc _ _ _ hlt]
    · exact hv' b hlt (fun h => by have := hit b h; omega)
  · rw [hfar b (by omega) hb.2]
    exact hb2.block b hlt
  · refine hbel.trans ⟨hgr.os.trans hb2.os, hgr.tape.trans hb2.tape, hgr.output.trans hb2.output, Nat.le_trans hb2.size hgr.size, fun b hb => ?_⟩
    rw [hfar b (by omega) (fun h => by have := (own_lt hown h).1; omega)]
    exact hb2.block b (by omega)
set_option maxHeartbeats 1000000 in
theorem readAll_any (k : Nat) (hread : ReadSaid k) (a : Option Addr) (n c d : Nat) (b : List Int) (w : World) (h : Ag w a n c b) (hd : d + k = 8) (hn : n < 16777216) :
    Calls Try.prog 77 #[.slice a n c, .int .i64 d] w (AllPost w (rdAll (rd k) b.length b)) := by
  have HRD := Hid.mk hread
  have HA := Hid.mk h
  obtain ⟨res, hres⟩ : ∃ r, rdAll (rd k) b.length b = r := ⟨_, rfl⟩
  rw [hres]
  have HRES := Hid.mk hres
  have HL := Hid.mk h.l
  clear hread h hres
  go_enter Try.func77, Try.ntmps77
  go_wp2_with fail
  go_loopw [0, 6] (fun bo it v => ∃ (aj : Option Addr) (nj cj : Nat) (bj : List Int) (ts : List T) (ys : List V), bo = .slice aj nj cj ∧ Ag w aj nj cj bj ∧ nj + ts.length ≤ n ∧ res = RL.pre ts (rdAll (rd k) bj.length bj) ∧ OwnI v w.heap.size it ys ∧ AllP (fun b => w.heap.size ≤ b ∧ it.ownBlock ≠ some b) v ts ys ∧ Below w.heap.size w v) (fun bo _ _ => lenOf bo)
  case atStart => exact ⟨a, n, c, b, [], [], rfl, HA.out, by simp, by rw [pre_nil]; exact HRES.out.symm, World.ownsRow_nil _ _ _ _, trivial, Below.refl _ _⟩
  case round =>
    obtain ⟨aj, nj, cj, bj, ts, ys, rfl, hag, hnj, hres, hown, hall, hbel⟩ := hrel
    have hlj := hag.l
    by_cases h0 : nj = 0
    · subst h0
      have hb0 : bj = [] := List.eq_nil_of_length_eq_zero hlj
      subst hb0
      rw [rdAll_nil] at hres
      obtain ⟨ia, ic, rfl, e2, e3, e4⟩ := own_lies (P := fun b => w.heap.size ≤ b) hown (hall.mono fun b hb _ => ⟨rfl, hb.1⟩) (fun g hg => World.ownsRow.lt hown g hg |>.1)
      have HF : Hid (AllPost w res (.returned (.tuple #[.slice ia ts.length ic, .int .i64 0])) wr) := by
        rw [hres]
        simp only [RL.pre, List.append_nil]
        exact ⟨hbel, ia, ic, rfl, e2, e3, e4⟩
      clear hag hres hown hall hbel e2 e3 e4 hlj
      go_wp2_with fail
      go_ret2
      exact HF.out
    · have hb0 : bj ≠ [] := fun h => by rw [h] at hlj; simp at hlj; omega
      have hni : (0 : Int) < nj := by omega
      have hnn : 0 < nj := by omega
      obtain ⟨gj, offj, rfl, hc1, hc2, hcc⟩ := ag_head hag hnn
      unfold maxLen at hc2
      have hcal := HRD.out _ nj cj d bj wr (hag.at hbel) hd (by omega)
      have HCAL := Hid.mk hcal
      have HAG := Hid.mk hag
      have HREL := Hid.mk (And.intro hres (And.intro hown (And.intro hall hbel)))
      clear hcal hag hres hown hall hbel hcc hlj
      go_wp2_with fail
      refine HCAL.out.mono ?_
      rintro e w1 ⟨hb1, hm⟩
      obtain ⟨hres, hown, hall, hbel⟩ := HREL.out
      cases hr : rd k bj with
      | bad er =>
        rw [hr] at hm
        obtain ⟨rfl, her⟩ := hm
        have hfin : res = .bad er := by
          rw [hres]
          obtain ⟨q, hq⟩ : ∃ q, bj.length = q + 1 := ⟨bj.length - 1, by have := HAG.out.l; omega⟩
          rw [hq, rdAll_bad hb0 hr]
          rfl
        have HF : Hid (∀ w', Below w.heap.size w w' → AllPost w res (.returned (.tuple #[.slice none 0 0, .int .i64 (er : Nat)])) w') := fun w' hw' => by rw [hfin]; exact ⟨hw', rfl, her⟩
        have hee : ((er : Int) != 0) = true := by rw [bne_iff_ne]; omega
        have HB := Hid.mk ((hbel.trans (hb1.mono hbel.size)).alloc (Nat.le_trans hbel.size hb1.size) (.cells #[.bool false, .slice none 0 0, .slice none 0 0] 45))
        clear hfin hres hown hall hbel hb1 her hr HREL
        go_wp2_with fail
        go_ret2
        exact HF.out _ HB.out
      | ok t m =>
        rw [hr] at hm
        obtain ⟨y, rfl, hy⟩ := hm
        have HH := Hid.mk (And.intro hres (And.intro hown (And.intro hall (And.intro hbel (And.intro hb1 hy)))))
        obtain ⟨hm1, hm2⟩ := rd_n hr
        have hml := HAG.out.l
        have HRR := Hid.mk hr
        have hyl : ys.length ≤ 1000000000 := by have := hall.len; omega
        obtain ⟨v', w3, hrun, s1, s2, s3⟩ := round_step hown hall hbel hb1 hy hyl 43
        have HRUN := Hid.mk hrun
        have hdrop := ag_drop HAG.out (k := m) (by omega)
        have hpre := pre_snoc (f := rd k) (ts := ts) (fun b t m h => (rd_n h).1) hb0 hr
        have HEND : Hid (∃ (bj' : List Int) (ts' : List T) (ys' : List V), Ag w (if cj = m then some ⟨gj, offj, none⟩ else some ⟨gj, offj + m, none⟩) (nj - m) (cj - m) bj' ∧ nj - m + ts'.length ≤ n ∧ res = RL.pre ts' (rdAll (rd k) bj'.length bj') ∧ OwnI w3 w.heap.size v' ys' ∧ AllP (fun b => w.heap.size ≤ b ∧ v'.ownBlock ≠ some b) w3 ts' ys' ∧ Below w.heap.size w w3) :=
          ⟨bj.drop m, ts ++ [t], ys ++ [y], hdrop, by rw [List.length_append]; simp; omega, by rw [hres, hpre], s1, s2, s3⟩
        have hmi : (m : Int) ≤ nj := by omega
        clear hres hown hall hbel hb1 hy hr HREL hrun s1 s2 s3 hdrop hpre hyl HH
        go_wp2_with (first | refine wpl_append rfl _ _ rfl _ _ rfl rfl HRUN.out ?_)
        obtain ⟨bj', ts', ys', e1, e2, e3, e4, e5, e6⟩ := HEND.out
        refine ⟨⟨_, nj - m, cj - m, bj', ts', ys', rfl, e1, e2, e3, e4, e5, e6⟩, ?_⟩
        simp only [lenOf]
        omega
end Go.Proofs.Ytmofehloiiopfaa
