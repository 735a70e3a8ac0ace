/- Forks in memory: a row of them of one's own. -/
import Derived.Test.YtdkpilgelgjieaaG26
import Derived.Test.YtdkpilgelgjieaaG01
import Derived.Test.YtdkpilgelgjieaaG19
import Derived.Great.BuildSlice
import Derived.Great.FillDense
namespace Go.Proofs.Ytdkpilgelgjieaa
open Go.RowKit
open Tr
set_option linter.unusedVariables false
set_option maxRecDepth 100000
/-- The value of a fork. -/
structure FV where
  d : Nat
  ys : Nat → RV
  a : Option Addr
  n : Nat
  c : Nat
def kc (ys : Nat → RV) : Nat → List Value
  | 0 => []
  | n + 1 => kc ys n ++ (ys n).cells
def FV.cells (x : FV) : List Value := .int .i64 ((x.d : Nat) : Int) :: (kc x.ys 16 ++ [.slice x.a x.n x.c])
def FV.Ok (x : FV) : Prop := ∀ i, (x.ys i).d.length = 32
theorem kc_len {ys : Nat → RV} (h : ∀ i, (ys i).d.length = 32) : ∀ n, (kc ys n).length = n * 34
  | 0 => rfl
  | n + 1 => by rw [kc, List.length_append, kc_len h n, RV.len (h n)]; omega
theorem kc_get {ys : Nat → RV} (h : ∀ i, (ys i).d.length = 32) : ∀ n i m v, i < n → (ys i).cells[m]? = some v → (kc ys n)[i * 34 + m]? = some v
  | 0, i, m, v, hi, _ => by omega
  | n + 1, i, m, v, hi, hv => by
    have hm : m < 34 := by have := (List.getElem?_eq_some_iff.1 hv).1; rw [RV.len (h i)] at this; exact this
    rw [kc]
    by_cases e : i = n
    · subst e
      rw [List.getElem?_append_right (by rw [kc_len h]; omega), kc_len h, show i * 34 + m - i * 34 = m from by omega]
      exact hv
    · rw [List.getElem?_append_left (by rw [kc_len h]; omega)]
      exact kc_get h n i m v (by omega) hv
theorem FV.len {x : FV} (h : x.Ok) : x.cells.length = 546 := by simp [FV.cells, kc_len h]
theorem kc_one (ys : Nat → RV) : ∀ n, ∀ u ∈ kc ys n, u.oneCell' = true
  | 0, u, hu => by simp [kc] at hu
  | n + 1, u, hu => by
    rw [kc] at hu
    rcases List.mem_append.1 hu with q | q
    · exact kc_one ys n u q
    · exact (ys n).one u q
theorem FV.one (x : FV) : ∀ u ∈ x.cells, u.oneCell' = true := by
  intro u hu
  simp only [FV.cells, List.mem_cons, List.mem_append, List.not_mem_nil, or_false] at hu
  rcases hu with rfl | hu | rfl
  · rfl
  · exact kc_one _ _ u hu
  · rfl
theorem f_size {x : FV} (h : x.Ok) : x.cells.toArray.size = 546 := by rw [List.size_toArray, FV.len h]
theorem f_ones (x : FV) : x.cells.toArray.all (·.oneCell') = true := all_oneCell_toArray (FV.one x)
theorem infoF : (Try.prog.info? 50).map (·.size) = some 546 := by kernel_rfl
/-- Where a fork's parts lie. -/
theorem f_dep {w : World} {g o : Nat} {x : FV} (h : w.rangeAt g o x.cells) : w.cell? ⟨g, o, none⟩ = some (.int .i64 ((x.d : Nat) : Int)) := h 0 _ rfl
theorem f_kid {w : World} {g o : Nat} {x : FV} (hx : x.Ok) (h : w.rangeAt g o x.cells) {i : Nat} (hi : i < 16) : w.rangeAt g (o + 1 + i * 34) (x.ys i).cells := fun m v hv => by
  have hq := kc_get hx 16 i m v hi hv
  have hl := (List.getElem?_eq_some_iff.1 hq).1
  rw [show o + 1 + i * 34 + m = o + (i * 34 + m + 1) from by omega]
  refine h _ v ?_
  rw [FV.cells, List.getElem?_cons_succ, List.getElem?_append_left hl]
  exact hq
theorem f_val {w : World} {g o : Nat} {x : FV} (hx : x.Ok) (h : w.rangeAt g o x.cells) : w.cell? ⟨g, o + 545, none⟩ = some (.slice x.a x.n x.c) := by
  refine h 545 _ ?_
  rw [FV.cells, show (545 : Nat) = 544 + 1 from rfl, List.getElem?_cons_succ, List.getElem?_append_right (by rw [kc_len hx]; omega), kc_len hx]
  rfl
/-- A fork in memory. -/
structure FkAt (K : Nat → Prop) (w : World) (x : FV) (f : Fk) : Prop where
  d : x.d = f.d
  l : x.Ok
  k : ∀ i, i < 16 → RefAt K w (x.ys i) (rP f.k i)
  v : Sk K w x.a x.n x.c f.v
  m : x.n ≤ 256
theorem FkAt.keep {K L : Nat → Prop} {w w' : World} {x : FV} {f : Fk} (h : FkAt K w x f) (hk : Keep K L w w') : FkAt L w' x f := ⟨h.d, h.l, fun i hi => (h.k i hi).go hk, h.v.keep hk, h.m⟩
/-- The forks of a way, the last one ahead. -/
def WyR (w : World) (g : Nat) : List FV → Prop
  | [] => True
  | x :: r => w.rangeAt g (r.length * 546) x.cells ∧ WyR w g r
def FksAt (K : Nat → Prop) (w : World) : List FV → List Fk → Prop
  | [], [] => True
  | x :: r, f :: s => FkAt K w x f ∧ FksAt K w r s
  | _, _ => False
theorem FksAt.keep {K L : Nat → Prop} {w w' : World} (hk : Keep K L w w') : ∀ {r : List FV} {s : List Fk}, FksAt K w r s → FksAt L w' r s
  | [], [], _ => trivial
  | x :: r, f :: s, h => ⟨h.1.keep hk, FksAt.keep hk h.2⟩
  | [], _ :: _, h => h.elim
  | _ :: _, [], h => h.elim
theorem FksAt.len {K : Nat → Prop} {w : World} : ∀ {r : List FV} {s : List Fk}, FksAt K w r s → r.length = s.length
  | [], [], _ => rfl
  | x :: r, f :: s, h => by simp [FksAt.len h.2]
  | [], _ :: _, h => h.elim
  | _ :: _, [], h => h.elim
/-- A way in memory: a row in a block of its own. -/
structure Way (X : Nat → Prop) (w : World) (g cap : Nat) (rs : List FV) (fs : List Fk) : Prop where
  row : ∃ cur : Array Value, w.heap[g]? = some (.cells cur 50 (0, 0)) ∧ cur.size = cap * 546
  nc : rs.length ≤ cap
  cm : cap ≤ maxLen
  y : WyR w g rs
  at' : FksAt (fun b => b ≠ g ∧ X b) w rs fs
theorem WyR.same {w w' : World} {g : Nat} (e : w'.heap[g]? = w.heap[g]?) : ∀ {rs : List FV}, WyR w g rs → WyR w' g rs
  | [], _ => trivial
  | x :: r, h => ⟨fun m v hv => (World.cell?_of_block (show w'.heap[g]? = w.heap[g]? from e)).trans (h.1 m v hv), WyR.same e h.2⟩
theorem Way.keep {X : Nat → Prop} {w w' : World} {g cap : Nat} {rs : List FV} {fs : List Fk} (h : Way X w g cap rs fs) (hk : Keep (fun _ => True) (fun _ => True) w w') : Way X w' g cap rs fs := by
  obtain ⟨cur, h1, h2⟩ := h.row
  have e := (hk g trivial (lt_of_get h1)).1
  exact ⟨⟨cur, e.trans h1, h2⟩, h.nc, h.cm, h.y.same e, h.at'.keep (fun b hb hl => ⟨(hk b trivial hl).1, hb⟩)⟩
theorem Way.go {X : Nat → Prop} {w w' : World} {g cap : Nat} {rs : List FV} {fs : List Fk} (h : Way X w g cap rs fs) (hb : Below w.heap.size w w') : Way X w' g cap rs fs := h.keep (keep_bl hb)
theorem Way.lt {X : Nat → Prop} {w : World} {g cap : Nat} {rs : List FV} {fs : List Fk} (h : Way X w g cap rs fs) : g < w.heap.size := by
  obtain ⟨cur, h1, h2⟩ := h.row
  exact lt_of_get h1
theorem Way.pop {X : Nat → Prop} {w : World} {g cap : Nat} {x : FV} {r : List FV} {f : Fk} {s : List Fk} (h : Way X w g cap (x :: r) (f :: s)) : Way X w g cap r s := ⟨h.row, by have := h.nc; simp at this; omega, h.cm, h.y.2, h.at'.2⟩
/-- The cells of a row, from its beginning. -/
def flatF : List FV → List Value
  | [] => []
  | x :: r => flatF r ++ x.cells
theorem flatF_len : ∀ {rs : List FV}, (∀ x ∈ rs, x.Ok) → (flatF rs).length = rs.length * 546
  | [], _ => rfl
  | x :: r, h => by rw [flatF, List.length_append, flatF_len (fun y hy => h y (List.mem_cons_of_mem _ hy)), FV.len (h x (by simp)), List.length_cons]; omega
theorem wy_cell {w : World} {g : Nat} : ∀ {rs : List FV}, (∀ x ∈ rs, x.Ok) → WyR w g rs → ∀ m v, (flatF rs)[m]? = some v → w.cell? ⟨g, m, none⟩ = some v
  | [], _, _, m, v, hv => by simp [flatF] at hv
  | x :: r, ho, h, m, v, hv => by
    have hl := flatF_len (rs := r) (fun y hy => ho y (List.mem_cons_of_mem _ hy))
    rw [flatF] at hv
    by_cases e : m < (flatF r).length
    · rw [List.getElem?_append_left e] at hv
      exact wy_cell (fun y hy => ho y (List.mem_cons_of_mem _ hy)) h.2 m v hv
    · rw [List.getElem?_append_right (by omega)] at hv
      have := h.1 _ v hv
      rw [show r.length * 546 + (m - (flatF r).length) = m from by omega] at this
      exact this
theorem wy_of {w : World} {g : Nat} : ∀ {rs : List FV}, (∀ x ∈ rs, x.Ok) → (∀ m v, (flatF rs)[m]? = some v → w.cell? ⟨g, m, none⟩ = some v) → WyR w g rs
  | [], _, _ => trivial
  | x :: r, ho, h => by
    have hl := flatF_len (rs := r) (fun y hy => ho y (List.mem_cons_of_mem _ hy))
    refine ⟨fun m v hv => ?_, wy_of (fun y hy => ho y (List.mem_cons_of_mem _ hy)) (fun m v hv => h m v ?_)⟩
    · refine h _ v ?_
      rw [flatF, List.getElem?_append_right (by omega), show r.length * 546 + m - (flatF r).length = m from by omega]
      exact hv
    · rw [flatF, List.getElem?_append_left (List.getElem?_eq_some_iff.1 hv).1]; exact hv
theorem FksAt.oks {K : Nat → Prop} {w : World} : ∀ {r : List FV} {s : List Fk}, FksAt K w r s → ∀ x ∈ r, x.Ok
  | [], [], _ => fun x hx => by simp at hx
  | y :: r, f :: s, h => fun x hx => by
    rcases List.mem_cons.1 hx with e | e
    · rw [e]; exact h.1.l
    · exact FksAt.oks h.2 x e
  | [], _ :: _, h => h.elim
  | _ :: _, [], h => h.elim
theorem Way.owns {X : Nat → Prop} {w : World} {g cap base : Nat} {rs : List FV} {fs : List Fk} (h : Way X w g cap rs fs) (hb : base ≤ g) : w.ownsRow base 50 546 (.slice (some ⟨g, 0, none⟩) rs.length cap) rs.length (flatF rs) := by
  obtain ⟨cur, h1, h2⟩ := h.row
  have ho := h.at'.oks
  have hl := flatF_len ho
  refine ⟨hl, .inr ⟨g, cap, cur, rfl, hb, h1, h.nc, h.cm, h2, ?_⟩⟩
  have hnc := h.nc
  have hle : rs.length * 546 ≤ cap * 546 := Nat.mul_le_mul_right _ hnc
  refine List.ext_getElem (by rw [List.length_take, hl]; have : cur.toList.length = cur.size := Array.length_toList; show min (rs.length * 546) _ = _; omega) fun m hm1 hm2 => ?_
  have hv : (flatF rs)[m]? = some (flatF rs)[m] := List.getElem?_eq_getElem hm2
  have hc := wy_cell ho h.y m _ hv
  rw [cell_of_row _ _ _ _ _ _ h1, ← Array.getElem?_toList] at hc
  rw [List.getElem_take]
  have := List.getElem?_eq_some_iff.1 hc
  exact this.2
theorem infoFk : ∃ i, Try.prog.info? 50 = some i ∧ i.zero = some (.agg (FV.cells ⟨0, fun _ => rz, none, 0, 0⟩).toArray) ∧ i.size = 546 ∧ i.bytes = 1056 := by
  have h : (Try.prog.info? 50).map (fun i => (i.zero, i.size, i.bytes)) = some (some (.agg (FV.cells ⟨0, fun _ => rz, none, 0, 0⟩).toArray), 546, 1056) := by kernel_rfl
  cases hq : Try.prog.info? 50 with
  | none => rw [hq] at h; simp at h
  | some i => rw [hq] at h; simp at h; exact ⟨i, rfl, h.1, h.2.1, h.2.2⟩
end Go.Proofs.Ytdkpilgelgjieaa
/- A fork's encoding. -/
namespace Go.Proofs.Ytdkpilgelgjieaa
open Go.RowKit
open Tr
set_option linter.unusedVariables false
set_option maxRecDepth 100000
theorem kc_cut {ys : Nat → RV} (h : ∀ i, (ys i).d.length = 32) {j : Nat} (hj : j < 16) : List.take 34 (List.drop (j * 34) (kc ys 16)) = (ys j).cells := by
  refine List.ext_getElem? fun m => ?_
  by_cases hm : m < 34
  · rw [List.getElem?_take_of_lt hm, List.getElem?_drop]
    have hv : (ys j).cells[m]? = some _ := List.getElem?_eq_getElem (by rw [RV.len (h j)]; exact hm)
    rw [hv]
    exact kc_get h 16 j m _ hj hv
  · rw [List.getElem?_eq_none (by rw [List.length_take]; omega), List.getElem?_eq_none (by rw [RV.len (h j)]; omega)]
theorem ix_kids {ys : Nat → RV} (h : ∀ i, (ys i).d.length = 32) {j : Nat} (hj : j < 16) (w : World) : (Instr.index 48 (.agg (kc ys 16).toArray) (.int .i64 ((j : Nat) : Int))).run Try.prog w = .ok (.agg (ys j).cells.toArray) w := by
  have hs := infoR
  cases hq : Try.prog.info? 47 with
  | none => simp [hq] at hs
  | some y =>
    have hy : y.size = 34 := by simpa [hq] using hs
    have hc := kc_cut h hj
    simp [Instr.index, asIntOf, run_underlying Try.underlying48, run_underlying Try.underlying47, sizeOf, typeInfo, hq, hy, part, isAgg, hj, hc]
theorem ol_ixR {ρ : Operand → Value} {w : World} {o : Oper} (x y : Operand) {ys : Nat → RV} (h : ∀ i, (ys i).d.length = 32) {j : Nat} (hj : j < 16) (ho : o.op = .index 48 x y) (hx : ρ x = .agg (kc ys 16).toArray) (hy : ρ y = .int .i64 ((j : Nat) : Int)) : (execOp ρ o).run Try.prog w = .ok (.value (.agg (ys j).cells.toArray)) w := by
  unfold execOp
  rw [ho]
  simp only [hx, hy, Sem.run_bind, ix_kids h hj w, Result.andThen_ok, Sem.run_pure]
theorem infoKR : (Try.prog.info? 48).map (·.size) = some 544 := by kernel_rfl
theorem f_arr {w : World} {g o : Nat} {x : FV} (hx : x.Ok) (h : w.rangeAt g o x.cells) : w.rangeAt g (o + 1) (kc x.ys 16) := fun m v hv => by
  rw [show o + 1 + m = o + (m + 1) from by omega]
  refine h _ v ?_
  rw [FV.cells, List.getElem?_cons_succ, List.getElem?_append_left (List.getElem?_eq_some_iff.1 hv).1]
  exact hv
theorem rng_row {w : World} {g : Nat} {cs : List Value} {T : TypeId} (h : Rw g w cs.toArray T) : w.rangeAt g 0 cs := fun j v hj => by
  rw [cell_of_row _ _ _ _ _ _ h, Nat.zero_add, List.getElem?_toArray]; exact hj
theorem referP_ne (b : List Int) : (referP b).k ≠ 0 := by unfold referP; split <;> simp
theorem rP_no {k : Nat → Tr} {i : Nat} : ((rP k i).k = 0) ↔ (k i).isNo = true := by
  unfold rP
  cases (k i).isNo with
  | true => simp [r0]
  | false => simp [referP_ne]
theorem r_at0 (y : RV) : y.cells.toArray[0]? = some (.int .i64 y.k) := by simp [RV.cells]
set_option maxHeartbeats 2000000 in
theorem parts_any {K : Nat → Prop} {w : World} {x : FV} {f : Fk} (hx : FkAt K w x f) :
    Calls Try.prog 30 #[.agg x.cells.toArray] w fun e w' => ∃ u, e = .returned u ∧ (fun u w' => u = .bool (!allNo f.k) ∧ Bl w w') u w' := by
  have hB := Bl.refl w
  have hxl := hx.l
  refine cw_enter Try.func30 rfl 14 rfl ?_
  show CW _ _ _ _ _ _ _ [(0, .agg x.cells.toArray)] _
  refine cw_seq ?_
  refine cw_region ?_
  refine rw_new 1 x.cells.toArray 50 (fun _ => by kernel_rfl) (fun _ => by kernel_rfl) ?_
  intro w1 gF hnF
  replace hB := hB.go hnF.below
  have hrF : Rw gF w1 x.cells.toArray 50 := hnF.row
  refine rp 2 (.bool false) ?_
  refine rw_nil ?_
  refine nw_then ?_
  refine cw_seq ?_
  refine cw_seq ?_
  refine cw_region ?_
  refine rp 5 (.pointer (some ⟨gF, 1, none⟩)) ?_
  refine rv 6 (.agg (kc x.ys 16).toArray) (fun _ => ol_mid 48 _ gF 1 (kc x.ys 16) _ rfl (by kernel_rfl) (f_arr hxl (rng_row hrF)) Try.underlying48 rfl (by rw [infoKR, kc_len hxl])) ?_
  refine rp 7 (.int .i64 0) ?_
  refine rw_nil ?_
  refine nw_then ?_
  refine cw_block ?_
  refine cw_loop (X := Nat) (fun j => [(7, .int .i64 ((j : Nat) : Int)), (6, .agg (kc x.ys 16).toArray)]) (fun j v => Bl w v ∧ j ≤ 16 ∧ ∀ i, i < j → f.k i = no) (fun j => 16 - j) 0 (by exact ⟨fun _ => by kernel_rfl, ⟨fun _ => by kernel_rfl, trivial⟩⟩) ⟨hB, Nat.zero_le _, fun i hi => by omega⟩ ?_
  clear hB
  rintro j v ⟨hB, hj, hI⟩
  by_cases hlt : j < 16
  · skip
    refine cw_seq ?_
    refine cw_region ?_
    refine rv 8 (.bool true) (fun _ => ol_conv (v := .bool (decide (((j : Nat) : Int) < (16 : Int)))) (by kernel_rfl) (congrArg Value.bool (decide_eq_true (by omega)))) ?_
    refine rw_nil ?_
    refine nw_then ?_
    refine cw_seq ?_
    refine cw_cond_t (fun _ => by kernel_rfl) ?_
    refine cw_skip ?_
    refine nw_then ?_
    refine cw_seq ?_
    refine cw_block ?_
    refine cw_seq ?_
    refine cw_region ?_
    refine rv 9 (.agg (x.ys j).cells.toArray) (fun _ => ol_ixR _ _ hxl hlt rfl (by kernel_rfl) (by kernel_rfl)) ?_
    have hz0 := hB.size
    refine rw_new 4 rz.cells.toArray 47 (fun _ => by kernel_rfl) (fun _ => by kernel_rfl) ?_
    intro w2 gR hnR
    have hgR := hnR.hg
    replace hB := hB.go hnR.below
    refine rw_put gR (x.ys j).cells.toArray (fun _ => by kernel_rfl) (fun _ => ol_store 47 _ _ _ _ _ _ rfl (by kernel_rfl) (by kernel_rfl) hnR.row (by rw [infoR, r_size (hxl j)]) (by rw [r_size (hxl j)]; rfl) (r_ones _)) ?_
    intro w3 hpR
    have hrR : Rw gR w3 (x.ys j).cells.toArray 47 := hpR.row hnR.row
    replace hB : Bl w w3 := hpR.below hB (by omega) hB.size
    refine rw_nil ?_
    refine nw_then ?_
    refine cw_seq ?_
    refine cw_region ?_
    refine rp 10 (.pointer (some ⟨gR, 0, none⟩)) ?_
    refine rv 11 (.int .i64 (x.ys j).k) (fun _ => ol_cell 3 _ ⟨gR, 0, none⟩ _ _ rfl (by kernel_rfl) (by rw [cell_of_row _ _ _ _ _ _ hrR]; exact r_at0 _) Try.underlying3 rfl) ?_
    refine rp 12 (.bool (!(((x.ys j).k : Int) == (0 : Int)))) ?_
    refine rw_nil ?_
    refine nw_then ?_
    have hkj := (hx.k j hlt).1
    cases hno : (f.k j).isNo with
    | true =>
      rw [show (!(((x.ys j).k : Int) == (0 : Int))) = false from by rw [hkj]; rw [rP_no.2 hno]; rfl]
      refine cw_cond_f (fun _ => by kernel_rfl) ?_
      refine cw_skip ?_
      refine nw_block ?_
      refine nw_then ?_
      refine cw_region ?_
      refine rv 13 (.int .i64 (((j : Nat) : Int) + 1)) (fun _ => ol_conv (v := .int .i64 (IntKind.i64.wrap (((j : Nat) : Int) + 1))) (by kernel_rfl) (congrArg (Value.int .i64) (wrap64 (by omega) (by omega)))) ?_
      refine rp 7 (.int .i64 (((j : Nat) : Int) + 1)) ?_
      refine rw_nil ?_
      exact nw_round (E := fun j => [(7, .int .i64 ((j : Nat) : Int)), (6, .agg (kc x.ys 16).toArray)]) (R := fun j v => Bl w v ∧ j ≤ 16 ∧ ∀ i, i < j → f.k i = no) (μ := fun j => 16 - j) (x := j) (j + 1) (by exact ⟨fun _ => by kernel_rfl, ⟨fun _ => by kernel_rfl, trivial⟩⟩) ⟨hB, by omega, fun i hi => (Nat.lt_succ_iff_lt_or_eq.1 hi).elim (hI i) (fun e => by rw [e]; exact isNo_iff.1 hno)⟩ (by show 16 - (j + 1) < 16 - j; omega)
    | false =>
      rw [show (!(((x.ys j).k : Int) == (0 : Int))) = true from by rw [hkj]; simp [rP_no, hno]]
      refine cw_cond_t (fun _ => by kernel_rfl) ?_
      refine cw_seq ?_
      refine cw_region ?_
      refine rp 2 (.bool true) ?_
      refine rw_nil ?_
      refine nw_then ?_
      refine cw_ret ?_
      refine nw_ret_block ?_
      refine nw_ret_then ?_
      refine nw_ret_then ?_
      refine nw_ret_block ?_
      refine nw_ret_then ?_
      exact nw_ret_body (.bool true) (fun _ => by kernel_rfl) ⟨_, rfl, by rw [show allNo f.k = false from by cases hq : allNo f.k with | false => rfl | true => exact absurd (isNo_iff.2 (allNo_iff.1 hq j hlt)) (by rw [hno]; simp)]; rfl, hB⟩
  obtain rfl : j = 16 := by omega
  refine cw_seq ?_
  refine cw_region ?_
  refine rv 8 (.bool false) (fun _ => ol_conv (v := .bool (decide (((16 : Nat) : Int) < (16 : Int)))) (by kernel_rfl) (congrArg Value.bool (rfl))) ?_
  refine rw_nil ?_
  refine nw_then ?_
  refine cw_seq ?_
  refine cw_cond_f (fun _ => by kernel_rfl) ?_
  refine cw_exit ?_
  refine nw_exit_then ?_
  refine nw_exit_then ?_
  refine nw_exit_here ?_
  refine nw_then ?_
  refine cw_seq ?_
  refine cw_region ?_
  refine rp 2 (.bool false) ?_
  refine rw_nil ?_
  refine nw_then ?_
  refine cw_ret ?_
  exact nw_ret_body (.bool false) (fun _ => by kernel_rfl) ⟨_, rfl, by rw [allNo_iff.2 hI]; rfl, hB⟩
theorem fr_sk {w : World} {base : Nat} {a : Option Addr} {m c : Nat} {bs : List Int} (h : Ag w a m c bs) (hf : Fr base w a m) : Sk (fun b => base ≤ b) w a m c bs := ⟨h, fun x hx h0 => by
  obtain ⟨g, off, e, _⟩ := ag_head h h0
  rw [e] at hx; cases hx
  exact (hf g off e h0).1⟩
theorem _root_.Go.Proofs.Ytdkpilgelgjieaa.RefAt.mono {K K' : Nat → Prop} {w : World} {y : RV} {r : PR} (h : RefAt K w y r) (hK : ∀ b, K b → K' b) : RefAt K' w y r := h.go (fun b hb _ => ⟨rfl, hK b hb⟩)
theorem ref_zeroA (K : Nat → Prop) (w : World) : RefAt K w rz r0 := ref_zeroK K w
theorem ag_noneK (K : Nat → Prop) (w : World) : AgK K w none 0 0 [] := ⟨⟨.inl ⟨rfl, rfl⟩, fun _ => ⟨rfl, rfl⟩, rfl, fun x hx => by cases hx⟩, Nat.zero_le _, fun _ _ e => by cases e⟩
theorem kids_fk {K : Nat → Prop} {w : World} {gF : Nat} {x : FV} {k : Nat → Tr} {v : List Int} (hx : x.Ok) (h : w.rangeAt gF 0 x.cells) (hr : ∀ i, i < 16 → RefAt K w (x.ys i) (rP k i)) (hK : K gF) : KidsAt K w (some ⟨gF, 0 + 1, none⟩) (nodeP (br k v)).ks := by
  intro j r hj
  have hl : j < 16 := by have := (List.getElem?_eq_some_iff.1 hj).1; simpa [nodeP] using this
  have e : r = rP k j := by
    simp only [nodeP] at hj
    rw [List.getElem?_map, List.getElem?_range hl] at hj
    simp at hj
    rw [← hj]; rfl
  exact ⟨gF, 0 + 1, x.ys j, rfl, hK, f_kid hx h hl, by rw [e]; exact hr j hl⟩
theorem ol_sl16 {ρ : Operand → Value} {w : World} {o : Oper} {x : Operand} {g o0 : Nat} (ho : o.op = .slice 48 x none none none) (hx : ρ x = .pointer (some ⟨g, o0, none⟩)) : (execOp ρ o).run Try.prog w = .ok (.value (.slice (some ⟨g, o0, none⟩) 16 16)) w := by
  have hs := infoR
  cases hq : Try.prog.info? 47 with
  | none => simp [hq] at hs
  | some y =>
    unfold execOp
    rw [ho]
    simp [hx, Instr.sliceAt, run_underlying Try.underlying48, Instr.sureAddr, Instr.sliceBounds, sizeOf, typeInfo, hq, addr_add, Result.andThen]
set_option maxHeartbeats 2000000 in
theorem bencode_any {K : Nat → Prop} {w : World} {y : NV} {n : PN} (hy : NodeAt K w y n) :
    Calls Try.prog 31 #[.agg y.cells.toArray] w fun e w' => ∃ u, e = .returned u ∧ (fun u w' => (∃ a m c, u = .slice a m c ∧ m ≤ 65540 ∧ Sk (fun b => w.heap.size ≤ b) w' a m c (NEP n).1) ∧ Bl w w') u w' := by
  have hB := Bl.refl w
  have hyl := hy.c.len
  refine cw_enter Try.func31 rfl 11 rfl ?_
  show CW _ _ _ _ _ _ _ [(0, .agg y.cells.toArray)] _
  refine cw_seq ?_
  refine cw_region ?_
  refine rw_new 1 y.cells.toArray 73 (fun _ => by kernel_rfl) (fun _ => by kernel_rfl) ?_
  intro w1 gN hnN
  replace hB := hB.go hnN.below
  have hrN : Rw gN w1 y.cells.toArray 73 := hnN.row
  refine rp 2 (.slice none 0 0) ?_
  refine rw_nil ?_
  refine nw_then ?_
  refine cw_seq ?_
  refine cw_region ?_
  refine rv 6 (.agg y.cells.toArray) (fun _ => ol_row 73 _ _ _ _ _ _ rfl (by kernel_rfl) hrN Try.underlying73 rfl (by rw [infoN, n_size hyl])) ?_
  refine rw_call 7 37 #[.agg y.cells.toArray] (fun _ => by kernel_rfl) (fun _ => by kernel_rfl) (R := fun u w' => (∃ a m c, u = .tuple #[.slice a m c, .int .i64 ((NEP n).2 : Nat)] ∧ Sk (fun b => w1.heap.size ≤ b) w' a m c (NEP n).1) ∧ Bl w1 w') ((nencode_any K y n w1 (hy.go (keep_bl hnN.below))).mono (fun e w' ⟨⟨a, m, c, h1, h2, h3⟩, h4⟩ => ⟨_, h1, ⟨a, m, c, rfl, fr_sk h2 h3⟩, h4⟩)) ?_
  rintro _ u1 ⟨⟨a1, m1, c1, rfl, hs1⟩, hb1⟩
  replace hB := hB.go hb1
  refine rp 5 (.tuple #[.slice a1 m1 c1, .int .i64 ((NEP n).2 : Nat)]) ?_
  refine rp 8 (.slice a1 m1 c1) ?_
  refine rp 9 (.int .i64 ((NEP n).2 : Nat)) ?_
  refine rp 3 (.slice a1 m1 c1) ?_
  refine rp 4 (.int .i64 ((NEP n).2 : Nat)) ?_
  refine rw_nil ?_
  refine nw_then ?_
  refine cw_seq ?_
  refine cw_region ?_
  refine rp 10 (.slice a1 m1 c1) ?_
  refine rp 2 (.slice a1 m1 c1) ?_
  refine rw_nil ?_
  refine nw_then ?_
  refine cw_ret ?_
  exact nw_ret_body (.slice a1 m1 c1) (fun _ => by kernel_rfl) ⟨_, rfl, ⟨a1, m1, c1, rfl, by rw [← hs1.len]; exact nep_len hy.okN, hs1.mono (fun b hb => by have := hnN.below.size; omega)⟩, hB⟩
set_option maxHeartbeats 4000000 in
theorem encoding_any {K : Nat → Prop} {w : World} {x : FV} {f : Fk} (hx : FkAt K w x f) {K' : Nat → Prop} {a : Option Addr} {n c : Nat} {p : List Int} (hp : Sk K' w a n c p) (hn : n ≤ 1000) :
    Calls Try.prog 19 #[.agg x.cells.toArray, .slice a n c] w fun e w' => ∃ u, e = .returned u ∧ (fun u w' => (∃ a m c, u = .slice a m c ∧ m ≤ 65540 ∧ Sk (fun b => w.heap.size ≤ b) w' a m c (encT (und p (fkT f)))) ∧ Bl w w') u w' := by
  have hB := Bl.refl w
  have hxl := hx.l
  have lp := hp.len
  have lv := hx.v.len
  have hvm := hx.m
  refine cw_enter Try.func19 rfl 29 rfl ?_
  show CW _ _ _ _ _ _ _ [(0, .agg x.cells.toArray), (1, .slice a n c)] _
  refine cw_seq ?_
  refine cw_region ?_
  refine rw_new 2 x.cells.toArray 50 (fun _ => by kernel_rfl) (fun _ => by kernel_rfl) ?_
  intro w1 gF hnF
  replace hB := hB.go hnF.below
  have hrF : Rw gF w1 x.cells.toArray 50 := hnF.row
  replace hx := hx.keep (keep_bl hnF.below)
  replace hp := hp.go hnF.below
  refine rp 4 (.slice none 0 0) ?_
  refine rw_nil ?_
  refine nw_then ?_
  refine cw_seq ?_
  refine cw_seq ?_
  refine cw_region ?_
  refine rv 6 (.agg x.cells.toArray) (fun _ => ol_row 50 _ _ _ _ _ _ rfl (by kernel_rfl) hrF Try.underlying50 rfl (by rw [infoF, f_size hxl])) ?_
  refine rw_call 7 30 #[.agg x.cells.toArray] (fun _ => by kernel_rfl) (fun _ => by kernel_rfl) (R := fun u w' => u = .bool (!allNo f.k) ∧ Bl w1 w') (parts_any hx) ?_
  rintro _ u1 ⟨rfl, hb1⟩
  replace hB := hB.go hb1
  replace hp := hp.go hb1
  replace hx := hx.keep (keep_bl hb1)
  replace hrF := hrF.go hb1
  refine rp 8 (.bool (!(!allNo f.k))) ?_
  refine rw_nil ?_
  refine nw_then ?_
  cases hno : allNo f.k with
  | true =>
    show CW _ _ _ _ _ _ _ [(8, .bool true), (7, .bool false), (6, .agg x.cells.toArray), (4, .slice none 0 0), (2, .pointer (some ⟨gF, 0, none⟩)), (0, .agg x.cells.toArray), (1, .slice a n c)] _
    refine cw_cond_t (fun _ => by kernel_rfl) ?_
    refine cw_seq ?_
    refine cw_region ?_
    refine rp 9 (.slice a n c) ?_
    refine rp 10 (.pointer (some ⟨gF, 545, none⟩)) ?_
    refine rv 11 (.slice x.a x.n x.c) (fun _ => ol_cell 29 _ ⟨gF, 545, none⟩ _ _ rfl (by kernel_rfl) (by have := f_val hxl (rng_row hrF); rwa [Nat.zero_add] at this) Try.underlying29 rfl) ?_
    refine rv 12 (.agg (NV.cells ⟨1, a, n, c, x.a, x.n, x.c, rz, none, 0, 0⟩).toArray) (fun _ => ol_build 73 _ [(0, .int .i64 1), (1, .slice a n c), (2, .slice x.a x.n x.c)] _ rfl (by kernel_rfl) (built_N1 _ _ _ _ _ _)) ?_
    have hNleaf : NodeAt (fun _ => True) u1 ⟨1, a, n, c, x.a, x.n, x.c, rz, none, 0, 0⟩ (⟨1, p, f.v, r0, []⟩) := ⟨rfl, hp.agk (by omega), hx.v.agk (by omega), ref_zeroA _ _, ⟨rfl, Nat.le_refl _, Nat.zero_le _, Nat.zero_le _, fun _ => ⟨rfl, rfl⟩⟩, fun j r hr => by simp at hr⟩
    refine rw_call 13 31 #[.agg (NV.cells ⟨1, a, n, c, x.a, x.n, x.c, rz, none, 0, 0⟩).toArray] (fun _ => by kernel_rfl) (fun _ => by kernel_rfl) (R := fun u w' => (∃ a m c, u = .slice a m c ∧ m ≤ 65540 ∧ Sk (fun b => (u1).heap.size ≤ b) w' a m c (NEP (⟨1, p, f.v, r0, []⟩)).1) ∧ Bl (u1) w') (bencode_any hNleaf) ?_
    rintro _ uleaf ⟨⟨aleaf, mleaf, cleaf, rfl, hmleaf, hsleaf⟩, hbleaf⟩
    have hszleaf := hB.size
    replace hB := hB.go hbleaf
    replace hp := hp.go hbleaf
    replace hx := hx.keep (keep_bl hbleaf)
    replace hrF := hrF.go hbleaf
    refine rp 4 (.slice aleaf mleaf cleaf) ?_
    refine rw_nil ?_
    refine nw_then ?_
    refine cw_ret ?_
    refine nw_ret_then ?_
    exact nw_ret_body (.slice aleaf mleaf cleaf) (fun _ => by kernel_rfl) ⟨_, rfl, ⟨_, _, _, rfl, hmleaf, by rw [show encT (und p (fkT f)) = (NEP ⟨1, p, f.v, r0, []⟩).1 from by unfold fkT; rw [if_pos hno]; simp [und, encT]]; exact hsleaf.mono (fun b hb => by omega)⟩, hB⟩
  | false =>
    show CW _ _ _ _ _ _ _ [(8, .bool false), (7, .bool true), (6, .agg x.cells.toArray), (4, .slice none 0 0), (2, .pointer (some ⟨gF, 0, none⟩)), (0, .agg x.cells.toArray), (1, .slice a n c)] _
    refine cw_cond_f (fun _ => by kernel_rfl) ?_
    refine cw_skip ?_
    refine nw_then ?_
    refine cw_seq ?_
    refine cw_draw (fun v => Rw gF v x.cells.toArray 50) (by kernel_rfl) (hrF.go (Below.refl _ _).drew) ?_
    replace hB := hB.drew
    replace hp := hp.drew
    replace hx := hx.keep (keep_bl (Below.refl _ _).drew)
    replace hrF := hrF.go (Below.refl _ _).drew
    refine dt 0 14 (.pointer (some ⟨gF, 1, none⟩)) (fun v hv _ => by kernel_rfl) hrF ?_
    refine dt 1 15 (.slice (some ⟨gF, 0 + 1, none⟩) 16 16) (fun v hv _ => ol_sl16 rfl (by kernel_rfl)) hrF ?_
    refine dt 2 16 (.pointer (some ⟨gF, 545, none⟩)) (fun v hv _ => by kernel_rfl) hrF ?_
    refine dt 3 17 (.slice x.a x.n x.c) (fun v hv _ => ol_cell 29 _ ⟨gF, 545, none⟩ _ _ rfl (by kernel_rfl) (by have := f_val hxl (rng_row hv); rwa [Nat.zero_add] at this) Try.underlying29 rfl) hrF ?_
    refine dt 4 18 (.agg (NV.cells ⟨3, none, 0, 0, x.a, x.n, x.c, rz, some ⟨gF, 0 + 1, none⟩, 16, 16⟩).toArray) (fun v hv _ => ol_build 73 _ [(0, .int .i64 3), (4, .slice (some ⟨gF, 0 + 1, none⟩) 16 16), (2, .slice x.a x.n x.c)] _ rfl (by kernel_rfl) (built_N3' _ _ _ _ _ _)) hrF ?_
    refine dw_ready [5] (by kernel_rfl) (by simp) ?_
    have hNbr : NodeAt (fun _ => True) u1.drew ⟨3, none, 0, 0, x.a, x.n, x.c, rz, some ⟨gF, 0 + 1, none⟩, 16, 16⟩ (nodeP (br f.k f.v)) := ⟨rfl, ag_noneK _ _, hx.v.agk (by omega), ref_zeroA _ _, ⟨(by simp [nodeP]), Nat.le_refl _, (by show 16 ≤ maxLen; unfold maxLen; omega), (by show 16 ≤ _; omega), fun e => by cases e⟩, kids_fk hxl (rng_row hrF) (fun i hi => (hx.k i hi).mono (fun _ _ => trivial)) trivial⟩
    refine ar_call 5 19 31 #[.agg (NV.cells ⟨3, none, 0, 0, x.a, x.n, x.c, rz, some ⟨gF, 0 + 1, none⟩, 16, 16⟩).toArray] rfl (fun _ => by kernel_rfl) (fun _ => by kernel_rfl) (R := fun u w' => (∃ a m c, u = .slice a m c ∧ m ≤ 65540 ∧ Sk (fun b => (u1.drew).heap.size ≤ b) w' a m c (NEP (nodeP (br f.k f.v))).1) ∧ Bl (u1.drew) w') (bencode_any hNbr) (fun u w' h => hrF.go h.2) ?_ ar_nil
    rintro _ ubr ⟨⟨abr, mbr, cbr, rfl, hmbr, hsbr⟩, hbbr⟩
    have hszbr := hB.size
    replace hB := hB.go hbbr
    replace hp := hp.go hbbr
    replace hx := hx.keep (keep_bl hbbr)
    replace hrF := hrF.go hbbr
    refine dt 6 5 (.slice abr mbr cbr) (fun v hv _ => by kernel_rfl) hrF ?_
    refine dw_done (by kernel_rfl) ?_
    refine nw_then ?_
    refine cw_seq ?_
    refine cw_seq ?_
    refine cw_region ?_
    refine rp 20 (.slice a n c) ?_
    refine rp 21 (.int .i64 n) ?_
    refine rp 22 (.bool ((n : Int) == (0 : Int))) ?_
    refine rw_nil ?_
    refine nw_then ?_
    by_cases hn0 : n = 0
    · skip
      rw [show ((n : Int) == (0 : Int)) = true from beq_iff_eq.2 (by omega)]
      refine cw_cond_t (fun _ => by kernel_rfl) ?_
      refine cw_seq ?_
      refine cw_region ?_
      refine rp 23 (.slice abr mbr cbr) ?_
      refine rp 4 (.slice abr mbr cbr) ?_
      refine rw_nil ?_
      refine nw_then ?_
      refine cw_ret ?_
      refine nw_ret_then ?_
      exact nw_ret_body (.slice abr mbr cbr) (fun _ => by kernel_rfl) ⟨_, rfl, ⟨_, _, _, rfl, hmbr, by rw [show encT (und p (fkT f)) = (NEP (nodeP (br f.k f.v))).1 from by rw [List.eq_nil_of_length_eq_zero (show p.length = 0 by omega)]; unfold fkT; rw [if_neg (by rw [hno]; simp)]; rfl]; exact hsbr.mono (fun b hb => by omega)⟩, hB⟩
    · skip
      rw [show ((n : Int) == (0 : Int)) = false from beq_eq_false_iff_ne.2 (by omega)]
      refine cw_cond_f (fun _ => by kernel_rfl) ?_
      refine cw_skip ?_
      refine nw_then ?_
      refine cw_seq ?_
      refine cw_region ?_
      refine rp 24 (.slice a n c) ?_
      refine rp 25 (.slice abr mbr cbr) ?_
      have hlb := hsbr.len
      have hlb2 := nep_len hNbr.okN
      refine rw_call 26 24 #[.slice abr mbr cbr] (fun _ => by kernel_rfl) (fun _ => by kernel_rfl) (R := fun u w' => (∃ y : RV, u = .agg y.cells.toArray ∧ RefAt (fun _ => True) w' y (referP (encT (br f.k f.v)))) ∧ Bl (ubr) w') ((refer_any abr mbr cbr _ _ hsbr.ag (by omega)).mono (fun e w' ⟨⟨y, h1, h2⟩, h3⟩ => ⟨_, h1, ⟨y, rfl, h2.mono (fun _ _ => trivial)⟩, h3⟩)) ?_
      rintro _ u4 ⟨⟨yr, rfl, hyr⟩, hb4⟩
      replace hB := hB.go hb4
      replace hp := hp.go hb4
      replace hx := hx.keep (keep_bl hb4)
      replace hrF := hrF.go hb4
      replace hsbr := hsbr.go hb4
      refine rv 27 (.agg (NV.cells ⟨2, a, n, c, none, 0, 0, yr, none, 0, 0⟩).toArray) (fun _ => ol_build 73 _ [(0, .int .i64 2), (1, .slice a n c), (3, .agg yr.cells.toArray)] _ rfl (by kernel_rfl) (built_N2 _ _ _ _ hyr.len)) ?_
      have hNext : NodeAt (fun _ => True) u4 ⟨2, a, n, c, none, 0, 0, yr, none, 0, 0⟩ (⟨2, p, [], referP (encT (br f.k f.v)), []⟩) := ⟨rfl, hp.agk (by omega), ag_noneK _ _, hyr, ⟨rfl, Nat.le_refl _, Nat.zero_le _, Nat.zero_le _, fun _ => ⟨rfl, rfl⟩⟩, fun j r hr => by simp at hr⟩
      refine rw_call 28 31 #[.agg (NV.cells ⟨2, a, n, c, none, 0, 0, yr, none, 0, 0⟩).toArray] (fun _ => by kernel_rfl) (fun _ => by kernel_rfl) (R := fun u w' => (∃ a m c, u = .slice a m c ∧ m ≤ 65540 ∧ Sk (fun b => (u4).heap.size ≤ b) w' a m c (NEP (⟨2, p, [], referP (encT (br f.k f.v)), []⟩)).1) ∧ Bl (u4) w') (bencode_any hNext) ?_
      rintro _ uext ⟨⟨aext, mext, cext, rfl, hmext, hsext⟩, hbext⟩
      have hszext := hB.size
      replace hB := hB.go hbext
      replace hp := hp.go hbext
      replace hx := hx.keep (keep_bl hbext)
      replace hrF := hrF.go hbext
      replace hsbr := hsbr.go hbext
      refine rp 4 (.slice aext mext cext) ?_
      refine rw_nil ?_
      refine nw_then ?_
      refine cw_ret ?_
      exact nw_ret_body (.slice aext mext cext) (fun _ => by kernel_rfl) ⟨_, rfl, ⟨_, _, _, rfl, hmext, by rw [show encT (und p (fkT f)) = (NEP ⟨2, p, [], referP (encT (br f.k f.v)), []⟩).1 from by unfold fkT; rw [if_neg (by rw [hno]; simp)]; simp only [und]; rw [if_neg (fun e => hn0 (by rw [← lp, e]; rfl))]; rfl]; exact hsext.mono (fun b hb => by omega)⟩, hB⟩
end Go.Proofs.Ytdkpilgelgjieaa
/- A way in memory: a fork more, a kid more, paths cut on both sides. -/
namespace Go.Proofs.Ytdkpilgelgjieaa
open Go.RowKit
open Tr
set_option linter.unusedVariables false
set_option maxRecDepth 100000
theorem Sk.short {K : Nat → Prop} {w : World} {a : Option Addr} {n c : Nat} {bs : List Int} (h : Sk K w a n c bs) (f : Nat) (hf : f ≤ n) : Sk K w a f c (bs.take f) := by
  have q := h.upto f hf
  have e : (if c = 0 then a else a.map (·.add (0 * 1))) = a := by
    split
    · rfl
    · cases a with
      | none => rfl
      | some x => obtain ⟨b, o, s⟩ := x; cases s <;> simp [Addr.add]
  rw [e] at q
  exact q
theorem Sk.cut2 {K : Nat → Prop} {w : World} {a : Option Addr} {n c : Nat} {bs : List Int} (h : Sk K w a n c bs) (l u : Nat) (hl : l ≤ u) (hu : u ≤ n) :
    ∃ a' n' c', (∀ (v : World) (ρ : Operand → Value) (o : Oper) (x y z : Operand) (i k : Int), o.op = .slice 29 x (some y) (some z) none → ρ x = .slice a n c → ρ y = .int .i64 i → ρ z = .int .i64 k → i = l → k = u → (execOp ρ o).run Try.prog v = .ok (.value (.slice a' n' c')) v) ∧ Sk K w a' n' c' (seg bs l u) ∧ n' = u - l := by
  have hnc : n ≤ c := by
    rcases h.ag.i with ⟨q, _⟩ | ⟨_, _, _, _, _, q, _, _⟩
    · omega
    · exact q
  refine ⟨_, _, _, ?_, (h.short u hu).from l hl, rfl⟩
  intro v ρ o x y z i k ho hx hy hz hi hk
  subst hi hk
  have h1 : u ≤ c := by omega
  unfold execOp
  rw [ho]
  simp [hx, hy, hz, Instr.sliceAt, run_underlying Try.underlying29, Instr.slice, Instr.sliceBounds, Instr.sliceBound, asIntOf, hl, h1, Result.andThen]
theorem ol_cutW {ρ : Operand → Value} {w : World} {o : Oper} {x y : Operand} {g n c f : Nat} (ho : o.op = .slice 39 x none (some y) none) (hx : ρ x = .slice (some ⟨g, 0, none⟩) n c) (hy : ρ y = .int .i64 ((f : Nat) : Int)) (hf : f ≤ c) : (execOp ρ o).run Try.prog w = .ok (.value (.slice (some ⟨g, 0, none⟩) f c)) w := by
  unfold execOp
  rw [ho]
  simp [hx, hy, Instr.sliceAt, run_underlying Try.underlying39, Instr.slice, Instr.sliceBounds, Instr.sliceBound, asIntOf, hf, addr_add, Result.andThen]
theorem ol_storeR {ρ : Operand → Value} {w : World} {o : Oper} (x z : Operand) {g off : Nat} {y : RV} (h : w.there g off 34) (hy : y.d.length = 32) (ho : o.op = .store 47 x z) (hx : ρ x = .pointer (some ⟨g, off, none⟩)) (hz : ρ z = .agg y.cells.toArray) :
    (execOp ρ o).run Try.prog w = .ok .skip (w.setCells g off y.cells) := by
  have := run_storeAt_mid (P := Try.prog) w g off 47 y.cells.toArray (by rw [r_size hy]; exact h) (by rw [infoR, r_size hy]) (r_ones y)
  unfold execOp
  simp only [ho, hx, hz, Sem.run_bind, this, Result.andThen_ok, Sem.run_pure]
theorem Way.there {X : Nat → Prop} {w : World} {g cap : Nat} {x : FV} {r : List FV} {fs : List Fk} (h : Way X w g cap (x :: r) fs) {i : Nat} (hi : i < 16) : w.there g (0 + r.length * 546 + 1 + i * 34) 34 := by
  obtain ⟨cur, h1, h2⟩ := h.row
  have hnc := h.nc
  rw [List.length_cons] at hnc
  have hle : (r.length + 1) * 546 ≤ cap * 546 := Nat.mul_le_mul_right _ hnc
  intro m hm
  refine ⟨?_, frozen_of_row _ _ _ _ _ h1⟩
  rw [cell_of_row _ _ _ _ _ _ h1, Array.getElem?_eq_getElem (by omega)]
  rfl
theorem kc_cell {ys : Nat → RV} (h : ∀ i, (ys i).d.length = 32) : ∀ n m v, (kc ys n)[m]? = some v → m / 34 < n ∧ (ys (m / 34)).cells[m % 34]? = some v
  | 0, m, v, hv => by simp [kc] at hv
  | n + 1, m, v, hv => by
    rw [kc] at hv
    by_cases e : m < (kc ys n).length
    · rw [List.getElem?_append_left e] at hv
      have := kc_cell h n m v hv
      exact ⟨by omega, this.2⟩
    · rw [List.getElem?_append_right (by omega)] at hv
      have hl := kc_len h n
      have hm : m - (kc ys n).length < 34 := by have := (List.getElem?_eq_some_iff.1 hv).1; rw [RV.len (h n)] at this; exact this
      have e1 : m / 34 = n := by omega
      have e2 : m % 34 = m - (kc ys n).length := by omega
      exact ⟨by omega, by rw [e1, e2]; exact hv⟩
/-- A kid of a fork is written. -/
theorem rng_set {w : World} {g o : Nat} {x : FV} (hx : x.Ok) (h : w.rangeAt g o x.cells) {i : Nat} (hi : i < 16) {y : RV} (hy : y.d.length = 32) (ht : w.there g (o + 1 + i * 34) 34) :
    (w.setCells g (o + 1 + i * 34) y.cells).rangeAt g o (FV.cells ⟨x.d, updR x.ys i y, x.a, x.n, x.c⟩) := by
  have hu : ∀ j, (updR x.ys i y j).d.length = 32 := fun j => by unfold updR; split; exact hy; exact hx j
  have hap : ∀ (p : Nat) (v : Value), w.cell? ⟨g, p, none⟩ = some v → (p < o + 1 + i * 34 ∨ o + 1 + i * 34 + 34 ≤ p) → (w.setCells g (o + 1 + i * 34) y.cells).cell? ⟨g, p, none⟩ = some v := by
    intro p v hv hp
    have hr : w.rangeAt g p [v] := fun m u hu => by
      cases m with
      | zero => simp at hu; subst hu; exact hv
      | succ m => simp at hu
    exact World.rangeAt_setCells_apart hr g (o + 1 + i * 34) y.cells (.inr (by rw [RV.len hy]; simp only [List.length_singleton]; omega)) 0 v rfl
  have hsame := World.rangeAt_setCells_same w g (o + 1 + i * 34) y.cells (by rw [RV.len hy]; exact ht)
  intro m v hv0
  have hv : (Value.int .i64 ((x.d : Nat) : Int) :: (kc (updR x.ys i y) 16 ++ [.slice x.a x.n x.c]))[m]? = some v := hv0
  clear hv0
  cases m with
  | zero => simp at hv; subst hv; exact hap _ _ (h 0 _ rfl) (.inl (by omega))
  | succ m =>
    rw [List.getElem?_cons_succ] at hv
    have hkl := kc_len hu 16
    by_cases e : m < (kc (updR x.ys i y) 16).length
    · rw [List.getElem?_append_left e] at hv
      obtain ⟨q1, q2⟩ := kc_cell hu 16 m v hv
      by_cases ei : m / 34 = i
      · rw [show updR x.ys i y (m / 34) = y from by unfold updR; rw [if_pos ei]] at q2
        have := hsame _ v q2
        rw [show o + 1 + i * 34 + m % 34 = o + (m + 1) from by omega] at this
        exact this
      · rw [show updR x.ys i y (m / 34) = x.ys (m / 34) from by unfold updR; rw [if_neg ei]] at q2
        have := f_kid hx h q1 _ v q2
        rw [show o + 1 + m / 34 * 34 + m % 34 = o + (m + 1) from by omega] at this
        refine hap _ _ this ?_
        omega
    · rw [List.getElem?_append_right (by omega), hkl] at hv
      have hm0 : m - 544 = 0 := by have := (List.getElem?_eq_some_iff.1 hv).1; simp at this; omega
      rw [show m - 16 * 34 = 0 from by omega] at hv
      simp at hv; subst hv
      have := f_val hx h
      rw [show o + 545 = o + (m + 1) from by omega] at this
      exact hap _ _ this (.inr (by omega))
theorem WyR.set {w : World} {g o : Nat} {vs : List Value} (r : List FV) : (∀ x ∈ r, x.Ok) → WyR w g r → r.length * 546 ≤ o → WyR (w.setCells g o vs) g r := by
  induction r with
  | nil => intro _ _ _; exact trivial
  | cons x r ih =>
    intro hx h ho
    rw [List.length_cons] at ho
    have hl := FV.len (hx x (by simp))
    have h1 : (w.setCells g o vs).rangeAt g (r.length * 546) x.cells := World.rangeAt_setCells_apart h.1 g o vs (.inr (by rw [hl]; omega))
    exact And.intro h1 (ih (fun y hy => hx y (List.mem_cons_of_mem _ hy)) h.2 (by omega))
theorem Way.set {X : Nat → Prop} {w : World} {g cap : Nat} {x : FV} {r : List FV} {f : Fk} {s : List Fk} (h : Way X w g cap (x :: r) (f :: s)) {i : Nat} (hi : i < 16) {y : RV} {t : Tr} (hy : RefAt (fun b => b ≠ g ∧ X b) w y (referP (encT t))) (ht : t ≠ no) :
    Way X (w.setCells g (0 + r.length * 546 + 1 + i * 34) y.cells) g cap (⟨x.d, updR x.ys i y, x.a, x.n, x.c⟩ :: r) (⟨f.d, upd f.k i t, f.v⟩ :: s) := by
  have hst := St.of w g (0 + r.length * 546 + 1 + i * 34) y.cells
  have hyl := hy.len
  have hth := h.there hi
  obtain ⟨cur, h1, h2⟩ := h.row
  obtain ⟨cur', h3, h4⟩ := sc_row g 50 y.cells (0 + r.length * 546 + 1 + i * 34) w cur h1
  have hk : Keep (fun b => b ≠ g ∧ X b) (fun b => b ≠ g ∧ X b) w (w.setCells g (0 + r.length * 546 + 1 + i * 34) y.cells) := fun b hb _ => ⟨hst.other b hb.1, hb⟩
  have hxk := h.at'.1
  refine ⟨⟨cur', h3, h4.trans h2⟩, h.nc, h.cm, ⟨?_, WyR.set r h.at'.2.oks h.y.2 (by omega)⟩, ⟨⟨hxk.d, fun j => ?_, fun j hj => ?_, hxk.v.keep hk, hxk.m⟩, h.at'.2.keep hk⟩⟩
  · have := rng_set hxk.l (o := 0 + r.length * 546) (by rw [Nat.zero_add]; exact h.y.1) hi hyl hth
    rw [Nat.zero_add] at this ⊢
    exact this
  · show (updR x.ys i y j).d.length = 32
    unfold updR; split
    · exact hyl
    · exact hxk.l j
  · show RefAt _ _ (updR x.ys i y j) (rP (upd f.k i t) j)
    by_cases e : j = i
    · subst e
      rw [show updR x.ys j y j = y from by simp [updR], show rP (upd f.k j t) j = referP (encT t) from by unfold rP; rw [upd_same, if_neg (fun e => ht (isNo_iff.1 e))]]
      exact hy.go hk
    · rw [show updR x.ys i y j = x.ys j from by simp [updR, e], show rP (upd f.k i t) j = rP f.k j from by unfold rP; rw [upd_other _ _ e]]
      exact (hxk.k j hj).go hk
/-- A way as a value: none, or a row of one's own. -/
def WayV (X : Nat → Prop) (w : World) (base : Nat) (v : Value) (rs : List FV) (fs : List Fk) : Prop := (v = .slice none 0 0 ∧ rs = [] ∧ fs = []) ∨ ∃ g cap, v = .slice (some ⟨g, 0, none⟩) rs.length cap ∧ base ≤ g ∧ Way X w g cap rs fs
theorem WayV.owns {X : Nat → Prop} {w : World} {base : Nat} {v : Value} {rs : List FV} {fs : List Fk} (h : WayV X w base v rs fs) : w.ownsRow base 50 546 v rs.length (flatF rs) := by
  rcases h with ⟨rfl, rfl, rfl⟩ | ⟨g, cap, rfl, hb, hw⟩
  · exact ⟨rfl, .inl ⟨rfl, rfl⟩⟩
  · exact hw.owns hb
theorem WayV.ats {X : Nat → Prop} {w : World} {base : Nat} {v : Value} {rs : List FV} {fs : List Fk} (h : WayV X w base v rs fs) : FksAt (fun b => KF v b ∧ X b) w rs fs := by
  rcases h with ⟨rfl, rfl, rfl⟩ | ⟨g, cap, rfl, hb, hw⟩
  · trivial
  · exact hw.at'.keep (fun b hb _ => ⟨rfl, fun e => hb.1 (by simpa [Value.ownBlock] using e.symm), hb.2⟩)
theorem appW {X : Nat → Prop} {w : World} {base : Nat} {v : Value} {rs : List FV} {fs : List Fk} (h : WayV X w base v rs fs) {gP : Nat} {N : FV} {f : Fk} (hr : w.rangeAt gP 0 N.cells) (hN : FkAt (fun b => KF v b ∧ X b) w N f) (hlen : rs.length + 1 ≤ 1000) (hbase : base ≤ w.heap.size) :
    ∃ g' cap' w', (∀ ty, (Builtin.append_ #[39, 39] ty #[v, .slice (some ⟨gP, 0, none⟩) 1 1]).run Try.prog w = .ok (.slice (some ⟨g', 0, none⟩) (rs.length + 1) cap') w') ∧ Way X w' g' cap' (N :: rs) (f :: fs) ∧ base ≤ g' ∧ Fg w w' v (.slice (some ⟨g', 0, none⟩) (rs.length + 1) cap') := by
  obtain ⟨i, hi, hz, hsz, hby⟩ := infoFk
  have hown := h.owns
  have hats := h.ats
  obtain ⟨v', w', r1, r2, r3, _, r5⟩ := run_append_own_at w base 39 0 50 i _ 546 1056 Try.underlying39 hi hz hsz hby (f_size (x := ⟨0, fun _ => rz, none, 0, 0⟩) (fun _ => rfl)) (by decide) v rs.length (flatF rs) hown ⟨gP, 0, none⟩ 1 1 N.cells (by rw [FV.len hN.l]) (fun j u hj => by rw [addr_add]; exact hr j u hj) (FV.one N) (by unfold maxLen; omega) (by omega) hbase
  rcases r2.2 with ⟨_, q⟩ | ⟨g', cap', cur, rfl, hbg, hg, hc1, hc2, hc3, hc4⟩
  · omega
  have hown1 : (Value.slice (some ⟨g', 0, none⟩) (rs.length + 1) cap').ownBlock = some g' := rfl
  have hFg : Fg w w' v (.slice (some ⟨g', 0, none⟩) (rs.length + 1) cap') := ⟨r3.os, r3.tape, r3.output, r3.size, fun k hk hn => r3.block k hk (fun e => hn e.symm), r5.imp id (fun e k hk => by rw [e] at hk; cases hk; exact Nat.le_refl _)⟩
  have hkp : Keep (fun b => KF v b ∧ X b) (fun b => b ≠ g' ∧ X b) w w' := fun b hb hl => ⟨(hFg.keep b hb.1 hl).1, fun e => (hFg.keep b hb.1 hl).2 (by rw [hown1, e]), hb.2⟩
  have hoks : ∀ y ∈ N :: rs, y.Ok := fun y hy => by
    rcases List.mem_cons.1 hy with e | e
    · rw [e]; exact hN.l
    · exact hats.oks y e
  refine ⟨g', cap', w', fun ty => r1, ⟨⟨cur, hg, hc3⟩, hc1, hc2, wy_of hoks (fun m u hu => ?_), ⟨hN.keep hkp, hats.keep hkp⟩⟩, hbg, hFg⟩
  rw [cell_of_row _ _ _ _ _ _ hg, ← Array.getElem?_toList]
  have hu2 : (flatF rs ++ N.cells)[m]? = some u := hu
  rw [← hc4] at hu2
  have hlt := (List.getElem?_eq_some_iff.1 hu2).1
  rw [List.length_take] at hlt
  rw [List.getElem?_take_of_lt (by omega)] at hu2
  exact hu2
end Go.Proofs.Ytdkpilgelgjieaa
/- All forks deeper than a place are closed. -/
namespace Go.Proofs.Ytdkpilgelgjieaa
open Go.RowKit
open Tr
set_option linter.unusedVariables false
set_option maxRecDepth 100000
def fkz (d : Nat) : FV := ⟨d, fun _ => rz, none, 0, 0⟩
theorem fkz_ok (d : Nat) : (fkz d).Ok := fun _ => rfl
theorem built_F (d : Int) : Try.prog.built 50 [(0, .int .i64 d)] = some (Array.mk (.int .i64 d :: (kc (fun _ => rz) 16 ++ [.slice none 0 0]))) := congrFun (show (fun d : Int => Try.prog.built 50 [(0, .int .i64 d)]) = fun d => some (Array.mk (.int .i64 d :: (kc (fun _ => rz) 16 ++ [.slice none 0 0]))) from by kernel_rfl) d
theorem fkz_at (K : Nat → Prop) (w : World) (d : Nat) : FkAt K w (fkz d) ⟨d, nk, []⟩ := ⟨rfl, fkz_ok d, fun i _ => by rw [show rP nk i = r0 from rfl]; exact ref_zeroK K w, ⟨⟨.inl ⟨rfl, rfl⟩, fun _ => ⟨rfl, rfl⟩, rfl, fun x hx => by cases hx⟩, fun x hx => by cases hx⟩, Nat.zero_le _⟩
theorem ol_allocF {ρ : Operand → Value} {w : World} {o : Oper} (ho : o.op = .alloc 50) : (execOp ρ o).run Try.prog w = .ok (.value (.pointer (some ⟨w.heap.size, 0, none⟩))) (w.alloc (.cells (fkz 0).cells.toArray 50)) := by
  obtain ⟨i, hi, hz, hsz, hby⟩ := infoFk
  unfold execOp
  rw [ho]
  simp [Instr.alloc, zeroValue, typeInfo, hi, hz, newVar, newRow, Value.cells, fkz]
theorem run_bsF (w : World) {N : FV} (hN : N.Ok) : (Instr.buildSlice 39 1 #[(0, .agg N.cells.toArray)]).run Try.prog w = .ok (.slice (some ⟨w.heap.size, 0, none⟩) 1 1) (w.alloc (.cells N.cells.toArray 50)) := by
  obtain ⟨i, hi, hz, hsz, hby⟩ := infoFk
  refine run_buildSlice w 39 50 1 _ N.cells.toArray i _ Try.underlying39 hi hz (by rw [hsz]; omega) (by rw [hsz]; omega) ?_
  rw [hsz]
  have h := Great.fill_whole (s := 546) (by omega) [.agg N.cells.toArray] ((Array.range (1 * 546)).map ((Value.agg (FV.cells ⟨0, fun _ => rz, none, 0, 0⟩).toArray).cells[· % (Value.agg (FV.cells ⟨0, fun _ => rz, none, 0, 0⟩).toArray).cells.size]!)) (fun v hv => by
    rw [List.mem_singleton.1 hv]
    exact f_size hN) (by rw [Array.size_map, Array.size_range]; rfl)
  refine h.trans ?_
  simp [Value.cells]
theorem ol_bsF {ρ : Operand → Value} {w : World} {o : Oper} {N : FV} (hN : N.Ok) {x : Operand} (ho : o.op = .buildSlice 39 1 #[(0, x)]) (hx : ρ x = .agg N.cells.toArray) : (execOp ρ o).run Try.prog w = .ok (.value (.slice (some ⟨w.heap.size, 0, none⟩) 1 1)) (w.alloc (.cells N.cells.toArray 50)) := by
  unfold execOp
  simp only [ho, Sem.run_bind, List.map_toArray, List.map_cons, List.map_nil, hx, run_bsF w hN, Result.andThen_ok, Sem.run_pure]
theorem FksAt.cases {K : Nat → Prop} {w : World} {xs : List FV} {r : List Fk} (h : FksAt K w xs r) : (xs = [] ∧ r = []) ∨ ∃ x y xs' r', xs = x :: xs' ∧ r = y :: r' := by
  cases xs with
  | nil => cases r with
    | nil => exact .inl ⟨rfl, rfl⟩
    | cons y r' => exact h.elim
  | cons x xs' => cases r with
    | nil => exact h.elim
    | cons y r' => exact .inr ⟨x, y, xs', r', rfl, rfl⟩
/-- The cell of a path. -/
theorem Sk.cell {K : Nat → Prop} {w : World} {a : Option Addr} {n c : Nat} {bs : List Int} (h : Sk K w a n c bs) {j : Nat} (hj : j < n) : ∃ g off, a = some ⟨g, off, none⟩ ∧ K g ∧ w.cell? ⟨g, off + j * 1, none⟩ = some (.int .u8 (bs.getD j 0)) := by
  rcases h.ag.i with ⟨q, _⟩ | ⟨g, off, h1, h2, h3, h4, h5, h7⟩
  · omega
  · exact ⟨g, off, h1, h.k _ h1 h3, by rw [Nat.mul_one]; exact h7 j (by rw [h2]; exact hj)⟩
/-- While forks are closed. -/
structure Cg (X : Nat → Prop) (w : World) (base : Nat) (v0 : Value) (P : List Int) (c : Nat) (z : Fk × List Fk) (a : Option Addr) (n cp : Nat) (g cap nW : Nat) (x : FV) (xs : List FV) (f : Fk) (r : List Fk) (v : World) : Prop where
  wy : Way X v g cap (x :: xs) (f :: r)
  nw : xs.length + 1 = nW
  sm : nW ≤ 900
  bg : base ≤ g
  b : base ≤ v.heap.size
  fg : Fg w v v0 (.slice (some ⟨g, 0, none⟩) nW cap)
  p : Sk (KF (.slice (some ⟨g, 0, none⟩) nW cap)) v a n cp P
  dw : Dw f.d r
  cf : c ≤ f.d
  fp : f.d ≤ P.length
  z : clo P c f r = z
theorem kf_of {g n c b : Nat} (h : KF (.slice (some ⟨g, 0, none⟩) n c) b) : b ≠ g := fun e => h (by rw [e]; rfl)
theorem of_kf {g n c b : Nat} (h : b ≠ g) : KF (.slice (some ⟨g, 0, none⟩) n c) b := fun e => h (by simpa [Value.ownBlock] using e.symm)
theorem Fg.same {w v : World} {v0 v1 v2 : Value} (h : Fg w v v0 v1) (e : v2.ownBlock = v1.ownBlock) : Fg w v v0 v2 := ⟨h.os, h.tape, h.output, h.size, h.block, by rw [e]; exact h.own⟩
theorem Fg.keepN {X : Nat → Prop} {w v : World} {g n c g' n' c' : Nat} (h : Fg w v (.slice (some ⟨g, 0, none⟩) n c) (.slice (some ⟨g', 0, none⟩) n' c')) : Keep (fun b => b ≠ g ∧ X b) (fun b => b ≠ g' ∧ X b) w v := fun b hb hl => ⟨(h.keep b (of_kf hb.1) hl).1, kf_of (h.keep b (of_kf hb.1) hl).2, hb.2⟩
def newB (c : Nat) : List Fk → Bool
  | [] => true
  | g :: _ => decide (g.d < c)
theorem clo_new {P : List Int} {c : Nat} {f : Fk} {r : List Fk} (h : f.d ≠ c) (hb : newB c r = true) : clo P c f r = (into P ⟨c, nk, []⟩ f, r) := by
  cases r with
  | nil => simp only [clo]; rw [if_neg h]
  | cons g r => simp only [clo]; rw [if_neg h, if_pos (of_decide_eq_true hb)]
theorem clo_end {P : List Int} {c : Nat} {f : Fk} (h : f.d = c) (r : List Fk) : clo P c f r = (f, r) := by
  cases r with
  | nil => simp only [clo]; rw [if_pos h]
  | cons g r => simp only [clo]; rw [if_pos h]
theorem dw_new {c d : Nat} {r : List Fk} (h : Dw d r) (hb : newB c r = true) : Dw c r := by
  cases r with
  | nil => trivial
  | cons g r => exact ⟨of_decide_eq_true hb, h.2⟩
def RCl (X : Nat → Prop) (w : World) (base : Nat) (v0 : Value) (z : Fk × List Fk) : Value → World → Prop := fun u w' => ∃ g cap rs, u = .slice (some ⟨g, 0, none⟩) rs.length cap ∧ Way X w' g cap rs (z.1 :: z.2) ∧ base ≤ g ∧ rs.length ≤ 900 ∧ Fg w w' v0 (.slice (some ⟨g, 0, none⟩) rs.length cap)
set_option maxHeartbeats 8000000 in
theorem closed_any {X : Nat → Prop} {w : World} (hX : ∀ b, w.heap.size ≤ b → X b) {base : Nat} {v0 : Value} {P : List Int} (hNb : Nb P) {c : Nat} {a : Option Addr} {n cp g0 cap0 nW0 : Nat} {x0 : FV} {xs0 : List FV} {f0 : Fk} {r0 : List Fk} (hP64 : P.length ≤ 64) (hC0 : Cg X w base v0 P c (clo P c f0 r0) a n cp g0 cap0 nW0 x0 xs0 f0 r0 w) :
    Calls Try.prog 13 #[.slice (some ⟨g0, 0, none⟩) nW0 cap0, .slice a n cp, .int .i64 ((c : Nat) : Int)] w fun e w' => ∃ u, e = .returned u ∧ RCl X w base v0 (clo P c f0 r0) u w' := by
  have hB := Bl.refl w
  refine cw_enter Try.func13 rfl 69 rfl ?_
  show CW _ _ _ _ _ _ _ [(0, .slice (some ⟨g0, 0, none⟩) nW0 cap0), (1, .slice a n cp), (2, .int .i64 ((c : Nat) : Int))] _
  refine cw_seq ?_
  refine cw_region ?_
  refine rp 6 (.slice none 0 0) ?_
  refine rw_nil ?_
  refine nw_then ?_
  refine cw_block ?_
  refine cw_loop (X := Nat × Nat × Nat × FV × List FV × Fk × List Fk) (fun q => [(0, .slice (some ⟨q.1, 0, none⟩) q.2.2.1 q.2.1), (1, .slice a n cp), (2, .int .i64 ((c : Nat) : Int))]) (fun q v => Cg X w base v0 P c (clo P c f0 r0) a n cp q.1 q.2.1 q.2.2.1 q.2.2.2.1 q.2.2.2.2.1 q.2.2.2.2.2.1 q.2.2.2.2.2.2 v) (fun q => q.2.2.2.2.2.2.length + if q.2.2.2.2.2.1.d = c then 0 else 1) (g0, cap0, nW0, x0, xs0, f0, r0) (by exact ⟨fun _ => by kernel_rfl, ⟨fun _ => by kernel_rfl, ⟨fun _ => by kernel_rfl, trivial⟩⟩⟩) hC0 ?_
  clear hB
  rintro ⟨g, cap, nW, x, xs, f, r⟩ v hC
  simp only at hC
  show CW _ _ _ _ _ _ _ [(0, .slice (some ⟨g, 0, none⟩) nW cap), (1, .slice a n cp), (2, .int .i64 ((c : Nat) : Int))] _
  obtain ⟨l, hl⟩ : ∃ l, xs.length = l := ⟨_, rfl⟩
  have hnw := hC.nw
  have hnsm := hC.sm
  have hxk := hC.wy.at'.1
  have hxd := hxk.d
  have hxl := hxk.l
  have hrg : v.rangeAt g (0 + l * 546) x.cells := by rw [Nat.zero_add, ← hl]; exact hC.wy.y.1
  have hcap : nW ≤ cap := by have := hC.wy.nc; rw [List.length_cons] at this; omega
  have hlp := hC.p.len
  refine cw_block ?_
  refine cw_seq ?_
  refine cw_region ?_
  refine rp 11 (.slice (some ⟨g, 0, none⟩) nW cap) ?_
  refine rp 12 (.int .i64 nW) ?_
  refine rv 13 (.int .i64 ((l : Nat) : Int)) (fun _ => ol_conv (v := .int .i64 (IntKind.i64.wrap ((nW : Int) - 1))) (by kernel_rfl) (congrArg (Value.int .i64) (by rw [wrap64 (by omega) (by omega)]; omega))) ?_
  refine rp 7 (.int .i64 ((l : Nat) : Int)) ?_
  refine rw_nil ?_
  refine nw_then ?_
  refine cw_seq ?_
  refine cw_region ?_
  refine rp 14 (.slice (some ⟨g, 0, none⟩) nW cap) ?_
  refine rp 15 (.int .i64 ((l : Nat) : Int)) ?_
  refine rv 16 (.pointer (some ⟨g, 0 + l * 546, none⟩)) (fun _ => ol_index 39 _ _ g 0 l nW cap 546 50 rfl (by kernel_rfl) (by kernel_rfl) (by omega) Try.underlying39 (by kernel_rfl)) ?_
  refine rv 17 (.agg x.cells.toArray) (fun _ => ol_mid 50 _ g (0 + l * 546) x.cells _ rfl (by kernel_rfl) hrg Try.underlying50 rfl (by rw [infoF, FV.len hxl])) ?_
  refine rw_new 8 (fkz 0).cells.toArray 50 (fun _ => by kernel_rfl) (fun _ => ol_allocF rfl) ?_
  intro w1 g8 hn8
  refine rw_put g8 x.cells.toArray (fun _ => by kernel_rfl) (fun _ => ol_store 50 _ _ _ _ _ _ rfl (by kernel_rfl) (by kernel_rfl) hn8.row (by rw [infoF, f_size hxl]) (by rw [f_size hxl, f_size (fkz_ok 0)]) (f_ones _)) ?_
  intro w2 hp8
  have hr8 : Rw g8 w2 x.cells.toArray 50 := hp8.row hn8.row
  have hb2 : Bl v w2 := hp8.below hn8.below (by rw [hn8.hg]; exact Nat.le_refl _) hn8.below.size
  have hg8 := hn8.hg
  have hglt := hC.wy.lt
  have hW2 := hC.wy.go hb2
  have hG2 := hC.fg.trans (Fg.of_below hb2)
  have hp2 := hC.p.go hb2
  have hz2 := hb2.size
  have hbb := hC.b
  clear hn8 hp8
  refine rw_nil ?_
  refine nw_then ?_
  refine cw_seq ?_
  refine cw_seq ?_
  refine cw_region ?_
  refine rp 18 (.pointer (some ⟨g8, 0, none⟩)) ?_
  refine rv 19 (.int .i64 ((x.d : Nat) : Int)) (fun _ => ol_cell 3 _ ⟨g8, 0, none⟩ _ _ rfl (by kernel_rfl) (f_dep (rng_row hr8)) Try.underlying3 rfl) ?_
  refine rp 20 (.int .i64 ((c : Nat) : Int)) ?_
  refine rp 21 (.bool (((x.d : Nat) : Int) == ((c : Nat) : Int))) ?_
  refine rw_nil ?_
  refine nw_then ?_
  by_cases hfc : f.d = c
  · skip
    rw [show (((x.d : Nat) : Int) == ((c : Nat) : Int)) = true from beq_iff_eq.2 (by omega)]
    refine cw_cond_t (fun _ => by kernel_rfl) ?_
    refine cw_seq ?_
    refine cw_region ?_
    refine rp 22 (.slice (some ⟨g, 0, none⟩) nW cap) ?_
    refine rp 6 (.slice (some ⟨g, 0, none⟩) nW cap) ?_
    refine rw_nil ?_
    refine nw_then ?_
    refine cw_ret ?_
    refine nw_ret_then ?_
    refine nw_ret_block ?_
    refine nw_ret_then ?_
    refine nw_ret_block ?_
    exact nw_ret_body (.slice (some ⟨g, 0, none⟩) nW cap) (fun _ => by kernel_rfl) ⟨_, rfl, g, cap, x :: xs, by rw [List.length_cons, hnw], by have hz := hC.z; rw [clo_end hfc] at hz; rw [← hz]; exact hW2, hC.bg, by rw [List.length_cons, hnw]; exact hnsm, by rw [List.length_cons, hnw]; exact hG2⟩
  · skip
    rw [show (((x.d : Nat) : Int) == ((c : Nat) : Int)) = false from beq_eq_false_iff_ne.2 (by omega)]
    refine cw_cond_f (fun _ => by kernel_rfl) ?_
    have hcf := hC.cf
    have hfp := hC.fp
    refine cw_skip ?_
    refine nw_then ?_
    refine cw_seq ?_
    refine cw_region ?_
    refine rp 23 (.slice (some ⟨g, 0, none⟩) nW cap) ?_
    refine rp 24 (.int .i64 ((l : Nat) : Int)) ?_
    refine rv 25 (.slice (some ⟨g, 0, none⟩) l cap) (fun _ => ol_cutW (n := nW) rfl (by kernel_rfl) (by kernel_rfl) (by omega)) ?_
    refine rp 0 (.slice (some ⟨g, 0, none⟩) l cap) ?_
    refine rw_nil ?_
    refine nw_then ?_
    refine cw_seq ?_
    refine cw_seq ?_
    refine cw_cut (fun E v3 => E = [(37, .bool (newB c r)), (0, .slice (some ⟨g, 0, none⟩) l cap), (1, .slice a n cp), (2, .int .i64 ((c : Nat) : Int)), (8, .pointer (some ⟨g8, 0, none⟩))] ∧ w2 = v3) ?_ ?_
    · skip
      rcases hC.wy.at'.2.cases with ⟨hxs, hrr⟩ | ⟨x2, f2, xs2, r2, hxs, hrr⟩
      · skip
        have hl0 : l = 0 := by rw [← hl, hxs]; rfl
        refine cw_region ?_
        refine rp 26 (.int .i64 ((l : Nat) : Int)) ?_
        refine rv 27 (.bool true) (fun _ => ol_conv (v := .bool (((l : Nat) : Int) == (0 : Int))) (by kernel_rfl) (congrArg Value.bool (beq_iff_eq.2 (by omega)))) ?_
        refine rp 28 (.bool true) ?_
        refine rw_off 29 (fun _ => by kernel_rfl) ?_
        refine rw_off 30 (fun _ => by kernel_rfl) ?_
        refine rw_off 31 (fun _ => by kernel_rfl) ?_
        refine rw_off 32 (fun _ => by kernel_rfl) ?_
        refine rw_off 33 (fun _ => by kernel_rfl) ?_
        refine rw_off 34 (fun _ => by kernel_rfl) ?_
        refine rw_off 35 (fun _ => by kernel_rfl) ?_
        refine rw_off 36 (fun _ => by kernel_rfl) ?_
        refine rp 37 (.bool true) ?_
        refine rw_nil ?_
        exact nw_cut [(37, .bool true), (0, .slice (some ⟨g, 0, none⟩) l cap), (1, .slice a n cp), (2, .int .i64 ((c : Nat) : Int)), (8, .pointer (some ⟨g8, 0, none⟩))] (by exact ⟨fun _ => by kernel_rfl, ⟨fun _ => by kernel_rfl, ⟨fun _ => by kernel_rfl, ⟨fun _ => by kernel_rfl, ⟨fun _ => by kernel_rfl, trivial⟩⟩⟩⟩⟩) ⟨by rw [hrr]; rfl, rfl⟩
      · skip
        have hl2 : xs2.length + 1 = l := by rw [← hl, hxs]; rfl
        have hWp := hW2
        rw [hxs, hrr] at hWp
        have hrg2 : w2.rangeAt g (0 + xs2.length * 546) x2.cells := by rw [Nat.zero_add]; exact hWp.y.2.1
        have hx2d := hWp.at'.2.1.d
        refine cw_region ?_
        refine rp 26 (.int .i64 ((l : Nat) : Int)) ?_
        refine rv 27 (.bool false) (fun _ => ol_conv (v := .bool (((l : Nat) : Int) == (0 : Int))) (by kernel_rfl) (congrArg Value.bool (beq_eq_false_iff_ne.2 (by omega)))) ?_
        refine rp 28 (.bool false) ?_
        refine rp 29 (.slice (some ⟨g, 0, none⟩) l cap) ?_
        refine rp 30 (.int .i64 ((l : Nat) : Int)) ?_
        refine rv 31 (.int .i64 ((xs2.length : Nat) : Int)) (fun _ => ol_conv (v := .int .i64 (IntKind.i64.wrap (((l : Nat) : Int) - 1))) (by kernel_rfl) (congrArg (Value.int .i64) (by rw [wrap64 (by omega) (by omega)]; omega))) ?_
        refine rv 32 (.pointer (some ⟨g, 0 + xs2.length * 546, none⟩)) (fun _ => ol_index 39 _ _ g 0 xs2.length l cap 546 50 rfl (by kernel_rfl) (by kernel_rfl) (by omega) Try.underlying39 (by kernel_rfl)) ?_
        refine rp 33 (.pointer (some ⟨g, 0 + xs2.length * 546, none⟩)) ?_
        refine rv 34 (.int .i64 ((x2.d : Nat) : Int)) (fun _ => ol_cell 3 _ _ _ _ rfl (by kernel_rfl) (f_dep hrg2) Try.underlying3 rfl) ?_
        refine rp 35 (.int .i64 ((c : Nat) : Int)) ?_
        refine rp 36 (.bool (decide (((x2.d : Nat) : Int) < ((c : Nat) : Int)))) ?_
        refine rp 37 (.bool (decide (((x2.d : Nat) : Int) < ((c : Nat) : Int)))) ?_
        refine rw_nil ?_
        exact nw_cut [(37, .bool (decide (((x2.d : Nat) : Int) < ((c : Nat) : Int)))), (0, .slice (some ⟨g, 0, none⟩) l cap), (1, .slice a n cp), (2, .int .i64 ((c : Nat) : Int)), (8, .pointer (some ⟨g8, 0, none⟩))] (by exact ⟨fun _ => by kernel_rfl, ⟨fun _ => by kernel_rfl, ⟨fun _ => by kernel_rfl, ⟨fun _ => by kernel_rfl, ⟨fun _ => by kernel_rfl, trivial⟩⟩⟩⟩⟩) ⟨by rw [hrr, show newB c (f2 :: r2) = decide (((x2.d : Nat) : Int) < ((c : Nat) : Int)) from decide_eq_decide.2 (by omega)], rfl⟩
    rintro _ _ ⟨rfl, rfl⟩
    refine nw_then ?_
    refine cw_cut (fun E v3 => ∃ gA capA nA xA xsA fA rA, E = [(0, .slice (some ⟨gA, 0, none⟩) nA capA), (1, .slice a n cp), (2, .int .i64 ((c : Nat) : Int)), (8, .pointer (some ⟨g8, 0, none⟩))] ∧ Way X v3 gA capA (xA :: xsA) (fA :: rA) ∧ xsA.length + 1 = nA ∧ nA ≤ 900 ∧ base ≤ gA ∧ Fg w v3 v0 (.slice (some ⟨gA, 0, none⟩) nA capA) ∧ fA.d < f.d ∧ Dw fA.d rA ∧ c ≤ fA.d ∧ clo P c (into P fA f) rA = (clo P c f0 r0) ∧ Rw g8 v3 x.cells.toArray 50 ∧ g8 ≠ gA ∧ FkAt (fun b => b ≠ gA ∧ X b) v3 x f ∧ Sk (KF (.slice (some ⟨gA, 0, none⟩) nA capA)) v3 a n cp P ∧ w2.heap.size ≤ v3.heap.size ∧ rA.length + (if fA.d = c then 0 else 1) < r.length + 1) ?_ ?_
    · skip
      cases hnb : newB c r with
      | true =>
        refine cw_cond_t (fun _ => by kernel_rfl) ?_
        refine cw_region ?_
        refine rp 38 (.slice (some ⟨g, 0, none⟩) l cap) ?_
        refine rp 39 (.int .i64 ((c : Nat) : Int)) ?_
        refine rv 40 (.agg (fkz c).cells.toArray) (fun _ => ol_build 50 _ [(0, .int .i64 ((c : Nat) : Int))] _ rfl (by kernel_rfl) (built_F _)) ?_
        refine rw_newS 41 (fkz c).cells.toArray 50 1 (fun _ => by kernel_rfl) (fun _ => ol_bsF (fkz_ok c) rfl (by kernel_rfl)) ?_
        intro w3 gP hnP
        have hb3 := hnP.below
        have hz3 := hb3.size
        have hW3 := hW2.pop.go hb3
        have hV3 : WayV X w3 base (.slice (some ⟨g, 0, none⟩) l cap) xs r := .inr ⟨g, cap, by rw [hl], hC.bg, hW3⟩
        obtain ⟨gA, capA, w4, hrA, hWA, hbA, hGA⟩ := appW hV3 (rng_row hnP.row) (fkz_at _ w3 c) (by omega) (by omega)
        rw [hl] at hrA hGA
        refine rw_v 42 (.slice (some ⟨gA, 0, none⟩) (l + 1) capA) (fun _ => by kernel_rfl) (fun _ => ol_app2 hrA _ _ rfl (by kernel_rfl) (by kernel_rfl)) ?_
        refine rp 0 (.slice (some ⟨gA, 0, none⟩) (l + 1) capA) ?_
        refine rw_nil ?_
        have hF8 := (hr8.go hb3).fg hGA (of_kf (by omega))
        exact nw_cut [(0, .slice (some ⟨gA, 0, none⟩) (l + 1) capA), (1, .slice a n cp), (2, .int .i64 ((c : Nat) : Int)), (8, .pointer (some ⟨g8, 0, none⟩))] (by exact ⟨fun _ => by kernel_rfl, ⟨fun _ => by kernel_rfl, ⟨fun _ => by kernel_rfl, ⟨fun _ => by kernel_rfl, trivial⟩⟩⟩⟩) ⟨gA, capA, l + 1, fkz c, xs, ⟨c, nk, []⟩, r, rfl, hWA, by rw [hl], by omega, hbA, (Fg.same (v2 := .slice (some ⟨g, 0, none⟩) l cap) (hG2.trans (Fg.of_below hb3)) rfl).trans hGA, (show c < f.d by omega), dw_new hC.dw hnb, Nat.le_refl c, by rw [clo_end (c := c) (f := into P ⟨c, nk, []⟩ f) rfl, ← clo_new hfc hnb]; exact hC.z, hF8.1, kf_of hF8.2, hxk.keep (fun b hb hl => hGA.keepN (X := X) b hb (by have := hb2.size; omega) |>.imp (fun e => e.trans ((keep_bl (K := fun _ => True) (hb2.go hb3) b trivial hl).1)) id), (hp2.go hb3).keep (fun b hb hl => hGA.keep b (of_kf (kf_of hb)) hl), Nat.le_trans hz3 hGA.size, by rw [if_pos rfl]; omega⟩
      | false =>
        refine cw_cond_f (fun _ => by kernel_rfl) ?_
        refine cw_skip ?_
        rcases hC.wy.at'.2.cases with ⟨hxs, hrr⟩ | ⟨x2, f2, xs2, r2, hxs, hrr⟩
        · rw [hrr] at hnb; cases hnb
        · skip
          have hl2 : xs2.length + 1 = l := by rw [← hl, hxs]; rfl
          have hWp := hW2
          rw [hxs, hrr] at hWp
          have hdw := hC.dw
          rw [hrr] at hdw hnb
          have hg2 : ¬ f2.d < c := of_decide_eq_false hnb
          have hzz := hC.z
          rw [hrr, show clo P c f (f2 :: r2) = clo P c (into P f2 f) r2 from by simp only [clo]; rw [if_neg hfc, if_neg hg2]] at hzz
          exact nw_cut [(0, .slice (some ⟨g, 0, none⟩) l cap), (1, .slice a n cp), (2, .int .i64 ((c : Nat) : Int)), (8, .pointer (some ⟨g8, 0, none⟩))] (by exact ⟨fun _ => by kernel_rfl, ⟨fun _ => by kernel_rfl, ⟨fun _ => by kernel_rfl, ⟨fun _ => by kernel_rfl, trivial⟩⟩⟩⟩) ⟨g, cap, l, x2, xs2, f2, r2, rfl, hWp.pop, hl2, by omega, hC.bg, hG2.same rfl, hdw.1, hdw.2, by omega, hzz, hr8, by omega, hxk.keep (keep_bl hb2), hp2.mono (fun b hb => of_kf (kf_of hb)), Nat.le_refl _, by rw [hrr, List.length_cons]; split <;> omega⟩
    rintro _ v3 ⟨gA, capA, nA, xA, xsA, fA, rA, rfl, hWA, hnA, hnA9, hbA, hGA, hfA, hdA, hcA, hzA, hr8A, hg8A, hxA, hpA, hz3, hmu⟩
    clear hr8 hW2 hp2 hG2 hrg
    have hr8 := hr8A
    obtain ⟨lA, hlA⟩ : ∃ l, xsA.length = l := ⟨_, rfl⟩
    have hxAd := hWA.at'.1.d
    have hrA : v3.rangeAt gA (0 + lA * 546) xA.cells := by rw [Nat.zero_add, ← hlA]; exact hWA.y.1
    have hcapA : nA ≤ capA := by have := hWA.nc; rw [List.length_cons] at this; omega
    have hlpA := hpA.len
    refine nw_then ?_
    refine cw_seq ?_
    refine cw_region ?_
    refine rp 43 (.slice (some ⟨gA, 0, none⟩) nA capA) ?_
    refine rp 44 (.int .i64 nA) ?_
    refine rv 45 (.int .i64 ((lA : Nat) : Int)) (fun _ => ol_conv (v := .int .i64 (IntKind.i64.wrap ((nA : Int) - 1))) (by kernel_rfl) (congrArg (Value.int .i64) (by rw [wrap64 (by omega) (by omega)]; omega))) ?_
    refine rp 9 (.int .i64 ((lA : Nat) : Int)) ?_
    refine rw_nil ?_
    refine nw_then ?_
    refine cw_seq ?_
    refine cw_region ?_
    refine rp 46 (.slice (some ⟨gA, 0, none⟩) nA capA) ?_
    refine rp 47 (.int .i64 ((lA : Nat) : Int)) ?_
    refine rv 48 (.pointer (some ⟨gA, 0 + lA * 546, none⟩)) (fun _ => ol_index 39 _ _ gA 0 lA nA capA 546 50 rfl (by kernel_rfl) (by kernel_rfl) (by omega) Try.underlying39 (by kernel_rfl)) ?_
    refine rp 49 (.pointer (some ⟨gA, 0 + lA * 546, none⟩)) ?_
    refine rv 50 (.int .i64 ((xA.d : Nat) : Int)) (fun _ => ol_cell 3 _ _ _ _ rfl (by kernel_rfl) (f_dep hrA) Try.underlying3 rfl) ?_
    refine rp 10 (.int .i64 ((xA.d : Nat) : Int)) ?_
    refine rw_nil ?_
    refine nw_then ?_
    obtain ⟨gp, op, hae, hKp, hcp⟩ := hpA.cell (j := fA.d) (by omega)
    obtain ⟨hx16, hxi⟩ := ix_lt hNb (show fA.d < P.length by omega)
    rw [← hxi] at hcp
    obtain ⟨a2, n2, c2, hr2, hs2, hn2⟩ := hpA.cut2 (fA.d + 1) f.d (by omega) (by omega)
    have hV := Bl.refl v3
    rw [hae] at hr2
    subst hae
    show CW _ _ _ _ _ _ _ [(10, .int .i64 ((xA.d : Nat) : Int)), (50, .int .i64 ((xA.d : Nat) : Int)), (49, .pointer (some ⟨gA, 0 + lA * 546, none⟩)), (48, .pointer (some ⟨gA, 0 + lA * 546, none⟩)), (47, .int .i64 ((lA : Nat) : Int)), (46, .slice (some ⟨gA, 0, none⟩) nA capA), (9, .int .i64 ((lA : Nat) : Int)), (45, .int .i64 ((lA : Nat) : Int)), (44, .int .i64 nA), (43, .slice (some ⟨gA, 0, none⟩) nA capA), (0, .slice (some ⟨gA, 0, none⟩) nA capA), (1, .slice (some ⟨gp, op, none⟩) n cp), (2, .int .i64 ((c : Nat) : Int)), (8, .pointer (some ⟨g8, 0, none⟩))] _
    refine cw_draw (fun u => Rw g8 u x.cells.toArray 50 ∧ u.cell? ⟨gp, op + fA.d * 1, none⟩ = some (.int .u8 ((ix P fA.d : Nat) : Int))) (by kernel_rfl) (⟨hr8.go (Bl.drew (Bl.refl v3)), ((Bl.drew (Bl.refl v3)).cell (p := ⟨gp, op + fA.d * 1, none⟩) (block_lt_of_cell hcp)).trans hcp⟩) ?_
    replace hV := hV.drew
    refine dt 0 51 (.slice (some ⟨gA, 0, none⟩) nA capA) (fun v hv _ => by kernel_rfl) ⟨hr8.go (hV), ((hV).cell (p := ⟨gp, op + fA.d * 1, none⟩) (block_lt_of_cell hcp)).trans hcp⟩ ?_
    refine dt 1 52 (.int .i64 ((lA : Nat) : Int)) (fun v hv _ => by kernel_rfl) ⟨hr8.go (hV), ((hV).cell (p := ⟨gp, op + fA.d * 1, none⟩) (block_lt_of_cell hcp)).trans hcp⟩ ?_
    refine dt 2 53 (.slice (some ⟨gp, op, none⟩) n cp) (fun v hv _ => by kernel_rfl) ⟨hr8.go (hV), ((hV).cell (p := ⟨gp, op + fA.d * 1, none⟩) (block_lt_of_cell hcp)).trans hcp⟩ ?_
    refine dt 3 54 (.int .i64 ((xA.d : Nat) : Int)) (fun v hv _ => by kernel_rfl) ⟨hr8.go (hV), ((hV).cell (p := ⟨gp, op + fA.d * 1, none⟩) (block_lt_of_cell hcp)).trans hcp⟩ ?_
    refine dt 4 55 (.pointer (some ⟨gp, op + fA.d * 1, none⟩)) (fun v hv _ => ol_index 29 _ _ gp op fA.d n cp 1 5 rfl (by kernel_rfl) (by rw [← hxAd]; kernel_rfl) (by omega) Try.underlying29 (by kernel_rfl)) ⟨hr8.go (hV), ((hV).cell (p := ⟨gp, op + fA.d * 1, none⟩) (block_lt_of_cell hcp)).trans hcp⟩ ?_
    refine dt 5 56 (.int .u8 ((ix P fA.d : Nat) : Int)) (fun v hv _ => ol_cell 5 _ _ _ _ rfl (by kernel_rfl) hv.2 Try.underlying5 rfl) ⟨hr8.go (hV), ((hV).cell (p := ⟨gp, op + fA.d * 1, none⟩) (block_lt_of_cell hcp)).trans hcp⟩ ?_
    refine dt 6 57 (.agg x.cells.toArray) (fun v hv _ => ol_row 50 _ _ _ _ _ _ rfl (by kernel_rfl) hv.1 Try.underlying50 rfl (by rw [infoF, f_size hxl])) ⟨hr8.go (hV), ((hV).cell (p := ⟨gp, op + fA.d * 1, none⟩) (block_lt_of_cell hcp)).trans hcp⟩ ?_
    refine dt 7 58 (.slice (some ⟨gp, op, none⟩) n cp) (fun v hv _ => by kernel_rfl) ⟨hr8.go (hV), ((hV).cell (p := ⟨gp, op + fA.d * 1, none⟩) (block_lt_of_cell hcp)).trans hcp⟩ ?_
    refine dt 8 59 (.int .i64 ((xA.d : Nat) : Int)) (fun v hv _ => by kernel_rfl) ⟨hr8.go (hV), ((hV).cell (p := ⟨gp, op + fA.d * 1, none⟩) (block_lt_of_cell hcp)).trans hcp⟩ ?_
    refine dt 9 60 (.int .i64 ((fA.d + 1 : Nat) : Int)) (fun v hv _ => ol_conv (v := .int .i64 (IntKind.i64.wrap (((xA.d : Nat) : Int) + 1))) (by kernel_rfl) (congrArg (Value.int .i64) (by rw [wrap64 (by omega) (by omega)]; omega))) ⟨hr8.go (hV), ((hV).cell (p := ⟨gp, op + fA.d * 1, none⟩) (block_lt_of_cell hcp)).trans hcp⟩ ?_
    refine dt 10 61 (.pointer (some ⟨g8, 0, none⟩)) (fun v hv _ => by kernel_rfl) ⟨hr8.go (hV), ((hV).cell (p := ⟨gp, op + fA.d * 1, none⟩) (block_lt_of_cell hcp)).trans hcp⟩ ?_
    refine dt 11 62 (.int .i64 ((x.d : Nat) : Int)) (fun v hv _ => ol_cell 3 _ ⟨g8, 0, none⟩ _ _ rfl (by kernel_rfl) (f_dep (rng_row hv.1)) Try.underlying3 rfl) ⟨hr8.go (hV), ((hV).cell (p := ⟨gp, op + fA.d * 1, none⟩) (block_lt_of_cell hcp)).trans hcp⟩ ?_
    refine dt 12 63 (.slice a2 n2 c2) (fun v hv _ => hr2 _ _ _ _ _ _ ((fA.d + 1 : Nat) : Int) ((x.d : Nat) : Int) rfl (by kernel_rfl) (by kernel_rfl) (by kernel_rfl) rfl (by omega)) ⟨hr8.go (hV), ((hV).cell (p := ⟨gp, op + fA.d * 1, none⟩) (block_lt_of_cell hcp)).trans hcp⟩ ?_
    refine dt 15 66 (.pointer (some ⟨gA, 0 + lA * 546, none⟩)) (fun v hv _ => ol_index 39 _ _ gA 0 lA nA capA 546 50 rfl (by kernel_rfl) (by kernel_rfl) (by omega) Try.underlying39 (by kernel_rfl)) ⟨hr8.go (hV), ((hV).cell (p := ⟨gp, op + fA.d * 1, none⟩) (block_lt_of_cell hcp)).trans hcp⟩ ?_
    refine dt 16 67 (.pointer (some ⟨gA, 0 + lA * 546 + 1, none⟩)) (fun v hv _ => by kernel_rfl) ⟨hr8.go (hV), ((hV).cell (p := ⟨gp, op + fA.d * 1, none⟩) (block_lt_of_cell hcp)).trans hcp⟩ ?_
    refine dw_ready [13] (by kernel_rfl) (by simp) ?_
    refine ar_call 13 64 19 #[.agg x.cells.toArray, .slice a2 n2 c2] rfl (fun _ => by kernel_rfl) (fun _ => by kernel_rfl) (R := fun u w' => (∃ a m c, u = .slice a m c ∧ m ≤ 65540 ∧ Sk (fun b => (v3.drew).heap.size ≤ b) w' a m c (encT (und (seg P (fA.d + 1) f.d) (fkT f)))) ∧ Bl (v3.drew) w') (encoding_any (hxA.keep (keep_bl hV)) (hs2.go hV) (by omega)) (fun u w' h => ⟨hr8.go (hV.go h.2), ((hV.go h.2).cell (p := ⟨gp, op + fA.d * 1, none⟩) (block_lt_of_cell hcp)).trans hcp⟩) ?_ ar_nil
    rintro _ u1 ⟨⟨a3, n3, c3, rfl, hm3, hs3⟩, hb1⟩
    replace hV := hV.go hb1
    have hl3 := hs3.len
    refine dw_ready [14] (by kernel_rfl) (by simp) ?_
    refine ar_call 14 65 24 #[.slice a3 n3 c3] rfl (fun _ => by kernel_rfl) (fun _ => by kernel_rfl) (R := fun u w' => (∃ y : RV, u = .agg y.cells.toArray ∧ RefAt (Own u1.heap.size w') w' y (referP (encT (und (seg P (fA.d + 1) f.d) (fkT f))))) ∧ Bl u1 w') ((refer_any a3 n3 c3 _ u1 hs3.ag (by omega)).mono (fun e w' ⟨⟨y, h1, h2⟩, h3⟩ => ⟨_, h1, ⟨y, rfl, h2⟩, h3⟩)) (fun u w' h => ⟨hr8.go (hV.go h.2), ((hV.go h.2).cell (p := ⟨gp, op + fA.d * 1, none⟩) (block_lt_of_cell hcp)).trans hcp⟩) ?_ ar_nil
    rintro _ u2 ⟨⟨yr, rfl, hyr⟩, hb5⟩
    have hz5 := hV.size
    replace hV := hV.go hb5
    have hglA := hWA.lt
    replace hyr := hyr.mono (K' := fun b => b ≠ gA ∧ X b) (fun b hb => ⟨by have := hb.1; omega, hX b (by have := hb.1; have := hGA.size; omega)⟩)
    have hyl := hyr.len
    have hWu := hWA.go hV
    refine dt 17 68 (.pointer (some ⟨gA, 0 + lA * 546 + 1 + ix P fA.d * 34, none⟩)) (fun v hv _ => ol_indexK (kd := .u8) 48 _ _ gA (0 + lA * 546 + 1) (ix P fA.d) 16 34 47 rfl (by kernel_rfl) (by kernel_rfl) hx16 (by decide) Try.underlying48 (by kernel_rfl)) ⟨hr8.go (hV), ((hV).cell (p := ⟨gp, op + fA.d * 1, none⟩) (block_lt_of_cell hcp)).trans hcp⟩ ?_
    refine dw_ready [18] (by kernel_rfl) (by simp) ?_
    have hWn := hWu.set hx16 hyr (und_nn (seg P (fA.d + 1) f.d) (fkT_ne f))
    have hth := hWu.there hx16
    rw [hlA] at hWn hth
    have hst := St.of u2 gA (0 + lA * 546 + 1 + ix P fA.d * 34) yr.cells
    refine ar_s 18 rfl (fun _ => by kernel_rfl) (fun _ => ol_storeR _ _ hth hyl rfl (by kernel_rfl) (by kernel_rfl)) ⟨(hr8.go hV).st hst hg8A, (World.cell?_of_block (hst.other gp (kf_of hKp))).trans ((hV.cell (p := ⟨gp, op + fA.d * 1, none⟩) (block_lt_of_cell hcp)).trans hcp)⟩ ?_ ar_nil
    generalize u2.setCells gA (0 + lA * 546 + 1 + ix P fA.d * 34) yr.cells = wS at hWn hst ⊢
    have hFs : Fg u2 wS (.slice (some ⟨gA, 0, none⟩) nA capA) (.slice (some ⟨gA, 0, none⟩) nA capA) := ⟨hst.os, hst.tape, hst.output, by rw [hst.size]; exact Nat.le_refl _, fun k hk hn => hst.other k (kf_of hn), .inl rfl⟩
    have hFt := (Fg.of_below (v := .slice (some ⟨gA, 0, none⟩) nA capA) hV).trans hFs
    have hCn : Cg X w base v0 P c (clo P c f0 r0) (some ⟨gp, op, none⟩) n cp gA capA nA ⟨xA.d, updR xA.ys (ix P fA.d) yr, xA.a, xA.n, xA.c⟩ xsA (into P fA f) rA wS := ⟨hWn, hnA, hnA9, hbA, by have := hFt.size; omega, hGA.trans hFt, hpA.keep hFt.keep, hdA, hcA, by show fA.d ≤ P.length; omega, hzA⟩
    refine dw_done (by kernel_rfl) ?_
    refine nw_block ?_
    exact nw_round (E := fun q => [(0, .slice (some ⟨q.1, 0, none⟩) q.2.2.1 q.2.1), (1, .slice (some ⟨gp, op, none⟩) n cp), (2, .int .i64 ((c : Nat) : Int))]) (R := fun q v => Cg X w base v0 P c (clo P c f0 r0) (some ⟨gp, op, none⟩) n cp q.1 q.2.1 q.2.2.1 q.2.2.2.1 q.2.2.2.2.1 q.2.2.2.2.2.1 q.2.2.2.2.2.2 v) (μ := fun q => q.2.2.2.2.2.2.length + if q.2.2.2.2.2.1.d = c then 0 else 1) (x := (g, cap, nW, x, xs, f, r)) (gA, capA, nA, ⟨xA.d, updR xA.ys (ix P fA.d) yr, xA.a, xA.n, xA.c⟩, xsA, into P fA f, rA) (by exact ⟨fun _ => by kernel_rfl, ⟨fun _ => by kernel_rfl, ⟨fun _ => by kernel_rfl, trivial⟩⟩⟩) hCn (by show rA.length + (if fA.d = c then 0 else 1) < r.length + (if f.d = c then 0 else 1); rw [if_neg hfc]; exact hmu)
end Go.Proofs.Ytdkpilgelgjieaa
