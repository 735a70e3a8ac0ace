/- What Encode answers. -/
import Derived.Test.YtdkpilgelgjieaaG22
import Derived.Test.YtdkpilgelgjieaaG23
import Derived.Test.YtdkpilgelgjieaaG18
import Derived.Test.YtdkpilgelgjieaaG17
import Derived.Test.YtdkpilgelgjieaaG19
import Derived.Maps.AppendAt
namespace Go.Proofs.Ytdkpilgelgjieaa
open Go.RowKit
set_option linter.unusedVariables false
set_option maxRecDepth 100000
/-- What Encode tells: the bytes, and the error. -/
def NEP (n : PN) : List Int × Nat := if NR n = true then (NE n, 0) else ([], 50)
theorem NR_small {n : PN} (h : NR n = true) : n.ks.length ≤ 100 ∧ n.p.length ≤ 1000 := by
  rcases NR_parts h with ⟨_, h1, _, _, _, _, _, h7⟩ | ⟨_, _, h2, _, _, _, _, h7⟩ | ⟨_, h1, _, _, _, h5, _, _⟩
  · rw [h7]; exact ⟨by simp, by omega⟩
  · rw [h7]; exact ⟨by simp, by omega⟩
  · rw [h1]; exact ⟨by omega, by simp⟩
/-- What Encode's answer is in memory. -/
def EPost (w : World) (r : List Int × Nat) : Ending → World → Prop := fun e w' => (∃ a m c, e = .returned (.tuple #[.slice a m c, .int .i64 (r.2 : Nat)]) ∧ Ag w' a m c r.1 ∧ Fr w.heap.size w' a m) ∧ Below w.heap.size w w'
set_option maxHeartbeats 4000000 in
theorem nencode_any (K : Nat → Prop) (x : NV) (n : PN) (w : World) (h : NodeAt K w x n) :
    Calls Try.prog 37 #[.agg x.cells.toArray] w (EPost w (NEP n)) := by
  have B := nbx_new w x h.c.len
  have HB := Hid.mk (below_new w (.cells x.cells.toArray 73))
  have HR := Hid.mk (show ∀ v, Below w.heap.size w v → Calls Try.prog 44 #[.agg x.cells.toArray] v fun e w' => e = .returned (.bool (NR n)) ∧ Below v.heap.size v w' from fun v hv => nright_any K x n v (h.go (Keep.below hv)))
  obtain ⟨q, hq⟩ : ∃ q, NR n = q := ⟨_, rfl⟩
  have HQ := Hid.mk hq
  have HH := Hid.mk h
  rw [hq] at HR
  obtain ⟨res, hres⟩ : ∃ res, NEP n = res := ⟨_, rfl⟩
  rw [hres]
  unfold NEP at hres
  rw [hq] at hres
  have HRES := Hid.mk hres
  clear h hq hres
  go_enter Try.func37, Try.ntmps37
  go_upto_region 1 with fail
  refine gen_w (p := fun v => Code.wp _ _ _ _ v) (q := fun v => NBx w.heap.size v x ∧ Below w.heap.size w v) ⟨B, HB.out⟩ ?_
  clear B HB
  rintro v ⟨B, hb⟩
  have HB := Hid.mk hb
  have HX := Hid.mk B
  clear hb B
  go_wp2_with (first | refine wpl_loadN rfl _ rfl w.heap.size rfl x HX.out ?_)
  refine (HR.out v HB.out).mono ?_
  rintro e w1 ⟨rfl, hb1⟩
  have HX1 := Hid.mk (HX.out.go hb1)
  have HB1 := Hid.mk (below_go HB.out hb1)
  clear hb1 HX HB
  have hr := HRES.out
  cases q with
  | false =>
    rw [if_neg (by simp)] at hr
    subst hr
    go_wp2_with fail
    go_ret2
    exact ⟨⟨none, 0, 0, rfl, ⟨.inl ⟨rfl, rfl⟩, fun _ => ⟨rfl, rfl⟩, rfl, fun x hx => by cases hx⟩, fun g off e => by cases e⟩, HB1.out⟩
  | true =>
    rw [if_pos rfl] at hr
    subst hr
    obtain ⟨s1, s2⟩ := NR_small HQ.out
    have HIT := Hid.mk (itemOf_any K x n w1 (HH.out.go (Keep.below HB1.out)) s1 s2)
    obtain ⟨b1, b2, b3⟩ := node_back HH.out.okN HQ.out
    have HEP := Hid.mk (encP_yes b1)
    clear s1 s2 b1 b2 b3
    go_wp2_with (first | refine wpl_loadN rfl _ rfl w.heap.size rfl x HX1.out ?_)
    refine HIT.out.mono ?_
    rintro e w2 ⟨⟨y, rfl, hy⟩, hb2⟩
    have HEN := Hid.mk (encode_own (itemP n) y w2 (liesP_lies _ _ hy))
    rw [HEP.out] at HEN
    have HB2 := Hid.mk (below_go HB1.out hb2)
    clear hy hb2
    go_wp2_with fail
    refine HEN.out.mono ?_
    rintro e w3 ⟨⟨a, m, c, rfl, hag, hfr⟩, hb3⟩
    have HB3 := Hid.mk (below_go HB2.out hb3)
    have HAG := Hid.mk hag
    have HFR := Hid.mk (show Fr w.heap.size w3 a m from fun g off e h0 => ⟨Nat.le_trans HB2.out.size (hfr g off e h0).1, (hfr g off e h0).2⟩)
    clear hag hfr hb3
    go_wp2_with fail
    go_ret2
    exact ⟨⟨a, m, c, rfl, HAG.out, HFR.out⟩, HB3.out⟩
end Go.Proofs.Ytdkpilgelgjieaa
/- What Refer answers of fewer than 32 bytes. -/
namespace Go.Proofs.Ytdkpilgelgjieaa
open Go.RowKit
set_option linter.unusedVariables false
set_option maxRecDepth 100000
theorem results_one {fn : Func} {p : Tmp} (h : fn.results = #[.cell p 47]) (tmps : Array Value) (w : World) (g : Nat) (y : RV) (hl : y.d.length = 32) (hp : tmps.getD p undef = .pointer (some ⟨g, 0, none⟩)) (hg : w.heap[g]? = some (.cells y.cells.toArray 47)) :
    (results fn tmps).run Try.prog w = .ok (.agg y.cells.toArray) w :=
  results_cell_row h tmps w g 47 y.cells.toArray (0, 0) _ hp hg Try.underlying47 rfl (infoR' hl)
set_option maxHeartbeats 4000000 in
theorem refer_short (a : Option Addr) (n c : Nat) (b : List Int) (w : World) (h : Ag w a n c b) (hn : n < 32) :
    Calls Try.prog 24 #[.slice a n c] w fun e w' => (∃ y : RV, e = .returned (.agg y.cells.toArray) ∧ RefAt (Own w.heap.size w') w' y ⟨1, z32, b⟩) ∧ Below w.heap.size w w' := by
  have hmk := run_make_row' (P := Try.prog) 29 5 (.int .u8 0) 1 Try.underlying29 info5b rfl .i64 .i64 n (by omega) (by omega)
  obtain ⟨w0, hw0⟩ : ∃ w0, w.alloc (.cells rz.cells.toArray 47) = w0 := ⟨_, rfl⟩
  have hs0 : w0.heap.size = w.heap.size + 1 := by rw [← hw0]; simp
  have hbw0 : Below w.heap.size w w0 := by rw [← hw0]; exact below_new _ _
  have hres : w0.heap[w.heap.size]? = some (.cells rz.cells.toArray 47) := by rw [← hw0]; exact heap_alloc_new _ _
  have hrow : Row w0.heap.size (w0.alloc (.cells (madeCells #[.int .u8 0] n) 5)) (List.replicate n 0) := by
    unfold Row; rw [heap_alloc_new, made_bytes]
  have hbw : Below w.heap.size w (w0.alloc (.cells (madeCells #[.int .u8 0] n) 5)) := hbw0.alloc (by omega) _
  obtain ⟨w1, hrun, hrow1, ht⟩ := copy_row (o := 0) (dl := n) (dc := n) (da := some ⟨w0.heap.size, 0, none⟩) hrow (h.at hbw) rfl (by simp) (fun _ => rfl)
  rw [List.take_zero, List.nil_append, Nat.zero_add, List.drop_of_length_le (by simp), List.append_nil] at hrow1
  have hres1 : w1.heap[w.heap.size]? = some (.cells rz.cells.toArray 47) := (ht.block _ (by simp; omega) (by omega)).trans ((Below.heap_alloc _ _ _ (by omega)).trans hres)
  have hb1 := Touch.below hbw ht (by omega) hbw.size
  have HRUN := Hid.mk hrun
  have HROW := Hid.mk hrow1
  have HB := Hid.mk hb1
  have HRES := Hid.mk hres1
  have HD0 := Hid.mk hbw0
  have HS0 := Hid.mk hs0
  have HLB := Hid.mk h.l
  have HBB := Hid.mk h.b
  have h32 : ¬ (n : Int) ≥ 32 := by omega
  clear hrow hrun hrow1 ht hbw h hbw0 hres hres1 hb1 hs0
  go_enter Try.func24, Try.ntmps24
  go_upto_region 1 with fail
  rw [show (w.alloc (.cells #[.int .i64 0, .int .u8 0, .int .u8 0, .int .u8 0, .int .u8 0, .int .u8 0, .int .u8 0, .int .u8 0, .int .u8 0, .int .u8 0, .int .u8 0, .int .u8 0, .int .u8 0, .int .u8 0, .int .u8 0, .int .u8 0, .int .u8 0, .int .u8 0, .int .u8 0, .int .u8 0, .int .u8 0, .int .u8 0, .int .u8 0, .int .u8 0, .int .u8 0, .int .u8 0, .int .u8 0, .int .u8 0, .int .u8 0, .int .u8 0, .int .u8 0, .int .u8 0, .int .u8 0, .slice none 0 0] 47)) = w0 from hw0]
  clear hw0
  go_wp2_with (first | refine wpl_copy rfl _ _ rfl _ _ rfl rfl (HRUN.out _) ?_ | refine wpList_store_row rfl 47 _ _ rfl _ (RV.cells ⟨1, z32, some ⟨w0.heap.size, 0, none⟩, n, n⟩).toArray rfl rfl 47 _ HRES.out (infoR' rfl) (rz_size rfl) (all_oneCell_toArray (RV.one _)) ?_)
  refine bodyPost_ret (results_one Try.results24 _ _ w.heap.size ⟨1, z32, some ⟨w0.heap.size, 0, none⟩, n, n⟩ rfl rfl (setRow_heap _ _ _ _ _ _ HRES.out)) rfl ?_
  have hne : w0.heap.size ≠ w.heap.size := by have := HS0.out; omega
  have hr2 : Row w0.heap.size (w1.setRow w.heap.size (RV.cells ⟨1, z32, some ⟨w0.heap.size, 0, none⟩, n, n⟩).toArray) b := (setRow_other _ _ _ _ hne).trans HROW.out
  refine ⟨⟨⟨1, z32, some ⟨w0.heap.size, 0, none⟩, n, n⟩, rfl, rfl, rfl, isB_z32, rfl, row_ag (n := n) hr2 HLB.out HBB.out (by omega), by show n ≤ _; omega, fun g off e _ => ?_⟩, Below.setRow HB.out (Nat.le_refl _) _⟩
  cases e
  exact ⟨by have := HS0.out; omega, fun o => frozen_of_row _ _ _ _ _ hr2⟩
end Go.Proofs.Ytdkpilgelgjieaa
/- What Refer answers. -/
namespace Go.Proofs.Ytdkpilgelgjieaa
open Go.RowKit
open Di (dref)
set_option linter.unusedVariables false
set_option maxRecDepth 100000
theorem built_R2f : (fun (d0 d1 d2 d3 d4 d5 d6 d7 d8 d9 d10 d11 d12 d13 d14 d15 d16 d17 d18 d19 d20 d21 d22 d23 d24 d25 d26 d27 d28 d29 d30 d31 : Int) => Try.prog.built 47 [(0, .int .i64 2), (1, .agg (B8 [d0, d1, d2, d3, d4, d5, d6, d7, d8, d9, d10, d11, d12, d13, d14, d15, d16, d17, d18, d19, d20, d21, d22, d23, d24, d25, d26, d27, d28, d29, d30, d31]))]) = fun d0 d1 d2 d3 d4 d5 d6 d7 d8 d9 d10 d11 d12 d13 d14 d15 d16 d17 d18 d19 d20 d21 d22 d23 d24 d25 d26 d27 d28 d29 d30 d31 => some (RV.cells ⟨2, [d0, d1, d2, d3, d4, d5, d6, d7, d8, d9, d10, d11, d12, d13, d14, d15, d16, d17, d18, d19, d20, d21, d22, d23, d24, d25, d26, d27, d28, d29, d30, d31], none, 0, 0⟩).toArray := by kernel_rfl
theorem built_R2d (ds : List Int) (h : ds.length = 32) : Try.prog.built 47 [(0, .int .i64 2), (1, .agg (B8 ds))] = some (RV.cells ⟨2, ds, none, 0, 0⟩).toArray := by
  match ds, h with
  | [d0, d1, d2, d3, d4, d5, d6, d7, d8, d9, d10, d11, d12, d13, d14, d15, d16, d17, d18, d19, d20, d21, d22, d23, d24, d25, d26, d27, d28, d29, d30, d31], _ =>
    have e := built_R2f
    have e := congrFun e d0
    have e := congrFun e d1
    have e := congrFun e d2
    have e := congrFun e d3
    have e := congrFun e d4
    have e := congrFun e d5
    have e := congrFun e d6
    have e := congrFun e d7
    have e := congrFun e d8
    have e := congrFun e d9
    have e := congrFun e d10
    have e := congrFun e d11
    have e := congrFun e d12
    have e := congrFun e d13
    have e := congrFun e d14
    have e := congrFun e d15
    have e := congrFun e d16
    have e := congrFun e d17
    have e := congrFun e d18
    have e := congrFun e d19
    have e := congrFun e d20
    have e := congrFun e d21
    have e := congrFun e d22
    have e := congrFun e d23
    have e := congrFun e d24
    have e := congrFun e d25
    have e := congrFun e d26
    have e := congrFun e d27
    have e := congrFun e d28
    have e := congrFun e d29
    have e := congrFun e d30
    have e := congrFun e d31
    exact e
theorem end_ref {fn : Func} {p : Tmp} (h : fn.results = #[.cell p 47]) {post : Ending → World → Prop} {Q : Exit → Act → World → Prop} {a : Act} {w : World} (hQ : bodyPost Try.prog fn post .ret a w → Q .ret a w) (g : Nat) (y : RV) (hl : y.d.length = 32)
    (hp : a.tmps.getD p undef = .pointer (some ⟨g, 0, none⟩)) (hd : a.defers = []) (hg : w.heap[g]? = some (.cells y.cells.toArray 47)) (hpost : post (.returned (.agg y.cells.toArray)) w) :
    Code.wp Try.prog .ret Q a w := wp_ret (hQ <| bodyPost_ret (results_one h _ _ g y hl hp hg) hd hpost)
def referP (b : List Int) : PR := if b.length < 32 then ⟨1, z32, b⟩ else ⟨2, dref b, []⟩
def RfPost (w : World) (b : List Int) : Ending → World → Prop := fun e w' => (∃ y : RV, e = .returned (.agg y.cells.toArray) ∧ RefAt (Own w.heap.size w') w' y (referP b)) ∧ Below w.heap.size w w'
set_option maxHeartbeats 4000000 in
theorem refer_any (a : Option Addr) (n c : Nat) (b : List Int) (w : World) (h : Ag w a n c b) (hn : n ≤ 140737488351232) : Calls Try.prog 24 #[.slice a n c] w (RfPost w b) := by
  have hl := h.l
  by_cases h32 : n < 32
  · have hr : referP b = ⟨1, z32, b⟩ := by unfold referP; rw [if_pos (by omega)]
    unfold RfPost
    rw [hr]
    exact refer_short a n c b w h h32
  · have hr : referP b = ⟨2, dref b, []⟩ := by unfold referP; rw [if_neg (by omega)]
    unfold RfPost
    rw [hr]
    have h32i : (n : Int) ≥ 32 := by omega
    have HOF := Hid.mk (fun v (hv : Below w.heap.size w v) => dof_any a n c b v (h.at hv) hn)
    have HDL := Hid.mk (dref_len b)
    have HDB := Hid.mk (dref_isB b)
    obtain ⟨ds, hds⟩ : ∃ ds, dref b = ds := ⟨_, rfl⟩
    rw [hds] at HOF HDL HDB ⊢
    clear hr h hl hds
    go_enter Try.func24, Try.ntmps24
    go_upto_region 1 with fail
    refine gen_w (p := fun v => Code.wp _ _ _ _ v) (q := fun v => v.heap[w.heap.size]? = some (.cells rz.cells.toArray 47) ∧ Below w.heap.size w v) ⟨heap_alloc_new _ _, below_new _ _⟩ ?_
    rintro v ⟨hrow, hb⟩
    have HROW := Hid.mk hrow
    have HB := Hid.mk hb
    clear hrow hb
    go_upto_region 2 with fail
    rename_i KK hkk
    refine wp_region_lit ?_
    refine wl_pure 7 (.slice a n c) rfl (by kernel_rfl) (by kernel_rfl) ?_
    refine wl_call 8 rfl (by kernel_rfl) 18 #[.slice a n c] (by kernel_rfl) (R := fun val w' => val = .agg (B8 ds) ∧ Below v.heap.size v w') ((HOF.out v HB.out).mono (fun e w' h => ⟨_, h.1, rfl, h.2⟩)) ?_
    rintro val w1 ⟨rfl, hb1⟩
    have hrow1 := Below.row hb1 HROW.out
    refine wl_pure 9 (.agg (RV.cells ⟨2, ds, none, 0, 0⟩).toArray) rfl (by kernel_rfl) (rd_build 47 _ rfl [(0, .int .i64 2), (1, .agg (B8 ds))] (by kernel_rfl) _ (built_R2d ds HDL.out)) ?_
    refine wl_skip rfl (by kernel_rfl) (rd_store 47 _ _ rfl w.heap.size (RV.cells ⟨2, ds, none, 0, 0⟩).toArray (by kernel_rfl) (by kernel_rfl) 47 rz.cells.toArray hrow1 (infoR' HDL.out) (rz_size HDL.out) (all_oneCell_toArray (RV.one _))) ?_
    refine hkk _ _ ?_
    refine end_ref (post := fun e w' => (∃ y : RV, e = .returned (.agg y.cells.toArray) ∧ RefAt (Own w.heap.size w') w' y ⟨2, ds, []⟩) ∧ Below w.heap.size w w') Try.results24 (fun h => h) w.heap.size ⟨2, ds, none, 0, 0⟩ HDL.out (by kernel_rfl) (by kernel_rfl) (setRow_heap _ _ _ _ _ _ hrow1) ?_
    exact ⟨⟨⟨2, ds, none, 0, 0⟩, rfl, rfl, rfl, HDB.out, HDL.out, agk_nil _ _⟩, Below.setRow (below_go HB.out hb1) (Nat.le_refl _) _⟩
end Go.Proofs.Ytdkpilgelgjieaa
/- What a tree is written as: its encoding, the nodes that are named on the way; a writer in memory. -/
namespace Go.Proofs.Ytdkpilgelgjieaa
open Go.RowKit
open Tr
set_option linter.unusedVariables false
set_option maxRecDepth 100000
namespace Tr
/-- The encoding of a tree's topmost node. -/
def encT : Tr → List Int
  | no => []
  | leaf p v => (NEP ⟨1, p, v, r0, []⟩).1
  | ext p c => (NEP ⟨2, p, [], referP (encT c), []⟩).1
  | br k x => (NEP ⟨3, [], x, r0, (List.range 16).map fun i => if (k i).isNo then r0 else referP (encT (k i))⟩).1
end Tr
def nodeP : Tr → PN
  | no => n0
  | leaf p v => ⟨1, p, v, r0, []⟩
  | ext p c => ⟨2, p, [], referP (encT c), []⟩
  | br k x => ⟨3, [], x, r0, (List.range 16).map fun i => if (k i).isNo then r0 else referP (encT (k i))⟩
theorem ol_build {P : Program} {ρ : Operand → Value} {w : World} {o : Oper} (t : TypeId) (parts : Array (Nat × Operand)) (l : List (Nat × Value)) (cells : Array Value) (ho : o.op = .build t parts) (hl : (parts.map fun (i, x) => (i, ρ x)).toList = l) (hf : P.built t l = some cells) : (execOp ρ o).run P w = .ok (.value (.agg cells)) w := by
  unfold execOp
  rw [ho]
  have := run_build (P := P) w t (parts.map fun (i, x) => (i, ρ x)) cells (by rw [hl]; exact hf)
  simp only [Sem.run_bind, this, Result.andThen_ok, Sem.run_pure]
theorem n_size {y : NV} (h : y.c.d.length = 32) : y.cells.toArray.size = 38 := by rw [List.size_toArray, NV.len h]
theorem Sk.agk {K : Nat → Prop} {w : World} {a : Option Addr} {n c : Nat} {bs : List Int} (h : Sk K w a n c bs) (hn : n ≤ 140737488351232) : AgK (fun _ => True) w a n c bs := ⟨h.ag, hn, fun _ _ _ _ => trivial⟩
end Go.Proofs.Ytdkpilgelgjieaa
