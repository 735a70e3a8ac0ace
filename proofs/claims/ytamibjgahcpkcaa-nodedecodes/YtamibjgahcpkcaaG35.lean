/- What digest.Of answers: the document's digest, for all bytes; and Write of whatever bytes, Sum of whatever Hash, in the document's words. -/
import Derived.Test.YtamibjgahcpkcaaG34
import Derived.Test.YtamibjgahcpkcaaG29
import Derived.Test.YtamibjgahcpkcaaG12
import Derived.Test.YtamibjgahcpkcaaG13
import Derived.Test.YtamibjgahcpkcaaG31
namespace Go.Proofs.Ytamibjgahcpkcaa.Di
set_option maxRecDepth 100000
open Go.RowKit
set_option linter.unusedVariables false
set_option maxHeartbeats 400000 in
theorem write_none (g : Nat) (a : Option Addr) (cap : Nat) (s : S4) (tl : List Int) (n : Nat) (w : World) (hl : tl.length = 32) (hn : n < 9223372036854775808) (hg : w.heap[g]? = some (.cells (HC s tl n) 81)) :
    Calls Try.prog 65 #[.pointer (some ⟨g, 0, none⟩), .slice a 0 cap] w fun e w' => e = .returned (.tuple #[]) ∧ w' = w.setCell ⟨g, 36, none⟩ (.int .i64 n) := by
  obtain ⟨xa, xb, xc, xd⟩ := s
  obtain ⟨c0, c1, c2, c3, c36, cf⟩ := cellsH hg hl
  clear hg
  obtain ⟨f, hff⟩ : ∃ f, n % 32 = f := ⟨_, rfl⟩
  have hmod : (n : Int) % 32 = (f : Int) := by omega
  have hf2 : f < 32 := by omega
  have hf3 : (f : Int) < 32 := by omega
  have hf4 : (f : Int) ≤ 32 := by omega
  clear hff
  by_cases hf : f = 0
  · subst hf
    go_enter Try.func65, Try.ntmps65
    go_wp2_with fail
    refine wp_loop_rounds 1 ?_
    rw [rounds_succ]
    go_wp2_with (first | (refine wpList_copy_nothing rfl _ _ 22 22 rfl 5 Try.underlying22 (by kernel_rfl) _ _ _ _ _ _ rfl rfl (by simp) ?_))
    go_end0
    exact ⟨rfl, rfl⟩
  · have hf0 : (0 : Int) < (f : Int) := by omega
    go_enter Try.func65, Try.ntmps65
    go_wp2_with (first | (refine wpList_copy_nothing rfl _ _ 22 22 rfl 5 Try.underlying22 (by kernel_rfl) _ _ _ _ _ _ rfl rfl (by simp) ?_))
    go_returns
    exact ⟨rfl, rfl⟩
/-- Bytes that are handed to Write: none, or a row of cells that is no part of block g. -/
def In2 (g : Nat) (w : World) (a : Option Addr) (len cap : Nat) (bs : List Int) : Prop :=
  (len = 0 ∧ bs = []) ∨ ∃ gb off, a = some ⟨gb, off, none⟩ ∧ bs.length = len ∧ 0 < len ∧ len ≤ cap ∧ cap ≤ maxLen ∧ gb ≠ g ∧ ∀ j, j < bs.length → w.cell? ⟨gb, off + j, none⟩ = some (.int .u8 (bs.getD j 0))
theorem write_any (g : Nat) (a : Option Addr) (len cap : Nat) (s : S4) (tl : List Int) (n : Nat) (all bs : List Int) (w : World) (hinv : Inv all s tl n) (hin : In2 g w a len cap bs) (hsum : n + len < 9223372036854775808)
    (hb : ∀ x ∈ bs, 0 ≤ x ∧ x < 256) (hg : w.heap[g]? = some (.cells (HC s tl n) 81)) :
    Calls Try.prog 65 #[.pointer (some ⟨g, 0, none⟩), .slice a len cap] w fun e w' => e = .returned (.tuple #[]) ∧ (∃ s' tl', Inv (all ++ bs) s' tl' (n + len) ∧ w'.heap[g]? = some (.cells (HC s' tl' (n + len)) 81)) ∧ Touch g w w' := by
  rcases hin with ⟨rfl, rfl⟩ | ⟨gb, off, rfl, h1, h2, h3, h4, h5, h6⟩
  · refine (write_none g a cap s tl n w hinv.hl (by omega) hg).mono ?_
    rintro e w' ⟨rfl, rfl⟩
    refine ⟨rfl, ⟨s, tl, by rw [List.append_nil]; exact hinv, ?_⟩, Touch.setCell _ _ _ _⟩
    have := heap_setCell_same w g 36 _ 81 (.int .i64 n) hg
    rw [HC_taken_set _ _ _ _ hinv.hl] at this
    exact this
  · obtain ⟨xa, xb, xc, xd⟩ := s
    exact write_some g gb off len cap xa xb xc xd tl n all bs w hinv h1 h2 h3 h4 hsum hb h5 hg h6
/-- The document's digest of some bytes. -/
def dref (bs : List Int) : List Int := dig (stOf (padded bs) ((padded bs).length / 32))
theorem dref_len (bs : List Int) : (dref bs).length = 32 := by simp [dref, dig]
theorem inv_new : Inv [] s0 (List.replicate 32 0) 0 := ⟨rfl, rfl, List.length_replicate, rfl, zero_bounds⟩
theorem sum_ref (g : Nat) (s : S4) (tl : List Int) (n : Nat) (all : List Int) (w : World) (h : Inv all s tl n) (hn : n < 9223372036854775808) (hg : w.heap[g]? = some (.cells (HC s tl n) 81)) :
    Calls Try.prog 66 #[.pointer (some ⟨g, 0, none⟩)] w fun e w' => e = .returned (.agg (B8 (dref all))) ∧ Below w.heap.size w w' := by
  obtain ⟨xa, xb, xc, xd⟩ := s
  have := sum_any g xa xb xc xd tl n h.hl h.hb hn w hg
  rw [fin_ref all _ tl n h (by omega)] at this
  exact this
theorem In2.mono {g : Nat} {w w' : World} {a : Option Addr} {len cap : Nat} {bs : List Int} (h : In2 g w a len cap bs) (hb : Below w.heap.size w w') : In2 g w' a len cap bs := by
  rcases h with h | ⟨gb, off, h1, h2, h3, h4, h5, h6, h7⟩
  · exact .inl h
  · exact .inr ⟨gb, off, h1, h2, h3, h4, h5, h6, fun j hj => (hb.cell (p := ⟨gb, off + j, none⟩) (block_lt_of_cell (h7 j hj))).trans (h7 j hj)⟩
/-- Bytes in memory, wherever. -/
def In0 (w : World) (a : Option Addr) (len cap : Nat) (bs : List Int) : Prop :=
  (len = 0 ∧ bs = []) ∨ ∃ gb off, a = some ⟨gb, off, none⟩ ∧ bs.length = len ∧ 0 < len ∧ len ≤ cap ∧ cap ≤ maxLen ∧ ∀ j, j < bs.length → w.cell? ⟨gb, off + j, none⟩ = some (.int .u8 (bs.getD j 0))
theorem In0.at {w w' : World} {a : Option Addr} {len cap : Nat} {bs : List Int} {B : Nat} (h : In0 w a len cap bs) (hB : w.heap.size ≤ B) (hb : Below w.heap.size w w') (g : Nat) (hg : B ≤ g) : In2 g w' a len cap bs := by
  rcases h with h | ⟨gb, off, h1, h2, h3, h4, h5, h7⟩
  · exact .inl h
  · have l : gb < w.heap.size := block_lt_of_cell (h7 0 (by omega))
    exact .inr ⟨gb, off, h1, h2, h3, h4, h5, by omega, fun j hj => (hb.cell (p := ⟨gb, off + j, none⟩) l).trans (h7 j hj)⟩
theorem Touch.below {g N : Nat} {w0 w w' : World} (h : Below N w0 w) (t : Touch g w w') (hN : N ≤ g) (hs : N ≤ w.heap.size) : Below N w0 w' :=
  h.trans ⟨t.os, t.tape, t.output, t.size, fun k hk => t.block k (by omega) (by omega)⟩
set_option maxHeartbeats 1000000 in
theorem of_any (a : Option Addr) (len cap : Nat) (bs : List Int) (w : World) (hin : In0 w a len cap bs) (hlen : len = bs.length) (hb : ∀ x ∈ bs, 0 ≤ x ∧ x < 256) (hmax : len < 9223372036854775808) :
    Calls Try.prog 43 #[.slice a len cap] w fun e w' => e = .returned (.agg (B8 (dref bs))) ∧ Below w.heap.size w w' := by
  have HIN := Hid.mk hin
  have HB := Hid.mk hb
  have HL := Hid.mk hlen
  clear hin hb hlen
  go_enter Try.func43, Try.ntmps43
  go_wp2_with fail
  refine (start_any _).mono ?_
  rintro e w1 ⟨⟨xa, xb, xc, xd, rfl, H⟩, hb1⟩
  have HI : Hid ((Try.prog.info? 81).map (·.size) = some (HC ⟨xa, xb, xc, xd⟩ (List.replicate 32 0) 0).size) := by unfold Hid; rw [HC_size]; kernel_rfl
  go_wp2_with (first | refine wpList_store_row rfl 81 _ _ rfl _ (HC ⟨xa, xb, xc, xd⟩ (List.replicate 32 0) 0) rfl (by rw [HC_zero]; rfl) 81 _ (heap_alloc_new w1 _) HI.out (by rw [HC_size]; rfl) (HC_one _ _ _) ?_)
  have hN : w1.heap[w.heap.size]? = some (.cells (B8 (List.replicate 32 0)) 24) := Below.row hb1 (heap_alloc_new w _)
  have l0 := lt_of_get hN
  have hb2 : Below w.heap.size w w1 := ((Below.refl _ _).alloc (Nat.le_refl _) _).trans (hb1.mono (by simp))
  clear hb1
  refine gen_w (p := fun v => Calls _ _ _ v _) (q := fun v => OfH w.heap.size w1.heap.size w v ⟨xa, xb, xc, xd⟩ (List.replicate 32 0) 0) ⟨?_, ?_, ?_, l0⟩ ?_
  · rw [setRow_other _ _ _ _ (by omega), Below.heap_alloc _ _ _ l0]; exact hN
  · exact setRow_heap _ _ _ _ _ _ (heap_alloc_new w1 _)
  · exact Below.setRow (hb2.alloc (by omega) _) (by omega) _
  clear hN hb2
  intro v F
  have hinv : Inv [] ⟨xa, xb, xc, xd⟩ (List.replicate 32 0) 0 := by rw [H.out]; exact inv_new
  refine (write_any _ a len cap _ _ 0 [] bs v hinv (HIN.out.at (Nat.le_refl _) F.bel _ (Nat.le_of_lt l0)) (by omega) HB.out F.hg).mono ?_
  rintro e v2 ⟨rfl, ⟨s2, tl2, hinv2, hg2⟩, t2⟩
  rw [List.nil_append, Nat.zero_add] at hinv2
  rw [Nat.zero_add] at hg2
  have h02 : v2.heap[w.heap.size]? = some (.cells (B8 (List.replicate 32 0)) 24) := (t2.block _ (lt_of_get F.h0) (by omega)).trans F.h0
  have hb3 := Touch.below F.bel t2 (Nat.le_of_lt l0) (Nat.le_of_lt (lt_of_get F.h0))
  clear F t2 HI hinv
  have HV := Hid.mk (And.intro hinv2 hg2)
  have H02 := Hid.mk h02
  clear hinv2 hg2 h02 H
  go_wp2_with fail
  refine (sum_ref _ s2 tl2 len bs v2 HV.out.1 hmax HV.out.2).mono ?_
  rintro e v3 ⟨rfl, hb4⟩
  have h0 := Below.row hb4 H02.out
  have hbel := hb3.trans (hb4.mono (by have := lt_of_get H02.out; omega))
  have HI2 : Hid ((Try.prog.info? 24).map (·.size) = some (B8 (dref bs)).size) := by unfold Hid; rw [B8_size, dref_len]; kernel_rfl
  have hdl := dref_len bs
  have HH := Hid.mk h0
  clear h0 hb4 HV H02
  generalize hds : dref bs = ds at HI2 hdl ⊢
  have HD := Hid.mk hds
  clear hds
  go_wp2_with (first | refine wpList_store_row rfl 24 _ _ rfl _ (B8 ds) rfl rfl 24 _ HH.out HI2.out (by rw [B8_size, B8_size, hdl, List.length_replicate]) (B8_one _) ?_)
  refine bodyPost_ret (results_cell_row Try.results43 _ _ w.heap.size 24 (B8 ds) (0, 0) _ rfl (setRow_heap _ _ _ _ _ _ HH.out) Try.underlying24 rfl HI2.out) rfl ?_
  exact ⟨by rw [HD.out], Below.setRow hbel (Nat.le_refl _) _⟩
end Go.Proofs.Ytamibjgahcpkcaa.Di
/- What Refer, EmptyRoot and EmptyCode answer, the program's and the document's. -/
namespace Go.Proofs.Ytamibjgahcpkcaa
open Go.RowKit
open Di (dref)
set_option linter.unusedVariables false
set_option maxRecDepth 100000
theorem built_R2f : (fun (d0 d1 d2 d3 d4 d5 d6 d7 d8 d9 d10 d11 d12 d13 d14 d15 d16 d17 d18 d19 d20 d21 d22 d23 d24 d25 d26 d27 d28 d29 d30 d31 : Int) => Try.prog.built 26 [(0, .int .i64 2), (1, .agg (B8 [d0, d1, d2, d3, d4, d5, d6, d7, d8, d9, d10, d11, d12, d13, d14, d15, d16, d17, d18, d19, d20, d21, d22, d23, d24, d25, d26, d27, d28, d29, d30, d31]))]) = fun d0 d1 d2 d3 d4 d5 d6 d7 d8 d9 d10 d11 d12 d13 d14 d15 d16 d17 d18 d19 d20 d21 d22 d23 d24 d25 d26 d27 d28 d29 d30 d31 => some (RV.cells ⟨2, [d0, d1, d2, d3, d4, d5, d6, d7, d8, d9, d10, d11, d12, d13, d14, d15, d16, d17, d18, d19, d20, d21, d22, d23, d24, d25, d26, d27, d28, d29, d30, d31], none, 0, 0⟩).toArray := by kernel_rfl
theorem built_R2d (ds : List Int) (h : ds.length = 32) : Try.prog.built 26 [(0, .int .i64 2), (1, .agg (B8 ds))] = some (RV.cells ⟨2, ds, none, 0, 0⟩).toArray := by
  match ds, h with
  | [d0, d1, d2, d3, d4, d5, d6, d7, d8, d9, d10, d11, d12, d13, d14, d15, d16, d17, d18, d19, d20, d21, d22, d23, d24, d25, d26, d27, d28, d29, d30, d31], _ =>
    have e := built_R2f
    have e := congrFun e d0
    have e := congrFun e d1
    have e := congrFun e d2
    have e := congrFun e d3
    have e := congrFun e d4
    have e := congrFun e d5
    have e := congrFun e d6
    have e := congrFun e d7
    have e := congrFun e d8
    have e := congrFun e d9
    have e := congrFun e d10
    have e := congrFun e d11
    have e := congrFun e d12
    have e := congrFun e d13
    have e := congrFun e d14
    have e := congrFun e d15
    have e := congrFun e d16
    have e := congrFun e d17
    have e := congrFun e d18
    have e := congrFun e d19
    have e := congrFun e d20
    have e := congrFun e d21
    have e := congrFun e d22
    have e := congrFun e d23
    have e := congrFun e d24
    have e := congrFun e d25
    have e := congrFun e d26
    have e := congrFun e d27
    have e := congrFun e d28
    have e := congrFun e d29
    have e := congrFun e d30
    have e := congrFun e d31
    exact e
theorem h_at {w v : World} {a : Option Addr} {n c : Nat} {b : List Int} (h : Ag w a n c b) (hb : Below w.heap.size w v) : Ag v a n c b := h.at hb
theorem rd_none {a : Act} {w : World} {o : Oper} (ho : o.op = .buildSlice 22 0 #[]) : (execOp a.eval o).run Try.prog w = .ok (.value (.slice (some ⟨w.heap.size, 0, none⟩) 0 0)) (w.alloc (.cells #[] 5)) := by
  unfold execOp
  rw [ho]
  go_simp
theorem end_ref {fn : Func} {p : Tmp} (h : fn.results = #[.cell p 26]) {post : Ending → World → Prop} {Q : Exit → Act → World → Prop} {a : Act} {w : World} (hQ : bodyPost Try.prog fn post .ret a w → Q .ret a w) (g : Nat) (y : RV) (hl : y.d.length = 32)
    (hp : a.tmps.getD p undef = .pointer (some ⟨g, 0, none⟩)) (hd : a.defers = []) (hg : w.heap[g]? = some (.cells y.cells.toArray 26)) (hpost : post (.returned (.agg y.cells.toArray)) w) :
    Code.wp Try.prog .ret Q a w := wp_ret (hQ <| bodyPost_ret (results_one h _ _ g y hl hp hg) hd hpost)
def referP (b : List Int) : PR := if b.length < 32 then ⟨1, z32, b⟩ else ⟨2, dref b, []⟩
theorem dof_any (a : Option Addr) (n c : Nat) (b : List Int) (w : World) (h : Ag w a n c b) (hn : n ≤ 140737488351232) : Calls Try.prog 43 #[.slice a n c] w fun e w' => e = .returned (.agg (B8 (dref b))) ∧ Below w.heap.size w w' :=
  Di.of_any a n c b w h.i h.l.symm h.b (by omega)
theorem rdof_any (a : Option Addr) (n c : Nat) (b : List Int) (w : World) (h : Ag w a n c b) (hn : n ≤ 140737488351232) : Calls Try.prog 44 #[.slice a n c] w fun e w' => e = .returned (.agg (B8 (dref b))) ∧ Below w.heap.size w w' :=
  Di.rof_any a n c b w (h.i.inB h.nil) h.b (by rw [h.l]; exact hn)
theorem dref_len (b : List Int) : (dref b).length = 32 := Di.dref_len b
theorem dref_isB (b : List Int) : isB (dref b) := fun x hx => by
  unfold dref Di.dig at hx
  obtain ⟨i, _, rfl⟩ := List.mem_map.1 hx
  unfold Di.bt
  omega
def RfPost (w : World) (b : List Int) : Ending → World → Prop := fun e w' => (∃ y : RV, e = .returned (.agg y.cells.toArray) ∧ RefAt (Own w.heap.size w') w' y (referP b)) ∧ Below w.heap.size w w'
set_option maxHeartbeats 4000000 in
theorem refer_any (a : Option Addr) (n c : Nat) (b : List Int) (w : World) (h : Ag w a n c b) (hn : n ≤ 140737488351232) : Calls Try.prog 19 #[.slice a n c] w (RfPost w b) := by
  have hl := h.l
  by_cases h32 : n < 32
  · have hr : referP b = ⟨1, z32, b⟩ := by unfold referP; rw [if_pos (by omega)]
    unfold RfPost
    rw [hr]
    exact refer_short a n c b w h h32
  · have hr : referP b = ⟨2, dref b, []⟩ := by unfold referP; rw [if_neg (by omega)]
    unfold RfPost
    rw [hr]
    have h32i : (n : Int) ≥ 32 := by omega
    have HOF := Hid.mk (fun v (hv : Below w.heap.size w v) => dof_any a n c b v (h.at hv) hn)
    have HDL := Hid.mk (dref_len b)
    have HDB := Hid.mk (dref_isB b)
    obtain ⟨ds, hds⟩ : ∃ ds, dref b = ds := ⟨_, rfl⟩
    rw [hds] at HOF HDL HDB ⊢
    clear hr h hl hds
    go_enter Try.func19, Try.ntmps19
    go_upto_region 1 with fail
    refine gen_w (p := fun v => Code.wp _ _ _ _ v) (q := fun v => v.heap[w.heap.size]? = some (.cells rz.cells.toArray 26) ∧ Below w.heap.size w v) ⟨heap_alloc_new _ _, below_new _ _⟩ ?_
    rintro v ⟨hrow, hb⟩
    have HROW := Hid.mk hrow
    have HB := Hid.mk hb
    clear hrow hb
    go_upto_region 2 with fail
    rename_i KK hkk
    refine wp_region_lit ?_
    refine wl_pure 7 (.slice a n c) rfl (by kernel_rfl) (by kernel_rfl) ?_
    refine wl_call 8 rfl (by kernel_rfl) 43 #[.slice a n c] (by kernel_rfl) (R := fun val w' => val = .agg (B8 ds) ∧ Below v.heap.size v w') ((HOF.out v HB.out).mono (fun e w' h => ⟨_, h.1, rfl, h.2⟩)) ?_
    rintro val w1 ⟨rfl, hb1⟩
    have hrow1 := Below.row hb1 HROW.out
    refine wl_pure 9 (.agg (RV.cells ⟨2, ds, none, 0, 0⟩).toArray) rfl (by kernel_rfl) (rd_build 26 _ rfl [(0, .int .i64 2), (1, .agg (B8 ds))] (by kernel_rfl) _ (built_R2d ds HDL.out)) ?_
    refine wl_skip rfl (by kernel_rfl) (rd_store 26 _ _ rfl w.heap.size (RV.cells ⟨2, ds, none, 0, 0⟩).toArray (by kernel_rfl) (by kernel_rfl) 26 rz.cells.toArray hrow1 (infoR' HDL.out) (rz_size HDL.out) (all_oneCell_toArray (RV.one _))) ?_
    refine hkk _ _ ?_
    refine end_ref (post := fun e w' => (∃ y : RV, e = .returned (.agg y.cells.toArray) ∧ RefAt (Own w.heap.size w') w' y ⟨2, ds, []⟩) ∧ Below w.heap.size w w') Try.results19 (fun h => h) w.heap.size ⟨2, ds, none, 0, 0⟩ HDL.out (by kernel_rfl) (by kernel_rfl) (setRow_heap _ _ _ _ _ _ hrow1) ?_
    exact ⟨⟨⟨2, ds, none, 0, 0⟩, rfl, rfl, rfl, HDB.out, HDL.out, agk_nil _ _⟩, Below.setRow (below_go HB.out hb1) (Nat.le_refl _) _⟩
set_option maxHeartbeats 4000000 in
theorem rrefer_any (a : Option Addr) (n c : Nat) (b : List Int) (w : World) (h : Ag w a n c b) (hn : n ≤ 140737488351232) : Calls Try.prog 21 #[.slice a n c] w (RfPost w b) := by
  have hl := h.l
  by_cases h32 : n < 32
  · have hr : referP b = ⟨1, z32, b⟩ := by unfold referP; rw [if_pos (by omega)]
    unfold RfPost
    rw [hr]
    have h32i : (n : Int) < 32 := by omega
    have HAG := Hid.mk h
    have HLB := Hid.mk hl
    clear hr h hl
    go_enter Try.func21, Try.ntmps21
    go_upto_region 1 with fail
    refine gen_w (p := fun v => Code.wp _ _ _ _ v) (q := fun v => v.heap[w.heap.size]? = some (.cells rz.cells.toArray 26) ∧ Below w.heap.size w v ∧ w.heap.size + 1 ≤ v.heap.size) ⟨heap_alloc_new _ _, below_new _ _, by simp⟩ ?_
    rintro v ⟨hrow, hb, hsz⟩
    have HROW := Hid.mk hrow
    have HB := Hid.mk hb
    have HSZ := Hid.mk hsz
    have HA2 := Hid.mk (h_at HAG.out hb)
    clear hrow hb hsz
    go_upto_region 2 with fail
    rename_i KK hkk
    refine wp_region_lit ?_
    refine wl_run 6 (.slice (some ⟨v.heap.size, 0, none⟩) 0 0) rfl (by kernel_rfl) (rd_none rfl) ?_
    refine wl_pure 7 (.slice a n c) rfl (by kernel_rfl) (by kernel_rfl) ?_
    have hag2 := HA2.out.at (below_new v (.cells #[] 5))
    refine app_any rfl (.tmp 6) (.tmp 7) rfl v.heap.size _ [] (by kernel_rfl) (OwnB.new v) a n c b (by kernel_rfl) hag2.i hag2.nil hag2.l (by simp; omega) (by simp) ?_
    intro v1 w1 o1 hb1
    rw [List.nil_append] at o1
    obtain ⟨a1, c1, rfl, hag⟩ := o1.ag HAG.out.b
    rw [HLB.out] at hag ⊢
    have hbv : Below v.heap.size v w1 := (below_new v (.cells #[] 5)).trans hb1
    have hrow1 := Below.row hbv HROW.out
    have hfz : Fr v.heap.size w1 a1 n := fun g off e h0 => by
      rcases o1.2 with ⟨hx, _⟩ | ⟨g', cap', cur, hx, hg', hh, _⟩
      · injection hx with e1; rw [e1] at e; cases e
      · cases hx
        cases e
        exact ⟨hg', fun o => frozen_of_row _ _ _ _ _ hh⟩
    refine wl_pure 9 (.agg (RV.cells ⟨1, z32, a1, n, c1⟩).toArray) rfl (by kernel_rfl) (rd_build 26 _ rfl [(0, .int .i64 1), (2, .slice a1 n c1)] (by kernel_rfl) _ (built_R1 _ _ _)) ?_
    refine wl_skip rfl (by kernel_rfl) (rd_store 26 _ _ rfl w.heap.size (RV.cells ⟨1, z32, a1, n, c1⟩).toArray (by kernel_rfl) (by kernel_rfl) 26 rz.cells.toArray hrow1 (infoR' rfl) (rz_size rfl) (all_oneCell_toArray (RV.one _))) ?_
    refine hkk _ _ ?_
    refine end_ref (post := fun e w' => (∃ y : RV, e = .returned (.agg y.cells.toArray) ∧ RefAt (Own w.heap.size w') w' y ⟨1, z32, b⟩) ∧ Below w.heap.size w w') Try.results21 (fun h => h) w.heap.size ⟨1, z32, a1, n, c1⟩ rfl (by kernel_rfl) (by kernel_rfl) (setRow_heap _ _ _ _ _ _ hrow1) ?_
    refine ⟨⟨⟨1, z32, a1, n, c1⟩, rfl, rfl, rfl, isB_z32, rfl, (show AgK (Own v.heap.size w1) w1 a1 n c1 b from ⟨hag, by omega, fun g off e h0 => hfz g off e h0⟩).go (Keep.setRow (base := v.heap.size) (base' := w.heap.size) (g := w.heap.size) (by have := HSZ.out; omega) (by have := HSZ.out; omega))⟩, Below.setRow (below_go HB.out hbv) (Nat.le_refl _) _⟩
  · have hr : referP b = ⟨2, dref b, []⟩ := by unfold referP; rw [if_neg (by omega)]
    unfold RfPost
    rw [hr]
    have h32i : ¬ (n : Int) < 32 := by omega
    have HOF := Hid.mk (fun v (hv : Below w.heap.size w v) => rdof_any a n c b v (h.at hv) hn)
    have HDL := Hid.mk (dref_len b)
    have HDB := Hid.mk (dref_isB b)
    obtain ⟨ds, hds⟩ : ∃ ds, dref b = ds := ⟨_, rfl⟩
    rw [hds] at HOF HDL HDB ⊢
    clear hr h hl hds
    go_enter Try.func21, Try.ntmps21
    go_upto_region 1 with fail
    refine gen_w (p := fun v => Code.wp _ _ _ _ v) (q := fun v => v.heap[w.heap.size]? = some (.cells rz.cells.toArray 26) ∧ Below w.heap.size w v) ⟨heap_alloc_new _ _, below_new _ _⟩ ?_
    rintro v ⟨hrow, hb⟩
    have HROW := Hid.mk hrow
    have HB := Hid.mk hb
    clear hrow hb
    go_upto_region 3 with fail
    rename_i KK hkk
    refine wp_region_lit ?_
    refine wl_pure 10 (.slice a n c) rfl (by kernel_rfl) (by kernel_rfl) ?_
    refine wl_call 11 rfl (by kernel_rfl) 44 #[.slice a n c] (by kernel_rfl) (R := fun val w' => val = .agg (B8 ds) ∧ Below v.heap.size v w') ((HOF.out v HB.out).mono (fun e w' h => ⟨_, h.1, rfl, h.2⟩)) ?_
    rintro val w1 ⟨rfl, hb1⟩
    have hrow1 := Below.row hb1 HROW.out
    refine wl_pure 12 (.agg (RV.cells ⟨2, ds, none, 0, 0⟩).toArray) rfl (by kernel_rfl) (rd_build 26 _ rfl [(0, .int .i64 2), (1, .agg (B8 ds))] (by kernel_rfl) _ (built_R2d ds HDL.out)) ?_
    refine wl_skip rfl (by kernel_rfl) (rd_store 26 _ _ rfl w.heap.size (RV.cells ⟨2, ds, none, 0, 0⟩).toArray (by kernel_rfl) (by kernel_rfl) 26 rz.cells.toArray hrow1 (infoR' HDL.out) (rz_size HDL.out) (all_oneCell_toArray (RV.one _))) ?_
    refine hkk _ _ ?_
    refine end_ref (post := fun e w' => (∃ y : RV, e = .returned (.agg y.cells.toArray) ∧ RefAt (Own w.heap.size w') w' y ⟨2, ds, []⟩) ∧ Below w.heap.size w w') Try.results21 (fun h => h) w.heap.size ⟨2, ds, none, 0, 0⟩ HDL.out (by kernel_rfl) (by kernel_rfl) (setRow_heap _ _ _ _ _ _ hrow1) ?_
    exact ⟨⟨⟨2, ds, none, 0, 0⟩, rfl, rfl, rfl, HDB.out, HDL.out, agk_nil _ _⟩, Below.setRow (below_go HB.out hb1) (Nat.le_refl _) _⟩
end Go.Proofs.Ytamibjgahcpkcaa
/- The statements' own copied: a node in memory of its own. -/
namespace Go.Proofs.Ytamibjgahcpkcaa
open Go.RowKit
set_option linter.unusedVariables false
set_option maxRecDepth 100000
section
variable {a : Act} {w : World}
theorem rd_storeS {x y : Operand} {o : Oper} (ho : o.op = .store 22 x y) (g k : Nat) (ia : Option Addr) (m ic : Nat) (old : Value) (hx : a.eval x = .pointer (some ⟨g, k, none⟩)) (hy : a.eval y = .slice ia m ic) (hc : w.cell? ⟨g, k, none⟩ = some old) (hf : ∀ o, w.frozen? ⟨g, o, none⟩ = false) :
    (execOp a.eval o).run Try.prog w = .ok .skip (w.setCell ⟨g, k, none⟩ (.slice ia m ic)) := by
  unfold execOp
  rw [ho]
  simp only [hx, hy]
  go_simp
theorem rd_allocR {o : Oper} (ho : o.op = .alloc 26) : (execOp a.eval o).run Try.prog w = .ok (.value (.pointer (some ⟨w.heap.size, 0, none⟩))) (w.alloc (.cells rz.cells.toArray 26)) := by
  unfold execOp
  rw [ho]
  go_simp
  rfl
end
theorem ncells_put1 {x : NV} (pa : Option Addr) (pn pc : Nat) : x.cells.toArray.setIfInBounds 1 (.slice pa pn pc) = (NV.cells { x with pa := pa, pn := pn, pc := pc }).toArray := by
  rw [List.setIfInBounds_toArray]
  rfl
theorem ncells_put2 {x : NV} (va : Option Addr) (vn vc : Nat) : x.cells.toArray.setIfInBounds 2 (.slice va vn vc) = (NV.cells { x with va := va, vn := vn, vc := vc }).toArray := by
  rw [List.setIfInBounds_toArray]
  rfl
theorem rcells_put {x : RV} (hl : x.d.length = 32) (ia : Option Addr) (m ic : Nat) : x.cells.set 33 (.slice ia m ic) = RV.cells { x with a := ia, n := m, c := ic } := by
  rw [RV.cells, RV.cells, show (33 : Nat) = 32 + 1 from rfl, List.set_cons_succ, List.set_append_right _ _ (by simp [hl])]
  simp [hl]
theorem ncells_put36 {x : NV} (hl : x.c.d.length = 32) (ia : Option Addr) (m ic : Nat) : x.cells.toArray.setIfInBounds 36 (.slice ia m ic) = (NV.cells { x with c := { x.c with a := ia, n := m, c := ic } }).toArray := by
  rw [List.setIfInBounds_toArray]
  congr 1
  rw [NV.cells, NV.cells, show (36 : Nat) = 33 + 1 + 1 + 1 from rfl, List.set_cons_succ, List.set_cons_succ, List.set_cons_succ, List.set_append_left _ _ (by rw [RV.len hl]; omega), rcells_put hl]
/-- The node's box, the result's and the copy's, while copied goes on. -/
structure Cp (w v : World) (x m : NV) : Prop where
  bx : NBx w.heap.size v x
  row : v.heap[w.heap.size + 1]? = some (.cells nz.cells.toArray 29)
  nb : NBx (w.heap.size + 2) v m
  bel : Below w.heap.size w v
  sz : w.heap.size + 3 ≤ v.heap.size
theorem Cp.go {w v v' : World} {x m : NV} (h : Cp w v x m) (hb : Below v.heap.size v v') : Cp w v' x m := ⟨h.bx.go hb, Below.row hb h.row, h.nb.go hb, below_go h.bel hb, Nat.le_trans h.sz hb.size⟩
theorem Cp.above {w v v' : World} {x m : NV} (h : Cp w v x m) {B : Nat} (hB : w.heap.size + 3 ≤ B) (hb : Below B v v') : Cp w v' x m :=
  ⟨⟨(hb.block _ (by omega)).trans h.bx.row, h.bx.l⟩, (hb.block _ (by omega)).trans h.row, ⟨(hb.block _ (by omega)).trans h.nb.row, h.nb.l⟩, h.bel.trans (hb.mono (by omega)), Nat.le_trans h.sz hb.size⟩
theorem Cp.put {w v : World} {x m m' : NV} (h : Cp w v x m) (k : Nat) (u : Value) (hm : m.cells.toArray.setIfInBounds k u = m'.cells.toArray) (hl : m'.c.d.length = 32) : Cp w (v.setCell ⟨w.heap.size + 2, k, none⟩ u) x m' := by
  have ho : ∀ b, b ≠ w.heap.size + 2 → (v.setCell ⟨w.heap.size + 2, k, none⟩ u).heap[b]? = v.heap[b]? := fun b hb => heap_setCell_other _ _ _ _ hb
  refine ⟨⟨(ho _ (by omega)).trans h.bx.row, h.bx.l⟩, (ho _ (by omega)).trans h.row, ⟨?_, hl⟩, h.bel.setCell (by show w.heap.size ≤ w.heap.size + 2; omega) _, by simpa using h.sz⟩
  rw [heap_setCell_same v (w.heap.size + 2) k _ 29 u h.nb.row, hm]
/-- The bytes of the copy, in memory from a place up to another. -/
def AgN (lo hi : Nat) (v : World) (a : Option Addr) (n c : Nat) (bs : List Int) : Prop := AgK (fun g => lo ≤ g ∧ g < hi) v a n c bs
theorem AgN.go {lo hi hi' : Nat} {v v' : World} {a : Option Addr} {n c : Nat} {bs : List Int} (h : AgN lo hi v a n c bs) (hh : hi ≤ hi') (hb : ∀ b, lo ≤ b → b < hi → v'.heap[b]? = v.heap[b]?) : AgN lo hi' v' a n c bs := AgK.go (fun g hK hg => ⟨hb g hK.1 hK.2, hK.1, by omega⟩) h
/-- A copy of bytes: the empty row is built, and all are appended. -/
theorem own_agn {w' : World} {base : Nat} {v : Value} {bs : List Int} (h : OwnB w' base v bs) (hb : isB bs) (hn : bs.length ≤ 140737488351232) : ∃ a c, v = .slice a bs.length c ∧ AgN base w'.heap.size w' a bs.length c bs := by
  obtain ⟨a, c, rfl, hag⟩ := OwnB.ag h hb
  refine ⟨a, c, rfl, hag, hn, fun g off e h0 => ?_⟩
  subst e
  exact World.ownsRow.lt h g rfl
/-- The parts of the copy that stand. -/
structure Prt (lo hi : Nat) (v : World) (m : NV) (n : PN) : Prop where
  k : m.k = n.k
  pp : AgN lo hi v m.pa m.pn m.pc n.p
  vv : AgN lo hi v m.va m.vn m.vc n.v
  cc : RefAt (fun g => lo ≤ g ∧ g < hi) v m.c n.c
theorem Prt.go {lo hi : Nat} {v v' : World} {m m' : NV} {n : PN} (h : Prt lo hi v m n) (hb : ∀ b, lo ≤ b → b < hi → v'.heap[b]? = v.heap[b]?) (e : m' = { m with ka := m'.ka, kn := m'.kn, kc := m'.kc }) : Prt lo hi v' m' n := by
  rw [e]
  exact ⟨h.k, h.pp.go (Nat.le_refl _) hb, h.vv.go (Nat.le_refl _) hb, h.cc.go (fun g hK hg => ⟨hb g hK.1 hK.2, hK⟩)⟩
set_option maxHeartbeats 8000000 in
theorem ncopied_any (K : Nat → Prop) (x : NV) (n : PN) (w : World) (h : NodeAt K w x n) :
    Calls Try.prog 9 #[.agg x.cells.toArray] w fun e w' => (∃ y : NV, e = .returned (.agg y.cells.toArray) ∧ NodeAt (fun _ => True) w' y n) ∧ Below w.heap.size w w' := by
  have HH := Hid.mk h
  have HL := Hid.mk h.c.len
  have HXM := Hid.mk h.m
  have hb0 : Below w.heap.size w ((w.alloc (.cells x.cells.toArray 29)).alloc (.cells nz.cells.toArray 29)) := below_go (below_new w _) (below_new _ _)
  have hs0 : (w.alloc (.cells x.cells.toArray 29)).heap.size = w.heap.size + 1 := by simp
  have HR0 := Hid.mk (show ((w.alloc (.cells x.cells.toArray 29)).alloc (.cells nz.cells.toArray 29)).heap[w.heap.size + 1]? = some (.cells nz.cells.toArray 29) from by rw [← hs0]; exact heap_alloc_new _ _)
  have HX0 := Hid.mk ((nbx_new w x h.c.len).go (below_new _ (.cells nz.cells.toArray 29)))
  have HB0 := Hid.mk hb0
  clear h hb0 hs0
  go_enter Try.func9, Try.ntmps9
  go_upto_region 1 with fail
  refine gen_w (p := fun v => Code.wp _ _ _ _ v) (q := fun v => NBx w.heap.size v x ∧ v.heap[w.heap.size + 1]? = some (.cells nz.cells.toArray 29) ∧ Below w.heap.size w v ∧ v.heap.size = w.heap.size + 2) ⟨HX0.out, HR0.out, HB0.out, by simp⟩ ?_
  clear HR0 HX0 HB0
  rintro v ⟨X0, R0, b0, s0⟩
  have HX0 := Hid.mk X0
  have HR0 := Hid.mk R0
  have HB0 := Hid.mk b0
  have HS0 := Hid.mk s0
  clear X0 R0 b0 s0
  rename_i KK hkk
  refine wp_region_lit ?_
  refine wl_pure 6 (.agg x.cells.toArray) rfl (by kernel_rfl) (rd_loadNn rfl (by kernel_rfl) HX0.out) ?_
  refine wl_run 3 (.pointer (some ⟨w.heap.size + 2, 0, none⟩)) rfl (by kernel_rfl) ((rd_allocN rfl).trans (by rw [HS0.out])) ?_
  refine wl_skip rfl (by kernel_rfl) (rd_store 29 _ _ rfl (w.heap.size + 2) x.cells.toArray (by kernel_rfl) (by kernel_rfl) 29 nz.cells.toArray (by rw [← HS0.out]; exact heap_alloc_new _ _) (infoN' HL.out) (nz_size HL.out) (all_oneCell_toArray (NV.one _))) ?_
  refine hkk _ _ ?_
  have hC : Cp w ((v.alloc (.cells nz.cells.toArray 29)).setRow (w.heap.size + 2) x.cells.toArray) x x := by
    have hb := below_new v (.cells nz.cells.toArray 29)
    have hn : (v.alloc (.cells nz.cells.toArray 29)).heap[w.heap.size + 2]? = some (.cells nz.cells.toArray 29) := by rw [← HS0.out]; exact heap_alloc_new _ _
    exact ⟨⟨(setRow_other _ _ _ _ (by omega)).trans (HX0.out.go hb).row, HL.out⟩, (setRow_other _ _ _ _ (by omega)).trans (Below.row hb HR0.out), ⟨setRow_heap _ _ _ _ _ _ hn, HL.out⟩, Below.setRow (below_go HB0.out hb) (by omega) _, by simp [HS0.out]⟩
  generalize (v.alloc (.cells nz.cells.toArray 29)).setRow (w.heap.size + 2) x.cells.toArray = v1 at hC ⊢
  have HC := Hid.mk hC
  clear hC hkk HX0 HR0 HB0 HS0
  go_frame
  go_upto_region 2 with fail
  rename_i KK hkk
  refine wp_region_lit ?_
  refine wl_run 7 (.slice (some ⟨v1.heap.size, 0, none⟩) 0 0) rfl (by kernel_rfl) (rd_none rfl) ?_
  have hC1 := HC.out.go (below_new v1 (.cells #[] 5))
  refine wl_pure 8 (.pointer (some ⟨w.heap.size, 1, none⟩)) rfl (by kernel_rfl) (by kernel_rfl) ?_
  refine wl_pure 9 (.slice x.pa x.pn x.pc) rfl (by kernel_rfl) (rd_loadB rfl (by kernel_rfl) hC1.bx.c1) ?_
  have hag2 := HH.out.p.1.at hC1.bel
  refine app_any rfl (.tmp 7) (.tmp 9) rfl v1.heap.size _ [] (by kernel_rfl) (OwnB.new v1) x.pa x.pn x.pc n.p (by kernel_rfl) hag2.i hag2.nil hag2.l (by have := HH.out.p.2.1; simp; omega) (by simp) ?_
  intro z1 w1 o1 hb1
  rw [List.nil_append] at o1
  have hbv : Below v1.heap.size v1 w1 := (below_new v1 (.cells #[] 5)).trans hb1
  have hC2 := HC.out.go hbv
  obtain ⟨a1, c1, rfl, hag⟩ := own_agn o1 hag2.b (by rw [hag2.l]; exact HH.out.p.2.1)
  obtain ⟨n1, hn1⟩ : ∃ n1, n.p.length = n1 := ⟨_, rfl⟩
  rw [hn1] at hag ⊢
  refine wl_pure 11 (.pointer (some ⟨w.heap.size + 2, 1, none⟩)) rfl (by kernel_rfl) (by kernel_rfl) ?_
  refine wl_skip rfl (by kernel_rfl) (rd_storeS rfl (w.heap.size + 2) 1 a1 n1 c1 _ (by kernel_rfl) (by kernel_rfl) hC2.nb.c1 hC2.nb.fz) ?_
  refine hkk _ _ ?_
  have hC3 := hC2.put (m' := ⟨x.k, a1, n1, c1, x.va, x.vn, x.vc, x.c, x.ka, x.kn, x.kc⟩) 1 (.slice a1 n1 c1) (ncells_put1 (x := x) _ _ _) HC.out.nb.l
  have hoth : ∀ b, w.heap.size + 3 ≤ b → (w1.setCell ⟨w.heap.size + 2, 1, none⟩ (.slice a1 n1 c1)).heap[b]? = w1.heap[b]? := fun b hb => heap_setCell_other _ _ _ _ (by show b ≠ w.heap.size + 2; omega)
  have hszz : (w1.setCell ⟨w.heap.size + 2, 1, none⟩ (.slice a1 n1 c1)).heap.size = w1.heap.size := by simp
  have hvz := HC.out.sz
  have hbz := hbv.size
  have HP := Hid.mk (show AgN (w.heap.size + 3) w1.heap.size (w1.setCell ⟨w.heap.size + 2, 1, none⟩ (.slice a1 n1 c1)) a1 n1 c1 n.p from AgK.go (fun g hK hg => ⟨hoth g (by have := hK.1; omega), by have := hK.1; omega, hK.2⟩) hag)
  rw [← hszz] at HP
  generalize w1.setCell ⟨w.heap.size + 2, 1, none⟩ (.slice a1 n1 c1) = v2 at hC3 HP ⊢
  clear HC hoth hszz hvz hbz hag hn1 hC2 hbv o1 hb1 hag2 hC1 hkk
  have HC := Hid.mk hC3
  clear hC3
  go_frame
  go_upto_region 3 with fail
  rename_i KK hkk
  refine wp_region_lit ?_
  refine wl_run 12 (.slice (some ⟨v2.heap.size, 0, none⟩) 0 0) rfl (by kernel_rfl) (rd_none rfl) ?_
  have hC1 := HC.out.go (below_new v2 (.cells #[] 5))
  refine wl_pure 13 (.pointer (some ⟨w.heap.size, 2, none⟩)) rfl (by kernel_rfl) (by kernel_rfl) ?_
  refine wl_pure 14 (.slice x.va x.vn x.vc) rfl (by kernel_rfl) (rd_loadB rfl (by kernel_rfl) hC1.bx.c2) ?_
  have hag2 := HH.out.v.1.at hC1.bel
  refine app_any rfl (.tmp 12) (.tmp 14) rfl v2.heap.size _ [] (by kernel_rfl) (OwnB.new v2) x.va x.vn x.vc n.v (by kernel_rfl) hag2.i hag2.nil hag2.l (by have := HH.out.v.2.1; simp; omega) (by simp) ?_
  intro z1 w2 o1 hb1
  rw [List.nil_append] at o1
  have hbv : Below v2.heap.size v2 w2 := (below_new v2 (.cells #[] 5)).trans hb1
  have hC2 := HC.out.go hbv
  obtain ⟨a2, c2, rfl, hag⟩ := own_agn o1 hag2.b (by rw [hag2.l]; exact HH.out.v.2.1)
  obtain ⟨n2, hn1⟩ : ∃ n1, n.v.length = n1 := ⟨_, rfl⟩
  rw [hn1] at hag ⊢
  refine wl_pure 16 (.pointer (some ⟨w.heap.size + 2, 2, none⟩)) rfl (by kernel_rfl) (by kernel_rfl) ?_
  refine wl_skip rfl (by kernel_rfl) (rd_storeS rfl (w.heap.size + 2) 2 a2 n2 c2 _ (by kernel_rfl) (by kernel_rfl) hC2.nb.c2 hC2.nb.fz) ?_
  refine hkk _ _ ?_
  have hC3 := hC2.put (m' := ⟨x.k, a1, n1, c1, a2, n2, c2, x.c, x.ka, x.kn, x.kc⟩) 2 (.slice a2 n2 c2) (ncells_put2 (x := ⟨x.k, a1, n1, c1, x.va, x.vn, x.vc, x.c, x.ka, x.kn, x.kc⟩) _ _ _) HC.out.nb.l
  have hoth : ∀ b, w.heap.size + 3 ≤ b → (w2.setCell ⟨w.heap.size + 2, 2, none⟩ (.slice a2 n2 c2)).heap[b]? = w2.heap[b]? := fun b hb => heap_setCell_other _ _ _ _ (by show b ≠ w.heap.size + 2; omega)
  have hszz : (w2.setCell ⟨w.heap.size + 2, 2, none⟩ (.slice a2 n2 c2)).heap.size = w2.heap.size := by simp
  have hvz := HC.out.sz
  have hbz := hbv.size
  have HV := Hid.mk (show AgN (w.heap.size + 3) w2.heap.size (w2.setCell ⟨w.heap.size + 2, 2, none⟩ (.slice a2 n2 c2)) a2 n2 c2 n.v from AgK.go (fun g hK hg => ⟨hoth g (by have := hK.1; omega), by have := hK.1; omega, hK.2⟩) hag)
  have HP2 := Hid.mk (HP.out.go hbz (fun b h1 h2 => (hoth b h1).trans (hbv.block b h2)))
  clear HP
  have HP := HP2
  clear HP2
  rw [← hszz] at HV HP
  generalize w2.setCell ⟨w.heap.size + 2, 2, none⟩ (.slice a2 n2 c2) = v3 at hC3 HV HP ⊢
  clear HC hoth hszz hvz hbz hag hn1 hC2 hbv o1 hb1 hag2 hC1 hkk
  have HC := Hid.mk hC3
  clear hC3
  go_frame
  go_upto_region 4 with fail
  rename_i KK hkk
  refine wp_region_lit ?_
  refine wl_run 17 (.slice (some ⟨v3.heap.size, 0, none⟩) 0 0) rfl (by kernel_rfl) (rd_none rfl) ?_
  have hC1 := HC.out.go (below_new v3 (.cells #[] 5))
  refine wl_pure 18 (.pointer (some ⟨w.heap.size, 3, none⟩)) rfl (by kernel_rfl) (by kernel_rfl) ?_
  refine wl_pure 19 (.pointer (some ⟨w.heap.size, 36, none⟩)) rfl (by kernel_rfl) (by kernel_rfl) ?_
  refine wl_pure 20 (.slice x.c.a x.c.n x.c.c) rfl (by kernel_rfl) (rd_loadB rfl (by kernel_rfl) hC1.bx.c36) ?_
  have hag2 := HH.out.c.2.2.2.2.1.at hC1.bel
  refine app_any rfl (.tmp 17) (.tmp 20) rfl v3.heap.size _ [] (by kernel_rfl) (OwnB.new v3) x.c.a x.c.n x.c.c n.c.i (by kernel_rfl) hag2.i hag2.nil hag2.l (by have := HH.out.c.2.2.2.2.2.1; simp; omega) (by simp) ?_
  intro z1 w3 o1 hb1
  rw [List.nil_append] at o1
  have hbv : Below v3.heap.size v3 w3 := (below_new v3 (.cells #[] 5)).trans hb1
  have hC2 := HC.out.go hbv
  obtain ⟨a3, c3, rfl, hag⟩ := own_agn o1 hag2.b (by rw [hag2.l]; exact HH.out.c.2.2.2.2.2.1)
  obtain ⟨n3, hn1⟩ : ∃ n1, n.c.i.length = n1 := ⟨_, rfl⟩
  rw [hn1] at hag ⊢
  refine wl_pure 22 (.pointer (some ⟨w.heap.size + 2, 3, none⟩)) rfl (by kernel_rfl) (by kernel_rfl) ?_
  refine wl_pure 23 (.pointer (some ⟨w.heap.size + 2, 36, none⟩)) rfl (by kernel_rfl) (by kernel_rfl) ?_
  refine wl_skip rfl (by kernel_rfl) (rd_storeS rfl (w.heap.size + 2) 36 a3 n3 c3 _ (by kernel_rfl) (by kernel_rfl) hC2.nb.c36 hC2.nb.fz) ?_
  refine hkk _ _ ?_
  have hC3 := hC2.put (m' := ⟨x.k, a1, n1, c1, a2, n2, c2, ⟨x.c.k, x.c.d, a3, n3, c3⟩, x.ka, x.kn, x.kc⟩) 36 (.slice a3 n3 c3) (ncells_put36 (x := ⟨x.k, a1, n1, c1, a2, n2, c2, x.c, x.ka, x.kn, x.kc⟩) HC.out.nb.l _ _ _) HC.out.nb.l
  have hoth : ∀ b, w.heap.size + 3 ≤ b → (w3.setCell ⟨w.heap.size + 2, 36, none⟩ (.slice a3 n3 c3)).heap[b]? = w3.heap[b]? := fun b hb => heap_setCell_other _ _ _ _ (by show b ≠ w.heap.size + 2; omega)
  have hszz : (w3.setCell ⟨w.heap.size + 2, 36, none⟩ (.slice a3 n3 c3)).heap.size = w3.heap.size := by simp
  have hvz := HC.out.sz
  have hbz := hbv.size
  have HI := Hid.mk (show AgN (w.heap.size + 3) w3.heap.size (w3.setCell ⟨w.heap.size + 2, 36, none⟩ (.slice a3 n3 c3)) a3 n3 c3 n.c.i from AgK.go (fun g hK hg => ⟨hoth g (by have := hK.1; omega), by have := hK.1; omega, hK.2⟩) hag)
  have HP2 := Hid.mk (HP.out.go hbz (fun b h1 h2 => (hoth b h1).trans (hbv.block b h2)))
  clear HP
  have HP := HP2
  clear HP2
  have HV2 := Hid.mk (HV.out.go hbz (fun b h1 h2 => (hoth b h1).trans (hbv.block b h2)))
  clear HV
  have HV := HV2
  clear HV2
  rw [← hszz] at HI HP HV
  generalize w3.setCell ⟨w.heap.size + 2, 36, none⟩ (.slice a3 n3 c3) = v4 at hC3 HI HP HV ⊢
  clear HC hoth hszz hvz hbz hag hn1 hC2 hbv o1 hb1 hag2 hC1 hkk
  have HC := Hid.mk hC3
  clear hC3
  go_frame
  go_upto_region 5 with fail
  rename_i KK hkk
  refine wp_region_lit ?_
  refine wl_pure 24 (.pointer (some ⟨w.heap.size + 2, 37, none⟩)) rfl (by kernel_rfl) (by kernel_rfl) ?_
  refine wl_skip rfl (by kernel_rfl) (rd_storeRL rfl (w.heap.size + 2) none 0 0 _ (by kernel_rfl) (by kernel_rfl) HC.out.nb.c37 HC.out.nb.fz) ?_
  refine hkk _ _ ?_
  have hC3 := HC.out.put (m' := ⟨x.k, a1, n1, c1, a2, n2, c2, ⟨x.c.k, x.c.d, a3, n3, c3⟩, none, 0, 0⟩) 37 (.slice none 0 0) (ncells_put (x := ⟨x.k, a1, n1, c1, a2, n2, c2, ⟨x.c.k, x.c.d, a3, n3, c3⟩, x.ka, x.kn, x.kc⟩) HC.out.nb.l _ _ _) HC.out.nb.l
  have hoth : ∀ b, w.heap.size + 3 ≤ b → (v4.setCell ⟨w.heap.size + 2, 37, none⟩ (.slice none 0 0)).heap[b]? = v4.heap[b]? := fun b hb => heap_setCell_other _ _ _ _ (by show b ≠ w.heap.size + 2; omega)
  have hszz : (v4.setCell ⟨w.heap.size + 2, 37, none⟩ (.slice none 0 0)).heap.size = v4.heap.size := by simp
  have HPR := Hid.mk (show Prt (w.heap.size + 3) v4.heap.size (v4.setCell ⟨w.heap.size + 2, 37, none⟩ (.slice none 0 0)) ⟨x.k, a1, n1, c1, a2, n2, c2, ⟨x.c.k, x.c.d, a3, n3, c3⟩, none, 0, 0⟩ n from
    ⟨HH.out.k, HP.out.go (Nat.le_refl _) (fun b h1 h2 => hoth b h1), HV.out.go (Nat.le_refl _) (fun b h1 h2 => hoth b h1), HH.out.c.1, HH.out.c.2.1, HH.out.c.2.2.1, HH.out.c.2.2.2.1, HI.out.go (Nat.le_refl _) (fun b h1 h2 => hoth b h1)⟩)
  obtain ⟨B2, hB2⟩ : ∃ B2, v4.heap.size = B2 := ⟨_, rfl⟩
  rw [hB2] at HPR hszz
  generalize v4.setCell ⟨w.heap.size + 2, 37, none⟩ (.slice none 0 0) = v5 at hC3 HPR hszz ⊢
  have HSB := Hid.mk hszz
  have HB3 := Hid.mk (show w.heap.size + 3 ≤ B2 from by rw [← hB2]; exact HC.out.sz)
  clear HC hoth hszz hkk hB2 HP HV HI
  have HC := Hid.mk hC3
  clear hC3
  go_frame
  have c37 := HC.out.bx.c37
  obtain ⟨xm1, xm2, xm3, xm4, xm5⟩ := HXM.out
  unfold maxLen at xm3
  have HXM1 := Hid.mk xm1
  have HXM5 := Hid.mk xm5
  clear xm1 xm5
  go_wp2_with fail
  go_loopw [28] (fun s28 u => ∃ (j : Nat) (ka : Option Addr) (kn kc : Nat), j ≤ x.kn ∧ s28 = .int .i64 j ∧ Cp w u x ⟨x.k, a1, n1, c1, a2, n2, c2, ⟨x.c.k, x.c.d, a3, n3, c3⟩, ka, kn, kc⟩ ∧ Prt (w.heap.size + 3) B2 u ⟨x.k, a1, n1, c1, a2, n2, c2, ⟨x.c.k, x.c.d, a3, n3, c3⟩, ka, kn, kc⟩ n ∧ SoR B2 u (.slice ka kn kc) (n.ks.take j) ∧ B2 ≤ u.heap.size) (fun s28 _ => x.kn - (intOf s28).toNat)
  case atStart => exact ⟨0, none, 0, 0, by omega, rfl, HC.out, HPR.out, sor_nil _ _, by rw [HSB.out]; exact Nat.le_refl _⟩
  case round =>
    obtain ⟨j, ka, kn, kc, hj, rfl, hC, hP, hSO, hBz⟩ := hrel
    have HC' := Hid.mk hC
    have HP := Hid.mk hP
    have HSO := Hid.mk hSO
    have HBZ := Hid.mk hBz
    clear hC hP hSO hBz HC HPR c37 HSB
    by_cases hlt : j < x.kn
    · have hji : (j : Int) < x.kn := by omega
      obtain ⟨r, hr⟩ : ∃ r, n.ks[j]? = some r := ⟨_, List.getElem?_eq_getElem (by rw [← HXM1.out]; exact hlt)⟩
      obtain ⟨g, off, y, hka, _, hrg, hy⟩ := HH.out.ks j r hr
      have HKA := Hid.mk hka
      have HRG := Hid.mk hrg
      have HYL := Hid.mk hy.len
      have HY := Hid.mk hy
      have HR := Hid.mk hr
      clear hrg hy hr hka
      go_upto_region 9 with fail
      rename_i KK hkk
      refine wp_region_lit ?_
      refine wl_pure 31 (.pointer (some ⟨w.heap.size, 37, none⟩)) rfl (by kernel_rfl) (by kernel_rfl) ?_
      refine wl_pure 32 (.slice (some ⟨g, off, none⟩) x.kn x.kc) rfl (by kernel_rfl) (rd_loadK rfl (by kernel_rfl) (by rw [← HKA.out]; exact HC'.out.bx.c37)) ?_
      refine wl_pure 33 (.int .i64 j) rfl (by kernel_rfl) (by kernel_rfl) ?_
      refine wl_pure 34 (.pointer (some ⟨g, off + j * 34, none⟩)) rfl (by kernel_rfl) (rd_indexR (m := x.kn) (c := x.kc) rfl (by kernel_rfl) (by kernel_rfl) hlt) ?_
      refine wl_pure 35 (.agg y.cells.toArray) rfl (by kernel_rfl) (rd_loadRr rfl (by kernel_rfl) HYL.out (range_keep HRG.out (fun hl => HC'.out.bel.block g hl))) ?_
      refine wl_run 5 (.pointer (some ⟨wr.heap.size, 0, none⟩)) rfl (by kernel_rfl) (rd_allocR rfl) ?_
      refine wl_skip rfl (by kernel_rfl) (rd_store 26 _ _ rfl wr.heap.size y.cells.toArray (by kernel_rfl) (by kernel_rfl) 26 rz.cells.toArray (heap_alloc_new _ _) (infoR' HYL.out) (rz_size HYL.out) (all_oneCell_toArray (RV.one _))) ?_
      refine hkk _ _ ?_
      have hbu : Below wr.heap.size wr ((wr.alloc (.cells rz.cells.toArray 26)).setRow wr.heap.size y.cells.toArray) := Below.setRow (below_new _ _) (Nat.le_refl _) _
      have hru : RBx wr.heap.size ((wr.alloc (.cells rz.cells.toArray 26)).setRow wr.heap.size y.cells.toArray) y := ⟨setRow_heap _ _ _ _ _ _ (heap_alloc_new _ _), HYL.out⟩
      have hsu : ((wr.alloc (.cells rz.cells.toArray 26)).setRow wr.heap.size y.cells.toArray).heap.size = wr.heap.size + 1 := by simp
      generalize (wr.alloc (.cells rz.cells.toArray 26)).setRow wr.heap.size y.cells.toArray = u at hbu hru hsu ⊢
      have HBU := Hid.mk hbu
      have HRU := Hid.mk hru
      have HSU := Hid.mk hsu
      clear hbu hru hsu hkk
      go_frame
      go_upto_region 10 with fail
      rename_i KK hkk
      refine wp_region_lit ?_
      refine wl_run 36 (.slice (some ⟨u.heap.size, 0, none⟩) 0 0) rfl (by kernel_rfl) (rd_none rfl) ?_
      refine wl_pure 37 (.pointer (some ⟨wr.heap.size, 33, none⟩)) rfl (by kernel_rfl) (by kernel_rfl) ?_
      refine wl_pure 38 (.slice y.a y.n y.c) rfl (by kernel_rfl) (rd_loadB rfl (by kernel_rfl) (HRU.out.go (below_new u (.cells #[] 5))).c33) ?_
      have hag2 := HY.out.2.2.2.2.1.at (below_go (below_go HC'.out.bel HBU.out) (below_new u (.cells #[] 5)))
      refine app_any rfl (.tmp 36) (.tmp 38) rfl u.heap.size _ [] (by kernel_rfl) (OwnB.new u) y.a y.n y.c r.i (by kernel_rfl) hag2.i hag2.nil hag2.l (by have := HY.out.2.2.2.2.2.1; simp; omega) (by simp) ?_
      intro z1 u1 o1 hb1
      rw [List.nil_append] at o1
      have hbv : Below u.heap.size u u1 := (below_new u (.cells #[] 5)).trans hb1
      obtain ⟨ia, ic, rfl, hag⟩ := own_agn o1 hag2.b (by rw [hag2.l]; exact HY.out.2.2.2.2.2.1)
      obtain ⟨im, him⟩ : ∃ im, r.i.length = im := ⟨_, rfl⟩
      rw [him] at hag ⊢
      have hru1 := HRU.out.go hbv
      refine wl_pure 40 (.pointer (some ⟨wr.heap.size, 33, none⟩)) rfl (by kernel_rfl) (by kernel_rfl) ?_
      refine wl_skip rfl (by kernel_rfl) (rd_storeS rfl wr.heap.size 33 ia im ic _ (by kernel_rfl) (by kernel_rfl) hru1.c33 hru1.fz) ?_
      refine hkk _ _ ?_
      have hru2 : RBx wr.heap.size (u1.setCell ⟨wr.heap.size, 33, none⟩ (.slice ia im ic)) ⟨y.k, y.d, ia, im, ic⟩ := ⟨by rw [heap_setCell_same u1 wr.heap.size 33 _ 26 _ hru1.row, List.setIfInBounds_toArray, rcells_put HYL.out], HYL.out⟩
      have hbw : Below wr.heap.size wr (u1.setCell ⟨wr.heap.size, 33, none⟩ (.slice ia im ic)) := (below_go HBU.out hbv).setCell (Nat.le_refl _) _
      have hyy : RefAt (fun b => wr.heap.size ≤ b) (u1.setCell ⟨wr.heap.size, 33, none⟩ (.slice ia im ic)) ⟨y.k, y.d, ia, im, ic⟩ r :=
        ⟨HY.out.1, HY.out.2.1, HY.out.2.2.1, HY.out.2.2.2.1, AgK.go (fun g hK hg => ⟨heap_setCell_other _ _ _ _ (by show g ≠ wr.heap.size; have := hK.1; have := HSU.out; omega), by have := hK.1; have := HSU.out; omega⟩) hag⟩
      generalize u1.setCell ⟨wr.heap.size, 33, none⟩ (.slice ia im ic) = u2 at hru2 hbw hyy ⊢
      have HRU2 := Hid.mk hru2
      have HBW := Hid.mk hbw
      have HYY := Hid.mk hyy
      clear hru2 hbw hyy hru1 hag him hbv o1 hb1 hag2 hkk HRU HBU HSU
      obtain ⟨v', w3, hrun, hso3, hb3⟩ := sor_one HBZ.out HSO.out HBW.out HYY.out (by have := List.length_take_le j n.ks; omega) 27
      obtain ⟨ka', kc', hv', -⟩ := hso3.kids
      obtain ⟨kn', hkn⟩ : ∃ kn', (n.ks.take j ++ [r]).length = kn' := ⟨_, rfl⟩
      rw [hkn] at hv'
      subst hv'
      have hE2 := HC'.out.go HBW.out
      have hE3 := HC'.out.above HB3.out hb3
      have hE4 := hE3.put (m' := ⟨x.k, a1, n1, c1, a2, n2, c2, ⟨x.c.k, x.c.d, a3, n3, c3⟩, ka', kn', kc'⟩) 37 (.slice ka' kn' kc') (ncells_put (x := ⟨x.k, a1, n1, c1, a2, n2, c2, ⟨x.c.k, x.c.d, a3, n3, c3⟩, ka, kn, kc⟩) hE3.nb.l _ _ _) hE3.nb.l
      have hSO4 : SoR B2 (w3.setCell ⟨w.heap.size + 2, 37, none⟩ (.slice ka' kn' kc')) (.slice ka' kn' kc') (n.ks.take (j + 1)) := by rw [take_snocR HR.out]; exact hso3.keep fun b hb _ => heap_setCell_other _ _ _ _ (by show b ≠ w.heap.size + 2; have := HB3.out; omega)
      have hPR4 : Prt (w.heap.size + 3) B2 (w3.setCell ⟨w.heap.size + 2, 37, none⟩ (.slice ka' kn' kc')) ⟨x.k, a1, n1, c1, a2, n2, c2, ⟨x.c.k, x.c.d, a3, n3, c3⟩, ka', kn', kc'⟩ n := HP.out.go (fun b h1 h2 => (heap_setCell_other _ _ _ _ (by show b ≠ w.heap.size + 2; omega)).trans (hb3.block b h2)) rfl
      have hBZ4 : B2 ≤ (w3.setCell ⟨w.heap.size + 2, 37, none⟩ (.slice ka' kn' kc')).heap.size := by have := hb3.size; have := HBZ.out; simp; omega
      have HE3 := Hid.mk hE3
      have HE4 := Hid.mk hE4
      have HSO4 := Hid.mk hSO4
      have HPR4 := Hid.mk hPR4
      have HBZ4 := Hid.mk hBZ4
      have HE2 := Hid.mk hE2
      have HRUN := Hid.mk hrun
      clear hkn hE2 hE3 hE4 hSO4 hPR4 hBZ4 hso3 hb3 hrun
      go_frame
      go_upto_region 11 with fail
      rename_i K2 hkk KK2
      refine wp_region_lit ?_
      refine wl_pure 41 (.pointer (some ⟨w.heap.size + 2, 37, none⟩)) rfl (by kernel_rfl) (by kernel_rfl) ?_
      refine wl_pure 42 (.slice ka kn kc) rfl (by kernel_rfl) (rd_loadK rfl (by kernel_rfl) HE2.out.nb.c37) ?_
      refine wl_pure 43 (.agg (RV.cells ⟨y.k, y.d, ia, im, ic⟩).toArray) rfl (by kernel_rfl) (rd_loadRr rfl (by kernel_rfl) HYL.out HRU2.out.all) ?_
      refine wl_run 44 (.slice (some ⟨u2.heap.size, 0, none⟩) 1 1) rfl (by kernel_rfl) (rd_buildR rfl ⟨y.k, y.d, ia, im, ic⟩ HYL.out (by kernel_rfl)) ?_
      refine wl_run 45 (.slice ka' kn' kc') rfl (by kernel_rfl) (rd_app rfl (.slice ka kn kc) (.slice (some ⟨u2.heap.size, 0, none⟩) 1 1) (by kernel_rfl) (by kernel_rfl) HRUN.out) ?_
      refine wl_pure 46 (.pointer (some ⟨w.heap.size + 2, 37, none⟩)) rfl (by kernel_rfl) (by kernel_rfl) ?_
      refine wl_skip rfl (by kernel_rfl) (rd_storeRL rfl (w.heap.size + 2) ka' kn' kc' _ (by kernel_rfl) (by kernel_rfl) HE3.out.nb.c37 HE3.out.nb.fz) ?_
      refine hkk _ _ ?_
      clear hkk HE3 HE2 HRUN
      go_frame
      go_wp2_with fail
      exact ⟨⟨j + 1, ka', kn', kc', by omega, by simp, HE4.out, HPR4.out, HSO4.out, HBZ4.out⟩, by simp [intOf]; omega⟩
    · have hji : ¬ (j : Int) < x.kn := by omega
      have htk : n.ks.take j = n.ks := List.take_of_length_le (by rw [← HXM1.out]; omega)
      have hSO := HSO.out
      rw [htk] at hSO
      obtain ⟨ka', kc', hv', hk1, hk2, hk3, hk4⟩ := hSO.kids
      cases hv'
      have HNA := Hid.mk (show NodeAt (fun g => w.heap.size + 3 ≤ g) wr ⟨x.k, a1, n1, c1, a2, n2, c2, ⟨x.c.k, x.c.d, a3, n3, c3⟩, ka, n.ks.length, kc⟩ n from
        ⟨HP.out.k, AgK.go (fun g hK hg => ⟨rfl, hK.1⟩) HP.out.pp, AgK.go (fun g hK hg => ⟨rfl, hK.1⟩) HP.out.vv, HP.out.cc.go (fun g hK hg => ⟨rfl, hK.1⟩), ⟨rfl, hk1, hk2, by show n.ks.length ≤ _; rw [← HXM1.out]; exact xm4, hk3⟩, hk4.go (fun g hK hg => ⟨rfl, by have : B2 ≤ g := hK; have := HB3.out; omega⟩)⟩)
      obtain ⟨kq, hkq⟩ : ∃ kq, n.ks.length = kq := ⟨_, rfl⟩
      rw [hkq] at HNA HC'
      clear hk1 hk2 hk3 hk4 hSO htk HSO HP hkq
      go_upto_region 13 with fail
      go_wp2_with (first | refine wpl_loadN rfl _ rfl (w.heap.size + 2) rfl ⟨x.k, a1, n1, c1, a2, n2, c2, ⟨x.c.k, x.c.d, a3, n3, c3⟩, ka, kq, kc⟩ HC'.out.nb ?_ | refine wpList_store_row rfl 29 _ _ rfl _ (NV.cells ⟨x.k, a1, n1, c1, a2, n2, c2, ⟨x.c.k, x.c.d, a3, n3, c3⟩, ka, kq, kc⟩).toArray rfl rfl 29 _ HC'.out.row (infoN' HL.out) (nz_size HL.out) (all_oneCell_toArray (NV.one _)) ?_)
      refine bodyPost_ret (results_cell_row Try.results9 _ _ (w.heap.size + 1) 29 _ (0, 0) _ rfl (setRow_heap _ _ _ _ _ _ HC'.out.row) Try.underlying29 rfl (infoN' (y := ⟨x.k, a1, n1, c1, a2, n2, c2, ⟨x.c.k, x.c.d, a3, n3, c3⟩, ka, kq, kc⟩) HL.out)) rfl ?_
      exact ⟨⟨⟨x.k, a1, n1, c1, a2, n2, c2, ⟨x.c.k, x.c.d, a3, n3, c3⟩, ka, kq, kc⟩, rfl, HNA.out.go fun k hK hk => ⟨setRow_other _ _ _ _ (by omega), trivial⟩⟩, Below.setRow HC'.out.bel (by omega) _⟩
end Go.Proofs.Ytamibjgahcpkcaa
