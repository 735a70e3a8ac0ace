/- Paths compared; a value in memory of its own; a way copied. -/
import Derived.Test.YtdkpilgelgjieaaG27
import Derived.Test.YtdkpilgelgjieaaG04
import Derived.Laws.MakeOwn
import Derived.Laws.IdiomCopy
import Derived.Test.YtdkpilgelgjieaaG01
import Derived.Test.YtdkpilgelgjieaaG26
namespace Go.Proofs.Ytdkpilgelgjieaa
open Go.RowKit
open Tr
set_option linter.unusedVariables false
set_option maxRecDepth 100000
theorem mk_copy {K : Nat → Prop} {w : World} {a : Option Addr} {n c : Nat} {bs : List Int} (h : Sk K w a n c bs) (hn : n ≤ 256) : ∃ w1 w2, (Instr.makeSlice 29 (.int .i64 ((n : Nat) : Int)) (.int .i64 ((n : Nat) : Int))).run Try.prog w = .ok (.slice (some ⟨w.heap.size, 0, none⟩) n n) w1 ∧
    (∀ ty, (Builtin.copy_ #[29, 29] ty #[.slice (some ⟨w.heap.size, 0, none⟩) n n, .slice a n c]).run Try.prog w1 = .ok (.int .i64 ((n : Nat) : Int)) w2) ∧ Sk (fun b => w.heap.size ≤ b) w2 (some ⟨w.heap.size, 0, none⟩) n n bs ∧ Bl w w2 := by
  obtain ⟨i, hi, hz, hsz, hby⟩ := info5
  have hl := h.len
  have hm := run_makeSlice (P := Try.prog) w 29 5 i (.int .u8 0) Try.underlying29 hi hz .i64 .i64 ((n : Nat) : Int) ((n : Nat) : Int) (by omega) (by omega) (by rw [hsz]; omega) (by rw [hby]; omega) (by omega)
  rw [Int.toNat_natCast, hsz, Nat.mul_one] at hm
  have hbw : Bl w (w.alloc (.cells (madeCells (Value.int .u8 0).cells n) 5)) := (Below.refl _ _).alloc (Nat.le_refl _) _
  have hag := h.ag.at hbw
  rcases Nat.eq_zero_or_pos n with h0 | h0
  · subst h0
    refine ⟨_, _, hm, fun ty => run_copy_none _ 29 29 ty 5 _ _ _ _ _ _ Try.underlying29 (by rw [hi]; simp [hsz]) rfl, ⟨⟨.inl ⟨rfl, List.eq_nil_of_length_eq_zero hl⟩, (fun e => by cases e), hl, h.ag.b⟩, fun x hx hp => by omega⟩, hbw⟩
  · obtain ⟨ad, ha, hc⟩ : ∃ ad, a = some ad ∧ ∀ j v, (bs.map (Value.int .u8))[j]? = some v → (w.alloc (.cells (madeCells (Value.int .u8 0).cells n) 5)).cell? (ad.add j) = some v := by
      rcases hag.i.inB hag.nil with ⟨q, _⟩ | ⟨ad', h1, _, h3⟩
      · have := (h.ag.nil q).1; omega
      · exact ⟨ad', h1, h3⟩
    have hrow : (w.alloc (.cells (madeCells (Value.int .u8 0).cells n) 5)).heap[w.heap.size]? = some (.cells (madeCells (Value.int .u8 0).cells n) 5 (0, 0)) := heap_alloc_new _ _
    have hth : (w.alloc (.cells (madeCells (Value.int .u8 0).cells n) 5)).there w.heap.size 0 (bs.map (Value.int .u8)).length := by
      intro m hm
      refine ⟨?_, frozen_of_row _ _ _ _ _ hrow⟩
      rw [cell_of_row _ _ _ _ _ _ hrow, Array.getElem?_eq_getElem (by rw [List.length_map] at hm; simp [madeCells]; omega)]
      rfl
    have hcp := fun ty => run_copy_cells (P := Try.prog) (w.alloc (.cells (madeCells (Value.int .u8 0).cells n) 5)) 29 29 ty 5 w.heap.size 0 n n ad n c (bs.map (Value.int .u8)) Try.underlying29 (by rw [hi]; simp [hsz]) (by rw [List.length_map, hl]; exact (Nat.min_self n).symm) hc (fun j hj => (hth j hj).1) (fun j hj => (hth j hj).2) (B8_one2 _)
    have hst := St.of (w.alloc (.cells (madeCells (Value.int .u8 0).cells n) 5)) w.heap.size 0 (bs.map (Value.int .u8))
    have hsame := World.rangeAt_setCells_same (w.alloc (.cells (madeCells (Value.int .u8 0).cells n) 5)) w.heap.size 0 (bs.map (Value.int .u8)) hth
    refine ⟨_, _, hm, fun ty => by rw [ha, hcp ty, List.length_map, hl]; rfl, ⟨⟨.inr ⟨w.heap.size, 0, rfl, hl, by omega, Nat.le_refl _, by unfold maxLen; omega, fun j hj => ?_⟩, (fun e => by cases e), hl, h.ag.b⟩, fun x hx _ => by cases hx; exact Nat.le_refl _⟩, ?_⟩
    · refine hsame j _ ?_
      rw [List.getElem?_map, List.getElem?_eq_getElem hj, List.getD, List.getElem?_eq_getElem hj]; rfl
    · exact ⟨hst.os.trans (Below.os hbw), hst.tape.trans (Below.tape hbw), hst.output.trans (Below.output hbw), by rw [hst.size]; exact hbw.size, fun k hk => (hst.other k (by omega)).trans (Below.block hbw k hk)⟩
theorem ol_copy {w w' : World} {v u r : Value} {ρ : Operand → Value} {o : Oper} (hr : ∀ ty, (Builtin.copy_ #[29, 29] ty #[v, u]).run Try.prog w = .ok r w') (x y : Operand) (ho : o.op = .call { callee := .builtin .copy, args := #[x, y], argTypes := #[29, 29] }) (hx : ρ x = v) (hy : ρ y = u) : (execOp ρ o).run Try.prog w = .ok (.value r) w' := by
  unfold execOp
  simp only [ho, resolve, invoke, builtin, Sem.run_bind, Sem.run_pure, Result.andThen_ok, List.map_toArray, List.map_cons, List.map_nil, hx, hy, hr]
theorem ol_mk {w w' : World} {r l c : Value} {ρ : Operand → Value} {o : Oper} (hr : (Instr.makeSlice 29 l c).run Try.prog w = .ok r w') (x y : Operand) (ho : o.op = .makeSlice 29 x y) (hx : ρ x = l) (hy : ρ y = c) : (execOp ρ o).run Try.prog w = .ok (.value r) w' := by
  unfold execOp
  simp only [ho, Sem.run_bind, Sem.run_pure, Result.andThen_ok, hx, hy, hr]
theorem Way.one {X : Nat → Prop} {w w' : World} {g : Nat} (h : New w w' g #[] 50) : Way X w' g 0 [] [] := ⟨⟨#[], h.row, rfl⟩, Nat.le_refl _, Nat.zero_le _, trivial, trivial⟩
theorem RefAt.old {K : Nat → Prop} {w : World} {y : RV} {r : PR} (h : RefAt K w y r) : RefAt (fun b => b < w.heap.size ∧ K b) w y r := ⟨h.1, h.2.1, h.2.2.1, h.2.2.2.1, h.2.2.2.2.1, h.2.2.2.2.2.1, fun g off e h0 => by
  obtain ⟨g', off', e', _, _, hc⟩ := ag_head h.2.2.2.2.1 h0
  rw [e] at e'; cases e'
  exact ⟨block_lt_of_cell (hc 0 h0), h.2.2.2.2.2.2 g off e h0⟩⟩
theorem FksAt.old {K : Nat → Prop} {w : World} : ∀ {r : List FV} {s : List Fk}, FksAt K w r s → FksAt (fun b => b < w.heap.size ∧ K b) w r s
  | [], [], _ => trivial
  | x :: r, f :: s, h => ⟨⟨h.1.d, h.1.l, fun i hi => (h.1.k i hi).old, ⟨h.1.v.ag, fun x hx hn => ⟨h.1.v.old hx hn, h.1.v.k x hx hn⟩⟩, h.1.m⟩, FksAt.old h.2⟩
  | [], _ :: _, h => h.elim
  | _ :: _, [], h => h.elim
theorem Way.old {X : Nat → Prop} {w : World} {g cap : Nat} {rs : List FV} {fs : List Fk} (h : Way X w g cap rs fs) : FksAt (fun b => b < w.heap.size ∧ X b) w rs fs := h.at'.old.keep (fun b hb _ => ⟨rfl, hb.1, hb.2.2⟩)
/-- All forks of a way, in a row of their own. -/
theorem cloneW {X : Nat → Prop} {w w0 : World} {g cap g5 : Nat} {rs : List FV} {fs : List Fk} (h : Way X w g cap rs fs) (hn : New w0 w g5 #[] 50) (hne : rs ≠ []) (hlen : rs.length ≤ 1000) (hg : g < w0.heap.size) (hold : FksAt (fun b => b < w0.heap.size ∧ X b) w rs fs) :
    ∃ g' cap' w', (∀ ty, (Builtin.append_ #[39, 39] ty #[.slice (some ⟨g5, 0, none⟩) 0 0, .slice (some ⟨g, 0, none⟩) rs.length cap]).run Try.prog w = .ok (.slice (some ⟨g', 0, none⟩) rs.length cap') w') ∧ Way X w' g' cap' rs fs ∧ w0.heap.size ≤ g' ∧ Bl w0 w' := by
  obtain ⟨i, hi, hz, hsz, hby⟩ := infoFk
  have hg5 := hn.hg
  have hV : WayV X w w0.heap.size (.slice (some ⟨g5, 0, none⟩) 0 0) [] [] := .inr ⟨g5, 0, rfl, by omega, Way.one hn⟩
  have ho := h.at'.oks
  have hl := flatF_len ho
  have hpos : 0 < rs.length := List.length_pos_iff.2 hne
  have hone : ∀ u ∈ flatF rs, u.oneCell' = true := by
    have : ∀ l : List FV, ∀ u ∈ flatF l, u.oneCell' = true := by
      intro l
      induction l with
      | nil => intro u hu; simp [flatF] at hu
      | cons x l ih =>
        intro u hu
        rw [flatF] at hu
        rcases List.mem_append.1 hu with q | q
        · exact ih u q
        · exact x.one u q
    exact this rs
  obtain ⟨v', w', r1, r2, r3, _, r5⟩ := run_append_own_at w w0.heap.size 39 0 50 i _ 546 1056 Try.underlying39 hi hz hsz hby (f_size (x := ⟨0, fun _ => rz, none, 0, 0⟩) (fun _ => rfl)) (by decide) _ _ _ hV.owns ⟨g, 0, none⟩ rs.length cap (flatF rs) hl (fun j u hj => by rw [addr_add, Nat.zero_add]; exact wy_cell ho h.y j u hj) hone (by unfold maxLen; simp; omega) (by simp; omega) (by have := hn.below.size; omega)
  rcases r2.2 with ⟨_, q⟩ | ⟨g', cap', cur, rfl, hbg, hgr, hc1, hc2, hc3, hc4⟩
  · simp at q; exact absurd q hne
  have hFg : Fg w w' (.slice (some ⟨g5, 0, none⟩) 0 0) (.slice (some ⟨g', 0, none⟩) (([] : List FV).length + rs.length) cap') := ⟨r3.os, r3.tape, r3.output, r3.size, fun k hk hn => r3.block k hk (fun e => hn e.symm), r5.imp id (fun e k hk => by rw [e] at hk; cases hk; exact Nat.le_refl _)⟩
  have e0 : ([] : List FV).length + rs.length = rs.length := by simp
  rw [e0] at r1 hc1 hc4 hFg
  have hkp : Keep (fun b => b < w0.heap.size ∧ X b) (fun b => b ≠ g' ∧ X b) w w' := fun b hb hl => ⟨(hFg.keep b (of_kf (by have := hb.1; omega)) hl).1, by have := hb.1; omega, hb.2⟩
  refine ⟨g', cap', w', fun ty => r1, ⟨⟨cur, hgr, hc3⟩, hc1, hc2, wy_of ho (fun m u hu => ?_), ?_⟩, hbg, ?_⟩
  · rw [cell_of_row _ _ _ _ _ _ hgr, ← Array.getElem?_toList]
    rw [show flatF [] ++ flatF rs = flatF rs from rfl] at hc4
    rw [← hc4] at hu
    have hlt := (List.getElem?_eq_some_iff.1 hu).1
    rw [List.length_take] at hlt
    rw [List.getElem?_take_of_lt (by omega)] at hu
    exact hu
  · exact FksAt.keep hkp hold
  · exact ⟨hFg.os.trans (Below.os hn.below), hFg.tape.trans (Below.tape hn.below), hFg.output.trans (Below.output hn.below), Nat.le_trans hn.below.size hFg.size, fun k hk => (hFg.block k (by have := hn.below.size; omega) (of_kf (by omega))).trans (Below.block hn.below k hk)⟩
set_option maxHeartbeats 2000000 in
theorem less_anyS {K K' : Nat → Prop} {w : World} {a a' : Option Addr} {n c n' c' : Nat} {p q : List Int} (hp : Sk K w a n c p) (hq : Sk K' w a' n' c' q) (hn : n ≤ 1000) (hn' : n' ≤ 1000) :
    Calls Try.prog 12 #[.slice a n c, .slice a' n' c'] w fun e w' => ∃ u, e = .returned u ∧ (fun u w' => u = .bool (Ni.lessP p q) ∧ Bl w w') u w' := by
  have hB := Bl.refl w
  have lp := hp.len
  have lq := hq.len
  obtain ⟨cm, hcm⟩ : ∃ c, Ni.com p q = c := ⟨_, rfl⟩
  have hcl := Ni.com_le p q
  have hla := Ni.less_at p q
  rw [hcm] at hcl hla
  refine cw_enter Try.func12 rfl 33 rfl ?_
  show CW _ _ _ _ _ _ _ [(0, .slice a n c), (1, .slice a' n' c')] _
  refine cw_seq ?_
  refine cw_region ?_
  refine rp 4 (.bool false) ?_
  refine rw_nil ?_
  refine nw_then ?_
  refine cw_seq ?_
  refine cw_region ?_
  refine rp 6 (.slice a n c) ?_
  refine rp 7 (.slice a' n' c') ?_
  refine rw_call 8 14 #[.slice a n c, .slice a' n' c'] (fun _ => by kernel_rfl) (fun _ => by kernel_rfl) (R := fun u w' => u = .int .i64 ((cm : Nat) : Int) ∧ Bl w w') ((Ni.common_any a a' n c n' c' p q w hp.ag hq.ag (by omega) (by omega)).mono (fun e w' h => ⟨_, by rw [h.1, hcm], rfl, h.2⟩)) ?_
  rintro _ u1 ⟨rfl, hb1⟩
  replace hB := hB.go hb1
  replace hp := hp.go hb1
  replace hq := hq.go hb1
  refine rp 5 (.int .i64 ((cm : Nat) : Int)) ?_
  refine rw_nil ?_
  refine nw_then ?_
  refine cw_seq ?_
  refine cw_seq ?_
  refine cw_region ?_
  refine rp 9 (.int .i64 ((cm : Nat) : Int)) ?_
  refine rp 10 (.slice a n c) ?_
  refine rp 11 (.int .i64 n) ?_
  refine rp 12 (.bool (((cm : Nat) : Int) == (n : Int))) ?_
  refine rp 13 (.bool (((cm : Nat) : Int) == (n : Int))) ?_
  by_cases h1 : cm = n
  · skip
    rw [show (((cm : Nat) : Int) == (n : Int)) = true from beq_iff_eq.2 (by omega)]
    refine rw_off 14 (fun _ => by kernel_rfl) ?_
    refine rw_off 15 (fun _ => by kernel_rfl) ?_
    refine rw_off 16 (fun _ => by kernel_rfl) ?_
    refine rw_off 17 (fun _ => by kernel_rfl) ?_
    refine rp 18 (.bool true) ?_
    refine rw_nil ?_
    refine nw_then ?_
    refine cw_cond_t (fun _ => by kernel_rfl) ?_
    refine cw_seq ?_
    refine cw_region ?_
    refine rp 19 (.slice a n c) ?_
    refine rp 20 (.int .i64 n) ?_
    refine rp 21 (.slice a' n' c') ?_
    refine rp 22 (.int .i64 n') ?_
    refine rp 23 (.bool (decide ((n : Int) < (n' : Int)))) ?_
    refine rp 4 (.bool (decide ((n : Int) < (n' : Int)))) ?_
    refine rw_nil ?_
    refine nw_then ?_
    refine cw_ret ?_
    refine nw_ret_then ?_
    have hls : Ni.lessP p q = decide ((n : Int) < (n' : Int)) := by
      rw [hla]
      by_cases e : cm = n'
      · rw [if_pos (by omega), decide_eq_false (by omega)]
      · rw [if_neg (by omega), if_pos (by omega), decide_eq_true (by omega)]
    exact nw_ret_body (.bool (decide ((n : Int) < (n' : Int)))) (fun _ => by kernel_rfl) ⟨_, rfl, by rw [hls], hB⟩
  · skip
    rw [show (((cm : Nat) : Int) == (n : Int)) = false from beq_eq_false_iff_ne.2 (by omega)]
    refine rp 14 (.int .i64 ((cm : Nat) : Int)) ?_
    refine rp 15 (.slice a' n' c') ?_
    refine rp 16 (.int .i64 n') ?_
    refine rp 17 (.bool (((cm : Nat) : Int) == (n' : Int))) ?_
    refine rp 18 (.bool (((cm : Nat) : Int) == (n' : Int))) ?_
    refine rw_nil ?_
    refine nw_then ?_
    by_cases h2 : cm = n'
    · skip
      rw [show (((cm : Nat) : Int) == (n' : Int)) = true from beq_iff_eq.2 (by omega)]
      refine cw_cond_t (fun _ => by kernel_rfl) ?_
      refine cw_seq ?_
      refine cw_region ?_
      refine rp 19 (.slice a n c) ?_
      refine rp 20 (.int .i64 n) ?_
      refine rp 21 (.slice a' n' c') ?_
      refine rp 22 (.int .i64 n') ?_
      refine rp 23 (.bool (decide ((n : Int) < (n' : Int)))) ?_
      refine rp 4 (.bool (decide ((n : Int) < (n' : Int)))) ?_
      refine rw_nil ?_
      refine nw_then ?_
      refine cw_ret ?_
      refine nw_ret_then ?_
      have hls : Ni.lessP p q = decide ((n : Int) < (n' : Int)) := by
        rw [hla]
        by_cases e : cm = n'
        · rw [if_pos (by omega), decide_eq_false (by omega)]
        · rw [if_neg (by omega), if_pos (by omega), decide_eq_true (by omega)]
      exact nw_ret_body (.bool (decide ((n : Int) < (n' : Int)))) (fun _ => by kernel_rfl) ⟨_, rfl, by rw [hls], hB⟩
    · skip
      rw [show (((cm : Nat) : Int) == (n' : Int)) = false from beq_eq_false_iff_ne.2 (by omega)]
      refine cw_cond_f (fun _ => by kernel_rfl) ?_
      refine cw_skip ?_
      refine nw_then ?_
      refine cw_seq ?_
      obtain ⟨g1, o1, rfl, _, hc1⟩ := hp.cell (j := cm) (by omega)
      obtain ⟨g2, o2, rfl, _, hc2⟩ := hq.cell (j := cm) (by omega)
      show CW _ _ _ _ _ _ _ [(18, .bool false), (17, .bool false), (16, .int .i64 n'), (15, .slice (some ⟨g2, o2, none⟩) n' c'), (14, .int .i64 ((cm : Nat) : Int)), (13, .bool false), (12, .bool false), (11, .int .i64 n), (10, .slice (some ⟨g1, o1, none⟩) n c), (9, .int .i64 ((cm : Nat) : Int)), (5, .int .i64 ((cm : Nat) : Int)), (8, .int .i64 ((cm : Nat) : Int)), (7, .slice (some ⟨g2, o2, none⟩) n' c'), (6, .slice (some ⟨g1, o1, none⟩) n c), (4, .bool false), (0, .slice (some ⟨g1, o1, none⟩) n c), (1, .slice (some ⟨g2, o2, none⟩) n' c')] _
      have hV := Bl.refl u1
      refine cw_draw (fun v => Bl u1 v) (by kernel_rfl) (hV.drew) ?_
      replace hV := hV.drew
      replace hB := hB.drew
      refine dt 0 24 (.slice (some ⟨g1, o1, none⟩) n c) (fun v hv _ => by kernel_rfl) hV ?_
      refine dt 1 25 (.int .i64 ((cm : Nat) : Int)) (fun v hv _ => by kernel_rfl) hV ?_
      refine dt 2 26 (.pointer (some ⟨g1, o1 + cm * 1, none⟩)) (fun v hv _ => ol_index 29 _ _ g1 o1 cm n c 1 5 rfl (by kernel_rfl) (by kernel_rfl) (by omega) Try.underlying29 (by kernel_rfl)) hV ?_
      refine dt 3 27 (.int .u8 (p.getD cm 0)) (fun v hv _ => ol_cell 5 _ _ _ _ rfl (by kernel_rfl) ((Below.cell hv (block_lt_of_cell hc1)).trans hc1) Try.underlying5 rfl) hV ?_
      refine dt 4 28 (.slice (some ⟨g2, o2, none⟩) n' c') (fun v hv _ => by kernel_rfl) hV ?_
      refine dt 5 29 (.int .i64 ((cm : Nat) : Int)) (fun v hv _ => by kernel_rfl) hV ?_
      refine dt 6 30 (.pointer (some ⟨g2, o2 + cm * 1, none⟩)) (fun v hv _ => ol_index 29 _ _ g2 o2 cm n' c' 1 5 rfl (by kernel_rfl) (by kernel_rfl) (by omega) Try.underlying29 (by kernel_rfl)) hV ?_
      refine dt 7 31 (.int .u8 (q.getD cm 0)) (fun v hv _ => ol_cell 5 _ _ _ _ rfl (by kernel_rfl) ((Below.cell hv (block_lt_of_cell hc2)).trans hc2) Try.underlying5 rfl) hV ?_
      refine dt 8 32 (.bool (decide ((p.getD cm 0 : Int) < (q.getD cm 0 : Int)))) (fun v hv _ => by kernel_rfl) hV ?_
      refine dt 9 4 (.bool (decide ((p.getD cm 0 : Int) < (q.getD cm 0 : Int)))) (fun v hv _ => by kernel_rfl) hV ?_
      refine dw_done (by kernel_rfl) ?_
      refine nw_then ?_
      refine cw_ret ?_
      exact nw_ret_body (.bool (decide ((p.getD cm 0 : Int) < (q.getD cm 0 : Int)))) (fun _ => by kernel_rfl) ⟨_, rfl, by rw [hla, if_neg (by omega), if_neg (by omega)], hB⟩
set_option maxHeartbeats 2000000 in
theorem copied_any {K : Nat → Prop} {w : World} {a : Option Addr} {n c : Nat} {bs : List Int} (h : Sk K w a n c bs) (hn : n ≤ 256) :
    Calls Try.prog 15 #[.slice a n c] w fun e w' => ∃ u, e = .returned u ∧ (fun u w' => (∃ a', u = .slice a' n n ∧ Sk (fun b => w.heap.size ≤ b) w' a' n n bs) ∧ Bl w w') u w' := by
  have hB := Bl.refl w
  obtain ⟨w1, w2, hr1, hr2, hs, hb⟩ := mk_copy h hn
  refine cw_enter Try.func15 rfl 11 rfl ?_
  show CW _ _ _ _ _ _ _ [(0, .slice a n c)] _
  refine cw_seq ?_
  refine cw_region ?_
  refine rp 2 (.slice none 0 0) ?_
  refine rw_nil ?_
  refine nw_then ?_
  refine cw_seq ?_
  refine cw_region ?_
  refine rp 4 (.slice a n c) ?_
  refine rp 5 (.int .i64 n) ?_
  refine rw_v 6 (.slice (some ⟨w.heap.size, 0, none⟩) n n) (fun _ => by kernel_rfl) (fun _ => ol_mk hr1 _ _ rfl (by kernel_rfl) (by kernel_rfl)) ?_
  refine rp 3 (.slice (some ⟨w.heap.size, 0, none⟩) n n) ?_
  refine rw_nil ?_
  refine nw_then ?_
  refine cw_seq ?_
  refine cw_region ?_
  refine rp 7 (.slice (some ⟨w.heap.size, 0, none⟩) n n) ?_
  refine rp 8 (.slice a n c) ?_
  refine rw_v 9 (.int .i64 ((n : Nat) : Int)) (fun _ => by kernel_rfl) (fun _ => ol_copy hr2 _ _ rfl (by kernel_rfl) (by kernel_rfl)) ?_
  refine rw_nil ?_
  refine nw_then ?_
  refine cw_seq ?_
  refine cw_region ?_
  refine rp 10 (.slice (some ⟨w.heap.size, 0, none⟩) n n) ?_
  refine rp 2 (.slice (some ⟨w.heap.size, 0, none⟩) n n) ?_
  refine rw_nil ?_
  refine nw_then ?_
  refine cw_ret ?_
  exact nw_ret_body (.slice (some ⟨w.heap.size, 0, none⟩) n n) (fun _ => by kernel_rfl) ⟨_, rfl, ⟨_, rfl, hs⟩, hb⟩
set_option maxHeartbeats 2000000 in
theorem cloneF_any {X : Nat → Prop} {w : World} {g cap nW : Nat} {rs : List FV} {fs : List Fk} (h : Way X w g cap rs fs) (hnW : rs.length = nW) (hne : rs ≠ []) (hl : rs.length ≤ 1000) :
    Calls Try.prog 17 #[.slice (some ⟨g, 0, none⟩) nW cap] w fun e w' => ∃ u, e = .returned u ∧ (fun u w' => (∃ g' cap', u = .slice (some ⟨g', 0, none⟩) nW cap' ∧ Way X w' g' cap' rs fs ∧ w.heap.size ≤ g') ∧ Bl w w') u w' := by
  have hB := Bl.refl w
  refine cw_enter Try.func17 rfl 8 rfl ?_
  show CW _ _ _ _ _ _ _ [(0, .slice (some ⟨g, 0, none⟩) nW cap)] _
  refine cw_seq ?_
  refine cw_region ?_
  refine rp 2 (.slice none 0 0) ?_
  refine rw_nil ?_
  refine nw_then ?_
  refine cw_seq ?_
  refine cw_seq ?_
  refine cw_region ?_
  refine rp 3 (.slice (some ⟨g, 0, none⟩) nW cap) ?_
  refine rp 4 (.bool false) ?_
  refine rw_nil ?_
  refine nw_then ?_
  refine cw_cond_f (fun _ => by kernel_rfl) ?_
  refine cw_skip ?_
  refine nw_then ?_
  refine cw_seq ?_
  refine cw_region ?_
  refine rw_newS 5 #[] 50 0 (fun _ => by kernel_rfl) (fun _ => by kernel_rfl) ?_
  intro w1 g5 hn5
  refine rp 6 (.slice (some ⟨g, 0, none⟩) nW cap) ?_
  obtain ⟨g', cap', w2, hr2, hW2, hb2, hbl⟩ := cloneW (h.go hn5.below) hn5 hne hl h.lt (h.old.keep (keep_bl hn5.below))
  rw [hnW] at hr2
  refine rw_v 7 (.slice (some ⟨g', 0, none⟩) nW cap') (fun _ => by kernel_rfl) (fun _ => ol_app2 hr2 _ _ rfl (by kernel_rfl) (by kernel_rfl)) ?_
  refine rp 2 (.slice (some ⟨g', 0, none⟩) nW cap') ?_
  refine rw_nil ?_
  refine nw_then ?_
  refine cw_ret ?_
  exact nw_ret_body (.slice (some ⟨g', 0, none⟩) nW cap') (fun _ => by kernel_rfl) ⟨_, rfl, ⟨g', cap', rfl, hW2, hb2⟩, hbl⟩
end Go.Proofs.Ytdkpilgelgjieaa
/- What a writer writes: any tree. -/
namespace Go.Proofs.Ytdkpilgelgjieaa
open Go.RowKit
open Tr
set_option linter.unusedVariables false
set_option maxRecDepth 100000
end Go.Proofs.Ytdkpilgelgjieaa
/- The root of any trie. -/
namespace Go.Proofs.Ytdkpilgelgjieaa
open Go.RowKit
open Tr
set_option linter.unusedVariables false
set_option maxRecDepth 100000
open Di (dref)
def rootP (t : Tr) : List Int := if t.isNo then dref [128] else dref (encT t)
end Go.Proofs.Ytdkpilgelgjieaa
/- A builder in memory: a key more. -/
namespace Go.Proofs.Ytdkpilgelgjieaa
open Go.RowKit
open Tr
open Di (dref)
set_option linter.unusedVariables false
set_option maxRecDepth 100000
/-- What a builder's call leaves: all blocks but its own and its row's. -/
structure Af (gB : Nat) (w w' : World) (v v' : Value) : Prop where
  os : w'.os = w.os
  tape : w'.tape = w.tape
  output : w'.output = w.output
  size : w.heap.size ≤ w'.heap.size
  block : ∀ k, k < w.heap.size → k ≠ gB → KF v k → w'.heap[k]? = w.heap[k]?
  own : v'.ownBlock = v.ownBlock ∨ ∀ k, v'.ownBlock = some k → w.heap.size ≤ k
theorem Af.of_fg {gB : Nat} {w w' : World} {v v' : Value} (h : Fg w w' v v') : Af gB w w' v v' := ⟨h.os, h.tape, h.output, h.size, fun k hk _ hv => h.block k hk hv, h.own⟩
theorem Af.of_bl {gB : Nat} {w w' : World} {v : Value} (h : Bl w w') : Af gB w w' v v := Af.of_fg (Fg.of_below h)
theorem Af.trans {gB : Nat} {w u z : World} {a b c : Value} (h : Af gB w u a b) (k : Af gB u z b c) : Af gB w z a c := by
  have hk : ∀ i, i < w.heap.size → KF a i → KF b i := fun i hi ha => by
    rcases h.own with e | e
    · unfold KF; rw [e]; exact ha
    · intro q; have := e i q; omega
  refine ⟨k.os.trans h.os, k.tape.trans h.tape, k.output.trans h.output, Nat.le_trans h.size k.size, fun i hi hg ha => (k.block i (Nat.lt_of_lt_of_le hi h.size) hg (hk i hi ha)).trans (h.block i hi hg ha), ?_⟩
  rcases k.own with e | e
  · rcases h.own with e2 | e2
    · exact .inl (e.trans e2)
    · exact .inr (fun k hk => e2 k (e ▸ hk))
  · exact .inr (fun k hk => Nat.le_trans h.size (e k hk))
theorem Af.of_set {gB o : Nat} {w w' : World} {v u : Value} (h : Set1 w w' gB o u) : Af gB w w' v v := ⟨h.touch.os, h.touch.tape, h.touch.output, h.touch.size, fun k _ hk _ => h.other hk, .inl rfl⟩
theorem Af.keep {Y : Nat → Prop} {gB : Nat} {w w' : World} {v v' : Value} (h : Af gB w w' v v') : Keep (fun b => KF v b ∧ b ≠ gB ∧ Y b) (fun b => KF v' b ∧ b ≠ gB ∧ Y b) w w' := fun b hb hl => ⟨h.block b hl hb.2.1 hb.1, by
  rcases h.own with e | e
  · unfold KF; rw [e]; exact hb.1
  · intro q; have := e b q; omega, hb.2⟩
theorem Sk.af {gB base : Nat} {w w' : World} {v v' : Value} {a : Option Addr} {n c : Nat} {bs : List Int} (h : Sk (fun b => b < base ∧ b ≠ gB) w a n c bs) (ha : Af gB w w' v v') (ho : ∀ k, v.ownBlock = some k → base ≤ k) : Sk (fun b => b < base ∧ b ≠ gB) w' a n c bs := h.keep (fun b hb hl => ⟨ha.block b hl hb.2 (fun e => by have := ho b e; have := hb.1; omega), hb⟩)
structure BuC (Y : Nat → Prop) (w : World) (base gB m : Nat) (pV vW : Value) (rs : List FV) (fs : List Fk) : Prop where
  row : Rw gB w #[pV, vW, .int .i64 ((m : Nat) : Int)] 41
  wv : WayV (fun b => b ≠ gB ∧ Y b) w base vW rs fs
  kg : KF vW gB
  sm : rs.length ≤ 65
def BuP (Y : Nat → Prop) (w : World) (gB m : Nat) (t : Tr) (lk : Option (List Int)) (pV vW : Value) (rs : List FV) (fs : List Fk) : Prop := (m = 0 ∧ t = no ∧ lk = none ∧ rs = [] ∧ fs = [] ∧ pV = .slice none 0 0 ∧ vW = .slice none 0 0) ∨
  ∃ a n c k v r, pV = .slice a n c ∧ Sk (fun b => KF vW b ∧ b ≠ gB ∧ Y b) w a n c (Ni.nib k) ∧ fs = ⟨(Ni.nib k).length, nk, v⟩ :: r ∧ Bd (Ni.nib k) r v t ∧ isB k ∧ k.length ≤ 32 ∧ lk = some k ∧ 0 < m
/-- A builder: how many it has taken, the tree of these, the last key. -/
def Bu (Y : Nat → Prop) (w : World) (base gB m : Nat) (t : Tr) (lk : Option (List Int)) (vW : Value) : Prop := ∃ pV rs fs, BuC Y w base gB m pV vW rs fs ∧ BuP Y w gB m t lk pV vW rs fs
theorem WayV.go {X : Nat → Prop} {w w' : World} {base : Nat} {v : Value} {rs : List FV} {fs : List Fk} (h : WayV X w base v rs fs) (hb : Bl w w') : WayV X w' base v rs fs := by
  rcases h with q | ⟨g, cap, e, hg, hw⟩
  · exact .inl q
  · exact .inr ⟨g, cap, e, hg, hw.go hb⟩
theorem WayV.lo {X : Nat → Prop} {w : World} {base : Nat} {v : Value} {rs : List FV} {fs : List Fk} (h : WayV X w base v rs fs) : ∀ k, v.ownBlock = some k → base ≤ k ∧ k < w.heap.size := by
  rcases h with ⟨rfl, _⟩ | ⟨g, cap, rfl, hg, hw⟩
  · intro k hk; cases hk
  · intro k hk
    have e : g = k := by simpa [Value.ownBlock] using hk
    subst e
    exact ⟨hg, hw.lt⟩
theorem BuC.go {Y : Nat → Prop} {w w' : World} {base gB m : Nat} {pV vW : Value} {rs : List FV} {fs : List Fk} (h : BuC Y w base gB m pV vW rs fs) (hb : Bl w w') : BuC Y w' base gB m pV vW rs fs := ⟨h.row.go hb, h.wv.go hb, h.kg, h.sm⟩
theorem BuC.drew {Y : Nat → Prop} {w : World} {base gB m : Nat} {pV vW : Value} {rs : List FV} {fs : List Fk} (h : BuC Y w base gB m pV vW rs fs) : BuC Y w.drew base gB m pV vW rs fs := h.go (Below.refl _ _).drew
theorem Bu.go {Y : Nat → Prop} {w w' : World} {base gB m : Nat} {t : Tr} {lk : Option (List Int)} {vW : Value} (h : Bu Y w base gB m t lk vW) (hb : Bl w w') : Bu Y w' base gB m t lk vW := by
  obtain ⟨pV, rs, fs, h1, h2⟩ := h
  refine ⟨pV, rs, fs, h1.go hb, ?_⟩
  rcases h2 with q | ⟨a, n, c, k, v, r, e1, e2, e3⟩
  · exact .inl q
  · exact .inr ⟨a, n, c, k, v, r, e1, e2.go hb, e3⟩
theorem WayV.len {X : Nat → Prop} {w : World} {base : Nat} {v : Value} {rs : List FV} {fs : List Fk} (h : WayV X w base v rs fs) : rs.length = fs.length := by
  rcases h with ⟨_, rfl, rfl⟩ | ⟨g, cap, _, _, hw⟩
  · rfl
  · exact hw.at'.len
theorem Way.setB {Y : Nat → Prop} {gB : Nat} {w w' : World} {g cap o : Nat} {u : Value} {rs : List FV} {fs : List Fk} (h : Way (fun b => b ≠ gB ∧ Y b) w g cap rs fs) (hs : Set1 w w' gB o u) (hne : gB ≠ g) : Way (fun b => b ≠ gB ∧ Y b) w' g cap rs fs := by
  obtain ⟨cur, h1, h2⟩ := h.row
  have e := hs.other (k := g) (fun e => hne e.symm)
  exact ⟨⟨cur, e.trans h1, h2⟩, h.nc, h.cm, h.y.same e, h.at'.keep (fun b hb _ => ⟨hs.other hb.2.1, hb⟩)⟩
theorem WayV.setB {Y : Nat → Prop} {gB o base : Nat} {w w' : World} {u v : Value} {rs : List FV} {fs : List Fk} (h : WayV (fun b => b ≠ gB ∧ Y b) w base v rs fs) (hs : Set1 w w' gB o u) (hk : KF v gB) : WayV (fun b => b ≠ gB ∧ Y b) w' base v rs fs := by
  rcases h with q | ⟨g, cap, rfl, hg, hw⟩
  · exact .inl q
  · exact .inr ⟨g, cap, rfl, hg, hw.setB hs (kf_of hk)⟩
theorem BuC.setP {Y : Nat → Prop} {w w' : World} {base gB m : Nat} {pV vW q : Value} {rs : List FV} {fs : List Fk} (h : BuC Y w base gB m pV vW rs fs) (hs : Set1 w w' gB 0 q) : BuC Y w' base gB m q vW rs fs := ⟨h.row.set hs rfl, h.wv.setB hs h.kg, h.kg, h.sm⟩
theorem BuC.setM {Y : Nat → Prop} {w w' : World} {base gB m m' : Nat} {pV vW : Value} {rs : List FV} {fs : List Fk} (h : BuC Y w base gB m pV vW rs fs) (hs : Set1 w w' gB 2 (.int .i64 ((m' : Nat) : Int))) : BuC Y w' base gB m' pV vW rs fs := ⟨h.row.set hs rfl, h.wv.setB hs h.kg, h.kg, h.sm⟩
def addE (lk : Option (List Int)) (k x : List Int) : Int := if k.length ≤ 32 then (if 0 < x.length ∧ x.length ≤ 256 then (match lk with | none => 0 | some k0 => if Ni.lessP k0 k then 0 else 80) else 71) else 70
def RAd (Y : Nat → Prop) (w : World) (base gB m : Nat) (t : Tr) (lk : Option (List Int)) (vW : Value) (k x : List Int) : Value → World → Prop := fun u w' => u = .int .i64 (addE lk k x) ∧ ∃ vW', Bu Y w' base gB (if addE lk k x = 0 then m + 1 else m) (if addE lk k x = 0 then putT t k x else t) (if addE lk k x = 0 then some k else lk) vW' ∧ Af gB w w' vW vW'
theorem RAd.same {Y : Nat → Prop} {w w' : World} {base gB m : Nat} {t : Tr} {lk : Option (List Int)} {vW : Value} {k x : List Int} {z : Int} (h : Bu Y w' base gB m t lk vW) (hz : addE lk k x = z) (h0 : z ≠ 0) (hb : Bl w w') : RAd Y w base gB m t lk vW k x (.int .i64 z) w' := ⟨by rw [hz], vW, by rw [hz, if_neg h0, if_neg h0, if_neg h0]; exact h, Af.of_bl hb⟩
theorem dw_len : ∀ (r : List Fk) (d : Nat), Dw d r → r.length ≤ d
  | [], _, _ => Nat.zero_le _
  | g :: r, d, h => by have := dw_len r g.d h.2; have := h.1; rw [List.length_cons]; omega
def fkv (d : Nat) (a : Option Addr) (n c : Nat) : FV := ⟨d, fun _ => rz, a, n, c⟩
theorem built_F2f : (fun (d : Int) (a : Option Addr) (n c : Nat) => Try.prog.built 50 [(0, .int .i64 d), (2, .slice a n c)]) = fun d a n c => some (Array.mk (.int .i64 d :: (kc (fun _ => rz) 16 ++ [.slice a n c]))) := by kernel_rfl
theorem built_F2 (d : Int) (a : Option Addr) (n c : Nat) : Try.prog.built 50 [(0, .int .i64 d), (2, .slice a n c)] = some (Array.mk (.int .i64 d :: (kc (fun _ => rz) 16 ++ [.slice a n c]))) := congrFun (congrFun (congrFun (congrFun built_F2f d) a) n) c
theorem fkv_at {K : Nat → Prop} {w : World} {d : Nat} {a : Option Addr} {n c : Nat} {x : List Int} (h : Sk K w a n c x) (hn : n ≤ 256) : FkAt K w (fkv d a n c) ⟨d, nk, x⟩ := ⟨rfl, fun _ => rfl, fun i _ => by rw [show rP nk i = r0 from rfl]; exact ref_zeroK K w, h, hn⟩
theorem newB_any {Y : Nat → Prop} {w w' : World} {g : Nat} (h : New w w' g #[.slice none 0 0, .slice none 0 0, .int .i64 0] 41) (base : Nat) : Bu Y w' base g 0 no none (.slice none 0 0) := ⟨_, [], [], ⟨h.row, .inl ⟨rfl, rfl, rfl⟩, (by simp [KF, Value.ownBlock]), by simp⟩, .inl ⟨rfl, rfl, rfl, rfl, rfl, rfl, rfl⟩⟩
set_option maxHeartbeats 8000000 in
theorem badd_any {Y : Nat → Prop} {w : World} {base gB m : Nat} {t : Tr} {lk : Option (List Int)} {vW : Value} (hU : Bu Y w base gB m t lk vW) (hY : ∀ b, w.heap.size ≤ b → Y b) (hbase : base ≤ w.heap.size) (hm : m ≤ 4000000000000) {a : Option Addr} {n c : Nat} {k : List Int} (hk : Sk (fun b => b < base ∧ b ≠ gB) w a n c k) {a' : Option Addr} {n' c' : Nat} {x : List Int} (hx : Sk (fun b => b < base ∧ b ≠ gB) w a' n' c' x) :
    Calls Try.prog 7 #[.pointer (some ⟨gB, 0, none⟩), .slice a n c, .slice a' n' c'] w fun e w' => ∃ u, e = .returned u ∧ RAd Y w base gB m t lk vW k x u w' := by
  have hB := Bl.refl w
  have lk1 := hk.len
  have lx := hx.len
  have hBu := hU
  obtain ⟨pV, rs, fs, hC, hP⟩ := hU
  have hxne : 0 < n' → x ≠ [] := fun h e => by rw [e] at lx; simp at lx; omega
  refine cw_enter Try.func7 rfl 78 rfl ?_
  show CW _ _ _ _ _ _ _ [(0, .pointer (some ⟨gB, 0, none⟩)), (1, .slice a n c), (2, .slice a' n' c')] _
  refine cw_seq ?_
  refine cw_region ?_
  refine rp 6 (.int .i64 0) ?_
  refine rw_nil ?_
  refine nw_then ?_
  refine cw_seq ?_
  refine cw_block ?_
  refine cw_seq ?_
  by_cases h32 : n ≤ 32
  · skip
    rcases Nat.eq_zero_or_pos n' with hx0 | hx0
    · skip
      refine cw_region ?_
      refine rp 9 (.slice a n c) ?_
      refine rp 10 (.int .i64 n) ?_
      refine rv 11 (.bool false) (fun _ => ol_conv (v := .bool (decide ((n : Int) > (32 : Int)))) (by kernel_rfl) (congrArg Value.bool (decide_eq_false (by omega)))) ?_
      refine rp 8 (.bool false) ?_
      refine rw_nil ?_
      refine nw_then ?_
      refine cw_cond_f (fun _ => by kernel_rfl) ?_
      refine cw_seq ?_
      refine cw_region ?_
      refine rp 13 (.slice a' n' c') ?_
      refine rp 14 (.int .i64 n') ?_
      refine rv 15 (.bool true) (fun _ => ol_conv (v := .bool ((n' : Int) == (0 : Int))) (by kernel_rfl) (congrArg Value.bool (beq_iff_eq.2 (by omega)))) ?_
      refine rp 16 (.bool true) ?_
      refine rw_off 17 (fun _ => by kernel_rfl) ?_
      refine rw_off 18 (fun _ => by kernel_rfl) ?_
      refine rw_off 19 (fun _ => by kernel_rfl) ?_
      refine rp 20 (.bool true) ?_
      refine rp 12 (.bool true) ?_
      refine rw_nil ?_
      refine nw_then ?_
      refine cw_cond_t (fun _ => by kernel_rfl) ?_
      refine cw_seq ?_
      refine cw_region ?_
      refine rp 6 (.int .i64 71) ?_
      refine rw_nil ?_
      refine nw_then ?_
      refine cw_ret ?_
      refine nw_ret_block ?_
      refine nw_ret_then ?_
      exact nw_ret_body (.int .i64 71) (fun _ => by kernel_rfl) ⟨_, rfl, RAd.same (hBu.go (Bl.refl _)) (by unfold addE; rw [if_pos (by omega), if_neg (by omega)]) (by decide) (Bl.refl _)⟩
    · skip
      by_cases h256 : n' ≤ 256
      · skip
        refine cw_region ?_
        refine rp 9 (.slice a n c) ?_
        refine rp 10 (.int .i64 n) ?_
        refine rv 11 (.bool false) (fun _ => ol_conv (v := .bool (decide ((n : Int) > (32 : Int)))) (by kernel_rfl) (congrArg Value.bool (decide_eq_false (by omega)))) ?_
        refine rp 8 (.bool false) ?_
        refine rw_nil ?_
        refine nw_then ?_
        refine cw_cond_f (fun _ => by kernel_rfl) ?_
        refine cw_seq ?_
        refine cw_region ?_
        refine rp 13 (.slice a' n' c') ?_
        refine rp 14 (.int .i64 n') ?_
        refine rv 15 (.bool false) (fun _ => ol_conv (v := .bool ((n' : Int) == (0 : Int))) (by kernel_rfl) (congrArg Value.bool (beq_eq_false_iff_ne.2 (by omega)))) ?_
        refine rp 16 (.bool false) ?_
        refine rp 17 (.slice a' n' c') ?_
        refine rp 18 (.int .i64 n') ?_
        refine rv 19 (.bool false) (fun _ => ol_conv (v := .bool (decide ((n' : Int) > (256 : Int)))) (by kernel_rfl) (congrArg Value.bool (decide_eq_false (by omega)))) ?_
        refine rp 20 (.bool false) ?_
        refine rp 12 (.bool false) ?_
        refine rw_nil ?_
        refine nw_then ?_
        refine cw_cond_f (fun _ => by kernel_rfl) ?_
        refine cw_skip ?_
        refine nw_block ?_
        refine nw_then ?_
        refine cw_seq ?_
        refine cw_region ?_
        refine rp 21 (.slice a n c) ?_
        refine rw_call 22 11 #[.slice a n c] (fun _ => by kernel_rfl) (fun _ => by kernel_rfl) (R := fun u w' => (∃ a', u = .slice a' (2 * n) (2 * n) ∧ Ni.Cut w' w.heap.size a' (2 * n) (Ni.nib k)) ∧ Bl w w') (((Ni.of_any _ _ _ k _ hk.ag (by omega)).mono (fun e w' h => by obtain ⟨⟨a', e1, h1⟩, h2⟩ := h; exact ⟨_, e1, ⟨a', rfl, h1⟩, h2⟩))) ?_
        rintro _ u1 ⟨⟨aq, rfl, hcut⟩, hb1⟩
        have hQ := Cut_sk (K := fun b => w.heap.size ≤ b) hcut (fun b hb => hb)
        have hC1 := hC.go hb1
        have hnb : Nb (Ni.nib k) := nib_nb hk.ag.b
        have hql : (Ni.nib k).length = 2 * n := by rw [Ni.nib_len, lk1]
        replace hB : Bl w u1 := hb1
        have hz1 := hb1.size
        have hlo := hC.wv.lo
        refine rp 7 (.slice aq (2 * n) (2 * n)) ?_
        refine rw_nil ?_
        refine nw_then ?_
        refine cw_seq ?_
        refine cw_seq ?_
        refine cw_region ?_
        refine rp 23 (.pointer (some ⟨gB, 0, none⟩)) ?_
        refine rp 24 (.pointer (some ⟨gB, 0, none⟩)) ?_
        refine rp 25 (.pointer (some ⟨gB, 2, none⟩)) ?_
        refine rv 26 (.int .i64 ((m : Nat) : Int)) (fun _ => ol_cell 3 _ ⟨gB, 2, none⟩ _ _ rfl (by kernel_rfl) (by rw [cell_of_row _ _ _ _ _ _ (hC1.row)]; rfl) Try.underlying3 rfl) ?_
        refine rp 27 (.bool (decide (((m : Nat) : Int) > (0 : Int)))) ?_
        refine rw_nil ?_
        refine nw_then ?_
        refine cw_cut (fun E v3 => ∃ pV2 vW2 rs2 fs2, E = [(0, .pointer (some ⟨gB, 0, none⟩)), (2, .slice a' n' c'), (7, .slice aq (2 * n) (2 * n))] ∧ BuC Y v3 base gB m pV2 vW2 rs2 fs2 ∧ Sk (fun b => KF vW2 b ∧ b ≠ gB ∧ Y b) v3 aq (2 * n) (2 * n) (Ni.nib k) ∧ Af gB w v3 vW vW2 ∧ Bd (Ni.nib k) fs2 x (put t (Ni.nib k) x) ∧ addE lk k x = 0) ?_ ?_
        · skip
          rcases hP with ⟨hm0, rfl, rfl, rfl, rfl, rfl, rfl⟩ | ⟨ap, np, cp, k0, v0, r, rfl, hsp, rfl, hBd, hk0, hk32, rfl, hmp⟩
          · skip
            rw [show decide (((m : Nat) : Int) > (0 : Int)) = false from decide_eq_false (by omega)]
            refine cw_cond_f (fun _ => by kernel_rfl) ?_
            refine cw_skip ?_
            exact nw_cut [(0, .pointer (some ⟨gB, 0, none⟩)), (2, .slice a' n' c'), (7, .slice aq (2 * n) (2 * n))] (by exact ⟨fun _ => by kernel_rfl, ⟨fun _ => by kernel_rfl, ⟨fun _ => by kernel_rfl, trivial⟩⟩⟩) ⟨_, _, [], [], rfl, hC1, hQ.mono (fun b hb => ⟨by simp [KF, Value.ownBlock], by have := lt_of_get hC.row; omega, hY b hb⟩), Af.of_bl hb1, Bd.first hnb (by omega) (hxne hx0), by unfold addE; rw [if_pos (by omega), if_pos (by omega)]⟩
          · skip
            rw [show decide (((m : Nat) : Int) > (0 : Int)) = true from decide_eq_true (by omega)]
            refine cw_cond_t (fun _ => by kernel_rfl) ?_
            have hsp1 := hsp.go hb1
            have hpl := hsp.len
            rw [Ni.nib_len] at hpl
            refine cw_seq ?_
            refine cw_seq ?_
            refine cw_region ?_
            refine rp 28 (.pointer (some ⟨gB, 0, none⟩)) ?_
            refine rp 29 (.pointer (some ⟨gB, 0, none⟩)) ?_
            refine rp 30 (.pointer (some ⟨gB, 0, none⟩)) ?_
            refine rv 31 (.slice ap np cp) (fun _ => ol_cell 29 _ ⟨gB, 0, none⟩ _ _ rfl (by kernel_rfl) (by rw [cell_of_row _ _ _ _ _ _ (hC1.row)]; rfl) Try.underlying29 rfl) ?_
            refine rp 32 (.slice aq (2 * n) (2 * n)) ?_
            refine rw_call 33 12 #[.slice ap np cp, .slice aq (2 * n) (2 * n)] (fun _ => by kernel_rfl) (fun _ => by kernel_rfl) (R := fun u w' => u = .bool (Ni.lessP k0 k) ∧ Bl u1 w') (((less_anyS hsp1 hQ (by omega) (by omega)).mono (fun e w' ⟨u, e1, e2, e3⟩ => ⟨u, e1, by rw [e2, Ni.less_nib], e3⟩))) ?_
            rintro _ u2 ⟨rfl, hb2⟩
            have hB2 : Bl w u2 := hB.go hb2
            have hC2 := hC.go hB2
            have hz2 := hb2.size
            refine rp 34 (.bool (!(Ni.lessP k0 k))) ?_
            refine rw_nil ?_
            refine nw_then ?_
            cases hls : Ni.lessP k0 k with
            | false =>
              show CW _ _ _ _ _ _ _ [(34, .bool true), (33, .bool false), (32, .slice aq (2 * n) (2 * n)), (31, .slice ap np cp), (30, .pointer (some ⟨gB, 0, none⟩)), (29, .pointer (some ⟨gB, 0, none⟩)), (28, .pointer (some ⟨gB, 0, none⟩)), (27, .bool true), (26, .int .i64 ((m : Nat) : Int)), (25, .pointer (some ⟨gB, 2, none⟩)), (24, .pointer (some ⟨gB, 0, none⟩)), (23, .pointer (some ⟨gB, 0, none⟩)), (7, .slice aq (2 * n) (2 * n)), (22, .slice aq (2 * n) (2 * n)), (21, .slice a n c), (12, .bool false), (20, .bool false), (19, .bool false), (18, .int .i64 n'), (17, .slice a' n' c'), (16, .bool false), (15, .bool false), (14, .int .i64 n'), (13, .slice a' n' c'), (8, .bool false), (11, .bool false), (10, .int .i64 n), (9, .slice a n c), (6, .int .i64 0), (0, .pointer (some ⟨gB, 0, none⟩)), (1, .slice a n c), (2, .slice a' n' c')] _
              refine cw_cond_t (fun _ => by kernel_rfl) ?_
              refine cw_seq ?_
              refine cw_region ?_
              refine rp 6 (.int .i64 80) ?_
              refine rw_nil ?_
              refine nw_then ?_
              refine cw_ret ?_
              refine nw_ret_then ?_
              refine nw_ret_then ?_
              refine nw_ret_then ?_
              exact nw_ret_body (.int .i64 80) (fun _ => by kernel_rfl) ⟨_, rfl, RAd.same (hBu.go hB2) (by unfold addE; rw [if_pos (by omega), if_pos (by omega)]; simp [hls]) (by decide) hB2⟩
            | true =>
              show CW _ _ _ _ _ _ _ [(34, .bool false), (33, .bool true), (32, .slice aq (2 * n) (2 * n)), (31, .slice ap np cp), (30, .pointer (some ⟨gB, 0, none⟩)), (29, .pointer (some ⟨gB, 0, none⟩)), (28, .pointer (some ⟨gB, 0, none⟩)), (27, .bool true), (26, .int .i64 ((m : Nat) : Int)), (25, .pointer (some ⟨gB, 2, none⟩)), (24, .pointer (some ⟨gB, 0, none⟩)), (23, .pointer (some ⟨gB, 0, none⟩)), (7, .slice aq (2 * n) (2 * n)), (22, .slice aq (2 * n) (2 * n)), (21, .slice a n c), (12, .bool false), (20, .bool false), (19, .bool false), (18, .int .i64 n'), (17, .slice a' n' c'), (16, .bool false), (15, .bool false), (14, .int .i64 n'), (13, .slice a' n' c'), (8, .bool false), (11, .bool false), (10, .int .i64 n), (9, .slice a n c), (6, .int .i64 0), (0, .pointer (some ⟨gB, 0, none⟩)), (1, .slice a n c), (2, .slice a' n' c')] _
              refine cw_cond_f (fun _ => by kernel_rfl) ?_
              refine cw_skip ?_
              refine nw_then ?_
              rcases hC2.wv with ⟨_, _, hf⟩ | ⟨g, cap, rfl, hbg, hWy⟩
              · cases hf
              obtain ⟨x0, xs0, rfl⟩ : ∃ x0 xs0, rs = x0 :: xs0 := by cases rs with | nil => exact hWy.at'.elim | cons x0 xs0 => exact ⟨x0, xs0, rfl⟩
              obtain ⟨nW, hnW⟩ : ∃ q, (x0 :: xs0).length = q := ⟨_, rfl⟩
              have hV := Bl.refl u2
              have hsmm := hC2.sm
              obtain ⟨cm, hcm⟩ : ∃ q, Ni.com (Ni.nib k0) (Ni.nib k) = q := ⟨_, rfl⟩
              have hcml := Ni.com_le (Ni.nib k0) (Ni.nib k)
              rw [hcm] at hcml
              have hdw := hBd.dw
              have hnbp := hBd.nb
              have hgne : gB ≠ g := kf_of hC2.kg
              skip
              refine cw_draw (fun u => ∃ y, Rw gB u #[.slice ap np cp, y, .int .i64 ((m : Nat) : Int)] 41) (by kernel_rfl) (⟨_, hC2.row.go (Below.refl _ _).drew⟩) ?_
              replace hV := hV.drew
              refine dt 0 35 (.pointer (some ⟨gB, 0, none⟩)) (fun v hv _ => by kernel_rfl) ⟨_, hC2.row.go hV⟩ ?_
              refine dt 1 36 (.pointer (some ⟨gB, 0, none⟩)) (fun v hv _ => by kernel_rfl) ⟨_, hC2.row.go hV⟩ ?_
              refine dt 2 37 (.pointer (some ⟨gB, 0, none⟩)) (fun v hv => (fun _ => by kernel_rfl)) ⟨_, hC2.row.go hV⟩ ?_
              refine dt 3 38 (.pointer (some ⟨gB, 1, none⟩)) (fun v hv _ => by kernel_rfl) ⟨_, hC2.row.go hV⟩ ?_
              refine dt 5 40 (.pointer (some ⟨gB, 0, none⟩)) (fun v hv _ => by kernel_rfl) ⟨_, hC2.row.go hV⟩ ?_
              refine dt 6 41 (.pointer (some ⟨gB, 0, none⟩)) (fun v hv => (fun _ => by kernel_rfl)) ⟨_, hC2.row.go hV⟩ ?_
              refine dt 7 42 (.pointer (some ⟨gB, 0, none⟩)) (fun v hv _ => by kernel_rfl) ⟨_, hC2.row.go hV⟩ ?_
              refine dt 8 43 (.slice ap np cp) (fun v hv _ => ol_cell 29 _ ⟨gB, 0, none⟩ _ _ rfl (by kernel_rfl) (by obtain ⟨y, hy⟩ := hv; rw [cell_of_row _ _ _ _ _ _ hy]; rfl) Try.underlying29 rfl) ⟨_, hC2.row.go hV⟩ ?_
              refine dt 9 44 (.pointer (some ⟨gB, 0, none⟩)) (fun v hv _ => by kernel_rfl) ⟨_, hC2.row.go hV⟩ ?_
              refine dt 10 45 (.pointer (some ⟨gB, 0, none⟩)) (fun v hv => (fun _ => by kernel_rfl)) ⟨_, hC2.row.go hV⟩ ?_
              refine dt 11 46 (.pointer (some ⟨gB, 0, none⟩)) (fun v hv _ => by kernel_rfl) ⟨_, hC2.row.go hV⟩ ?_
              refine dt 12 47 (.slice ap np cp) (fun v hv _ => ol_cell 29 _ ⟨gB, 0, none⟩ _ _ rfl (by kernel_rfl) (by obtain ⟨y, hy⟩ := hv; rw [cell_of_row _ _ _ _ _ _ hy]; rfl) Try.underlying29 rfl) ⟨_, hC2.row.go hV⟩ ?_
              refine dt 13 48 (.slice aq (2 * n) (2 * n)) (fun v hv _ => by kernel_rfl) ⟨_, hC2.row.go hV⟩ ?_
              refine dw_ready [4, 14] (by kernel_rfl) (by simp) ?_
              refine ar_v 4 39 (.slice (some ⟨g, 0, none⟩) (x0 :: xs0).length cap) rfl (fun _ => by kernel_rfl) (fun _ => ol_cell 39 _ ⟨gB, 1, none⟩ _ _ rfl (by kernel_rfl) (by rw [cell_of_row _ _ _ _ _ _ ((hC2.row.go hV))]; rfl) Try.underlying39 rfl) (⟨_, (hC2.row.go hV)⟩) ?_ ?_
              · skip
                refine dw_ready [14] (by kernel_rfl) (by simp) ?_
                refine ar_call 14 49 14 #[.slice ap np cp, .slice aq (2 * n) (2 * n)] rfl (fun _ => by kernel_rfl) (fun _ => by kernel_rfl) (R := fun u w' => u = .int .i64 ((cm : Nat) : Int) ∧ Bl u2.drew w') ((Ni.common_any ap aq np cp (2 * n) (2 * n) (Ni.nib k0) (Ni.nib k) u2.drew ((hsp1.go hb2).go hV).ag ((hQ.go hb2).go hV).ag (by omega) (by omega)).mono (fun e w' h => ⟨_, by rw [h.1, hcm], rfl, h.2⟩)) (fun u w' h => ⟨_, hC2.row.go (hV.go h.2)⟩) ?_ ar_nil
                rintro _ u3 ⟨rfl, hb3⟩
                replace hV := hV.go hb3
                refine dw_ready [15] (by kernel_rfl) (by simp) ?_
                have hz3 := hV.size
                have hlw := hWy.lt
                have hV0 := hV
                have hCg : Cg (fun b => b ≠ gB ∧ Y b) u3 base (.slice (some ⟨g, 0, none⟩) (x0 :: xs0).length cap) (Ni.nib k0) cm (clo (Ni.nib k0) cm ⟨(Ni.nib k0).length, nk, v0⟩ r) ap np cp g cap (x0 :: xs0).length x0 xs0 ⟨(Ni.nib k0).length, nk, v0⟩ r u3 := ⟨hWy.go hV, rfl, by omega, hbg, by omega, Fg.of_below (Bl.refl _), ((hsp1.go hb2).go hV).mono (fun b hb => hb.1), hdw, hcml.1, Nat.le_refl _, rfl⟩
                refine ar_call 15 50 13 #[.slice (some ⟨g, 0, none⟩) (x0 :: xs0).length cap, .slice ap np cp, .int .i64 ((cm : Nat) : Int)] rfl (fun _ => by kernel_rfl) (fun _ => by kernel_rfl) (R := RCl (fun b => b ≠ gB ∧ Y b) u3 base (.slice (some ⟨g, 0, none⟩) (x0 :: xs0).length cap) (clo (Ni.nib k0) cm ⟨(Ni.nib k0).length, nk, v0⟩ r)) (closed_any (X := fun b => b ≠ gB ∧ Y b) (fun b hb => ⟨by have := lt_of_get hC2.row; omega, hY b (by omega)⟩) hnbp hBd.len hCg) (fun u w' ⟨_, _, _, _, _, _, _, hG⟩ => ⟨_, ((hC2.row.go hV).fg hG (of_kf hgne)).1⟩) ?_ ar_nil
                rintro _ u4 ⟨g4, cap4, rs4, rfl, hW4, hbg4, hl4, hG4⟩
                have hR4 := (hC2.row.go hV).fg hG4 (of_kf hgne)
                refine dt 16 51 (.pointer (some ⟨gB, 0, none⟩)) (fun v hv => (fun _ => by kernel_rfl)) ⟨_, hR4.1⟩ ?_
                refine dt 17 52 (.pointer (some ⟨gB, 1, none⟩)) (fun v hv _ => by kernel_rfl) ⟨_, hR4.1⟩ ?_
                refine dw_ready [18] (by kernel_rfl) (by simp) ?_
                refine ar_set1 18 gB 1 (.slice (some ⟨g4, 0, none⟩) rs4.length cap4) rfl (fun _ => by kernel_rfl) (fun _ => ol_setC 39 _ _ gB 1 _ 41 _ hR4.1 rfl (by kernel_rfl) (by kernel_rfl) (by show 1 < 3; omega) rfl rfl (by kernel_rfl)) (fun w' h => ⟨_, hR4.1.set h rfl⟩) ?_ ar_nil
                intro w5 hs5
                have hR5 : Rw gB w5 #[.slice ap np cp, .slice (some ⟨g4, 0, none⟩) rs4.length cap4, .int .i64 ((m : Nat) : Int)] 41 := hR4.1.set hs5 rfl
                have hA5 : Af gB w w5 (.slice (some ⟨g, 0, none⟩) (x0 :: xs0).length cap) (.slice (some ⟨g4, 0, none⟩) rs4.length cap4) := ((Af.of_bl (hB2.go hV)).trans (Af.of_fg hG4)).trans (Af.of_set hs5)
                refine dw_done (by kernel_rfl) ?_
                have hW5 := hW4.setB hs5 (kf_of hR4.2)
                have hBd2 := hBd.add hnb (by omega) (hxne hx0) (by rw [Ni.less_nib]; exact hls)
                rw [hcm] at hBd2
                have hf5 := hBd2.dw
                have hlen5 := dw_len _ _ hf5
                have hll := hW5.at'.len
                have hQ5 := (((hQ.go hb2).go hV0).mono (K' := fun b => KF (.slice (some ⟨g, 0, none⟩) (x0 :: xs0).length cap) b ∧ b ≠ gB ∧ Y b) (fun b hb => ⟨fun e => by have := (hlo b e).2; omega, by have := lt_of_get hC.row; omega, hY b hb⟩)).keep (Af.keep ((Af.of_fg (gB := gB) hG4).trans (Af.of_set hs5)))
                exact nw_cut [(0, .pointer (some ⟨gB, 0, none⟩)), (2, .slice a' n' c'), (7, .slice aq (2 * n) (2 * n))] (by exact ⟨fun _ => by kernel_rfl, ⟨fun _ => by kernel_rfl, ⟨fun _ => by kernel_rfl, trivial⟩⟩⟩) ⟨_, _, rs4, _, rfl, ⟨hR5, .inr ⟨g4, cap4, rfl, hbg4, hW5⟩, hR4.2, by rw [hll]; omega⟩, hQ5, hA5, hBd2, by unfold addE; rw [if_pos (by omega), if_pos (by omega)]; simp only [hls, if_true]⟩
              refine ar_call 14 49 14 #[.slice ap np cp, .slice aq (2 * n) (2 * n)] rfl (fun _ => by kernel_rfl) (fun _ => by kernel_rfl) (R := fun u w' => u = .int .i64 ((cm : Nat) : Int) ∧ Bl u2.drew w') ((Ni.common_any ap aq np cp (2 * n) (2 * n) (Ni.nib k0) (Ni.nib k) u2.drew ((hsp1.go hb2).go hV).ag ((hQ.go hb2).go hV).ag (by omega) (by omega)).mono (fun e w' h => ⟨_, by rw [h.1, hcm], rfl, h.2⟩)) (fun u w' h => ⟨_, hC2.row.go (hV.go h.2)⟩) ?_ ar_nil
              rintro _ u3 ⟨rfl, hb3⟩
              replace hV := hV.go hb3
              refine dw_ready [4] (by kernel_rfl) (by simp) ?_
              refine ar_v 4 39 (.slice (some ⟨g, 0, none⟩) (x0 :: xs0).length cap) rfl (fun _ => by kernel_rfl) (fun _ => ol_cell 39 _ ⟨gB, 1, none⟩ _ _ rfl (by kernel_rfl) (by rw [cell_of_row _ _ _ _ _ _ ((hC2.row.go hV))]; rfl) Try.underlying39 rfl) (⟨_, (hC2.row.go hV)⟩) ?_ ar_nil
              refine dw_ready [15] (by kernel_rfl) (by simp) ?_
              have hz3 := hV.size
              have hlw := hWy.lt
              have hV0 := hV
              have hCg : Cg (fun b => b ≠ gB ∧ Y b) u3 base (.slice (some ⟨g, 0, none⟩) (x0 :: xs0).length cap) (Ni.nib k0) cm (clo (Ni.nib k0) cm ⟨(Ni.nib k0).length, nk, v0⟩ r) ap np cp g cap (x0 :: xs0).length x0 xs0 ⟨(Ni.nib k0).length, nk, v0⟩ r u3 := ⟨hWy.go hV, rfl, by omega, hbg, by omega, Fg.of_below (Bl.refl _), ((hsp1.go hb2).go hV).mono (fun b hb => hb.1), hdw, hcml.1, Nat.le_refl _, rfl⟩
              refine ar_call 15 50 13 #[.slice (some ⟨g, 0, none⟩) (x0 :: xs0).length cap, .slice ap np cp, .int .i64 ((cm : Nat) : Int)] rfl (fun _ => by kernel_rfl) (fun _ => by kernel_rfl) (R := RCl (fun b => b ≠ gB ∧ Y b) u3 base (.slice (some ⟨g, 0, none⟩) (x0 :: xs0).length cap) (clo (Ni.nib k0) cm ⟨(Ni.nib k0).length, nk, v0⟩ r)) (closed_any (X := fun b => b ≠ gB ∧ Y b) (fun b hb => ⟨by have := lt_of_get hC2.row; omega, hY b (by omega)⟩) hnbp hBd.len hCg) (fun u w' ⟨_, _, _, _, _, _, _, hG⟩ => ⟨_, ((hC2.row.go hV).fg hG (of_kf hgne)).1⟩) ?_ ar_nil
              rintro _ u4 ⟨g4, cap4, rs4, rfl, hW4, hbg4, hl4, hG4⟩
              have hR4 := (hC2.row.go hV).fg hG4 (of_kf hgne)
              refine dt 16 51 (.pointer (some ⟨gB, 0, none⟩)) (fun v hv => (fun _ => by kernel_rfl)) ⟨_, hR4.1⟩ ?_
              refine dt 17 52 (.pointer (some ⟨gB, 1, none⟩)) (fun v hv _ => by kernel_rfl) ⟨_, hR4.1⟩ ?_
              refine dw_ready [18] (by kernel_rfl) (by simp) ?_
              refine ar_set1 18 gB 1 (.slice (some ⟨g4, 0, none⟩) rs4.length cap4) rfl (fun _ => by kernel_rfl) (fun _ => ol_setC 39 _ _ gB 1 _ 41 _ hR4.1 rfl (by kernel_rfl) (by kernel_rfl) (by show 1 < 3; omega) rfl rfl (by kernel_rfl)) (fun w' h => ⟨_, hR4.1.set h rfl⟩) ?_ ar_nil
              intro w5 hs5
              have hR5 : Rw gB w5 #[.slice ap np cp, .slice (some ⟨g4, 0, none⟩) rs4.length cap4, .int .i64 ((m : Nat) : Int)] 41 := hR4.1.set hs5 rfl
              have hA5 : Af gB w w5 (.slice (some ⟨g, 0, none⟩) (x0 :: xs0).length cap) (.slice (some ⟨g4, 0, none⟩) rs4.length cap4) := ((Af.of_bl (hB2.go hV)).trans (Af.of_fg hG4)).trans (Af.of_set hs5)
              refine dw_done (by kernel_rfl) ?_
              have hW5 := hW4.setB hs5 (kf_of hR4.2)
              have hBd2 := hBd.add hnb (by omega) (hxne hx0) (by rw [Ni.less_nib]; exact hls)
              rw [hcm] at hBd2
              have hf5 := hBd2.dw
              have hlen5 := dw_len _ _ hf5
              have hll := hW5.at'.len
              have hQ5 := (((hQ.go hb2).go hV0).mono (K' := fun b => KF (.slice (some ⟨g, 0, none⟩) (x0 :: xs0).length cap) b ∧ b ≠ gB ∧ Y b) (fun b hb => ⟨fun e => by have := (hlo b e).2; omega, by have := lt_of_get hC.row; omega, hY b hb⟩)).keep (Af.keep ((Af.of_fg (gB := gB) hG4).trans (Af.of_set hs5)))
              exact nw_cut [(0, .pointer (some ⟨gB, 0, none⟩)), (2, .slice a' n' c'), (7, .slice aq (2 * n) (2 * n))] (by exact ⟨fun _ => by kernel_rfl, ⟨fun _ => by kernel_rfl, ⟨fun _ => by kernel_rfl, trivial⟩⟩⟩) ⟨_, _, rs4, _, rfl, ⟨hR5, .inr ⟨g4, cap4, rfl, hbg4, hW5⟩, hR4.2, by rw [hll]; omega⟩, hQ5, hA5, hBd2, by unfold addE; rw [if_pos (by omega), if_pos (by omega)]; simp only [hls, if_true]⟩
        rintro _ v3 ⟨pV2, vW2, rs2, fs2, rfl, hC3, hQ3, hA3, hBd3, hadd⟩
        refine nw_then ?_
        refine cw_seq ?_
        refine cw_region ?_
        refine rp 53 (.pointer (some ⟨gB, 0, none⟩)) ?_
        refine rp 54 (.slice aq (2 * n) (2 * n)) ?_
        refine rp 55 (.pointer (some ⟨gB, 0, none⟩)) ?_
        refine rp 56 (.pointer (some ⟨gB, 0, none⟩)) ?_
        refine rw_set1 gB 0 (.slice aq (2 * n) (2 * n)) (fun _ => by kernel_rfl) (fun _ => ol_setC 29 _ _ gB 0 _ 41 _ hC3.row rfl (by kernel_rfl) (by kernel_rfl) (by show 0 < 3; omega) rfl rfl (by kernel_rfl)) ?_
        intro w6 hs6
        have hC6 := hC3.setP hs6
        have hA6 := hA3.trans (Af.of_set (v := vW2) hs6)
        have hQ6 := hQ3.keep (Af.keep (Af.of_set (v := vW2) hs6))
        have hz6 := hA6.size
        refine rw_nil ?_
        refine nw_then ?_
        refine cw_seq ?_
        have hV := Bl.refl w6
        refine cw_cut (fun E wB => E = [(0, .pointer (some ⟨gB, 0, none⟩))] ∧ ∃ g9 cap9 av, Af gB w wB vW (.slice (some ⟨g9, 0, none⟩) (rs2.length + 1) cap9) ∧ Sk (fun b => KF (.slice (some ⟨g9, 0, none⟩) (rs2.length + 1) cap9) b ∧ b ≠ gB ∧ Y b) wB aq (2 * n) (2 * n) (Ni.nib k) ∧ BuC Y wB base gB m (.slice aq (2 * n) (2 * n)) (.slice (some ⟨g9, 0, none⟩) (rs2.length + 1) cap9) ((fkv (2 * n) av n' n') :: rs2) (⟨2 * n, nk, x⟩ :: fs2)) ?_ ?_
        · skip
          refine cw_draw (fun u => ∃ y, Rw gB u #[.slice aq (2 * n) (2 * n), y, .int .i64 ((m : Nat) : Int)] 41) (by kernel_rfl) (⟨_, hC6.row.go (Below.refl _ _).drew⟩) ?_
          replace hV := hV.drew
          refine dt 0 57 (.pointer (some ⟨gB, 0, none⟩)) (fun v hv _ => by kernel_rfl) ⟨_, hC6.row.go hV⟩ ?_
          refine dt 1 58 (.pointer (some ⟨gB, 0, none⟩)) (fun v hv _ => by kernel_rfl) ⟨_, hC6.row.go hV⟩ ?_
          refine dt 2 59 (.pointer (some ⟨gB, 0, none⟩)) (fun v hv => (fun _ => by kernel_rfl)) ⟨_, hC6.row.go hV⟩ ?_
          refine dt 3 60 (.pointer (some ⟨gB, 1, none⟩)) (fun v hv _ => by kernel_rfl) ⟨_, hC6.row.go hV⟩ ?_
          refine dt 5 62 (.slice aq (2 * n) (2 * n)) (fun v hv _ => by kernel_rfl) ⟨_, hC6.row.go hV⟩ ?_
          refine dt 6 63 (.int .i64 ((2 * n : Nat) : Int)) (fun v hv _ => by kernel_rfl) ⟨_, hC6.row.go hV⟩ ?_
          refine dt 7 64 (.slice a' n' c') (fun v hv _ => by kernel_rfl) ⟨_, hC6.row.go hV⟩ ?_
          refine dw_ready [4, 8] (by kernel_rfl) (by simp) ?_
          refine ar_v 4 61 (vW2) rfl (fun _ => by kernel_rfl) (fun _ => ol_cell 39 _ ⟨gB, 1, none⟩ _ _ rfl (by kernel_rfl) (by rw [cell_of_row _ _ _ _ _ _ ((hC6.row.go hV))]; rfl) Try.underlying39 rfl) (⟨_, (hC6.row.go hV)⟩) ?_ ?_
          · skip
            refine dw_ready [8] (by kernel_rfl) (by simp) ?_
            refine ar_call 8 65 15 #[.slice a' n' c'] rfl (fun _ => by kernel_rfl) (fun _ => by kernel_rfl) (R := fun u w' => (∃ a1, u = .slice a1 n' n' ∧ Sk (fun b => (w6.drew).heap.size ≤ b) w' a1 n' n' x) ∧ Bl w6.drew w') (copied_any ((hx.af hA6 (fun k hk => (hlo k hk).1)).go hV) (by omega)) (fun u w' h => ⟨_, hC6.row.go (hV.go h.2)⟩) ?_ ar_nil
            rintro _ u7 ⟨⟨av, rfl, hsv⟩, hb7⟩
            have hz7 := hV.size
            replace hV := hV.go hb7
            refine dt 9 66 (.agg (fkv (2 * n) av n' n').cells.toArray) (fun v hv _ => ol_build 50 _ [(0, .int .i64 ((2 * n : Nat) : Int)), (2, .slice av n' n')] _ rfl (by kernel_rfl) (built_F2 _ _ _ _)) ⟨_, hC6.row.go hV⟩ ?_
            refine dw_ready [10] (by kernel_rfl) (by simp) ?_
            refine ar_newS 10 67 (fkv (2 * n) av n' n').cells.toArray 50 1 rfl (fun _ => by kernel_rfl) (fun _ => ol_bsF (fun _ => rfl) rfl (by kernel_rfl)) (fun w' g h => ⟨_, hC6.row.go (hV.go h.below)⟩) ?_ ar_nil
            intro w8 gP hnP
            have hsv8 := hsv.go hnP.below
            replace hV := hV.go hnP.below
            refine dw_ready [11] (by kernel_rfl) (by simp) ?_
            have hC8 := hC6.go hV
            have hz8 := hV.size
            have hlen2 : rs2.length ≤ 64 := by rw [hC3.wv.len]; have := dw_len _ _ hBd3.dw; omega
            have hlo8 := hC8.wv.lo
            have hsm8 := hC8.sm
            obtain ⟨g9, cap9, w9, hr9, hW9, hbg9, hG9⟩ := appW hC8.wv (rng_row hnP.row) (fkv_at (K := fun b => KF vW2 b ∧ b ≠ gB ∧ Y b) (d := 2 * n) (hsv8.mono (fun b hb => ⟨fun e => by have := (hC6.wv.lo b e).2; omega, by have := lt_of_get hC6.row; omega, hY b (by omega)⟩)) (by omega)) (by omega) (by omega)
            refine ar_v 11 68 (.slice (some ⟨g9, 0, none⟩) (rs2.length + 1) cap9) rfl (fun _ => by kernel_rfl) (fun _ => ol_app2 hr9 _ _ rfl (by kernel_rfl) (by kernel_rfl)) (⟨_, (hC8.row.fg hG9 hC8.kg).1⟩) ?_ ar_nil
            have hR9 := hC8.row.fg hG9 hC8.kg
            refine dt 12 69 (.pointer (some ⟨gB, 0, none⟩)) (fun v hv => (fun _ => by kernel_rfl)) ⟨_, hR9.1⟩ ?_
            refine dt 13 70 (.pointer (some ⟨gB, 1, none⟩)) (fun v hv _ => by kernel_rfl) ⟨_, hR9.1⟩ ?_
            refine dw_ready [14] (by kernel_rfl) (by simp) ?_
            refine ar_set1 14 gB 1 (.slice (some ⟨g9, 0, none⟩) (rs2.length + 1) cap9) rfl (fun _ => by kernel_rfl) (fun _ => ol_setC 39 _ _ gB 1 _ 41 _ hR9.1 rfl (by kernel_rfl) (by kernel_rfl) (by show 1 < 3; omega) rfl rfl (by kernel_rfl)) (fun w' h => ⟨_, hR9.1.set h rfl⟩) ?_ ar_nil
            intro wB hsB
            have hA9 : Af gB w wB vW (.slice (some ⟨g9, 0, none⟩) (rs2.length + 1) cap9) := ((hA6.trans (Af.of_bl hV)).trans (Af.of_fg hG9)).trans (Af.of_set hsB)
            have hA69 : Af gB w6 wB vW2 (.slice (some ⟨g9, 0, none⟩) (rs2.length + 1) cap9) := ((Af.of_bl hV).trans (Af.of_fg hG9)).trans (Af.of_set hsB)
            have hQ9 := hQ6.keep hA69.keep
            have hC9 : BuC Y wB base gB m (.slice aq (2 * n) (2 * n)) (.slice (some ⟨g9, 0, none⟩) (rs2.length + 1) cap9) ((fkv (2 * n) av n' n') :: rs2) (⟨2 * n, nk, x⟩ :: fs2) := ⟨hR9.1.set hsB rfl, .inr ⟨g9, cap9, rfl, hbg9, hW9.setB hsB (kf_of hR9.2)⟩, hR9.2, by rw [List.length_cons]; omega⟩
            refine dw_done (by kernel_rfl) ?_
            exact nw_cut [(0, .pointer (some ⟨gB, 0, none⟩))] (by exact ⟨fun _ => by kernel_rfl, trivial⟩) ⟨rfl, g9, cap9, av, hA9, hQ9, hC9⟩
          refine ar_call 8 65 15 #[.slice a' n' c'] rfl (fun _ => by kernel_rfl) (fun _ => by kernel_rfl) (R := fun u w' => (∃ a1, u = .slice a1 n' n' ∧ Sk (fun b => (w6.drew).heap.size ≤ b) w' a1 n' n' x) ∧ Bl w6.drew w') (copied_any ((hx.af hA6 (fun k hk => (hlo k hk).1)).go hV) (by omega)) (fun u w' h => ⟨_, hC6.row.go (hV.go h.2)⟩) ?_ ar_nil
          rintro _ u7 ⟨⟨av, rfl, hsv⟩, hb7⟩
          have hz7 := hV.size
          replace hV := hV.go hb7
          refine dt 9 66 (.agg (fkv (2 * n) av n' n').cells.toArray) (fun v hv _ => ol_build 50 _ [(0, .int .i64 ((2 * n : Nat) : Int)), (2, .slice av n' n')] _ rfl (by kernel_rfl) (built_F2 _ _ _ _)) ⟨_, hC6.row.go hV⟩ ?_
          refine dw_ready [4, 10] (by kernel_rfl) (by simp) ?_
          refine ar_v 4 61 (vW2) rfl (fun _ => by kernel_rfl) (fun _ => ol_cell 39 _ ⟨gB, 1, none⟩ _ _ rfl (by kernel_rfl) (by rw [cell_of_row _ _ _ _ _ _ ((hC6.row.go hV))]; rfl) Try.underlying39 rfl) (⟨_, (hC6.row.go hV)⟩) ?_ ?_
          · skip
            refine dw_ready [10] (by kernel_rfl) (by simp) ?_
            refine ar_newS 10 67 (fkv (2 * n) av n' n').cells.toArray 50 1 rfl (fun _ => by kernel_rfl) (fun _ => ol_bsF (fun _ => rfl) rfl (by kernel_rfl)) (fun w' g h => ⟨_, hC6.row.go (hV.go h.below)⟩) ?_ ar_nil
            intro w8 gP hnP
            have hsv8 := hsv.go hnP.below
            replace hV := hV.go hnP.below
            refine dw_ready [11] (by kernel_rfl) (by simp) ?_
            have hC8 := hC6.go hV
            have hz8 := hV.size
            have hlen2 : rs2.length ≤ 64 := by rw [hC3.wv.len]; have := dw_len _ _ hBd3.dw; omega
            have hlo8 := hC8.wv.lo
            have hsm8 := hC8.sm
            obtain ⟨g9, cap9, w9, hr9, hW9, hbg9, hG9⟩ := appW hC8.wv (rng_row hnP.row) (fkv_at (K := fun b => KF vW2 b ∧ b ≠ gB ∧ Y b) (d := 2 * n) (hsv8.mono (fun b hb => ⟨fun e => by have := (hC6.wv.lo b e).2; omega, by have := lt_of_get hC6.row; omega, hY b (by omega)⟩)) (by omega)) (by omega) (by omega)
            refine ar_v 11 68 (.slice (some ⟨g9, 0, none⟩) (rs2.length + 1) cap9) rfl (fun _ => by kernel_rfl) (fun _ => ol_app2 hr9 _ _ rfl (by kernel_rfl) (by kernel_rfl)) (⟨_, (hC8.row.fg hG9 hC8.kg).1⟩) ?_ ar_nil
            have hR9 := hC8.row.fg hG9 hC8.kg
            refine dt 12 69 (.pointer (some ⟨gB, 0, none⟩)) (fun v hv => (fun _ => by kernel_rfl)) ⟨_, hR9.1⟩ ?_
            refine dt 13 70 (.pointer (some ⟨gB, 1, none⟩)) (fun v hv _ => by kernel_rfl) ⟨_, hR9.1⟩ ?_
            refine dw_ready [14] (by kernel_rfl) (by simp) ?_
            refine ar_set1 14 gB 1 (.slice (some ⟨g9, 0, none⟩) (rs2.length + 1) cap9) rfl (fun _ => by kernel_rfl) (fun _ => ol_setC 39 _ _ gB 1 _ 41 _ hR9.1 rfl (by kernel_rfl) (by kernel_rfl) (by show 1 < 3; omega) rfl rfl (by kernel_rfl)) (fun w' h => ⟨_, hR9.1.set h rfl⟩) ?_ ar_nil
            intro wB hsB
            have hA9 : Af gB w wB vW (.slice (some ⟨g9, 0, none⟩) (rs2.length + 1) cap9) := ((hA6.trans (Af.of_bl hV)).trans (Af.of_fg hG9)).trans (Af.of_set hsB)
            have hA69 : Af gB w6 wB vW2 (.slice (some ⟨g9, 0, none⟩) (rs2.length + 1) cap9) := ((Af.of_bl hV).trans (Af.of_fg hG9)).trans (Af.of_set hsB)
            have hQ9 := hQ6.keep hA69.keep
            have hC9 : BuC Y wB base gB m (.slice aq (2 * n) (2 * n)) (.slice (some ⟨g9, 0, none⟩) (rs2.length + 1) cap9) ((fkv (2 * n) av n' n') :: rs2) (⟨2 * n, nk, x⟩ :: fs2) := ⟨hR9.1.set hsB rfl, .inr ⟨g9, cap9, rfl, hbg9, hW9.setB hsB (kf_of hR9.2)⟩, hR9.2, by rw [List.length_cons]; omega⟩
            refine dw_done (by kernel_rfl) ?_
            exact nw_cut [(0, .pointer (some ⟨gB, 0, none⟩))] (by exact ⟨fun _ => by kernel_rfl, trivial⟩) ⟨rfl, g9, cap9, av, hA9, hQ9, hC9⟩
          refine ar_newS 10 67 (fkv (2 * n) av n' n').cells.toArray 50 1 rfl (fun _ => by kernel_rfl) (fun _ => ol_bsF (fun _ => rfl) rfl (by kernel_rfl)) (fun w' g h => ⟨_, hC6.row.go (hV.go h.below)⟩) ?_ ar_nil
          intro w8 gP hnP
          have hsv8 := hsv.go hnP.below
          replace hV := hV.go hnP.below
          refine dw_ready [4] (by kernel_rfl) (by simp) ?_
          refine ar_v 4 61 (vW2) rfl (fun _ => by kernel_rfl) (fun _ => ol_cell 39 _ ⟨gB, 1, none⟩ _ _ rfl (by kernel_rfl) (by rw [cell_of_row _ _ _ _ _ _ ((hC6.row.go hV))]; rfl) Try.underlying39 rfl) (⟨_, (hC6.row.go hV)⟩) ?_ ar_nil
          refine dw_ready [11] (by kernel_rfl) (by simp) ?_
          have hC8 := hC6.go hV
          have hz8 := hV.size
          have hlen2 : rs2.length ≤ 64 := by rw [hC3.wv.len]; have := dw_len _ _ hBd3.dw; omega
          have hlo8 := hC8.wv.lo
          have hsm8 := hC8.sm
          obtain ⟨g9, cap9, w9, hr9, hW9, hbg9, hG9⟩ := appW hC8.wv (rng_row hnP.row) (fkv_at (K := fun b => KF vW2 b ∧ b ≠ gB ∧ Y b) (d := 2 * n) (hsv8.mono (fun b hb => ⟨fun e => by have := (hC6.wv.lo b e).2; omega, by have := lt_of_get hC6.row; omega, hY b (by omega)⟩)) (by omega)) (by omega) (by omega)
          refine ar_v 11 68 (.slice (some ⟨g9, 0, none⟩) (rs2.length + 1) cap9) rfl (fun _ => by kernel_rfl) (fun _ => ol_app2 hr9 _ _ rfl (by kernel_rfl) (by kernel_rfl)) (⟨_, (hC8.row.fg hG9 hC8.kg).1⟩) ?_ ar_nil
          have hR9 := hC8.row.fg hG9 hC8.kg
          refine dt 12 69 (.pointer (some ⟨gB, 0, none⟩)) (fun v hv => (fun _ => by kernel_rfl)) ⟨_, hR9.1⟩ ?_
          refine dt 13 70 (.pointer (some ⟨gB, 1, none⟩)) (fun v hv _ => by kernel_rfl) ⟨_, hR9.1⟩ ?_
          refine dw_ready [14] (by kernel_rfl) (by simp) ?_
          refine ar_set1 14 gB 1 (.slice (some ⟨g9, 0, none⟩) (rs2.length + 1) cap9) rfl (fun _ => by kernel_rfl) (fun _ => ol_setC 39 _ _ gB 1 _ 41 _ hR9.1 rfl (by kernel_rfl) (by kernel_rfl) (by show 1 < 3; omega) rfl rfl (by kernel_rfl)) (fun w' h => ⟨_, hR9.1.set h rfl⟩) ?_ ar_nil
          intro wB hsB
          have hA9 : Af gB w wB vW (.slice (some ⟨g9, 0, none⟩) (rs2.length + 1) cap9) := ((hA6.trans (Af.of_bl hV)).trans (Af.of_fg hG9)).trans (Af.of_set hsB)
          have hA69 : Af gB w6 wB vW2 (.slice (some ⟨g9, 0, none⟩) (rs2.length + 1) cap9) := ((Af.of_bl hV).trans (Af.of_fg hG9)).trans (Af.of_set hsB)
          have hQ9 := hQ6.keep hA69.keep
          have hC9 : BuC Y wB base gB m (.slice aq (2 * n) (2 * n)) (.slice (some ⟨g9, 0, none⟩) (rs2.length + 1) cap9) ((fkv (2 * n) av n' n') :: rs2) (⟨2 * n, nk, x⟩ :: fs2) := ⟨hR9.1.set hsB rfl, .inr ⟨g9, cap9, rfl, hbg9, hW9.setB hsB (kf_of hR9.2)⟩, hR9.2, by rw [List.length_cons]; omega⟩
          refine dw_done (by kernel_rfl) ?_
          exact nw_cut [(0, .pointer (some ⟨gB, 0, none⟩))] (by exact ⟨fun _ => by kernel_rfl, trivial⟩) ⟨rfl, g9, cap9, av, hA9, hQ9, hC9⟩
        rintro _ wB ⟨rfl, g9, cap9, av, hA9, hQ9, hC9⟩
        refine nw_then ?_
        refine cw_seq ?_
        refine cw_region ?_
        refine rp 71 (.pointer (some ⟨gB, 0, none⟩)) ?_
        refine rp 72 (.pointer (some ⟨gB, 0, none⟩)) ?_
        refine rp 73 (.pointer (some ⟨gB, 2, none⟩)) ?_
        refine rv 74 (.int .i64 ((m : Nat) : Int)) (fun _ => ol_cell 3 _ ⟨gB, 2, none⟩ _ _ rfl (by kernel_rfl) (by rw [cell_of_row _ _ _ _ _ _ (hC9.row)]; rfl) Try.underlying3 rfl) ?_
        refine rv 75 (.int .i64 ((m + 1 : Nat) : Int)) (fun _ => ol_conv (v := .int .i64 (IntKind.i64.wrap (((m : Nat) : Int) + 1))) (by kernel_rfl) (congrArg (Value.int .i64) (by rw [wrap64 (by omega) (by omega)]; omega))) ?_
        refine rp 76 (.pointer (some ⟨gB, 0, none⟩)) ?_
        refine rp 77 (.pointer (some ⟨gB, 2, none⟩)) ?_
        refine rw_set1 gB 2 (.int .i64 ((m + 1 : Nat) : Int)) (fun _ => by kernel_rfl) (fun _ => ol_setC 3 _ _ gB 2 _ 41 _ hC9.row rfl (by kernel_rfl) (by kernel_rfl) (by show 2 < 3; omega) rfl rfl (by kernel_rfl)) ?_
        intro wA hsA
        have hCA := hC9.setM hsA
        have hAN := hA9.trans (Af.of_set (v := .slice (some ⟨g9, 0, none⟩) (rs2.length + 1) cap9) hsA)
        have hBuN : Bu Y wA base gB (m + 1) (putT t k x) (some k) (.slice (some ⟨g9, 0, none⟩) (rs2.length + 1) cap9) := ⟨_, _, _, hCA, .inr ⟨aq, 2 * n, 2 * n, k, x, fs2, rfl, hQ9.keep (Af.keep (Af.of_set (v := .slice (some ⟨g9, 0, none⟩) (rs2.length + 1) cap9) hsA)), by rw [hql], by unfold putT; rw [if_pos (by omega)]; exact hBd3, hk.ag.b, by omega, rfl, by omega⟩⟩
        refine rw_nil ?_
        refine nw_then ?_
        refine cw_seq ?_
        refine cw_region ?_
        refine rp 6 (.int .i64 0) ?_
        refine rw_nil ?_
        refine nw_then ?_
        refine cw_ret ?_
        exact nw_ret_body (.int .i64 0) (fun _ => by kernel_rfl) ⟨_, rfl, by rw [hadd], _, by rw [hadd, if_pos rfl, if_pos rfl, if_pos rfl]; exact hBuN, hAN⟩
      · skip
        refine cw_region ?_
        refine rp 9 (.slice a n c) ?_
        refine rp 10 (.int .i64 n) ?_
        refine rv 11 (.bool false) (fun _ => ol_conv (v := .bool (decide ((n : Int) > (32 : Int)))) (by kernel_rfl) (congrArg Value.bool (decide_eq_false (by omega)))) ?_
        refine rp 8 (.bool false) ?_
        refine rw_nil ?_
        refine nw_then ?_
        refine cw_cond_f (fun _ => by kernel_rfl) ?_
        refine cw_seq ?_
        refine cw_region ?_
        refine rp 13 (.slice a' n' c') ?_
        refine rp 14 (.int .i64 n') ?_
        refine rv 15 (.bool false) (fun _ => ol_conv (v := .bool ((n' : Int) == (0 : Int))) (by kernel_rfl) (congrArg Value.bool (beq_eq_false_iff_ne.2 (by omega)))) ?_
        refine rp 16 (.bool false) ?_
        refine rp 17 (.slice a' n' c') ?_
        refine rp 18 (.int .i64 n') ?_
        refine rv 19 (.bool true) (fun _ => ol_conv (v := .bool (decide ((n' : Int) > (256 : Int)))) (by kernel_rfl) (congrArg Value.bool (decide_eq_true (by omega)))) ?_
        refine rp 20 (.bool true) ?_
        refine rp 12 (.bool true) ?_
        refine rw_nil ?_
        refine nw_then ?_
        refine cw_cond_t (fun _ => by kernel_rfl) ?_
        refine cw_seq ?_
        refine cw_region ?_
        refine rp 6 (.int .i64 71) ?_
        refine rw_nil ?_
        refine nw_then ?_
        refine cw_ret ?_
        refine nw_ret_block ?_
        refine nw_ret_then ?_
        exact nw_ret_body (.int .i64 71) (fun _ => by kernel_rfl) ⟨_, rfl, RAd.same (hBu.go (Bl.refl _)) (by unfold addE; rw [if_pos (by omega), if_neg (by omega)]) (by decide) (Bl.refl _)⟩
  · skip
    refine cw_region ?_
    refine rp 9 (.slice a n c) ?_
    refine rp 10 (.int .i64 n) ?_
    refine rv 11 (.bool true) (fun _ => ol_conv (v := .bool (decide ((n : Int) > (32 : Int)))) (by kernel_rfl) (congrArg Value.bool (decide_eq_true (by omega)))) ?_
    refine rp 8 (.bool true) ?_
    refine rw_nil ?_
    refine nw_then ?_
    refine cw_cond_t (fun _ => by kernel_rfl) ?_
    refine cw_seq ?_
    refine cw_region ?_
    refine rp 6 (.int .i64 70) ?_
    refine rw_nil ?_
    refine nw_then ?_
    refine cw_ret ?_
    refine nw_ret_block ?_
    refine nw_ret_then ?_
    exact nw_ret_body (.int .i64 70) (fun _ => by kernel_rfl) ⟨_, rfl, RAd.same (hBu.go (Bl.refl _)) (by unfold addE; rw [if_neg (by omega)]) (by decide) (Bl.refl _)⟩
end Go.Proofs.Ytdkpilgelgjieaa
