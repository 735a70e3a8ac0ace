/- The document's Bytes of a transaction. -/
import Derived.Test.YtmofehloiiopfaaG21
import Derived.Test.YtmofehloiiopfaaG10
import Derived.Test.YtmofehloiiopfaaG22
namespace Go.Proofs.Ytmofehloiiopfaa
open Go.RowKit
open Di (dref)
set_option linter.unusedVariables false
set_option maxRecDepth 100000
set_option maxHeartbeats 4000000 in
theorem rtxbytes (y : TV) (w : World) (ok : TXa w y) (hr : rtX y.t = true) : Calls Try.prog 26 #[.agg y.cells] w fun e w' => ∃ v, e = .returned v ∧ RSl w (enX y.t) v w' := by
  obtain ⟨h8, h256⟩ := rtX_len hr
  rw [ok.i.e] at h8
  rw [ok.c.l] at h256
  have hB : Bl w w := Bl.refl w
  refine cw_enter Try.func26 rfl 102 rfl ?_
  show CW _ _ _ _ _ _ _ [(0, .agg #[.int .u64 ((y.t.f : Nat) : Int), .int .u64 ((y.t.n : Nat) : Int), .int .u64 ((y.t.g : Nat) : Int), .int .u64 ((y.t.p : Nat) : Int), .int .u64 ((y.t.o : Nat) : Int), .int .u64 ((y.t.v : Nat) : Int), .slice y.ia y.im y.ic, .bool y.t.m, .slice y.ca y.cn y.cc])] _
  refine cw_seq ?_
  refine cw_region ?_
  refine rw_new 1 (#[.int .u64 ((y.t.f : Nat) : Int), .int .u64 ((y.t.n : Nat) : Int), .int .u64 ((y.t.g : Nat) : Int), .int .u64 ((y.t.p : Nat) : Int), .int .u64 ((y.t.o : Nat) : Int), .int .u64 ((y.t.v : Nat) : Int), .slice y.ia y.im y.ic, .bool y.t.m, .slice y.ca y.cn y.cc]) 26 (fun _ => by kernel_rfl) (fun _ => by kernel_rfl) ?_
  intro w1 g2 hn3
  have hzg2 : w.heap.size ≤ g2 := by have := hB.size; have := hn3.hg; omega
  replace hB := hB.go hn3.below
  have hr4 : Rw g2 w1 (#[.int .u64 ((y.t.f : Nat) : Int), .int .u64 ((y.t.n : Nat) : Int), .int .u64 ((y.t.g : Nat) : Int), .int .u64 ((y.t.p : Nat) : Int), .int .u64 ((y.t.o : Nat) : Int), .int .u64 ((y.t.v : Nat) : Int), .slice y.ia y.im y.ic, .bool y.t.m, .slice y.ca y.cn y.cc]) 26 := hn3.row
  refine rp 2 (.slice none 0 0) ?_
  refine rw_nil ?_
  refine nw_then ?_
  refine cw_seq ?_
  refine cw_region ?_
  refine rp 7 (.agg #[.bool true, .slice none 0 0, .slice none 0 0]) ?_
  refine rw_new 3 (#[.bool false, .slice none 0 0, .slice none 0 0]) 45 (fun _ => by kernel_rfl) (fun _ => by kernel_rfl) ?_
  intro w5 g6 hn7
  have hr8 : Rw g6 w5 (#[.bool false, .slice none 0 0, .slice none 0 0]) 45 := hn7.row
  refine rw_put g6 (#[.bool true, .slice none 0 0, .slice none 0 0]) (fun _ => by kernel_rfl) (fun _ => ol_store 45 _ _ _ _ _ 45 rfl (by kernel_rfl) (by kernel_rfl) hr8 (by kernel_rfl) (by kernel_rfl) (by kernel_rfl)) ?_
  intro w9 hp10
  have hbg6 : Below w1.heap.size w1 w9 := hp10.below hn7.below (Nat.le_of_eq hn7.hg.symm) (by have := hn7.size; have := hn7.hg; omega)
  have hzg6 : w.heap.size ≤ g6 := by have := hB.size; have := hn7.hg; omega
  replace hB := hB.go hbg6
  replace hr4 := hr4.go hbg6
  have hr11 : Rw g6 w9 (#[.bool true, .slice none 0 0, .slice none 0 0]) 45 := hr8.put hp10
  refine rw_nil ?_
  refine nw_then ?_
  refine cw_seq ?_
  have hs : Bs w y g2 g6 [] w9 := ⟨hr4, ⟨_, hr11, il_nil⟩, hB, ⟨hzg2, by have := hn7.hg; have := hn3.size; omega⟩⟩
  refine cw_sub [(3, .pointer (some ⟨g6, 0, none⟩)), (1, .pointer (some ⟨g2, 0, none⟩))] (by exact ⟨fun _ => by kernel_rfl, ⟨fun _ => by kernel_rfl, trivial⟩⟩) ?_
  refine cw_cut (fun e u => e = [(1, .pointer (some ⟨g2, 0, none⟩)), (3, .pointer (some ⟨g6, 0, none⟩))] ∧ Bs w y g2 g6 [tx (be y.t.f)] u) ?_ ?_
  · skip
    refine cw_draw (fun v => Rw g2 v y.cells 26) (by kernel_rfl) (hs.tx.drew) ?_
    obtain ⟨it, hI, hL⟩ := (hs.go (Below.refl _ _).drew).ex
    have hT := hs.tx.drew
    have hB := hs.bel.drew
    have hlt := hs.lt
    have hl3 := hI.lt
    refine dt 0 8 (.pointer (some ⟨g6, 2, none⟩)) (fun v hv _ => by kernel_rfl) hT ?_
    refine dt 2 10 (.pointer (some ⟨g2, 0, none⟩)) (fun v hv _ => by kernel_rfl) hT ?_
    refine dt 3 11 (.int .u64 ((y.t.f : Nat) : Int)) (fun v hv _ => ol_cell 22 _ ⟨g2, 0, none⟩ _ _ rfl (by kernel_rfl) (by rw [cell_of_row _ _ _ _ _ _ hv]; rfl) Try.underlying22 rfl) hT ?_
    refine dw_ready [1, 4] (by kernel_rfl) (by simp) ?_
    refine ar_v 1 9 it rfl (fun _ => by kernel_rfl) (fun _ => ol_cell 43 _ ⟨g6, 2, none⟩ _ _ rfl (by kernel_rfl) (by rw [cell_of_row _ _ _ _ _ _ hI]; rfl) Try.underlying43 rfl) hT ?_ ?_
    · skip
      refine dw_ready [4] (by kernel_rfl) (by simp) ?_
      refine ar_call 4 12 46 #[.int .u64 ((y.t.f : Nat) : Int)] rfl (fun _ => by kernel_rfl) (fun _ => by kernel_rfl) (R := RKi w9.drew (tx (be y.t.f))) (rword y.t.f ok.o.f w9.drew) (fun u w' h9 => hT.go h9.2) ?_ ar_nil
      rintro _ w2 ⟨⟨z, rfl, hkl⟩, hb9⟩
      have hLc := hL
      have hsz := hb9.size
      have hl3c := hI.lt
      replace hI := hI.go hb9
      replace hL := hL.go hb9
      replace hT := hT.go hb9
      replace hB := hB.go hb9
      replace hkl := hkl.of (Q := fun b => (b ≠ g2 ∧ b ≠ g6) ∧ it.ownBlock ≠ some b) fun b hb _ => ⟨⟨by omega, by omega⟩, fun e => by have := hLc.lt e; omega⟩
      refine dw_ready [5] (by kernel_rfl) (by simp) ?_
      refine ar_newS 5 13 (IV z) 45 1 rfl (fun _ => by kernel_rfl) (fun _ => by kernel_rfl) (fun w' g h => hT.go h.below) ?_ ar_nil
      intro w3 gn hn
      have hLp := hL
      have hkp := hkl
      have hIp := hI
      have hTp := hT
      have hBp := hB
      replace hI := hI.go hn.below
      replace hL := hL.go hn.below
      replace hT := hT.go hn.below
      replace hB := hB.go hn.below
      replace hkl := hkl.go hn.below
      refine dw_ready [6] (by kernel_rfl) (by simp) ?_
      have hlp := hIp.lt
      obtain ⟨v1, w4, hrun, hL4, hgr⟩ := hLp.app hBp.size hkp (by simp) (fun b hb => ⟨by omega, by omega⟩) hn 43
      have hT4 := hgr.rw hTp (fun e => (hLp.own _ e).1 rfl)
      have hI4 := hgr.rw hIp (fun e => (hLp.own _ e).2 rfl)
      have hB4 := hgr.below hBp hBp.size (fun g e => hLp.lo e)
      obtain ⟨ia, ic, rfl⟩ := hL4.val
      refine ar_v 6 14 (.slice ia ([] ++ [tx (be y.t.f)]).length ic) rfl (fun _ => by kernel_rfl) (fun _ => ol_appI _ _ rfl (by kernel_rfl) (by kernel_rfl) 43 rfl hrun) hT4 ?_ ar_nil
      refine dt 7 15 (.pointer (some ⟨g6, 2, none⟩)) (fun v hv _ => by kernel_rfl) hT4 ?_
      refine dw_ready [8] (by kernel_rfl) (by simp) ?_
      refine ar_set1 8 g6 2 (.slice ia ([] ++ [tx (be y.t.f)]).length ic) rfl (fun _ => by kernel_rfl) (fun _ => ol_storeI _ _ rfl (by kernel_rfl) (by kernel_rfl) (by rw [cell_of_row _ _ _ _ _ _ hI4]; rfl) (fun o => frozen_of_row _ _ _ _ _ hI4)) (fun w' h => (h.other (by omega)).trans hT4) ?_ ar_nil
      intro w5 hs5
      have hT5 : Rw g2 w5 y.cells 26 := (hs5.other (by omega)).trans hT4
      have hS5 : Bs w y g2 g6 [tx (be y.t.f)] w5 := ⟨hT5, ⟨_, hI4.put1 hs5, hL4.set1 hs5 (fun h => h.2 rfl)⟩, hs5.touch.below hB4 (by omega) hB4.size, hlt⟩
      refine dw_done (by kernel_rfl) ?_
      exact nw_cut [(1, .pointer (some ⟨g2, 0, none⟩)), (3, .pointer (some ⟨g6, 0, none⟩))] (by exact ⟨fun _ => by kernel_rfl, ⟨fun _ => by kernel_rfl, trivial⟩⟩) ⟨rfl, hS5⟩
    refine ar_call 4 12 46 #[.int .u64 ((y.t.f : Nat) : Int)] rfl (fun _ => by kernel_rfl) (fun _ => by kernel_rfl) (R := RKi w9.drew (tx (be y.t.f))) (rword y.t.f ok.o.f w9.drew) (fun u w' h9 => hT.go h9.2) ?_ ar_nil
    rintro _ w2 ⟨⟨z, rfl, hkl⟩, hb9⟩
    have hLc := hL
    have hsz := hb9.size
    have hl3c := hI.lt
    replace hI := hI.go hb9
    replace hL := hL.go hb9
    replace hT := hT.go hb9
    replace hB := hB.go hb9
    replace hkl := hkl.of (Q := fun b => (b ≠ g2 ∧ b ≠ g6) ∧ it.ownBlock ≠ some b) fun b hb _ => ⟨⟨by omega, by omega⟩, fun e => by have := hLc.lt e; omega⟩
    refine dw_ready [1, 5] (by kernel_rfl) (by simp) ?_
    refine ar_v 1 9 it rfl (fun _ => by kernel_rfl) (fun _ => ol_cell 43 _ ⟨g6, 2, none⟩ _ _ rfl (by kernel_rfl) (by rw [cell_of_row _ _ _ _ _ _ hI]; rfl) Try.underlying43 rfl) hT ?_ ?_
    · skip
      refine dw_ready [5] (by kernel_rfl) (by simp) ?_
      refine ar_newS 5 13 (IV z) 45 1 rfl (fun _ => by kernel_rfl) (fun _ => by kernel_rfl) (fun w' g h => hT.go h.below) ?_ ar_nil
      intro w3 gn hn
      have hLp := hL
      have hkp := hkl
      have hIp := hI
      have hTp := hT
      have hBp := hB
      replace hI := hI.go hn.below
      replace hL := hL.go hn.below
      replace hT := hT.go hn.below
      replace hB := hB.go hn.below
      replace hkl := hkl.go hn.below
      refine dw_ready [6] (by kernel_rfl) (by simp) ?_
      have hlp := hIp.lt
      obtain ⟨v1, w4, hrun, hL4, hgr⟩ := hLp.app hBp.size hkp (by simp) (fun b hb => ⟨by omega, by omega⟩) hn 43
      have hT4 := hgr.rw hTp (fun e => (hLp.own _ e).1 rfl)
      have hI4 := hgr.rw hIp (fun e => (hLp.own _ e).2 rfl)
      have hB4 := hgr.below hBp hBp.size (fun g e => hLp.lo e)
      obtain ⟨ia, ic, rfl⟩ := hL4.val
      refine ar_v 6 14 (.slice ia ([] ++ [tx (be y.t.f)]).length ic) rfl (fun _ => by kernel_rfl) (fun _ => ol_appI _ _ rfl (by kernel_rfl) (by kernel_rfl) 43 rfl hrun) hT4 ?_ ar_nil
      refine dt 7 15 (.pointer (some ⟨g6, 2, none⟩)) (fun v hv _ => by kernel_rfl) hT4 ?_
      refine dw_ready [8] (by kernel_rfl) (by simp) ?_
      refine ar_set1 8 g6 2 (.slice ia ([] ++ [tx (be y.t.f)]).length ic) rfl (fun _ => by kernel_rfl) (fun _ => ol_storeI _ _ rfl (by kernel_rfl) (by kernel_rfl) (by rw [cell_of_row _ _ _ _ _ _ hI4]; rfl) (fun o => frozen_of_row _ _ _ _ _ hI4)) (fun w' h => (h.other (by omega)).trans hT4) ?_ ar_nil
      intro w5 hs5
      have hT5 : Rw g2 w5 y.cells 26 := (hs5.other (by omega)).trans hT4
      have hS5 : Bs w y g2 g6 [tx (be y.t.f)] w5 := ⟨hT5, ⟨_, hI4.put1 hs5, hL4.set1 hs5 (fun h => h.2 rfl)⟩, hs5.touch.below hB4 (by omega) hB4.size, hlt⟩
      refine dw_done (by kernel_rfl) ?_
      exact nw_cut [(1, .pointer (some ⟨g2, 0, none⟩)), (3, .pointer (some ⟨g6, 0, none⟩))] (by exact ⟨fun _ => by kernel_rfl, ⟨fun _ => by kernel_rfl, trivial⟩⟩) ⟨rfl, hS5⟩
    refine ar_newS 5 13 (IV z) 45 1 rfl (fun _ => by kernel_rfl) (fun _ => by kernel_rfl) (fun w' g h => hT.go h.below) ?_ ar_nil
    intro w3 gn hn
    have hLp := hL
    have hkp := hkl
    have hIp := hI
    have hTp := hT
    have hBp := hB
    replace hI := hI.go hn.below
    replace hL := hL.go hn.below
    replace hT := hT.go hn.below
    replace hB := hB.go hn.below
    replace hkl := hkl.go hn.below
    refine dw_ready [1] (by kernel_rfl) (by simp) ?_
    refine ar_v 1 9 it rfl (fun _ => by kernel_rfl) (fun _ => ol_cell 43 _ ⟨g6, 2, none⟩ _ _ rfl (by kernel_rfl) (by rw [cell_of_row _ _ _ _ _ _ hI]; rfl) Try.underlying43 rfl) hT ?_ ar_nil
    refine dw_ready [6] (by kernel_rfl) (by simp) ?_
    have hlp := hIp.lt
    obtain ⟨v1, w4, hrun, hL4, hgr⟩ := hLp.app hBp.size hkp (by simp) (fun b hb => ⟨by omega, by omega⟩) hn 43
    have hT4 := hgr.rw hTp (fun e => (hLp.own _ e).1 rfl)
    have hI4 := hgr.rw hIp (fun e => (hLp.own _ e).2 rfl)
    have hB4 := hgr.below hBp hBp.size (fun g e => hLp.lo e)
    obtain ⟨ia, ic, rfl⟩ := hL4.val
    refine ar_v 6 14 (.slice ia ([] ++ [tx (be y.t.f)]).length ic) rfl (fun _ => by kernel_rfl) (fun _ => ol_appI _ _ rfl (by kernel_rfl) (by kernel_rfl) 43 rfl hrun) hT4 ?_ ar_nil
    refine dt 7 15 (.pointer (some ⟨g6, 2, none⟩)) (fun v hv _ => by kernel_rfl) hT4 ?_
    refine dw_ready [8] (by kernel_rfl) (by simp) ?_
    refine ar_set1 8 g6 2 (.slice ia ([] ++ [tx (be y.t.f)]).length ic) rfl (fun _ => by kernel_rfl) (fun _ => ol_storeI _ _ rfl (by kernel_rfl) (by kernel_rfl) (by rw [cell_of_row _ _ _ _ _ _ hI4]; rfl) (fun o => frozen_of_row _ _ _ _ _ hI4)) (fun w' h => (h.other (by omega)).trans hT4) ?_ ar_nil
    intro w5 hs5
    have hT5 : Rw g2 w5 y.cells 26 := (hs5.other (by omega)).trans hT4
    have hS5 : Bs w y g2 g6 [tx (be y.t.f)] w5 := ⟨hT5, ⟨_, hI4.put1 hs5, hL4.set1 hs5 (fun h => h.2 rfl)⟩, hs5.touch.below hB4 (by omega) hB4.size, hlt⟩
    refine dw_done (by kernel_rfl) ?_
    exact nw_cut [(1, .pointer (some ⟨g2, 0, none⟩)), (3, .pointer (some ⟨g6, 0, none⟩))] (by exact ⟨fun _ => by kernel_rfl, ⟨fun _ => by kernel_rfl, trivial⟩⟩) ⟨rfl, hS5⟩
  clear hs
  rintro _ u0 ⟨rfl, hs⟩
  refine nw_then ?_
  refine cw_seq ?_
  refine cw_cut (fun e u => e = [(1, .pointer (some ⟨g2, 0, none⟩)), (3, .pointer (some ⟨g6, 0, none⟩))] ∧ Bs w y g2 g6 [tx (be y.t.f), tx (be y.t.n)] u) ?_ ?_
  · skip
    refine cw_draw (fun v => Rw g2 v y.cells 26) (by kernel_rfl) (hs.tx.drew) ?_
    obtain ⟨it, hI, hL⟩ := (hs.go (Below.refl _ _).drew).ex
    have hT := hs.tx.drew
    have hB := hs.bel.drew
    have hlt := hs.lt
    have hl3 := hI.lt
    refine dt 0 16 (.pointer (some ⟨g6, 2, none⟩)) (fun v hv _ => by kernel_rfl) hT ?_
    refine dt 2 18 (.pointer (some ⟨g2, 1, none⟩)) (fun v hv _ => by kernel_rfl) hT ?_
    refine dt 3 19 (.int .u64 ((y.t.n : Nat) : Int)) (fun v hv _ => ol_cell 22 _ ⟨g2, 1, none⟩ _ _ rfl (by kernel_rfl) (by rw [cell_of_row _ _ _ _ _ _ hv]; rfl) Try.underlying22 rfl) hT ?_
    refine dw_ready [1, 4] (by kernel_rfl) (by simp) ?_
    refine ar_v 1 17 it rfl (fun _ => by kernel_rfl) (fun _ => ol_cell 43 _ ⟨g6, 2, none⟩ _ _ rfl (by kernel_rfl) (by rw [cell_of_row _ _ _ _ _ _ hI]; rfl) Try.underlying43 rfl) hT ?_ ?_
    · skip
      refine dw_ready [4] (by kernel_rfl) (by simp) ?_
      refine ar_call 4 20 46 #[.int .u64 ((y.t.n : Nat) : Int)] rfl (fun _ => by kernel_rfl) (fun _ => by kernel_rfl) (R := RKi u0.drew (tx (be y.t.n))) (rword y.t.n ok.o.n u0.drew) (fun u w' h9 => hT.go h9.2) ?_ ar_nil
      rintro _ w2 ⟨⟨z, rfl, hkl⟩, hb9⟩
      have hLc := hL
      have hsz := hb9.size
      have hl3c := hI.lt
      replace hI := hI.go hb9
      replace hL := hL.go hb9
      replace hT := hT.go hb9
      replace hB := hB.go hb9
      replace hkl := hkl.of (Q := fun b => (b ≠ g2 ∧ b ≠ g6) ∧ it.ownBlock ≠ some b) fun b hb _ => ⟨⟨by omega, by omega⟩, fun e => by have := hLc.lt e; omega⟩
      refine dw_ready [5] (by kernel_rfl) (by simp) ?_
      refine ar_newS 5 21 (IV z) 45 1 rfl (fun _ => by kernel_rfl) (fun _ => by kernel_rfl) (fun w' g h => hT.go h.below) ?_ ar_nil
      intro w3 gn hn
      have hLp := hL
      have hkp := hkl
      have hIp := hI
      have hTp := hT
      have hBp := hB
      replace hI := hI.go hn.below
      replace hL := hL.go hn.below
      replace hT := hT.go hn.below
      replace hB := hB.go hn.below
      replace hkl := hkl.go hn.below
      refine dw_ready [6] (by kernel_rfl) (by simp) ?_
      have hlp := hIp.lt
      obtain ⟨v1, w4, hrun, hL4, hgr⟩ := hLp.app hBp.size hkp (by simp) (fun b hb => ⟨by omega, by omega⟩) hn 43
      have hT4 := hgr.rw hTp (fun e => (hLp.own _ e).1 rfl)
      have hI4 := hgr.rw hIp (fun e => (hLp.own _ e).2 rfl)
      have hB4 := hgr.below hBp hBp.size (fun g e => hLp.lo e)
      obtain ⟨ia, ic, rfl⟩ := hL4.val
      refine ar_v 6 22 (.slice ia ([tx (be y.t.f)] ++ [tx (be y.t.n)]).length ic) rfl (fun _ => by kernel_rfl) (fun _ => ol_appI _ _ rfl (by kernel_rfl) (by kernel_rfl) 43 rfl hrun) hT4 ?_ ar_nil
      refine dt 7 23 (.pointer (some ⟨g6, 2, none⟩)) (fun v hv _ => by kernel_rfl) hT4 ?_
      refine dw_ready [8] (by kernel_rfl) (by simp) ?_
      refine ar_set1 8 g6 2 (.slice ia ([tx (be y.t.f)] ++ [tx (be y.t.n)]).length ic) rfl (fun _ => by kernel_rfl) (fun _ => ol_storeI _ _ rfl (by kernel_rfl) (by kernel_rfl) (by rw [cell_of_row _ _ _ _ _ _ hI4]; rfl) (fun o => frozen_of_row _ _ _ _ _ hI4)) (fun w' h => (h.other (by omega)).trans hT4) ?_ ar_nil
      intro w5 hs5
      have hT5 : Rw g2 w5 y.cells 26 := (hs5.other (by omega)).trans hT4
      have hS5 : Bs w y g2 g6 [tx (be y.t.f), tx (be y.t.n)] w5 := ⟨hT5, ⟨_, hI4.put1 hs5, hL4.set1 hs5 (fun h => h.2 rfl)⟩, hs5.touch.below hB4 (by omega) hB4.size, hlt⟩
      refine dw_done (by kernel_rfl) ?_
      exact nw_cut [(1, .pointer (some ⟨g2, 0, none⟩)), (3, .pointer (some ⟨g6, 0, none⟩))] (by exact ⟨fun _ => by kernel_rfl, ⟨fun _ => by kernel_rfl, trivial⟩⟩) ⟨rfl, hS5⟩
    refine ar_call 4 20 46 #[.int .u64 ((y.t.n : Nat) : Int)] rfl (fun _ => by kernel_rfl) (fun _ => by kernel_rfl) (R := RKi u0.drew (tx (be y.t.n))) (rword y.t.n ok.o.n u0.drew) (fun u w' h9 => hT.go h9.2) ?_ ar_nil
    rintro _ w2 ⟨⟨z, rfl, hkl⟩, hb9⟩
    have hLc := hL
    have hsz := hb9.size
    have hl3c := hI.lt
    replace hI := hI.go hb9
    replace hL := hL.go hb9
    replace hT := hT.go hb9
    replace hB := hB.go hb9
    replace hkl := hkl.of (Q := fun b => (b ≠ g2 ∧ b ≠ g6) ∧ it.ownBlock ≠ some b) fun b hb _ => ⟨⟨by omega, by omega⟩, fun e => by have := hLc.lt e; omega⟩
    refine dw_ready [1, 5] (by kernel_rfl) (by simp) ?_
    refine ar_v 1 17 it rfl (fun _ => by kernel_rfl) (fun _ => ol_cell 43 _ ⟨g6, 2, none⟩ _ _ rfl (by kernel_rfl) (by rw [cell_of_row _ _ _ _ _ _ hI]; rfl) Try.underlying43 rfl) hT ?_ ?_
    · skip
      refine dw_ready [5] (by kernel_rfl) (by simp) ?_
      refine ar_newS 5 21 (IV z) 45 1 rfl (fun _ => by kernel_rfl) (fun _ => by kernel_rfl) (fun w' g h => hT.go h.below) ?_ ar_nil
      intro w3 gn hn
      have hLp := hL
      have hkp := hkl
      have hIp := hI
      have hTp := hT
      have hBp := hB
      replace hI := hI.go hn.below
      replace hL := hL.go hn.below
      replace hT := hT.go hn.below
      replace hB := hB.go hn.below
      replace hkl := hkl.go hn.below
      refine dw_ready [6] (by kernel_rfl) (by simp) ?_
      have hlp := hIp.lt
      obtain ⟨v1, w4, hrun, hL4, hgr⟩ := hLp.app hBp.size hkp (by simp) (fun b hb => ⟨by omega, by omega⟩) hn 43
      have hT4 := hgr.rw hTp (fun e => (hLp.own _ e).1 rfl)
      have hI4 := hgr.rw hIp (fun e => (hLp.own _ e).2 rfl)
      have hB4 := hgr.below hBp hBp.size (fun g e => hLp.lo e)
      obtain ⟨ia, ic, rfl⟩ := hL4.val
      refine ar_v 6 22 (.slice ia ([tx (be y.t.f)] ++ [tx (be y.t.n)]).length ic) rfl (fun _ => by kernel_rfl) (fun _ => ol_appI _ _ rfl (by kernel_rfl) (by kernel_rfl) 43 rfl hrun) hT4 ?_ ar_nil
      refine dt 7 23 (.pointer (some ⟨g6, 2, none⟩)) (fun v hv _ => by kernel_rfl) hT4 ?_
      refine dw_ready [8] (by kernel_rfl) (by simp) ?_
      refine ar_set1 8 g6 2 (.slice ia ([tx (be y.t.f)] ++ [tx (be y.t.n)]).length ic) rfl (fun _ => by kernel_rfl) (fun _ => ol_storeI _ _ rfl (by kernel_rfl) (by kernel_rfl) (by rw [cell_of_row _ _ _ _ _ _ hI4]; rfl) (fun o => frozen_of_row _ _ _ _ _ hI4)) (fun w' h => (h.other (by omega)).trans hT4) ?_ ar_nil
      intro w5 hs5
      have hT5 : Rw g2 w5 y.cells 26 := (hs5.other (by omega)).trans hT4
      have hS5 : Bs w y g2 g6 [tx (be y.t.f), tx (be y.t.n)] w5 := ⟨hT5, ⟨_, hI4.put1 hs5, hL4.set1 hs5 (fun h => h.2 rfl)⟩, hs5.touch.below hB4 (by omega) hB4.size, hlt⟩
      refine dw_done (by kernel_rfl) ?_
      exact nw_cut [(1, .pointer (some ⟨g2, 0, none⟩)), (3, .pointer (some ⟨g6, 0, none⟩))] (by exact ⟨fun _ => by kernel_rfl, ⟨fun _ => by kernel_rfl, trivial⟩⟩) ⟨rfl, hS5⟩
    refine ar_newS 5 21 (IV z) 45 1 rfl (fun _ => by kernel_rfl) (fun _ => by kernel_rfl) (fun w' g h => hT.go h.below) ?_ ar_nil
    intro w3 gn hn
    have hLp := hL
    have hkp := hkl
    have hIp := hI
    have hTp := hT
    have hBp := hB
    replace hI := hI.go hn.below
    replace hL := hL.go hn.below
    replace hT := hT.go hn.below
    replace hB := hB.go hn.below
    replace hkl := hkl.go hn.below
    refine dw_ready [1] (by kernel_rfl) (by simp) ?_
    refine ar_v 1 17 it rfl (fun _ => by kernel_rfl) (fun _ => ol_cell 43 _ ⟨g6, 2, none⟩ _ _ rfl (by kernel_rfl) (by rw [cell_of_row _ _ _ _ _ _ hI]; rfl) Try.underlying43 rfl) hT ?_ ar_nil
    refine dw_ready [6] (by kernel_rfl) (by simp) ?_
    have hlp := hIp.lt
    obtain ⟨v1, w4, hrun, hL4, hgr⟩ := hLp.app hBp.size hkp (by simp) (fun b hb => ⟨by omega, by omega⟩) hn 43
    have hT4 := hgr.rw hTp (fun e => (hLp.own _ e).1 rfl)
    have hI4 := hgr.rw hIp (fun e => (hLp.own _ e).2 rfl)
    have hB4 := hgr.below hBp hBp.size (fun g e => hLp.lo e)
    obtain ⟨ia, ic, rfl⟩ := hL4.val
    refine ar_v 6 22 (.slice ia ([tx (be y.t.f)] ++ [tx (be y.t.n)]).length ic) rfl (fun _ => by kernel_rfl) (fun _ => ol_appI _ _ rfl (by kernel_rfl) (by kernel_rfl) 43 rfl hrun) hT4 ?_ ar_nil
    refine dt 7 23 (.pointer (some ⟨g6, 2, none⟩)) (fun v hv _ => by kernel_rfl) hT4 ?_
    refine dw_ready [8] (by kernel_rfl) (by simp) ?_
    refine ar_set1 8 g6 2 (.slice ia ([tx (be y.t.f)] ++ [tx (be y.t.n)]).length ic) rfl (fun _ => by kernel_rfl) (fun _ => ol_storeI _ _ rfl (by kernel_rfl) (by kernel_rfl) (by rw [cell_of_row _ _ _ _ _ _ hI4]; rfl) (fun o => frozen_of_row _ _ _ _ _ hI4)) (fun w' h => (h.other (by omega)).trans hT4) ?_ ar_nil
    intro w5 hs5
    have hT5 : Rw g2 w5 y.cells 26 := (hs5.other (by omega)).trans hT4
    have hS5 : Bs w y g2 g6 [tx (be y.t.f), tx (be y.t.n)] w5 := ⟨hT5, ⟨_, hI4.put1 hs5, hL4.set1 hs5 (fun h => h.2 rfl)⟩, hs5.touch.below hB4 (by omega) hB4.size, hlt⟩
    refine dw_done (by kernel_rfl) ?_
    exact nw_cut [(1, .pointer (some ⟨g2, 0, none⟩)), (3, .pointer (some ⟨g6, 0, none⟩))] (by exact ⟨fun _ => by kernel_rfl, ⟨fun _ => by kernel_rfl, trivial⟩⟩) ⟨rfl, hS5⟩
  clear hs
  rintro _ u1 ⟨rfl, hs⟩
  refine nw_then ?_
  refine cw_seq ?_
  refine cw_cut (fun e u => e = [(1, .pointer (some ⟨g2, 0, none⟩)), (3, .pointer (some ⟨g6, 0, none⟩))] ∧ Bs w y g2 g6 [tx (be y.t.f), tx (be y.t.n), tx (be y.t.g)] u) ?_ ?_
  · skip
    refine cw_draw (fun v => Rw g2 v y.cells 26) (by kernel_rfl) (hs.tx.drew) ?_
    obtain ⟨it, hI, hL⟩ := (hs.go (Below.refl _ _).drew).ex
    have hT := hs.tx.drew
    have hB := hs.bel.drew
    have hlt := hs.lt
    have hl3 := hI.lt
    refine dt 0 24 (.pointer (some ⟨g6, 2, none⟩)) (fun v hv _ => by kernel_rfl) hT ?_
    refine dt 2 26 (.pointer (some ⟨g2, 2, none⟩)) (fun v hv _ => by kernel_rfl) hT ?_
    refine dt 3 27 (.int .u64 ((y.t.g : Nat) : Int)) (fun v hv _ => ol_cell 22 _ ⟨g2, 2, none⟩ _ _ rfl (by kernel_rfl) (by rw [cell_of_row _ _ _ _ _ _ hv]; rfl) Try.underlying22 rfl) hT ?_
    refine dw_ready [1, 4] (by kernel_rfl) (by simp) ?_
    refine ar_v 1 25 it rfl (fun _ => by kernel_rfl) (fun _ => ol_cell 43 _ ⟨g6, 2, none⟩ _ _ rfl (by kernel_rfl) (by rw [cell_of_row _ _ _ _ _ _ hI]; rfl) Try.underlying43 rfl) hT ?_ ?_
    · skip
      refine dw_ready [4] (by kernel_rfl) (by simp) ?_
      refine ar_call 4 28 46 #[.int .u64 ((y.t.g : Nat) : Int)] rfl (fun _ => by kernel_rfl) (fun _ => by kernel_rfl) (R := RKi u1.drew (tx (be y.t.g))) (rword y.t.g ok.o.g u1.drew) (fun u w' h9 => hT.go h9.2) ?_ ar_nil
      rintro _ w2 ⟨⟨z, rfl, hkl⟩, hb9⟩
      have hLc := hL
      have hsz := hb9.size
      have hl3c := hI.lt
      replace hI := hI.go hb9
      replace hL := hL.go hb9
      replace hT := hT.go hb9
      replace hB := hB.go hb9
      replace hkl := hkl.of (Q := fun b => (b ≠ g2 ∧ b ≠ g6) ∧ it.ownBlock ≠ some b) fun b hb _ => ⟨⟨by omega, by omega⟩, fun e => by have := hLc.lt e; omega⟩
      refine dw_ready [5] (by kernel_rfl) (by simp) ?_
      refine ar_newS 5 29 (IV z) 45 1 rfl (fun _ => by kernel_rfl) (fun _ => by kernel_rfl) (fun w' g h => hT.go h.below) ?_ ar_nil
      intro w3 gn hn
      have hLp := hL
      have hkp := hkl
      have hIp := hI
      have hTp := hT
      have hBp := hB
      replace hI := hI.go hn.below
      replace hL := hL.go hn.below
      replace hT := hT.go hn.below
      replace hB := hB.go hn.below
      replace hkl := hkl.go hn.below
      refine dw_ready [6] (by kernel_rfl) (by simp) ?_
      have hlp := hIp.lt
      obtain ⟨v1, w4, hrun, hL4, hgr⟩ := hLp.app hBp.size hkp (by simp) (fun b hb => ⟨by omega, by omega⟩) hn 43
      have hT4 := hgr.rw hTp (fun e => (hLp.own _ e).1 rfl)
      have hI4 := hgr.rw hIp (fun e => (hLp.own _ e).2 rfl)
      have hB4 := hgr.below hBp hBp.size (fun g e => hLp.lo e)
      obtain ⟨ia, ic, rfl⟩ := hL4.val
      refine ar_v 6 30 (.slice ia ([tx (be y.t.f), tx (be y.t.n)] ++ [tx (be y.t.g)]).length ic) rfl (fun _ => by kernel_rfl) (fun _ => ol_appI _ _ rfl (by kernel_rfl) (by kernel_rfl) 43 rfl hrun) hT4 ?_ ar_nil
      refine dt 7 31 (.pointer (some ⟨g6, 2, none⟩)) (fun v hv _ => by kernel_rfl) hT4 ?_
      refine dw_ready [8] (by kernel_rfl) (by simp) ?_
      refine ar_set1 8 g6 2 (.slice ia ([tx (be y.t.f), tx (be y.t.n)] ++ [tx (be y.t.g)]).length ic) rfl (fun _ => by kernel_rfl) (fun _ => ol_storeI _ _ rfl (by kernel_rfl) (by kernel_rfl) (by rw [cell_of_row _ _ _ _ _ _ hI4]; rfl) (fun o => frozen_of_row _ _ _ _ _ hI4)) (fun w' h => (h.other (by omega)).trans hT4) ?_ ar_nil
      intro w5 hs5
      have hT5 : Rw g2 w5 y.cells 26 := (hs5.other (by omega)).trans hT4
      have hS5 : Bs w y g2 g6 [tx (be y.t.f), tx (be y.t.n), tx (be y.t.g)] w5 := ⟨hT5, ⟨_, hI4.put1 hs5, hL4.set1 hs5 (fun h => h.2 rfl)⟩, hs5.touch.below hB4 (by omega) hB4.size, hlt⟩
      refine dw_done (by kernel_rfl) ?_
      exact nw_cut [(1, .pointer (some ⟨g2, 0, none⟩)), (3, .pointer (some ⟨g6, 0, none⟩))] (by exact ⟨fun _ => by kernel_rfl, ⟨fun _ => by kernel_rfl, trivial⟩⟩) ⟨rfl, hS5⟩
    refine ar_call 4 28 46 #[.int .u64 ((y.t.g : Nat) : Int)] rfl (fun _ => by kernel_rfl) (fun _ => by kernel_rfl) (R := RKi u1.drew (tx (be y.t.g))) (rword y.t.g ok.o.g u1.drew) (fun u w' h9 => hT.go h9.2) ?_ ar_nil
    rintro _ w2 ⟨⟨z, rfl, hkl⟩, hb9⟩
    have hLc := hL
    have hsz := hb9.size
    have hl3c := hI.lt
    replace hI := hI.go hb9
    replace hL := hL.go hb9
    replace hT := hT.go hb9
    replace hB := hB.go hb9
    replace hkl := hkl.of (Q := fun b => (b ≠ g2 ∧ b ≠ g6) ∧ it.ownBlock ≠ some b) fun b hb _ => ⟨⟨by omega, by omega⟩, fun e => by have := hLc.lt e; omega⟩
    refine dw_ready [1, 5] (by kernel_rfl) (by simp) ?_
    refine ar_v 1 25 it rfl (fun _ => by kernel_rfl) (fun _ => ol_cell 43 _ ⟨g6, 2, none⟩ _ _ rfl (by kernel_rfl) (by rw [cell_of_row _ _ _ _ _ _ hI]; rfl) Try.underlying43 rfl) hT ?_ ?_
    · skip
      refine dw_ready [5] (by kernel_rfl) (by simp) ?_
      refine ar_newS 5 29 (IV z) 45 1 rfl (fun _ => by kernel_rfl) (fun _ => by kernel_rfl) (fun w' g h => hT.go h.below) ?_ ar_nil
      intro w3 gn hn
      have hLp := hL
      have hkp := hkl
      have hIp := hI
      have hTp := hT
      have hBp := hB
      replace hI := hI.go hn.below
      replace hL := hL.go hn.below
      replace hT := hT.go hn.below
      replace hB := hB.go hn.below
      replace hkl := hkl.go hn.below
      refine dw_ready [6] (by kernel_rfl) (by simp) ?_
      have hlp := hIp.lt
      obtain ⟨v1, w4, hrun, hL4, hgr⟩ := hLp.app hBp.size hkp (by simp) (fun b hb => ⟨by omega, by omega⟩) hn 43
      have hT4 := hgr.rw hTp (fun e => (hLp.own _ e).1 rfl)
      have hI4 := hgr.rw hIp (fun e => (hLp.own _ e).2 rfl)
      have hB4 := hgr.below hBp hBp.size (fun g e => hLp.lo e)
      obtain ⟨ia, ic, rfl⟩ := hL4.val
      refine ar_v 6 30 (.slice ia ([tx (be y.t.f), tx (be y.t.n)] ++ [tx (be y.t.g)]).length ic) rfl (fun _ => by kernel_rfl) (fun _ => ol_appI _ _ rfl (by kernel_rfl) (by kernel_rfl) 43 rfl hrun) hT4 ?_ ar_nil
      refine dt 7 31 (.pointer (some ⟨g6, 2, none⟩)) (fun v hv _ => by kernel_rfl) hT4 ?_
      refine dw_ready [8] (by kernel_rfl) (by simp) ?_
      refine ar_set1 8 g6 2 (.slice ia ([tx (be y.t.f), tx (be y.t.n)] ++ [tx (be y.t.g)]).length ic) rfl (fun _ => by kernel_rfl) (fun _ => ol_storeI _ _ rfl (by kernel_rfl) (by kernel_rfl) (by rw [cell_of_row _ _ _ _ _ _ hI4]; rfl) (fun o => frozen_of_row _ _ _ _ _ hI4)) (fun w' h => (h.other (by omega)).trans hT4) ?_ ar_nil
      intro w5 hs5
      have hT5 : Rw g2 w5 y.cells 26 := (hs5.other (by omega)).trans hT4
      have hS5 : Bs w y g2 g6 [tx (be y.t.f), tx (be y.t.n), tx (be y.t.g)] w5 := ⟨hT5, ⟨_, hI4.put1 hs5, hL4.set1 hs5 (fun h => h.2 rfl)⟩, hs5.touch.below hB4 (by omega) hB4.size, hlt⟩
      refine dw_done (by kernel_rfl) ?_
      exact nw_cut [(1, .pointer (some ⟨g2, 0, none⟩)), (3, .pointer (some ⟨g6, 0, none⟩))] (by exact ⟨fun _ => by kernel_rfl, ⟨fun _ => by kernel_rfl, trivial⟩⟩) ⟨rfl, hS5⟩
    refine ar_newS 5 29 (IV z) 45 1 rfl (fun _ => by kernel_rfl) (fun _ => by kernel_rfl) (fun w' g h => hT.go h.below) ?_ ar_nil
    intro w3 gn hn
    have hLp := hL
    have hkp := hkl
    have hIp := hI
    have hTp := hT
    have hBp := hB
    replace hI := hI.go hn.below
    replace hL := hL.go hn.below
    replace hT := hT.go hn.below
    replace hB := hB.go hn.below
    replace hkl := hkl.go hn.below
    refine dw_ready [1] (by kernel_rfl) (by simp) ?_
    refine ar_v 1 25 it rfl (fun _ => by kernel_rfl) (fun _ => ol_cell 43 _ ⟨g6, 2, none⟩ _ _ rfl (by kernel_rfl) (by rw [cell_of_row _ _ _ _ _ _ hI]; rfl) Try.underlying43 rfl) hT ?_ ar_nil
    refine dw_ready [6] (by kernel_rfl) (by simp) ?_
    have hlp := hIp.lt
    obtain ⟨v1, w4, hrun, hL4, hgr⟩ := hLp.app hBp.size hkp (by simp) (fun b hb => ⟨by omega, by omega⟩) hn 43
    have hT4 := hgr.rw hTp (fun e => (hLp.own _ e).1 rfl)
    have hI4 := hgr.rw hIp (fun e => (hLp.own _ e).2 rfl)
    have hB4 := hgr.below hBp hBp.size (fun g e => hLp.lo e)
    obtain ⟨ia, ic, rfl⟩ := hL4.val
    refine ar_v 6 30 (.slice ia ([tx (be y.t.f), tx (be y.t.n)] ++ [tx (be y.t.g)]).length ic) rfl (fun _ => by kernel_rfl) (fun _ => ol_appI _ _ rfl (by kernel_rfl) (by kernel_rfl) 43 rfl hrun) hT4 ?_ ar_nil
    refine dt 7 31 (.pointer (some ⟨g6, 2, none⟩)) (fun v hv _ => by kernel_rfl) hT4 ?_
    refine dw_ready [8] (by kernel_rfl) (by simp) ?_
    refine ar_set1 8 g6 2 (.slice ia ([tx (be y.t.f), tx (be y.t.n)] ++ [tx (be y.t.g)]).length ic) rfl (fun _ => by kernel_rfl) (fun _ => ol_storeI _ _ rfl (by kernel_rfl) (by kernel_rfl) (by rw [cell_of_row _ _ _ _ _ _ hI4]; rfl) (fun o => frozen_of_row _ _ _ _ _ hI4)) (fun w' h => (h.other (by omega)).trans hT4) ?_ ar_nil
    intro w5 hs5
    have hT5 : Rw g2 w5 y.cells 26 := (hs5.other (by omega)).trans hT4
    have hS5 : Bs w y g2 g6 [tx (be y.t.f), tx (be y.t.n), tx (be y.t.g)] w5 := ⟨hT5, ⟨_, hI4.put1 hs5, hL4.set1 hs5 (fun h => h.2 rfl)⟩, hs5.touch.below hB4 (by omega) hB4.size, hlt⟩
    refine dw_done (by kernel_rfl) ?_
    exact nw_cut [(1, .pointer (some ⟨g2, 0, none⟩)), (3, .pointer (some ⟨g6, 0, none⟩))] (by exact ⟨fun _ => by kernel_rfl, ⟨fun _ => by kernel_rfl, trivial⟩⟩) ⟨rfl, hS5⟩
  clear hs
  rintro _ u2 ⟨rfl, hs⟩
  refine nw_then ?_
  refine cw_seq ?_
  refine cw_cut (fun e u => e = [(1, .pointer (some ⟨g2, 0, none⟩)), (3, .pointer (some ⟨g6, 0, none⟩))] ∧ Bs w y g2 g6 [tx (be y.t.f), tx (be y.t.n), tx (be y.t.g), tx (be y.t.p)] u) ?_ ?_
  · skip
    refine cw_draw (fun v => Rw g2 v y.cells 26) (by kernel_rfl) (hs.tx.drew) ?_
    obtain ⟨it, hI, hL⟩ := (hs.go (Below.refl _ _).drew).ex
    have hT := hs.tx.drew
    have hB := hs.bel.drew
    have hlt := hs.lt
    have hl3 := hI.lt
    refine dt 0 32 (.pointer (some ⟨g6, 2, none⟩)) (fun v hv _ => by kernel_rfl) hT ?_
    refine dt 2 34 (.pointer (some ⟨g2, 3, none⟩)) (fun v hv _ => by kernel_rfl) hT ?_
    refine dt 3 35 (.int .u64 ((y.t.p : Nat) : Int)) (fun v hv _ => ol_cell 22 _ ⟨g2, 3, none⟩ _ _ rfl (by kernel_rfl) (by rw [cell_of_row _ _ _ _ _ _ hv]; rfl) Try.underlying22 rfl) hT ?_
    refine dw_ready [1, 4] (by kernel_rfl) (by simp) ?_
    refine ar_v 1 33 it rfl (fun _ => by kernel_rfl) (fun _ => ol_cell 43 _ ⟨g6, 2, none⟩ _ _ rfl (by kernel_rfl) (by rw [cell_of_row _ _ _ _ _ _ hI]; rfl) Try.underlying43 rfl) hT ?_ ?_
    · skip
      refine dw_ready [4] (by kernel_rfl) (by simp) ?_
      refine ar_call 4 36 46 #[.int .u64 ((y.t.p : Nat) : Int)] rfl (fun _ => by kernel_rfl) (fun _ => by kernel_rfl) (R := RKi u2.drew (tx (be y.t.p))) (rword y.t.p ok.o.p u2.drew) (fun u w' h9 => hT.go h9.2) ?_ ar_nil
      rintro _ w2 ⟨⟨z, rfl, hkl⟩, hb9⟩
      have hLc := hL
      have hsz := hb9.size
      have hl3c := hI.lt
      replace hI := hI.go hb9
      replace hL := hL.go hb9
      replace hT := hT.go hb9
      replace hB := hB.go hb9
      replace hkl := hkl.of (Q := fun b => (b ≠ g2 ∧ b ≠ g6) ∧ it.ownBlock ≠ some b) fun b hb _ => ⟨⟨by omega, by omega⟩, fun e => by have := hLc.lt e; omega⟩
      refine dw_ready [5] (by kernel_rfl) (by simp) ?_
      refine ar_newS 5 37 (IV z) 45 1 rfl (fun _ => by kernel_rfl) (fun _ => by kernel_rfl) (fun w' g h => hT.go h.below) ?_ ar_nil
      intro w3 gn hn
      have hLp := hL
      have hkp := hkl
      have hIp := hI
      have hTp := hT
      have hBp := hB
      replace hI := hI.go hn.below
      replace hL := hL.go hn.below
      replace hT := hT.go hn.below
      replace hB := hB.go hn.below
      replace hkl := hkl.go hn.below
      refine dw_ready [6] (by kernel_rfl) (by simp) ?_
      have hlp := hIp.lt
      obtain ⟨v1, w4, hrun, hL4, hgr⟩ := hLp.app hBp.size hkp (by simp) (fun b hb => ⟨by omega, by omega⟩) hn 43
      have hT4 := hgr.rw hTp (fun e => (hLp.own _ e).1 rfl)
      have hI4 := hgr.rw hIp (fun e => (hLp.own _ e).2 rfl)
      have hB4 := hgr.below hBp hBp.size (fun g e => hLp.lo e)
      obtain ⟨ia, ic, rfl⟩ := hL4.val
      refine ar_v 6 38 (.slice ia ([tx (be y.t.f), tx (be y.t.n), tx (be y.t.g)] ++ [tx (be y.t.p)]).length ic) rfl (fun _ => by kernel_rfl) (fun _ => ol_appI _ _ rfl (by kernel_rfl) (by kernel_rfl) 43 rfl hrun) hT4 ?_ ar_nil
      refine dt 7 39 (.pointer (some ⟨g6, 2, none⟩)) (fun v hv _ => by kernel_rfl) hT4 ?_
      refine dw_ready [8] (by kernel_rfl) (by simp) ?_
      refine ar_set1 8 g6 2 (.slice ia ([tx (be y.t.f), tx (be y.t.n), tx (be y.t.g)] ++ [tx (be y.t.p)]).length ic) rfl (fun _ => by kernel_rfl) (fun _ => ol_storeI _ _ rfl (by kernel_rfl) (by kernel_rfl) (by rw [cell_of_row _ _ _ _ _ _ hI4]; rfl) (fun o => frozen_of_row _ _ _ _ _ hI4)) (fun w' h => (h.other (by omega)).trans hT4) ?_ ar_nil
      intro w5 hs5
      have hT5 : Rw g2 w5 y.cells 26 := (hs5.other (by omega)).trans hT4
      have hS5 : Bs w y g2 g6 [tx (be y.t.f), tx (be y.t.n), tx (be y.t.g), tx (be y.t.p)] w5 := ⟨hT5, ⟨_, hI4.put1 hs5, hL4.set1 hs5 (fun h => h.2 rfl)⟩, hs5.touch.below hB4 (by omega) hB4.size, hlt⟩
      refine dw_done (by kernel_rfl) ?_
      exact nw_cut [(1, .pointer (some ⟨g2, 0, none⟩)), (3, .pointer (some ⟨g6, 0, none⟩))] (by exact ⟨fun _ => by kernel_rfl, ⟨fun _ => by kernel_rfl, trivial⟩⟩) ⟨rfl, hS5⟩
    refine ar_call 4 36 46 #[.int .u64 ((y.t.p : Nat) : Int)] rfl (fun _ => by kernel_rfl) (fun _ => by kernel_rfl) (R := RKi u2.drew (tx (be y.t.p))) (rword y.t.p ok.o.p u2.drew) (fun u w' h9 => hT.go h9.2) ?_ ar_nil
    rintro _ w2 ⟨⟨z, rfl, hkl⟩, hb9⟩
    have hLc := hL
    have hsz := hb9.size
    have hl3c := hI.lt
    replace hI := hI.go hb9
    replace hL := hL.go hb9
    replace hT := hT.go hb9
    replace hB := hB.go hb9
    replace hkl := hkl.of (Q := fun b => (b ≠ g2 ∧ b ≠ g6) ∧ it.ownBlock ≠ some b) fun b hb _ => ⟨⟨by omega, by omega⟩, fun e => by have := hLc.lt e; omega⟩
    refine dw_ready [1, 5] (by kernel_rfl) (by simp) ?_
    refine ar_v 1 33 it rfl (fun _ => by kernel_rfl) (fun _ => ol_cell 43 _ ⟨g6, 2, none⟩ _ _ rfl (by kernel_rfl) (by rw [cell_of_row _ _ _ _ _ _ hI]; rfl) Try.underlying43 rfl) hT ?_ ?_
    · skip
      refine dw_ready [5] (by kernel_rfl) (by simp) ?_
      refine ar_newS 5 37 (IV z) 45 1 rfl (fun _ => by kernel_rfl) (fun _ => by kernel_rfl) (fun w' g h => hT.go h.below) ?_ ar_nil
      intro w3 gn hn
      have hLp := hL
      have hkp := hkl
      have hIp := hI
      have hTp := hT
      have hBp := hB
      replace hI := hI.go hn.below
      replace hL := hL.go hn.below
      replace hT := hT.go hn.below
      replace hB := hB.go hn.below
      replace hkl := hkl.go hn.below
      refine dw_ready [6] (by kernel_rfl) (by simp) ?_
      have hlp := hIp.lt
      obtain ⟨v1, w4, hrun, hL4, hgr⟩ := hLp.app hBp.size hkp (by simp) (fun b hb => ⟨by omega, by omega⟩) hn 43
      have hT4 := hgr.rw hTp (fun e => (hLp.own _ e).1 rfl)
      have hI4 := hgr.rw hIp (fun e => (hLp.own _ e).2 rfl)
      have hB4 := hgr.below hBp hBp.size (fun g e => hLp.lo e)
      obtain ⟨ia, ic, rfl⟩ := hL4.val
      refine ar_v 6 38 (.slice ia ([tx (be y.t.f), tx (be y.t.n), tx (be y.t.g)] ++ [tx (be y.t.p)]).length ic) rfl (fun _ => by kernel_rfl) (fun _ => ol_appI _ _ rfl (by kernel_rfl) (by kernel_rfl) 43 rfl hrun) hT4 ?_ ar_nil
      refine dt 7 39 (.pointer (some ⟨g6, 2, none⟩)) (fun v hv _ => by kernel_rfl) hT4 ?_
      refine dw_ready [8] (by kernel_rfl) (by simp) ?_
      refine ar_set1 8 g6 2 (.slice ia ([tx (be y.t.f), tx (be y.t.n), tx (be y.t.g)] ++ [tx (be y.t.p)]).length ic) rfl (fun _ => by kernel_rfl) (fun _ => ol_storeI _ _ rfl (by kernel_rfl) (by kernel_rfl) (by rw [cell_of_row _ _ _ _ _ _ hI4]; rfl) (fun o => frozen_of_row _ _ _ _ _ hI4)) (fun w' h => (h.other (by omega)).trans hT4) ?_ ar_nil
      intro w5 hs5
      have hT5 : Rw g2 w5 y.cells 26 := (hs5.other (by omega)).trans hT4
      have hS5 : Bs w y g2 g6 [tx (be y.t.f), tx (be y.t.n), tx (be y.t.g), tx (be y.t.p)] w5 := ⟨hT5, ⟨_, hI4.put1 hs5, hL4.set1 hs5 (fun h => h.2 rfl)⟩, hs5.touch.below hB4 (by omega) hB4.size, hlt⟩
      refine dw_done (by kernel_rfl) ?_
      exact nw_cut [(1, .pointer (some ⟨g2, 0, none⟩)), (3, .pointer (some ⟨g6, 0, none⟩))] (by exact ⟨fun _ => by kernel_rfl, ⟨fun _ => by kernel_rfl, trivial⟩⟩) ⟨rfl, hS5⟩
    refine ar_newS 5 37 (IV z) 45 1 rfl (fun _ => by kernel_rfl) (fun _ => by kernel_rfl) (fun w' g h => hT.go h.below) ?_ ar_nil
    intro w3 gn hn
    have hLp := hL
    have hkp := hkl
    have hIp := hI
    have hTp := hT
    have hBp := hB
    replace hI := hI.go hn.below
    replace hL := hL.go hn.below
    replace hT := hT.go hn.below
    replace hB := hB.go hn.below
    replace hkl := hkl.go hn.below
    refine dw_ready [1] (by kernel_rfl) (by simp) ?_
    refine ar_v 1 33 it rfl (fun _ => by kernel_rfl) (fun _ => ol_cell 43 _ ⟨g6, 2, none⟩ _ _ rfl (by kernel_rfl) (by rw [cell_of_row _ _ _ _ _ _ hI]; rfl) Try.underlying43 rfl) hT ?_ ar_nil
    refine dw_ready [6] (by kernel_rfl) (by simp) ?_
    have hlp := hIp.lt
    obtain ⟨v1, w4, hrun, hL4, hgr⟩ := hLp.app hBp.size hkp (by simp) (fun b hb => ⟨by omega, by omega⟩) hn 43
    have hT4 := hgr.rw hTp (fun e => (hLp.own _ e).1 rfl)
    have hI4 := hgr.rw hIp (fun e => (hLp.own _ e).2 rfl)
    have hB4 := hgr.below hBp hBp.size (fun g e => hLp.lo e)
    obtain ⟨ia, ic, rfl⟩ := hL4.val
    refine ar_v 6 38 (.slice ia ([tx (be y.t.f), tx (be y.t.n), tx (be y.t.g)] ++ [tx (be y.t.p)]).length ic) rfl (fun _ => by kernel_rfl) (fun _ => ol_appI _ _ rfl (by kernel_rfl) (by kernel_rfl) 43 rfl hrun) hT4 ?_ ar_nil
    refine dt 7 39 (.pointer (some ⟨g6, 2, none⟩)) (fun v hv _ => by kernel_rfl) hT4 ?_
    refine dw_ready [8] (by kernel_rfl) (by simp) ?_
    refine ar_set1 8 g6 2 (.slice ia ([tx (be y.t.f), tx (be y.t.n), tx (be y.t.g)] ++ [tx (be y.t.p)]).length ic) rfl (fun _ => by kernel_rfl) (fun _ => ol_storeI _ _ rfl (by kernel_rfl) (by kernel_rfl) (by rw [cell_of_row _ _ _ _ _ _ hI4]; rfl) (fun o => frozen_of_row _ _ _ _ _ hI4)) (fun w' h => (h.other (by omega)).trans hT4) ?_ ar_nil
    intro w5 hs5
    have hT5 : Rw g2 w5 y.cells 26 := (hs5.other (by omega)).trans hT4
    have hS5 : Bs w y g2 g6 [tx (be y.t.f), tx (be y.t.n), tx (be y.t.g), tx (be y.t.p)] w5 := ⟨hT5, ⟨_, hI4.put1 hs5, hL4.set1 hs5 (fun h => h.2 rfl)⟩, hs5.touch.below hB4 (by omega) hB4.size, hlt⟩
    refine dw_done (by kernel_rfl) ?_
    exact nw_cut [(1, .pointer (some ⟨g2, 0, none⟩)), (3, .pointer (some ⟨g6, 0, none⟩))] (by exact ⟨fun _ => by kernel_rfl, ⟨fun _ => by kernel_rfl, trivial⟩⟩) ⟨rfl, hS5⟩
  clear hs
  rintro _ u3 ⟨rfl, hs⟩
  refine nw_then ?_
  refine cw_seq ?_
  refine cw_cut (fun e u => e = [(1, .pointer (some ⟨g2, 0, none⟩)), (3, .pointer (some ⟨g6, 0, none⟩))] ∧ Bs w y g2 g6 [tx (be y.t.f), tx (be y.t.n), tx (be y.t.g), tx (be y.t.p), tx (be y.t.o)] u) ?_ ?_
  · skip
    refine cw_draw (fun v => Rw g2 v y.cells 26) (by kernel_rfl) (hs.tx.drew) ?_
    obtain ⟨it, hI, hL⟩ := (hs.go (Below.refl _ _).drew).ex
    have hT := hs.tx.drew
    have hB := hs.bel.drew
    have hlt := hs.lt
    have hl3 := hI.lt
    refine dt 0 40 (.pointer (some ⟨g6, 2, none⟩)) (fun v hv _ => by kernel_rfl) hT ?_
    refine dt 2 42 (.pointer (some ⟨g2, 4, none⟩)) (fun v hv _ => by kernel_rfl) hT ?_
    refine dt 3 43 (.int .u64 ((y.t.o : Nat) : Int)) (fun v hv _ => ol_cell 22 _ ⟨g2, 4, none⟩ _ _ rfl (by kernel_rfl) (by rw [cell_of_row _ _ _ _ _ _ hv]; rfl) Try.underlying22 rfl) hT ?_
    refine dw_ready [1, 4] (by kernel_rfl) (by simp) ?_
    refine ar_v 1 41 it rfl (fun _ => by kernel_rfl) (fun _ => ol_cell 43 _ ⟨g6, 2, none⟩ _ _ rfl (by kernel_rfl) (by rw [cell_of_row _ _ _ _ _ _ hI]; rfl) Try.underlying43 rfl) hT ?_ ?_
    · skip
      refine dw_ready [4] (by kernel_rfl) (by simp) ?_
      refine ar_call 4 44 46 #[.int .u64 ((y.t.o : Nat) : Int)] rfl (fun _ => by kernel_rfl) (fun _ => by kernel_rfl) (R := RKi u3.drew (tx (be y.t.o))) (rword y.t.o ok.o.o u3.drew) (fun u w' h9 => hT.go h9.2) ?_ ar_nil
      rintro _ w2 ⟨⟨z, rfl, hkl⟩, hb9⟩
      have hLc := hL
      have hsz := hb9.size
      have hl3c := hI.lt
      replace hI := hI.go hb9
      replace hL := hL.go hb9
      replace hT := hT.go hb9
      replace hB := hB.go hb9
      replace hkl := hkl.of (Q := fun b => (b ≠ g2 ∧ b ≠ g6) ∧ it.ownBlock ≠ some b) fun b hb _ => ⟨⟨by omega, by omega⟩, fun e => by have := hLc.lt e; omega⟩
      refine dw_ready [5] (by kernel_rfl) (by simp) ?_
      refine ar_newS 5 45 (IV z) 45 1 rfl (fun _ => by kernel_rfl) (fun _ => by kernel_rfl) (fun w' g h => hT.go h.below) ?_ ar_nil
      intro w3 gn hn
      have hLp := hL
      have hkp := hkl
      have hIp := hI
      have hTp := hT
      have hBp := hB
      replace hI := hI.go hn.below
      replace hL := hL.go hn.below
      replace hT := hT.go hn.below
      replace hB := hB.go hn.below
      replace hkl := hkl.go hn.below
      refine dw_ready [6] (by kernel_rfl) (by simp) ?_
      have hlp := hIp.lt
      obtain ⟨v1, w4, hrun, hL4, hgr⟩ := hLp.app hBp.size hkp (by simp) (fun b hb => ⟨by omega, by omega⟩) hn 43
      have hT4 := hgr.rw hTp (fun e => (hLp.own _ e).1 rfl)
      have hI4 := hgr.rw hIp (fun e => (hLp.own _ e).2 rfl)
      have hB4 := hgr.below hBp hBp.size (fun g e => hLp.lo e)
      obtain ⟨ia, ic, rfl⟩ := hL4.val
      refine ar_v 6 46 (.slice ia ([tx (be y.t.f), tx (be y.t.n), tx (be y.t.g), tx (be y.t.p)] ++ [tx (be y.t.o)]).length ic) rfl (fun _ => by kernel_rfl) (fun _ => ol_appI _ _ rfl (by kernel_rfl) (by kernel_rfl) 43 rfl hrun) hT4 ?_ ar_nil
      refine dt 7 47 (.pointer (some ⟨g6, 2, none⟩)) (fun v hv _ => by kernel_rfl) hT4 ?_
      refine dw_ready [8] (by kernel_rfl) (by simp) ?_
      refine ar_set1 8 g6 2 (.slice ia ([tx (be y.t.f), tx (be y.t.n), tx (be y.t.g), tx (be y.t.p)] ++ [tx (be y.t.o)]).length ic) rfl (fun _ => by kernel_rfl) (fun _ => ol_storeI _ _ rfl (by kernel_rfl) (by kernel_rfl) (by rw [cell_of_row _ _ _ _ _ _ hI4]; rfl) (fun o => frozen_of_row _ _ _ _ _ hI4)) (fun w' h => (h.other (by omega)).trans hT4) ?_ ar_nil
      intro w5 hs5
      have hT5 : Rw g2 w5 y.cells 26 := (hs5.other (by omega)).trans hT4
      have hS5 : Bs w y g2 g6 [tx (be y.t.f), tx (be y.t.n), tx (be y.t.g), tx (be y.t.p), tx (be y.t.o)] w5 := ⟨hT5, ⟨_, hI4.put1 hs5, hL4.set1 hs5 (fun h => h.2 rfl)⟩, hs5.touch.below hB4 (by omega) hB4.size, hlt⟩
      refine dw_done (by kernel_rfl) ?_
      exact nw_cut [(1, .pointer (some ⟨g2, 0, none⟩)), (3, .pointer (some ⟨g6, 0, none⟩))] (by exact ⟨fun _ => by kernel_rfl, ⟨fun _ => by kernel_rfl, trivial⟩⟩) ⟨rfl, hS5⟩
    refine ar_call 4 44 46 #[.int .u64 ((y.t.o : Nat) : Int)] rfl (fun _ => by kernel_rfl) (fun _ => by kernel_rfl) (R := RKi u3.drew (tx (be y.t.o))) (rword y.t.o ok.o.o u3.drew) (fun u w' h9 => hT.go h9.2) ?_ ar_nil
    rintro _ w2 ⟨⟨z, rfl, hkl⟩, hb9⟩
    have hLc := hL
    have hsz := hb9.size
    have hl3c := hI.lt
    replace hI := hI.go hb9
    replace hL := hL.go hb9
    replace hT := hT.go hb9
    replace hB := hB.go hb9
    replace hkl := hkl.of (Q := fun b => (b ≠ g2 ∧ b ≠ g6) ∧ it.ownBlock ≠ some b) fun b hb _ => ⟨⟨by omega, by omega⟩, fun e => by have := hLc.lt e; omega⟩
    refine dw_ready [1, 5] (by kernel_rfl) (by simp) ?_
    refine ar_v 1 41 it rfl (fun _ => by kernel_rfl) (fun _ => ol_cell 43 _ ⟨g6, 2, none⟩ _ _ rfl (by kernel_rfl) (by rw [cell_of_row _ _ _ _ _ _ hI]; rfl) Try.underlying43 rfl) hT ?_ ?_
    · skip
      refine dw_ready [5] (by kernel_rfl) (by simp) ?_
      refine ar_newS 5 45 (IV z) 45 1 rfl (fun _ => by kernel_rfl) (fun _ => by kernel_rfl) (fun w' g h => hT.go h.below) ?_ ar_nil
      intro w3 gn hn
      have hLp := hL
      have hkp := hkl
      have hIp := hI
      have hTp := hT
      have hBp := hB
      replace hI := hI.go hn.below
      replace hL := hL.go hn.below
      replace hT := hT.go hn.below
      replace hB := hB.go hn.below
      replace hkl := hkl.go hn.below
      refine dw_ready [6] (by kernel_rfl) (by simp) ?_
      have hlp := hIp.lt
      obtain ⟨v1, w4, hrun, hL4, hgr⟩ := hLp.app hBp.size hkp (by simp) (fun b hb => ⟨by omega, by omega⟩) hn 43
      have hT4 := hgr.rw hTp (fun e => (hLp.own _ e).1 rfl)
      have hI4 := hgr.rw hIp (fun e => (hLp.own _ e).2 rfl)
      have hB4 := hgr.below hBp hBp.size (fun g e => hLp.lo e)
      obtain ⟨ia, ic, rfl⟩ := hL4.val
      refine ar_v 6 46 (.slice ia ([tx (be y.t.f), tx (be y.t.n), tx (be y.t.g), tx (be y.t.p)] ++ [tx (be y.t.o)]).length ic) rfl (fun _ => by kernel_rfl) (fun _ => ol_appI _ _ rfl (by kernel_rfl) (by kernel_rfl) 43 rfl hrun) hT4 ?_ ar_nil
      refine dt 7 47 (.pointer (some ⟨g6, 2, none⟩)) (fun v hv _ => by kernel_rfl) hT4 ?_
      refine dw_ready [8] (by kernel_rfl) (by simp) ?_
      refine ar_set1 8 g6 2 (.slice ia ([tx (be y.t.f), tx (be y.t.n), tx (be y.t.g), tx (be y.t.p)] ++ [tx (be y.t.o)]).length ic) rfl (fun _ => by kernel_rfl) (fun _ => ol_storeI _ _ rfl (by kernel_rfl) (by kernel_rfl) (by rw [cell_of_row _ _ _ _ _ _ hI4]; rfl) (fun o => frozen_of_row _ _ _ _ _ hI4)) (fun w' h => (h.other (by omega)).trans hT4) ?_ ar_nil
      intro w5 hs5
      have hT5 : Rw g2 w5 y.cells 26 := (hs5.other (by omega)).trans hT4
      have hS5 : Bs w y g2 g6 [tx (be y.t.f), tx (be y.t.n), tx (be y.t.g), tx (be y.t.p), tx (be y.t.o)] w5 := ⟨hT5, ⟨_, hI4.put1 hs5, hL4.set1 hs5 (fun h => h.2 rfl)⟩, hs5.touch.below hB4 (by omega) hB4.size, hlt⟩
      refine dw_done (by kernel_rfl) ?_
      exact nw_cut [(1, .pointer (some ⟨g2, 0, none⟩)), (3, .pointer (some ⟨g6, 0, none⟩))] (by exact ⟨fun _ => by kernel_rfl, ⟨fun _ => by kernel_rfl, trivial⟩⟩) ⟨rfl, hS5⟩
    refine ar_newS 5 45 (IV z) 45 1 rfl (fun _ => by kernel_rfl) (fun _ => by kernel_rfl) (fun w' g h => hT.go h.below) ?_ ar_nil
    intro w3 gn hn
    have hLp := hL
    have hkp := hkl
    have hIp := hI
    have hTp := hT
    have hBp := hB
    replace hI := hI.go hn.below
    replace hL := hL.go hn.below
    replace hT := hT.go hn.below
    replace hB := hB.go hn.below
    replace hkl := hkl.go hn.below
    refine dw_ready [1] (by kernel_rfl) (by simp) ?_
    refine ar_v 1 41 it rfl (fun _ => by kernel_rfl) (fun _ => ol_cell 43 _ ⟨g6, 2, none⟩ _ _ rfl (by kernel_rfl) (by rw [cell_of_row _ _ _ _ _ _ hI]; rfl) Try.underlying43 rfl) hT ?_ ar_nil
    refine dw_ready [6] (by kernel_rfl) (by simp) ?_
    have hlp := hIp.lt
    obtain ⟨v1, w4, hrun, hL4, hgr⟩ := hLp.app hBp.size hkp (by simp) (fun b hb => ⟨by omega, by omega⟩) hn 43
    have hT4 := hgr.rw hTp (fun e => (hLp.own _ e).1 rfl)
    have hI4 := hgr.rw hIp (fun e => (hLp.own _ e).2 rfl)
    have hB4 := hgr.below hBp hBp.size (fun g e => hLp.lo e)
    obtain ⟨ia, ic, rfl⟩ := hL4.val
    refine ar_v 6 46 (.slice ia ([tx (be y.t.f), tx (be y.t.n), tx (be y.t.g), tx (be y.t.p)] ++ [tx (be y.t.o)]).length ic) rfl (fun _ => by kernel_rfl) (fun _ => ol_appI _ _ rfl (by kernel_rfl) (by kernel_rfl) 43 rfl hrun) hT4 ?_ ar_nil
    refine dt 7 47 (.pointer (some ⟨g6, 2, none⟩)) (fun v hv _ => by kernel_rfl) hT4 ?_
    refine dw_ready [8] (by kernel_rfl) (by simp) ?_
    refine ar_set1 8 g6 2 (.slice ia ([tx (be y.t.f), tx (be y.t.n), tx (be y.t.g), tx (be y.t.p)] ++ [tx (be y.t.o)]).length ic) rfl (fun _ => by kernel_rfl) (fun _ => ol_storeI _ _ rfl (by kernel_rfl) (by kernel_rfl) (by rw [cell_of_row _ _ _ _ _ _ hI4]; rfl) (fun o => frozen_of_row _ _ _ _ _ hI4)) (fun w' h => (h.other (by omega)).trans hT4) ?_ ar_nil
    intro w5 hs5
    have hT5 : Rw g2 w5 y.cells 26 := (hs5.other (by omega)).trans hT4
    have hS5 : Bs w y g2 g6 [tx (be y.t.f), tx (be y.t.n), tx (be y.t.g), tx (be y.t.p), tx (be y.t.o)] w5 := ⟨hT5, ⟨_, hI4.put1 hs5, hL4.set1 hs5 (fun h => h.2 rfl)⟩, hs5.touch.below hB4 (by omega) hB4.size, hlt⟩
    refine dw_done (by kernel_rfl) ?_
    exact nw_cut [(1, .pointer (some ⟨g2, 0, none⟩)), (3, .pointer (some ⟨g6, 0, none⟩))] (by exact ⟨fun _ => by kernel_rfl, ⟨fun _ => by kernel_rfl, trivial⟩⟩) ⟨rfl, hS5⟩
  clear hs
  rintro _ u4 ⟨rfl, hs⟩
  refine nw_then ?_
  refine cw_seq ?_
  refine cw_cut (fun e u => e = [(1, .pointer (some ⟨g2, 0, none⟩)), (3, .pointer (some ⟨g6, 0, none⟩))] ∧ Bs w y g2 g6 [tx (be y.t.f), tx (be y.t.n), tx (be y.t.g), tx (be y.t.p), tx (be y.t.o), tx (be y.t.v)] u) ?_ ?_
  · skip
    refine cw_draw (fun v => Rw g2 v y.cells 26) (by kernel_rfl) (hs.tx.drew) ?_
    obtain ⟨it, hI, hL⟩ := (hs.go (Below.refl _ _).drew).ex
    have hT := hs.tx.drew
    have hB := hs.bel.drew
    have hlt := hs.lt
    have hl3 := hI.lt
    refine dt 0 48 (.pointer (some ⟨g6, 2, none⟩)) (fun v hv _ => by kernel_rfl) hT ?_
    refine dt 2 50 (.pointer (some ⟨g2, 5, none⟩)) (fun v hv _ => by kernel_rfl) hT ?_
    refine dt 3 51 (.int .u64 ((y.t.v : Nat) : Int)) (fun v hv _ => ol_cell 22 _ ⟨g2, 5, none⟩ _ _ rfl (by kernel_rfl) (by rw [cell_of_row _ _ _ _ _ _ hv]; rfl) Try.underlying22 rfl) hT ?_
    refine dw_ready [1, 4] (by kernel_rfl) (by simp) ?_
    refine ar_v 1 49 it rfl (fun _ => by kernel_rfl) (fun _ => ol_cell 43 _ ⟨g6, 2, none⟩ _ _ rfl (by kernel_rfl) (by rw [cell_of_row _ _ _ _ _ _ hI]; rfl) Try.underlying43 rfl) hT ?_ ?_
    · skip
      refine dw_ready [4] (by kernel_rfl) (by simp) ?_
      refine ar_call 4 52 46 #[.int .u64 ((y.t.v : Nat) : Int)] rfl (fun _ => by kernel_rfl) (fun _ => by kernel_rfl) (R := RKi u4.drew (tx (be y.t.v))) (rword y.t.v ok.o.v u4.drew) (fun u w' h9 => hT.go h9.2) ?_ ar_nil
      rintro _ w2 ⟨⟨z, rfl, hkl⟩, hb9⟩
      have hLc := hL
      have hsz := hb9.size
      have hl3c := hI.lt
      replace hI := hI.go hb9
      replace hL := hL.go hb9
      replace hT := hT.go hb9
      replace hB := hB.go hb9
      replace hkl := hkl.of (Q := fun b => (b ≠ g2 ∧ b ≠ g6) ∧ it.ownBlock ≠ some b) fun b hb _ => ⟨⟨by omega, by omega⟩, fun e => by have := hLc.lt e; omega⟩
      refine dw_ready [5] (by kernel_rfl) (by simp) ?_
      refine ar_newS 5 53 (IV z) 45 1 rfl (fun _ => by kernel_rfl) (fun _ => by kernel_rfl) (fun w' g h => hT.go h.below) ?_ ar_nil
      intro w3 gn hn
      have hLp := hL
      have hkp := hkl
      have hIp := hI
      have hTp := hT
      have hBp := hB
      replace hI := hI.go hn.below
      replace hL := hL.go hn.below
      replace hT := hT.go hn.below
      replace hB := hB.go hn.below
      replace hkl := hkl.go hn.below
      refine dw_ready [6] (by kernel_rfl) (by simp) ?_
      have hlp := hIp.lt
      obtain ⟨v1, w4, hrun, hL4, hgr⟩ := hLp.app hBp.size hkp (by simp) (fun b hb => ⟨by omega, by omega⟩) hn 43
      have hT4 := hgr.rw hTp (fun e => (hLp.own _ e).1 rfl)
      have hI4 := hgr.rw hIp (fun e => (hLp.own _ e).2 rfl)
      have hB4 := hgr.below hBp hBp.size (fun g e => hLp.lo e)
      obtain ⟨ia, ic, rfl⟩ := hL4.val
      refine ar_v 6 54 (.slice ia ([tx (be y.t.f), tx (be y.t.n), tx (be y.t.g), tx (be y.t.p), tx (be y.t.o)] ++ [tx (be y.t.v)]).length ic) rfl (fun _ => by kernel_rfl) (fun _ => ol_appI _ _ rfl (by kernel_rfl) (by kernel_rfl) 43 rfl hrun) hT4 ?_ ar_nil
      refine dt 7 55 (.pointer (some ⟨g6, 2, none⟩)) (fun v hv _ => by kernel_rfl) hT4 ?_
      refine dw_ready [8] (by kernel_rfl) (by simp) ?_
      refine ar_set1 8 g6 2 (.slice ia ([tx (be y.t.f), tx (be y.t.n), tx (be y.t.g), tx (be y.t.p), tx (be y.t.o)] ++ [tx (be y.t.v)]).length ic) rfl (fun _ => by kernel_rfl) (fun _ => ol_storeI _ _ rfl (by kernel_rfl) (by kernel_rfl) (by rw [cell_of_row _ _ _ _ _ _ hI4]; rfl) (fun o => frozen_of_row _ _ _ _ _ hI4)) (fun w' h => (h.other (by omega)).trans hT4) ?_ ar_nil
      intro w5 hs5
      have hT5 : Rw g2 w5 y.cells 26 := (hs5.other (by omega)).trans hT4
      have hS5 : Bs w y g2 g6 [tx (be y.t.f), tx (be y.t.n), tx (be y.t.g), tx (be y.t.p), tx (be y.t.o), tx (be y.t.v)] w5 := ⟨hT5, ⟨_, hI4.put1 hs5, hL4.set1 hs5 (fun h => h.2 rfl)⟩, hs5.touch.below hB4 (by omega) hB4.size, hlt⟩
      refine dw_done (by kernel_rfl) ?_
      exact nw_cut [(1, .pointer (some ⟨g2, 0, none⟩)), (3, .pointer (some ⟨g6, 0, none⟩))] (by exact ⟨fun _ => by kernel_rfl, ⟨fun _ => by kernel_rfl, trivial⟩⟩) ⟨rfl, hS5⟩
    refine ar_call 4 52 46 #[.int .u64 ((y.t.v : Nat) : Int)] rfl (fun _ => by kernel_rfl) (fun _ => by kernel_rfl) (R := RKi u4.drew (tx (be y.t.v))) (rword y.t.v ok.o.v u4.drew) (fun u w' h9 => hT.go h9.2) ?_ ar_nil
    rintro _ w2 ⟨⟨z, rfl, hkl⟩, hb9⟩
    have hLc := hL
    have hsz := hb9.size
    have hl3c := hI.lt
    replace hI := hI.go hb9
    replace hL := hL.go hb9
    replace hT := hT.go hb9
    replace hB := hB.go hb9
    replace hkl := hkl.of (Q := fun b => (b ≠ g2 ∧ b ≠ g6) ∧ it.ownBlock ≠ some b) fun b hb _ => ⟨⟨by omega, by omega⟩, fun e => by have := hLc.lt e; omega⟩
    refine dw_ready [1, 5] (by kernel_rfl) (by simp) ?_
    refine ar_v 1 49 it rfl (fun _ => by kernel_rfl) (fun _ => ol_cell 43 _ ⟨g6, 2, none⟩ _ _ rfl (by kernel_rfl) (by rw [cell_of_row _ _ _ _ _ _ hI]; rfl) Try.underlying43 rfl) hT ?_ ?_
    · skip
      refine dw_ready [5] (by kernel_rfl) (by simp) ?_
      refine ar_newS 5 53 (IV z) 45 1 rfl (fun _ => by kernel_rfl) (fun _ => by kernel_rfl) (fun w' g h => hT.go h.below) ?_ ar_nil
      intro w3 gn hn
      have hLp := hL
      have hkp := hkl
      have hIp := hI
      have hTp := hT
      have hBp := hB
      replace hI := hI.go hn.below
      replace hL := hL.go hn.below
      replace hT := hT.go hn.below
      replace hB := hB.go hn.below
      replace hkl := hkl.go hn.below
      refine dw_ready [6] (by kernel_rfl) (by simp) ?_
      have hlp := hIp.lt
      obtain ⟨v1, w4, hrun, hL4, hgr⟩ := hLp.app hBp.size hkp (by simp) (fun b hb => ⟨by omega, by omega⟩) hn 43
      have hT4 := hgr.rw hTp (fun e => (hLp.own _ e).1 rfl)
      have hI4 := hgr.rw hIp (fun e => (hLp.own _ e).2 rfl)
      have hB4 := hgr.below hBp hBp.size (fun g e => hLp.lo e)
      obtain ⟨ia, ic, rfl⟩ := hL4.val
      refine ar_v 6 54 (.slice ia ([tx (be y.t.f), tx (be y.t.n), tx (be y.t.g), tx (be y.t.p), tx (be y.t.o)] ++ [tx (be y.t.v)]).length ic) rfl (fun _ => by kernel_rfl) (fun _ => ol_appI _ _ rfl (by kernel_rfl) (by kernel_rfl) 43 rfl hrun) hT4 ?_ ar_nil
      refine dt 7 55 (.pointer (some ⟨g6, 2, none⟩)) (fun v hv _ => by kernel_rfl) hT4 ?_
      refine dw_ready [8] (by kernel_rfl) (by simp) ?_
      refine ar_set1 8 g6 2 (.slice ia ([tx (be y.t.f), tx (be y.t.n), tx (be y.t.g), tx (be y.t.p), tx (be y.t.o)] ++ [tx (be y.t.v)]).length ic) rfl (fun _ => by kernel_rfl) (fun _ => ol_storeI _ _ rfl (by kernel_rfl) (by kernel_rfl) (by rw [cell_of_row _ _ _ _ _ _ hI4]; rfl) (fun o => frozen_of_row _ _ _ _ _ hI4)) (fun w' h => (h.other (by omega)).trans hT4) ?_ ar_nil
      intro w5 hs5
      have hT5 : Rw g2 w5 y.cells 26 := (hs5.other (by omega)).trans hT4
      have hS5 : Bs w y g2 g6 [tx (be y.t.f), tx (be y.t.n), tx (be y.t.g), tx (be y.t.p), tx (be y.t.o), tx (be y.t.v)] w5 := ⟨hT5, ⟨_, hI4.put1 hs5, hL4.set1 hs5 (fun h => h.2 rfl)⟩, hs5.touch.below hB4 (by omega) hB4.size, hlt⟩
      refine dw_done (by kernel_rfl) ?_
      exact nw_cut [(1, .pointer (some ⟨g2, 0, none⟩)), (3, .pointer (some ⟨g6, 0, none⟩))] (by exact ⟨fun _ => by kernel_rfl, ⟨fun _ => by kernel_rfl, trivial⟩⟩) ⟨rfl, hS5⟩
    refine ar_newS 5 53 (IV z) 45 1 rfl (fun _ => by kernel_rfl) (fun _ => by kernel_rfl) (fun w' g h => hT.go h.below) ?_ ar_nil
    intro w3 gn hn
    have hLp := hL
    have hkp := hkl
    have hIp := hI
    have hTp := hT
    have hBp := hB
    replace hI := hI.go hn.below
    replace hL := hL.go hn.below
    replace hT := hT.go hn.below
    replace hB := hB.go hn.below
    replace hkl := hkl.go hn.below
    refine dw_ready [1] (by kernel_rfl) (by simp) ?_
    refine ar_v 1 49 it rfl (fun _ => by kernel_rfl) (fun _ => ol_cell 43 _ ⟨g6, 2, none⟩ _ _ rfl (by kernel_rfl) (by rw [cell_of_row _ _ _ _ _ _ hI]; rfl) Try.underlying43 rfl) hT ?_ ar_nil
    refine dw_ready [6] (by kernel_rfl) (by simp) ?_
    have hlp := hIp.lt
    obtain ⟨v1, w4, hrun, hL4, hgr⟩ := hLp.app hBp.size hkp (by simp) (fun b hb => ⟨by omega, by omega⟩) hn 43
    have hT4 := hgr.rw hTp (fun e => (hLp.own _ e).1 rfl)
    have hI4 := hgr.rw hIp (fun e => (hLp.own _ e).2 rfl)
    have hB4 := hgr.below hBp hBp.size (fun g e => hLp.lo e)
    obtain ⟨ia, ic, rfl⟩ := hL4.val
    refine ar_v 6 54 (.slice ia ([tx (be y.t.f), tx (be y.t.n), tx (be y.t.g), tx (be y.t.p), tx (be y.t.o)] ++ [tx (be y.t.v)]).length ic) rfl (fun _ => by kernel_rfl) (fun _ => ol_appI _ _ rfl (by kernel_rfl) (by kernel_rfl) 43 rfl hrun) hT4 ?_ ar_nil
    refine dt 7 55 (.pointer (some ⟨g6, 2, none⟩)) (fun v hv _ => by kernel_rfl) hT4 ?_
    refine dw_ready [8] (by kernel_rfl) (by simp) ?_
    refine ar_set1 8 g6 2 (.slice ia ([tx (be y.t.f), tx (be y.t.n), tx (be y.t.g), tx (be y.t.p), tx (be y.t.o)] ++ [tx (be y.t.v)]).length ic) rfl (fun _ => by kernel_rfl) (fun _ => ol_storeI _ _ rfl (by kernel_rfl) (by kernel_rfl) (by rw [cell_of_row _ _ _ _ _ _ hI4]; rfl) (fun o => frozen_of_row _ _ _ _ _ hI4)) (fun w' h => (h.other (by omega)).trans hT4) ?_ ar_nil
    intro w5 hs5
    have hT5 : Rw g2 w5 y.cells 26 := (hs5.other (by omega)).trans hT4
    have hS5 : Bs w y g2 g6 [tx (be y.t.f), tx (be y.t.n), tx (be y.t.g), tx (be y.t.p), tx (be y.t.o), tx (be y.t.v)] w5 := ⟨hT5, ⟨_, hI4.put1 hs5, hL4.set1 hs5 (fun h => h.2 rfl)⟩, hs5.touch.below hB4 (by omega) hB4.size, hlt⟩
    refine dw_done (by kernel_rfl) ?_
    exact nw_cut [(1, .pointer (some ⟨g2, 0, none⟩)), (3, .pointer (some ⟨g6, 0, none⟩))] (by exact ⟨fun _ => by kernel_rfl, ⟨fun _ => by kernel_rfl, trivial⟩⟩) ⟨rfl, hS5⟩
  clear hs
  rintro _ u5 ⟨rfl, hs⟩
  refine nw_then ?_
  refine cw_seq ?_
  have hB := hs.bel
  refine cw_region ?_
  refine rp 56 (.agg #[.bool true, .slice none 0 0, .slice none 0 0]) ?_
  refine rw_new 4 (#[.bool false, .slice none 0 0, .slice none 0 0]) 45 (fun _ => by kernel_rfl) (fun _ => by kernel_rfl) ?_
  intro w12 g13 hn14
  have hr15 : Rw g13 w12 (#[.bool false, .slice none 0 0, .slice none 0 0]) 45 := hn14.row
  refine rw_put g13 (#[.bool true, .slice none 0 0, .slice none 0 0]) (fun _ => by kernel_rfl) (fun _ => ol_store 45 _ _ _ _ _ 45 rfl (by kernel_rfl) (by kernel_rfl) hr15 (by kernel_rfl) (by kernel_rfl) (by kernel_rfl)) ?_
  intro w16 hp17
  have hbg13 : Below u5.heap.size u5 w16 := hp17.below hn14.below (Nat.le_of_eq hn14.hg.symm) (by have := hn14.size; have := hn14.hg; omega)
  have hzg13 : w.heap.size ≤ g13 := by have := hB.size; have := hn14.hg; omega
  replace hB := hB.go hbg13
  have hr18 : Rw g13 w16 (#[.bool true, .slice none 0 0, .slice none 0 0]) 45 := hr15.put hp17
  refine rw_nil ?_
  refine nw_then ?_
  refine cw_seq ?_
  refine cw_seq ?_
  have h4e : g13 = u5.heap.size := hn14.hg
  have ht : Bt u5 g13 (tws (y.t.i.take 0)) w16 := ⟨⟨_, hr18, il_nil⟩, hbg13, h4e⟩
  have hl5 := hs.lt
  obtain ⟨it3, hI3u, hL3u⟩ := hs.ex
  have hl3u := hI3u.lt
  refine cw_sub [(4, .pointer (some ⟨g13, 0, none⟩)), (1, .pointer (some ⟨g2, 0, none⟩)), (3, .pointer (some ⟨g6, 0, none⟩))] (by exact ⟨fun _ => by kernel_rfl, ⟨fun _ => by kernel_rfl, ⟨fun _ => by kernel_rfl, trivial⟩⟩⟩) ?_
  refine cw_region ?_
  refine rp 5 (.int .i64 0) ?_
  refine rw_nil ?_
  refine nw_then ?_
  refine cw_block ?_
  refine cw_loop (X := Nat) (fun z => [(5, .int .i64 ((z : Nat) : Int)), (1, .pointer (some ⟨g2, 0, none⟩)), (3, .pointer (some ⟨g6, 0, none⟩)), (4, .pointer (some ⟨g13, 0, none⟩))]) (fun z v => Bt u5 g13 (tws (y.t.i.take z)) v ∧ z ≤ y.im) (fun z => y.im - z) 0 (by exact ⟨fun _ => by kernel_rfl, ⟨fun _ => by kernel_rfl, ⟨fun _ => by kernel_rfl, ⟨fun _ => by kernel_rfl, trivial⟩⟩⟩⟩) ⟨ht, Nat.zero_le _⟩ ?_
  clear ht
  rintro i v ⟨ht, hi⟩
  show CW _ _ _ _ _ _ _ [(5, .int .i64 ((i : Nat) : Int)), (1, .pointer (some ⟨g2, 0, none⟩)), (3, .pointer (some ⟨g6, 0, none⟩)), (4, .pointer (some ⟨g13, 0, none⟩))] _
  have hTv := (hs.go ht.bel).tx
  by_cases hlt : i < y.im
  · skip
    refine cw_seq ?_
    refine cw_seq ?_
    refine cw_region ?_
    refine rp 57 (.int .i64 ((i : Nat) : Int)) ?_
    refine rp 58 (.pointer (some ⟨g2, 6, none⟩)) ?_
    refine rv 59 (.slice y.ia y.im y.ic) (fun _ => ol_cell 23 _ ⟨g2, 6, none⟩ _ _ rfl (by kernel_rfl) (by rw [cell_of_row _ _ _ _ _ _ hTv]; rfl) Try.underlying23 rfl) ?_
    refine rp 60 (.int .i64 y.im) ?_
    refine rv 61 (.bool true) (fun _ => ol_conv (v := .bool (decide (((i : Nat) : Int) < (y.im : Int)))) (by kernel_rfl) (congrArg Value.bool (decide_eq_true (by omega)))) ?_
    refine rw_nil ?_
    refine nw_then ?_
    refine cw_cond_t (fun _ => by kernel_rfl) ?_
    refine cw_skip ?_
    refine nw_then ?_
    refine cw_seq ?_
    refine cw_block ?_
    refine cw_sub [(5, .int .i64 ((i : Nat) : Int)), (1, .pointer (some ⟨g2, 0, none⟩)), (3, .pointer (some ⟨g6, 0, none⟩)), (4, .pointer (some ⟨g13, 0, none⟩))] (by exact ⟨fun _ => by kernel_rfl, ⟨fun _ => by kernel_rfl, ⟨fun _ => by kernel_rfl, ⟨fun _ => by kernel_rfl, trivial⟩⟩⟩⟩) ?_
    obtain ⟨ni, hni⟩ : ∃ n, y.t.i[i]? = some n := ⟨_, List.getElem?_eq_getElem (by rw [ok.i.e]; exact hlt)⟩
    have hnl := ok.o.i ni (List.mem_of_getElem? hni)
    obtain ⟨gb, off, hia, hcl⟩ : ∃ gb off, y.ia = some ⟨gb, off, none⟩ ∧ ∀ u, Bl w u → u.cell? ⟨gb, off + i * 1, none⟩ = some (.int .u64 ((ni : Nat) : Int)) := by
      rcases ok.i.i with ⟨h0, _⟩ | ⟨gb, off, h1, _⟩
      · omega
      · refine ⟨gb, off, h1, fun u hu => ?_⟩
        rcases (ok.i.go hu).i with ⟨h0, _⟩ | ⟨gb', off', h2, hc⟩
        · omega
        · rw [h1] at h2; cases h2; rw [Nat.mul_one, hc i hlt, List.getD, hni]; rfl
    refine cw_cut (fun e u => e = [(5, .int .i64 ((i : Nat) : Int)), (1, .pointer (some ⟨g2, 0, none⟩)), (3, .pointer (some ⟨g6, 0, none⟩)), (4, .pointer (some ⟨g13, 0, none⟩))] ∧ Bt u5 g13 (tws (y.t.i.take (i + 1))) u) ?_ ?_
    · skip
      refine cw_draw (fun v => Bl u5 v) (by kernel_rfl) (ht.bel.drew) ?_
      obtain ⟨it, hI, hL⟩ := (ht.go (Below.refl _ _).drew).ex
      have hB := ht.bel.drew
      have hl4 := hI.lt
      have hzv := hB.size
      refine dt 0 64 (.pointer (some ⟨g13, 2, none⟩)) (fun v hv _ => by kernel_rfl) hB ?_
      refine dt 2 66 (.pointer (some ⟨g2, 6, none⟩)) (fun v hv _ => by kernel_rfl) hB ?_
      refine dt 3 67 (.slice (some ⟨gb, off, none⟩) y.im y.ic) (fun v hv _ => ol_cell 23 _ ⟨g2, 6, none⟩ _ _ rfl (by kernel_rfl) (by rw [cell_of_row _ _ _ _ _ _ (hs.go hv).tx, ← hia]; rfl) Try.underlying23 rfl) hB ?_
      refine dt 4 68 (.int .i64 ((i : Nat) : Int)) (fun v hv _ => by kernel_rfl) hB ?_
      refine dt 5 69 (.pointer (some ⟨gb, off + i * 1, none⟩)) (fun v hv _ => ol_index 23 _ _ gb off i y.im y.ic 1 22 rfl (by kernel_rfl) (by kernel_rfl) hlt Try.underlying23 (by kernel_rfl)) hB ?_
      refine dt 6 70 (.int .u64 ((ni : Nat) : Int)) (fun v hv _ => ol_cell 22 _ ⟨gb, off + i * 1, none⟩ _ _ rfl (by kernel_rfl) (hcl _ (hs.bel.trans (hv.mono hs.bel.size))) Try.underlying22 rfl) hB ?_
      refine dw_ready [1, 7] (by kernel_rfl) (by simp) ?_
      refine ar_v 1 65 it rfl (fun _ => by kernel_rfl) (fun _ => ol_cell 43 _ ⟨g13, 2, none⟩ _ _ rfl (by kernel_rfl) (by rw [cell_of_row _ _ _ _ _ _ hI]; rfl) Try.underlying43 rfl) hB ?_ ?_
      · skip
        refine dw_ready [7] (by kernel_rfl) (by simp) ?_
        refine ar_call 7 71 46 #[.int .u64 ((ni : Nat) : Int)] rfl (fun _ => by kernel_rfl) (fun _ => by kernel_rfl) (R := RKi v.drew (tx (be ni))) (rword ni hnl v.drew) (fun u w' h9 => hB.go h9.2) ?_ ar_nil
        rintro _ w2 ⟨⟨z, rfl, hkl⟩, hb9⟩
        have hLc := hL
        have hsz := hb9.size
        have hl4c := hI.lt
        replace hI := hI.go hb9
        replace hL := hL.go hb9
        replace hB := hB.go hb9
        replace hkl := hkl.of (Q := fun b => g13 < b ∧ it.ownBlock ≠ some b) fun b hb _ => ⟨by omega, fun e => by have := hLc.lt e; omega⟩
        refine dw_ready [8] (by kernel_rfl) (by simp) ?_
        refine ar_newS 8 72 (IV z) 45 1 rfl (fun _ => by kernel_rfl) (fun _ => by kernel_rfl) (fun w' g h => hB.go h.below) ?_ ar_nil
        intro w3 gn hn
        have hLp := hL
        have hkp := hkl
        have hIp := hI
        have hBp := hB
        replace hI := hI.go hn.below
        replace hL := hL.go hn.below
        replace hB := hB.go hn.below
        replace hkl := hkl.go hn.below
        refine dw_ready [9] (by kernel_rfl) (by simp) ?_
        have hlp := hIp.lt
        obtain ⟨v1, w4, hrun, hL4, hgr⟩ := hLp.app (by omega) hkp (by rw [tws_len (by rw [ok.i.e]; omega)]; omega) (fun b hb => by omega) hn 43
        have hI4 := hgr.rw hIp (fun e => by have := hLp.own _ e; omega)
        have hB4 := hgr.below hBp hBp.size (fun g e => by have := hLp.lo e; omega)
        obtain ⟨ia, ic, rfl⟩ := hL4.val
        refine ar_v 9 73 (.slice ia (tws (y.t.i.take i) ++ [tx (be ni)]).length ic) rfl (fun _ => by kernel_rfl) (fun _ => ol_appI _ _ rfl (by kernel_rfl) (by kernel_rfl) 43 rfl hrun) hB4 ?_ ar_nil
        refine dt 10 74 (.pointer (some ⟨g13, 2, none⟩)) (fun v hv _ => by kernel_rfl) hB4 ?_
        refine dw_ready [11] (by kernel_rfl) (by simp) ?_
        refine ar_set1 11 g13 2 (.slice ia (tws (y.t.i.take i) ++ [tx (be ni)]).length ic) rfl (fun _ => by kernel_rfl) (fun _ => ol_storeI _ _ rfl (by kernel_rfl) (by kernel_rfl) (by rw [cell_of_row _ _ _ _ _ _ hI4]; rfl) (fun o => frozen_of_row _ _ _ _ _ hI4)) (fun w' h => h.touch.below hB4 (by omega) hB4.size) ?_ ar_nil
        intro w5 hs5
        have hB5 : Bl u5 w5 := hs5.touch.below hB4 (by omega) hB4.size
        have hS5 : Bt u5 g13 (tws (y.t.i.take (i + 1))) w5 := ⟨⟨_, hI4.put1 hs5, by rw [tws_take hni]; exact hL4.set1 hs5 (by omega)⟩, hB5, h4e⟩
        refine dw_done (by kernel_rfl) ?_
        exact nw_cut [(5, .int .i64 ((i : Nat) : Int)), (1, .pointer (some ⟨g2, 0, none⟩)), (3, .pointer (some ⟨g6, 0, none⟩)), (4, .pointer (some ⟨g13, 0, none⟩))] (by exact ⟨fun _ => by kernel_rfl, ⟨fun _ => by kernel_rfl, ⟨fun _ => by kernel_rfl, ⟨fun _ => by kernel_rfl, trivial⟩⟩⟩⟩) ⟨rfl, hS5⟩
      refine ar_call 7 71 46 #[.int .u64 ((ni : Nat) : Int)] rfl (fun _ => by kernel_rfl) (fun _ => by kernel_rfl) (R := RKi v.drew (tx (be ni))) (rword ni hnl v.drew) (fun u w' h9 => hB.go h9.2) ?_ ar_nil
      rintro _ w2 ⟨⟨z, rfl, hkl⟩, hb9⟩
      have hLc := hL
      have hsz := hb9.size
      have hl4c := hI.lt
      replace hI := hI.go hb9
      replace hL := hL.go hb9
      replace hB := hB.go hb9
      replace hkl := hkl.of (Q := fun b => g13 < b ∧ it.ownBlock ≠ some b) fun b hb _ => ⟨by omega, fun e => by have := hLc.lt e; omega⟩
      refine dw_ready [1, 8] (by kernel_rfl) (by simp) ?_
      refine ar_v 1 65 it rfl (fun _ => by kernel_rfl) (fun _ => ol_cell 43 _ ⟨g13, 2, none⟩ _ _ rfl (by kernel_rfl) (by rw [cell_of_row _ _ _ _ _ _ hI]; rfl) Try.underlying43 rfl) hB ?_ ?_
      · skip
        refine dw_ready [8] (by kernel_rfl) (by simp) ?_
        refine ar_newS 8 72 (IV z) 45 1 rfl (fun _ => by kernel_rfl) (fun _ => by kernel_rfl) (fun w' g h => hB.go h.below) ?_ ar_nil
        intro w3 gn hn
        have hLp := hL
        have hkp := hkl
        have hIp := hI
        have hBp := hB
        replace hI := hI.go hn.below
        replace hL := hL.go hn.below
        replace hB := hB.go hn.below
        replace hkl := hkl.go hn.below
        refine dw_ready [9] (by kernel_rfl) (by simp) ?_
        have hlp := hIp.lt
        obtain ⟨v1, w4, hrun, hL4, hgr⟩ := hLp.app (by omega) hkp (by rw [tws_len (by rw [ok.i.e]; omega)]; omega) (fun b hb => by omega) hn 43
        have hI4 := hgr.rw hIp (fun e => by have := hLp.own _ e; omega)
        have hB4 := hgr.below hBp hBp.size (fun g e => by have := hLp.lo e; omega)
        obtain ⟨ia, ic, rfl⟩ := hL4.val
        refine ar_v 9 73 (.slice ia (tws (y.t.i.take i) ++ [tx (be ni)]).length ic) rfl (fun _ => by kernel_rfl) (fun _ => ol_appI _ _ rfl (by kernel_rfl) (by kernel_rfl) 43 rfl hrun) hB4 ?_ ar_nil
        refine dt 10 74 (.pointer (some ⟨g13, 2, none⟩)) (fun v hv _ => by kernel_rfl) hB4 ?_
        refine dw_ready [11] (by kernel_rfl) (by simp) ?_
        refine ar_set1 11 g13 2 (.slice ia (tws (y.t.i.take i) ++ [tx (be ni)]).length ic) rfl (fun _ => by kernel_rfl) (fun _ => ol_storeI _ _ rfl (by kernel_rfl) (by kernel_rfl) (by rw [cell_of_row _ _ _ _ _ _ hI4]; rfl) (fun o => frozen_of_row _ _ _ _ _ hI4)) (fun w' h => h.touch.below hB4 (by omega) hB4.size) ?_ ar_nil
        intro w5 hs5
        have hB5 : Bl u5 w5 := hs5.touch.below hB4 (by omega) hB4.size
        have hS5 : Bt u5 g13 (tws (y.t.i.take (i + 1))) w5 := ⟨⟨_, hI4.put1 hs5, by rw [tws_take hni]; exact hL4.set1 hs5 (by omega)⟩, hB5, h4e⟩
        refine dw_done (by kernel_rfl) ?_
        exact nw_cut [(5, .int .i64 ((i : Nat) : Int)), (1, .pointer (some ⟨g2, 0, none⟩)), (3, .pointer (some ⟨g6, 0, none⟩)), (4, .pointer (some ⟨g13, 0, none⟩))] (by exact ⟨fun _ => by kernel_rfl, ⟨fun _ => by kernel_rfl, ⟨fun _ => by kernel_rfl, ⟨fun _ => by kernel_rfl, trivial⟩⟩⟩⟩) ⟨rfl, hS5⟩
      refine ar_newS 8 72 (IV z) 45 1 rfl (fun _ => by kernel_rfl) (fun _ => by kernel_rfl) (fun w' g h => hB.go h.below) ?_ ar_nil
      intro w3 gn hn
      have hLp := hL
      have hkp := hkl
      have hIp := hI
      have hBp := hB
      replace hI := hI.go hn.below
      replace hL := hL.go hn.below
      replace hB := hB.go hn.below
      replace hkl := hkl.go hn.below
      refine dw_ready [1] (by kernel_rfl) (by simp) ?_
      refine ar_v 1 65 it rfl (fun _ => by kernel_rfl) (fun _ => ol_cell 43 _ ⟨g13, 2, none⟩ _ _ rfl (by kernel_rfl) (by rw [cell_of_row _ _ _ _ _ _ hI]; rfl) Try.underlying43 rfl) hB ?_ ar_nil
      refine dw_ready [9] (by kernel_rfl) (by simp) ?_
      have hlp := hIp.lt
      obtain ⟨v1, w4, hrun, hL4, hgr⟩ := hLp.app (by omega) hkp (by rw [tws_len (by rw [ok.i.e]; omega)]; omega) (fun b hb => by omega) hn 43
      have hI4 := hgr.rw hIp (fun e => by have := hLp.own _ e; omega)
      have hB4 := hgr.below hBp hBp.size (fun g e => by have := hLp.lo e; omega)
      obtain ⟨ia, ic, rfl⟩ := hL4.val
      refine ar_v 9 73 (.slice ia (tws (y.t.i.take i) ++ [tx (be ni)]).length ic) rfl (fun _ => by kernel_rfl) (fun _ => ol_appI _ _ rfl (by kernel_rfl) (by kernel_rfl) 43 rfl hrun) hB4 ?_ ar_nil
      refine dt 10 74 (.pointer (some ⟨g13, 2, none⟩)) (fun v hv _ => by kernel_rfl) hB4 ?_
      refine dw_ready [11] (by kernel_rfl) (by simp) ?_
      refine ar_set1 11 g13 2 (.slice ia (tws (y.t.i.take i) ++ [tx (be ni)]).length ic) rfl (fun _ => by kernel_rfl) (fun _ => ol_storeI _ _ rfl (by kernel_rfl) (by kernel_rfl) (by rw [cell_of_row _ _ _ _ _ _ hI4]; rfl) (fun o => frozen_of_row _ _ _ _ _ hI4)) (fun w' h => h.touch.below hB4 (by omega) hB4.size) ?_ ar_nil
      intro w5 hs5
      have hB5 : Bl u5 w5 := hs5.touch.below hB4 (by omega) hB4.size
      have hS5 : Bt u5 g13 (tws (y.t.i.take (i + 1))) w5 := ⟨⟨_, hI4.put1 hs5, by rw [tws_take hni]; exact hL4.set1 hs5 (by omega)⟩, hB5, h4e⟩
      refine dw_done (by kernel_rfl) ?_
      exact nw_cut [(5, .int .i64 ((i : Nat) : Int)), (1, .pointer (some ⟨g2, 0, none⟩)), (3, .pointer (some ⟨g6, 0, none⟩)), (4, .pointer (some ⟨g13, 0, none⟩))] (by exact ⟨fun _ => by kernel_rfl, ⟨fun _ => by kernel_rfl, ⟨fun _ => by kernel_rfl, ⟨fun _ => by kernel_rfl, trivial⟩⟩⟩⟩) ⟨rfl, hS5⟩
    clear ht
    rintro _ v2 ⟨rfl, ht⟩
    refine nw_block ?_
    refine nw_then ?_
    refine cw_region ?_
    refine rp 62 (.int .i64 ((i : Nat) : Int)) ?_
    refine rv 63 (.int .i64 (((i : Nat) : Int) + 1)) (fun _ => ol_conv (v := .int .i64 (IntKind.i64.wrap (((i : Nat) : Int) + 1))) (by kernel_rfl) (congrArg (Value.int .i64) (wrap64 (by omega) (by omega)))) ?_
    refine rp 5 (.int .i64 (((i : Nat) : Int) + 1)) ?_
    refine rw_nil ?_
    exact nw_round (E := fun z => [(5, .int .i64 ((z : Nat) : Int)), (1, .pointer (some ⟨g2, 0, none⟩)), (3, .pointer (some ⟨g6, 0, none⟩)), (4, .pointer (some ⟨g13, 0, none⟩))]) (R := fun z v => Bt u5 g13 (tws (y.t.i.take z)) v ∧ z ≤ y.im) (μ := fun z => y.im - z) (x := i) (i + 1) (by exact ⟨fun _ => by kernel_rfl, ⟨fun _ => by kernel_rfl, ⟨fun _ => by kernel_rfl, ⟨fun _ => by kernel_rfl, trivial⟩⟩⟩⟩) ⟨ht, by omega⟩ (by show y.im - (i + 1) < y.im - i; omega)
  obtain rfl : i = y.im := by omega
  show CW _ _ _ _ _ _ _ [(5, .int .i64 ((y.im : Nat) : Int)), (1, .pointer (some ⟨g2, 0, none⟩)), (3, .pointer (some ⟨g6, 0, none⟩)), (4, .pointer (some ⟨g13, 0, none⟩))] _
  refine cw_seq ?_
  refine cw_seq ?_
  refine cw_region ?_
  refine rp 57 (.int .i64 ((y.im : Nat) : Int)) ?_
  refine rp 58 (.pointer (some ⟨g2, 6, none⟩)) ?_
  refine rv 59 (.slice y.ia y.im y.ic) (fun _ => ol_cell 23 _ ⟨g2, 6, none⟩ _ _ rfl (by kernel_rfl) (by rw [cell_of_row _ _ _ _ _ _ hTv]; rfl) Try.underlying23 rfl) ?_
  refine rp 60 (.int .i64 y.im) ?_
  refine rv 61 (.bool false) (fun _ => ol_conv (v := .bool (decide (((y.im : Nat) : Int) < (y.im : Int)))) (by kernel_rfl) (congrArg Value.bool (decide_eq_false (by omega)))) ?_
  refine rw_nil ?_
  refine nw_then ?_
  refine cw_cond_f (fun _ => by kernel_rfl) ?_
  refine cw_exit ?_
  refine nw_exit_then ?_
  refine nw_exit_then ?_
  refine nw_exit_here ?_
  refine nw_then ?_
  refine cw_seq ?_
  have hus : tws (y.t.i.take y.im) = tws y.t.i := by rw [List.take_of_length_le (by rw [ok.i.e]; omega)]
  rw [hus] at ht
  have htl : (tws y.t.i).length = y.im := by unfold tws; rw [List.length_map, ok.i.e]
  obtain ⟨it4, hI4b, hL4b⟩ := ht.ex
  obtain ⟨ia4, ic4, rfl, hk4⟩ := hL4b.item (by omega)
  have hB := (hs.go ht.bel).bel
  have hT := hTv
  have hI := hI3u.go ht.bel
  have hL := hL3u.go ht.bel
  have hl4b := hI4b.lt
  have hkl := hk4.of (Q := fun b => (b ≠ g2 ∧ b ≠ g6) ∧ it3.ownBlock ≠ some b) fun b hb _ => ⟨⟨by omega, by omega⟩, fun e => by have := hL3u.lt e; omega⟩
  refine cw_region ?_
  refine rp 75 (.pointer (some ⟨g6, 2, none⟩)) ?_
  refine rv 76 (it3) (fun _ => ol_cell 43 _ ⟨g6, 2, none⟩ _ _ rfl (by kernel_rfl) (by rw [cell_of_row _ _ _ _ _ _ hI]; rfl) Try.underlying43 rfl) ?_
  refine rv 77 (.agg (#[.bool true, .slice none 0 0, .slice ia4 (tws y.t.i).length ic4])) (fun _ => ol_row 45 _ _ _ _ _ _ rfl (by kernel_rfl) hI4b Try.underlying45 rfl (by kernel_rfl)) ?_
  refine rw_newS 78 (IV ⟨true, none, 0, 0, ia4, (tws y.t.i).length, ic4⟩) 45 1 (fun _ => by kernel_rfl) (fun _ => by kernel_rfl) ?_
  intro w19 gn19 hn19
  have hLp := hL
  have hIp := hI
  have hTp := hT
  have hBp := hB
  have hkp := hkl
  replace hT := hT.go hn19.below
  replace hI := hI.go hn19.below
  replace hL := hL.go hn19.below
  replace hB := hB.go hn19.below
  have hlp := hIp.lt
  have hsp := hBp.size
  have hltp := hTp.lt
  obtain ⟨v1, w20, hrun, hL4, hgr⟩ := hLp.app hBp.size hkp (by simp) (fun b hb => by refine ⟨?_, ?_⟩; all_goals omega) hn19 43
  have hT4 := hgr.rw hTp (fun e => (hLp.own _ e).1 rfl)
  have hI4 := hgr.rw hIp (fun e => (hLp.own _ e).2 rfl)
  have hB4 := hgr.below hBp hBp.size (fun g e => hLp.lo e)
  obtain ⟨ia20, ic20, rfl⟩ := hL4.val
  refine rw_v 79 (.slice ia20 ([tx (be y.t.f), tx (be y.t.n), tx (be y.t.g), tx (be y.t.p), tx (be y.t.o), tx (be y.t.v)] ++ [T.mk true [] (tws y.t.i)]).length ic20) (fun _ => by kernel_rfl) (fun _ => ol_appI _ _ rfl (by kernel_rfl) (by kernel_rfl) 43 rfl hrun) ?_
  refine rp 80 (.pointer (some ⟨g6, 2, none⟩)) ?_
  refine rw_set1 g6 2 (.slice ia20 ([tx (be y.t.f), tx (be y.t.n), tx (be y.t.g), tx (be y.t.p), tx (be y.t.o), tx (be y.t.v)] ++ [T.mk true [] (tws y.t.i)]).length ic20) (fun _ => by kernel_rfl) (fun _ => ol_storeI _ _ rfl (by kernel_rfl) (by kernel_rfl) (by rw [cell_of_row _ _ _ _ _ _ hI4]; rfl) (fun o => frozen_of_row _ _ _ _ _ hI4)) ?_
  intro w21 hs5
  replace hT : Rw g2 w21 y.cells 26 := (hs5.other (by omega)).trans hT4
  replace hI := hI4.put1 hs5
  replace hL := hL4.set1 hs5 (fun h => h.2 rfl)
  replace hB : Bl w w21 := hs5.touch.below hB4 (by omega) hB4.size
  replace hI : Rw g6 w21 #[.bool true, .slice none 0 0, .slice ia20 ([tx (be y.t.f), tx (be y.t.n), tx (be y.t.g), tx (be y.t.p), tx (be y.t.o), tx (be y.t.v)] ++ [T.mk true [] (tws y.t.i)]).length ic20] 45 := hI
  have hqs := hs5.touch.size
  have hgs := hgr.size
  refine rw_nil ?_
  refine nw_then ?_
  refine cw_seq ?_
  have hLq := hL
  clear hkl
  have hq1 := hT.lt
  have hq2 := hI.lt
  refine cw_region ?_
  refine rp 81 (.agg #[.bool false, .slice none 0 0, .slice none 0 0]) ?_
  refine rw_new 6 (#[.bool false, .slice none 0 0, .slice none 0 0]) 45 (fun _ => by kernel_rfl) (fun _ => by kernel_rfl) ?_
  intro w22 g23 hn24
  have hr25 : Rw g23 w22 (#[.bool false, .slice none 0 0, .slice none 0 0]) 45 := hn24.row
  refine rw_put g23 (#[.bool false, .slice none 0 0, .slice none 0 0]) (fun _ => by kernel_rfl) (fun _ => ol_store 45 _ _ _ _ _ 45 rfl (by kernel_rfl) (by kernel_rfl) hr25 (by kernel_rfl) (by kernel_rfl) (by kernel_rfl)) ?_
  intro w26 hp27
  have hbg23 : Below w21.heap.size w21 w26 := hp27.below hn24.below (Nat.le_of_eq hn24.hg.symm) (by have := hn24.size; have := hn24.hg; omega)
  have hzg23 : w.heap.size ≤ g23 := by have := hB.size; have := hn24.hg; omega
  replace hT := hT.go hbg23
  replace hI := hI.go hbg23
  replace hL := hL.go hbg23
  replace hB := hB.go hbg23
  have hr28 : Rw g23 w26 (#[.bool false, .slice none 0 0, .slice none 0 0]) 45 := hr25.put hp27
  refine rw_nil ?_
  refine nw_then ?_
  refine cw_seq ?_
  refine cw_seq ?_
  have hg6 := hn24.hg
  have hsq := hT.lt
  replace hL := (hLq.of (Q := fun b => (b ≠ g2 ∧ b ≠ g6) ∧ b ≠ g23) fun b hb hl => ⟨hb, by omega⟩).go hbg23
  clear hLq
  have h36 := hI.lt
  refine cw_region ?_
  refine rp 82 (.pointer (some ⟨g2, 7, none⟩)) ?_
  refine rv 83 (.bool y.t.m) (fun _ => ol_cell 4 _ ⟨g2, 7, none⟩ _ _ rfl (by kernel_rfl) (by rw [cell_of_row _ _ _ _ _ _ hT]; rfl) Try.underlying4 rfl) ?_
  refine rw_nil ?_
  refine nw_then ?_
  cases hq29 : (y.t.m) with
  | true =>
    refine cw_cond_t (fun _ => by kernel_rfl) ?_
    have hq3 := hr28.lt
    have hLz := hL
    refine cw_region ?_
    refine rw_newS 84 #[.int .u8 1] 5 1 (fun _ => by kernel_rfl) (fun _ => by kernel_rfl) ?_
    intro w30 g31 hn32
    replace hT := hT.go hn32.below
    replace hI := hI.go hn32.below
    replace hL := hL.go hn32.below
    replace hB := hB.go hn32.below
    replace hr28 := hr28.go hn32.below
    have ha33 : Ag w30 (some ⟨g31, 0, none⟩) 1 1 [1] := row_ag (show Row g31 w30 [1] from hn32.row) rfl (fun x hx => by simp at hx; omega) (by omega)
    refine rp 85 (.pointer (some ⟨g23, 1, none⟩)) ?_
    have hq4 := hn32.hg
    have hla := ha33
    refine rw_set1 g23 1 (.slice (some ⟨g31, 0, none⟩) 1 1) (fun _ => by kernel_rfl) (fun _ => ol_storeB _ _ rfl (by kernel_rfl) (by kernel_rfl) (by rw [cell_of_row _ _ _ _ _ _ hr28]; rfl) (fun o => frozen_of_row _ _ _ _ _ hr28)) ?_
    intro w34 hs6
    replace hT := hT.tou hs6.touch (by omega)
    replace hI := hI.tou hs6.touch (by omega)
    replace hL := hL.set1 hs6 (fun h => h.2 rfl)
    replace hB : Bl w w34 := hs6.touch.below hB (by omega) hB.size
    replace hr28 := hr28.put1 hs6
    replace hla := hla.tou hs6.touch (by rintro _ _ e; cases e; omega)
    refine rw_nil ?_
    refine nw_then ?_
    refine cw_seq ?_
    have hq7 := hr28.lt
    have hkl : KL (fun b => ((b ≠ g2 ∧ b ≠ g6) ∧ b ≠ g23) ∧ (Value.slice ia20 ([tx (be y.t.f), tx (be y.t.n), tx (be y.t.g), tx (be y.t.p), tx (be y.t.o), tx (be y.t.v)] ++ [T.mk true [] (tws y.t.i)]).length ic20).ownBlock ≠ some b) w34 (tx (mkB y.t.m)) ⟨false, (some ⟨g31, 0, none⟩), 1, 1, none, 0, 0⟩ := by rw [hq29]; exact kl_tx hla (by omega) (fun _ _ e => by cases e; exact ⟨⟨⟨by omega, by omega⟩, by omega⟩, fun e => by have := hLz.lt e; omega⟩)
    refine cw_region ?_
    refine rp 86 (.pointer (some ⟨g6, 2, none⟩)) ?_
    refine rv 87 (.slice ia20 ([tx (be y.t.f), tx (be y.t.n), tx (be y.t.g), tx (be y.t.p), tx (be y.t.o), tx (be y.t.v)] ++ [T.mk true [] (tws y.t.i)]).length ic20) (fun _ => ol_cell 43 _ ⟨g6, 2, none⟩ _ _ rfl (by kernel_rfl) (by rw [cell_of_row _ _ _ _ _ _ hI]; rfl) Try.underlying43 rfl) ?_
    refine rv 88 (.agg (#[.bool false, .slice (some ⟨g31, 0, none⟩) 1 1, .slice none 0 0])) (fun _ => ol_row 45 _ _ _ _ _ _ rfl (by kernel_rfl) hr28 Try.underlying45 rfl (by kernel_rfl)) ?_
    refine rw_newS 89 (IV ⟨false, (some ⟨g31, 0, none⟩), 1, 1, none, 0, 0⟩) 45 1 (fun _ => by kernel_rfl) (fun _ => by kernel_rfl) ?_
    intro w35 gn35 hn35
    have hLp := hL
    have hIp := hI
    have hTp := hT
    have hBp := hB
    have hkp := hkl
    replace hT := hT.go hn35.below
    replace hI := hI.go hn35.below
    replace hL := hL.go hn35.below
    replace hB := hB.go hn35.below
    have hlp := hIp.lt
    have hsp := hBp.size
    have hltp := hTp.lt
    obtain ⟨v1, w36, hrun, hL4, hgr⟩ := hLp.app hBp.size hkp (by simp) (fun b hb => by refine ⟨⟨?_, ?_⟩, ?_⟩; all_goals omega) hn35 43
    have hT4 := hgr.rw hTp (fun e => (hLp.own _ e).1.1 rfl)
    have hI4 := hgr.rw hIp (fun e => (hLp.own _ e).1.2 rfl)
    have hB4 := hgr.below hBp hBp.size (fun g e => hLp.lo e)
    obtain ⟨ia36, ic36, rfl⟩ := hL4.val
    refine rw_v 90 (.slice ia36 (([tx (be y.t.f), tx (be y.t.n), tx (be y.t.g), tx (be y.t.p), tx (be y.t.o), tx (be y.t.v)] ++ [T.mk true [] (tws y.t.i)]) ++ [tx (mkB y.t.m)]).length ic36) (fun _ => by kernel_rfl) (fun _ => ol_appI _ _ rfl (by kernel_rfl) (by kernel_rfl) 43 rfl hrun) ?_
    refine rp 91 (.pointer (some ⟨g6, 2, none⟩)) ?_
    refine rw_set1 g6 2 (.slice ia36 (([tx (be y.t.f), tx (be y.t.n), tx (be y.t.g), tx (be y.t.p), tx (be y.t.o), tx (be y.t.v)] ++ [T.mk true [] (tws y.t.i)]) ++ [tx (mkB y.t.m)]).length ic36) (fun _ => by kernel_rfl) (fun _ => ol_storeI _ _ rfl (by kernel_rfl) (by kernel_rfl) (by rw [cell_of_row _ _ _ _ _ _ hI4]; rfl) (fun o => frozen_of_row _ _ _ _ _ hI4)) ?_
    intro w37 hs5
    replace hT : Rw g2 w37 y.cells 26 := (hs5.other (by omega)).trans hT4
    replace hI := hI4.put1 hs5
    replace hL := hL4.set1 hs5 (fun h => h.1.2 rfl)
    replace hB : Bl w w37 := hs5.touch.below hB4 (by omega) hB4.size
    replace hI : Rw g6 w37 #[.bool true, .slice none 0 0, .slice ia36 (([tx (be y.t.f), tx (be y.t.n), tx (be y.t.g), tx (be y.t.p), tx (be y.t.o), tx (be y.t.v)] ++ [T.mk true [] (tws y.t.i)]) ++ [tx (mkB y.t.m)]).length ic36] 45 := hI
    have hqs := hs5.touch.size
    have hgs := hgr.size
    refine rw_nil ?_
    refine nw_then ?_
    refine cw_seq ?_
    clear hkl
    have hkl : KL (fun b => ((b ≠ g2 ∧ b ≠ g6) ∧ b ≠ g23) ∧ (Value.slice ia36 (([tx (be y.t.f), tx (be y.t.n), tx (be y.t.g), tx (be y.t.p), tx (be y.t.o), tx (be y.t.v)] ++ [T.mk true [] (tws y.t.i)]) ++ [tx (mkB y.t.m)]).length ic36).ownBlock ≠ some b) w37 (tx y.t.c) ⟨false, y.ca, y.cn, y.cc, none, 0, 0⟩ := kl_old ok.c hB (by omega) (fun g hg => ⟨⟨⟨by omega, by omega⟩, by omega⟩, fun e => by have := hL.lo e; omega⟩)
    refine cw_region ?_
    refine rp 92 (.pointer (some ⟨g6, 2, none⟩)) ?_
    refine rv 93 (.slice ia36 (([tx (be y.t.f), tx (be y.t.n), tx (be y.t.g), tx (be y.t.p), tx (be y.t.o), tx (be y.t.v)] ++ [T.mk true [] (tws y.t.i)]) ++ [tx (mkB y.t.m)]).length ic36) (fun _ => ol_cell 43 _ ⟨g6, 2, none⟩ _ _ rfl (by kernel_rfl) (by rw [cell_of_row _ _ _ _ _ _ hI]; rfl) Try.underlying43 rfl) ?_
    refine rp 94 (.pointer (some ⟨g2, 8, none⟩)) ?_
    refine rv 95 (.slice y.ca y.cn y.cc) (fun _ => ol_cell 24 _ ⟨g2, 8, none⟩ _ _ rfl (by kernel_rfl) (by rw [cell_of_row _ _ _ _ _ _ hT]; rfl) Try.underlying24 rfl) ?_
    refine rp 96 (.agg #[.bool false, .slice y.ca y.cn y.cc, .slice none 0 0]) ?_
    refine rw_newS 97 (IV ⟨false, y.ca, y.cn, y.cc, none, 0, 0⟩) 45 1 (fun _ => by kernel_rfl) (fun _ => by kernel_rfl) ?_
    intro w38 gn38 hn38
    have hLp := hL
    have hIp := hI
    have hTp := hT
    have hBp := hB
    have hkp := hkl
    replace hT := hT.go hn38.below
    replace hI := hI.go hn38.below
    replace hL := hL.go hn38.below
    replace hB := hB.go hn38.below
    have hlp := hIp.lt
    have hsp := hBp.size
    have hltp := hTp.lt
    obtain ⟨v1, w39, hrun, hL4, hgr⟩ := hLp.app hBp.size hkp (by simp) (fun b hb => by refine ⟨⟨?_, ?_⟩, ?_⟩; all_goals omega) hn38 43
    have hT4 := hgr.rw hTp (fun e => (hLp.own _ e).1.1 rfl)
    have hI4 := hgr.rw hIp (fun e => (hLp.own _ e).1.2 rfl)
    have hB4 := hgr.below hBp hBp.size (fun g e => hLp.lo e)
    obtain ⟨ia39, ic39, rfl⟩ := hL4.val
    refine rw_v 98 (.slice ia39 ((([tx (be y.t.f), tx (be y.t.n), tx (be y.t.g), tx (be y.t.p), tx (be y.t.o), tx (be y.t.v)] ++ [T.mk true [] (tws y.t.i)]) ++ [tx (mkB y.t.m)]) ++ [tx y.t.c]).length ic39) (fun _ => by kernel_rfl) (fun _ => ol_appI _ _ rfl (by kernel_rfl) (by kernel_rfl) 43 rfl hrun) ?_
    refine rp 99 (.pointer (some ⟨g6, 2, none⟩)) ?_
    refine rw_set1 g6 2 (.slice ia39 ((([tx (be y.t.f), tx (be y.t.n), tx (be y.t.g), tx (be y.t.p), tx (be y.t.o), tx (be y.t.v)] ++ [T.mk true [] (tws y.t.i)]) ++ [tx (mkB y.t.m)]) ++ [tx y.t.c]).length ic39) (fun _ => by kernel_rfl) (fun _ => ol_storeI _ _ rfl (by kernel_rfl) (by kernel_rfl) (by rw [cell_of_row _ _ _ _ _ _ hI4]; rfl) (fun o => frozen_of_row _ _ _ _ _ hI4)) ?_
    intro w40 hs5
    replace hT : Rw g2 w40 y.cells 26 := (hs5.other (by omega)).trans hT4
    replace hI := hI4.put1 hs5
    replace hL := hL4.set1 hs5 (fun h => h.1.2 rfl)
    replace hB : Bl w w40 := hs5.touch.below hB4 (by omega) hB4.size
    replace hI : Rw g6 w40 #[.bool true, .slice none 0 0, .slice ia39 ((([tx (be y.t.f), tx (be y.t.n), tx (be y.t.g), tx (be y.t.p), tx (be y.t.o), tx (be y.t.v)] ++ [T.mk true [] (tws y.t.i)]) ++ [tx (mkB y.t.m)]) ++ [tx y.t.c]).length ic39] 45 := hI
    have hqs := hs5.touch.size
    have hgs := hgr.size
    refine rw_nil ?_
    refine nw_then ?_
    refine cw_seq ?_
    refine cw_region ?_
    refine rv 100 (.agg (#[.bool true, .slice none 0 0, .slice ia39 ((([tx (be y.t.f), tx (be y.t.n), tx (be y.t.g), tx (be y.t.p), tx (be y.t.o), tx (be y.t.v)] ++ [T.mk true [] (tws y.t.i)]) ++ [tx (mkB y.t.m)]) ++ [tx y.t.c]).length ic39])) (fun _ => ol_row 45 _ _ _ _ _ _ rfl (by kernel_rfl) hI Try.underlying45 rfl (by kernel_rfl)) ?_
    refine rw_call 101 47 #[.agg (#[.bool true, .slice none 0 0, .slice ia39 ((([tx (be y.t.f), tx (be y.t.n), tx (be y.t.g), tx (be y.t.p), tx (be y.t.o), tx (be y.t.v)] ++ [T.mk true [] (tws y.t.i)]) ++ [tx (mkB y.t.m)]) ++ [tx y.t.c]).length ic39])] (fun _ => by kernel_rfl) (fun _ => by kernel_rfl) (R := RSl w40 (enX y.t)) (fin_bytes ok.o hr hL) ?_
    rintro _ w44 ⟨⟨a41, n42, c43, rfl, ha45⟩, hb46⟩
    replace hT := hT.go hb46
    replace hI := hI.go hb46
    replace hL := hL.go hb46
    replace hB := hB.go hb46
    refine rp 2 (.slice a41 n42 c43) ?_
    refine rw_nil ?_
    refine nw_then ?_
    refine cw_ret ?_
    refine nw_ret_body (.slice a41 n42 c43) (fun _ => by kernel_rfl) ?_
    exact ⟨_, rfl, ⟨_, _, _, rfl, ha45⟩, hB⟩
  | false =>
    refine cw_cond_f (fun _ => by kernel_rfl) ?_
    refine cw_skip ?_
    refine nw_then ?_
    refine cw_seq ?_
    have hq7 := hr28.lt
    have hkl : KL (fun b => ((b ≠ g2 ∧ b ≠ g6) ∧ b ≠ g23) ∧ (Value.slice ia20 ([tx (be y.t.f), tx (be y.t.n), tx (be y.t.g), tx (be y.t.p), tx (be y.t.o), tx (be y.t.v)] ++ [T.mk true [] (tws y.t.i)]).length ic20).ownBlock ≠ some b) w26 (tx (mkB y.t.m)) ⟨false, none, 0, 0, none, 0, 0⟩ := by rw [hq29]; exact kl_tx (Wo.ag_nil _) (by omega) (fun _ _ e => by cases e)
    refine cw_region ?_
    refine rp 86 (.pointer (some ⟨g6, 2, none⟩)) ?_
    refine rv 87 (.slice ia20 ([tx (be y.t.f), tx (be y.t.n), tx (be y.t.g), tx (be y.t.p), tx (be y.t.o), tx (be y.t.v)] ++ [T.mk true [] (tws y.t.i)]).length ic20) (fun _ => ol_cell 43 _ ⟨g6, 2, none⟩ _ _ rfl (by kernel_rfl) (by rw [cell_of_row _ _ _ _ _ _ hI]; rfl) Try.underlying43 rfl) ?_
    refine rv 88 (.agg (#[.bool false, .slice none 0 0, .slice none 0 0])) (fun _ => ol_row 45 _ _ _ _ _ _ rfl (by kernel_rfl) hr28 Try.underlying45 rfl (by kernel_rfl)) ?_
    refine rw_newS 89 (IV ⟨false, none, 0, 0, none, 0, 0⟩) 45 1 (fun _ => by kernel_rfl) (fun _ => by kernel_rfl) ?_
    intro w47 gn47 hn47
    have hLp := hL
    have hIp := hI
    have hTp := hT
    have hBp := hB
    have hkp := hkl
    replace hT := hT.go hn47.below
    replace hI := hI.go hn47.below
    replace hL := hL.go hn47.below
    replace hB := hB.go hn47.below
    have hlp := hIp.lt
    have hsp := hBp.size
    have hltp := hTp.lt
    obtain ⟨v1, w48, hrun, hL4, hgr⟩ := hLp.app hBp.size hkp (by simp) (fun b hb => by refine ⟨⟨?_, ?_⟩, ?_⟩; all_goals omega) hn47 43
    have hT4 := hgr.rw hTp (fun e => (hLp.own _ e).1.1 rfl)
    have hI4 := hgr.rw hIp (fun e => (hLp.own _ e).1.2 rfl)
    have hB4 := hgr.below hBp hBp.size (fun g e => hLp.lo e)
    obtain ⟨ia48, ic48, rfl⟩ := hL4.val
    refine rw_v 90 (.slice ia48 (([tx (be y.t.f), tx (be y.t.n), tx (be y.t.g), tx (be y.t.p), tx (be y.t.o), tx (be y.t.v)] ++ [T.mk true [] (tws y.t.i)]) ++ [tx (mkB y.t.m)]).length ic48) (fun _ => by kernel_rfl) (fun _ => ol_appI _ _ rfl (by kernel_rfl) (by kernel_rfl) 43 rfl hrun) ?_
    refine rp 91 (.pointer (some ⟨g6, 2, none⟩)) ?_
    refine rw_set1 g6 2 (.slice ia48 (([tx (be y.t.f), tx (be y.t.n), tx (be y.t.g), tx (be y.t.p), tx (be y.t.o), tx (be y.t.v)] ++ [T.mk true [] (tws y.t.i)]) ++ [tx (mkB y.t.m)]).length ic48) (fun _ => by kernel_rfl) (fun _ => ol_storeI _ _ rfl (by kernel_rfl) (by kernel_rfl) (by rw [cell_of_row _ _ _ _ _ _ hI4]; rfl) (fun o => frozen_of_row _ _ _ _ _ hI4)) ?_
    intro w49 hs5
    replace hT : Rw g2 w49 y.cells 26 := (hs5.other (by omega)).trans hT4
    replace hI := hI4.put1 hs5
    replace hL := hL4.set1 hs5 (fun h => h.1.2 rfl)
    replace hB : Bl w w49 := hs5.touch.below hB4 (by omega) hB4.size
    replace hI : Rw g6 w49 #[.bool true, .slice none 0 0, .slice ia48 (([tx (be y.t.f), tx (be y.t.n), tx (be y.t.g), tx (be y.t.p), tx (be y.t.o), tx (be y.t.v)] ++ [T.mk true [] (tws y.t.i)]) ++ [tx (mkB y.t.m)]).length ic48] 45 := hI
    have hqs := hs5.touch.size
    have hgs := hgr.size
    refine rw_nil ?_
    refine nw_then ?_
    refine cw_seq ?_
    clear hkl
    have hkl : KL (fun b => ((b ≠ g2 ∧ b ≠ g6) ∧ b ≠ g23) ∧ (Value.slice ia48 (([tx (be y.t.f), tx (be y.t.n), tx (be y.t.g), tx (be y.t.p), tx (be y.t.o), tx (be y.t.v)] ++ [T.mk true [] (tws y.t.i)]) ++ [tx (mkB y.t.m)]).length ic48).ownBlock ≠ some b) w49 (tx y.t.c) ⟨false, y.ca, y.cn, y.cc, none, 0, 0⟩ := kl_old ok.c hB (by omega) (fun g hg => ⟨⟨⟨by omega, by omega⟩, by omega⟩, fun e => by have := hL.lo e; omega⟩)
    refine cw_region ?_
    refine rp 92 (.pointer (some ⟨g6, 2, none⟩)) ?_
    refine rv 93 (.slice ia48 (([tx (be y.t.f), tx (be y.t.n), tx (be y.t.g), tx (be y.t.p), tx (be y.t.o), tx (be y.t.v)] ++ [T.mk true [] (tws y.t.i)]) ++ [tx (mkB y.t.m)]).length ic48) (fun _ => ol_cell 43 _ ⟨g6, 2, none⟩ _ _ rfl (by kernel_rfl) (by rw [cell_of_row _ _ _ _ _ _ hI]; rfl) Try.underlying43 rfl) ?_
    refine rp 94 (.pointer (some ⟨g2, 8, none⟩)) ?_
    refine rv 95 (.slice y.ca y.cn y.cc) (fun _ => ol_cell 24 _ ⟨g2, 8, none⟩ _ _ rfl (by kernel_rfl) (by rw [cell_of_row _ _ _ _ _ _ hT]; rfl) Try.underlying24 rfl) ?_
    refine rp 96 (.agg #[.bool false, .slice y.ca y.cn y.cc, .slice none 0 0]) ?_
    refine rw_newS 97 (IV ⟨false, y.ca, y.cn, y.cc, none, 0, 0⟩) 45 1 (fun _ => by kernel_rfl) (fun _ => by kernel_rfl) ?_
    intro w50 gn50 hn50
    have hLp := hL
    have hIp := hI
    have hTp := hT
    have hBp := hB
    have hkp := hkl
    replace hT := hT.go hn50.below
    replace hI := hI.go hn50.below
    replace hL := hL.go hn50.below
    replace hB := hB.go hn50.below
    have hlp := hIp.lt
    have hsp := hBp.size
    have hltp := hTp.lt
    obtain ⟨v1, w51, hrun, hL4, hgr⟩ := hLp.app hBp.size hkp (by simp) (fun b hb => by refine ⟨⟨?_, ?_⟩, ?_⟩; all_goals omega) hn50 43
    have hT4 := hgr.rw hTp (fun e => (hLp.own _ e).1.1 rfl)
    have hI4 := hgr.rw hIp (fun e => (hLp.own _ e).1.2 rfl)
    have hB4 := hgr.below hBp hBp.size (fun g e => hLp.lo e)
    obtain ⟨ia51, ic51, rfl⟩ := hL4.val
    refine rw_v 98 (.slice ia51 ((([tx (be y.t.f), tx (be y.t.n), tx (be y.t.g), tx (be y.t.p), tx (be y.t.o), tx (be y.t.v)] ++ [T.mk true [] (tws y.t.i)]) ++ [tx (mkB y.t.m)]) ++ [tx y.t.c]).length ic51) (fun _ => by kernel_rfl) (fun _ => ol_appI _ _ rfl (by kernel_rfl) (by kernel_rfl) 43 rfl hrun) ?_
    refine rp 99 (.pointer (some ⟨g6, 2, none⟩)) ?_
    refine rw_set1 g6 2 (.slice ia51 ((([tx (be y.t.f), tx (be y.t.n), tx (be y.t.g), tx (be y.t.p), tx (be y.t.o), tx (be y.t.v)] ++ [T.mk true [] (tws y.t.i)]) ++ [tx (mkB y.t.m)]) ++ [tx y.t.c]).length ic51) (fun _ => by kernel_rfl) (fun _ => ol_storeI _ _ rfl (by kernel_rfl) (by kernel_rfl) (by rw [cell_of_row _ _ _ _ _ _ hI4]; rfl) (fun o => frozen_of_row _ _ _ _ _ hI4)) ?_
    intro w52 hs5
    replace hT : Rw g2 w52 y.cells 26 := (hs5.other (by omega)).trans hT4
    replace hI := hI4.put1 hs5
    replace hL := hL4.set1 hs5 (fun h => h.1.2 rfl)
    replace hB : Bl w w52 := hs5.touch.below hB4 (by omega) hB4.size
    replace hI : Rw g6 w52 #[.bool true, .slice none 0 0, .slice ia51 ((([tx (be y.t.f), tx (be y.t.n), tx (be y.t.g), tx (be y.t.p), tx (be y.t.o), tx (be y.t.v)] ++ [T.mk true [] (tws y.t.i)]) ++ [tx (mkB y.t.m)]) ++ [tx y.t.c]).length ic51] 45 := hI
    have hqs := hs5.touch.size
    have hgs := hgr.size
    refine rw_nil ?_
    refine nw_then ?_
    refine cw_seq ?_
    refine cw_region ?_
    refine rv 100 (.agg (#[.bool true, .slice none 0 0, .slice ia51 ((([tx (be y.t.f), tx (be y.t.n), tx (be y.t.g), tx (be y.t.p), tx (be y.t.o), tx (be y.t.v)] ++ [T.mk true [] (tws y.t.i)]) ++ [tx (mkB y.t.m)]) ++ [tx y.t.c]).length ic51])) (fun _ => ol_row 45 _ _ _ _ _ _ rfl (by kernel_rfl) hI Try.underlying45 rfl (by kernel_rfl)) ?_
    refine rw_call 101 47 #[.agg (#[.bool true, .slice none 0 0, .slice ia51 ((([tx (be y.t.f), tx (be y.t.n), tx (be y.t.g), tx (be y.t.p), tx (be y.t.o), tx (be y.t.v)] ++ [T.mk true [] (tws y.t.i)]) ++ [tx (mkB y.t.m)]) ++ [tx y.t.c]).length ic51])] (fun _ => by kernel_rfl) (fun _ => by kernel_rfl) (R := RSl w52 (enX y.t)) (fin_bytes ok.o hr hL) ?_
    rintro _ w56 ⟨⟨a53, n54, c55, rfl, ha57⟩, hb58⟩
    replace hT := hT.go hb58
    replace hI := hI.go hb58
    replace hL := hL.go hb58
    replace hB := hB.go hb58
    refine rp 2 (.slice a53 n54 c55) ?_
    refine rw_nil ?_
    refine nw_then ?_
    refine cw_ret ?_
    refine nw_ret_body (.slice a53 n54 c55) (fun _ => by kernel_rfl) ?_
    exact ⟨_, rfl, ⟨_, _, _, rfl, ha57⟩, hB⟩
end Go.Proofs.Ytmofehloiiopfaa
/- The document's Encode of a transaction. -/
namespace Go.Proofs.Ytmofehloiiopfaa
open Go.RowKit
open Di (dref)
set_option linter.unusedVariables false
set_option maxRecDepth 100000
theorem TXa.go {w w' : World} {y : TV} (h : TXa w y) (hb : Bl w w') : TXa w' y := ⟨h.o, h.i.go hb, h.c.go hb, h.m⟩
def erX (t : PX) : Int := if rtX t = true then 0 else 160
end Go.Proofs.Ytmofehloiiopfaa
/- A transaction's words and truth, read: the program's. -/
namespace Go.Proofs.Ytmofehloiiopfaa
open Go.RowKit
open Di (dref)
set_option linter.unusedVariables false
set_option linter.unusedSimpArgs false
set_option maxRecDepth 100000
theorem tru_no1 {t : T} (h : (wp4 t).2 = false) : tru t = none := by unfold tru; rw [h]; rfl
theorem tru_no2 {t : T} (h : 1 < (wp4 t).1) : tru t = none := by unfold tru; rw [if_neg (by rw [Bool.and_eq_true, decide_eq_true_eq]; omega)]
theorem tru_yes {t : T} (h : (wp4 t).2 = true) (h2 : (wp4 t).1 ≤ 1) : tru t = some ((((wp4 t).1 : Nat) : Int) == (1 : Int)) := by
  unfold tru
  rw [if_pos (by rw [Bool.and_eq_true, decide_eq_true_eq]; exact ⟨h, h2⟩)]
  congr 1
  rw [Bool.eq_iff_iff, decide_eq_true_eq, beq_iff_eq]
  omega
theorem tru_dec {t : T} (h : (tru t).isSome = true) : (tru t).getD false = decide ((wp4 t).1 = 1) := by
  unfold tru at *
  split
  · rfl
  · rename_i hq; rw [if_neg hq] at h; cases h
/-- A row of words that was made. -/
def HdU (M : Nat) (w : World) (ts : List T) (V : Value) : Prop := ∃ g, V = .slice (some ⟨g, 0, none⟩) ts.length ts.length ∧ Rw g w ((ts.map fun t => (wp4 t).1).map u64).toArray 22 ∧ M ≤ g
theorem hd_go {b : Bool} {M : Nat} {w w' : World} {ts : List T} {V : Value} (h : b = true → HdU M w ts V) (hb : Below w.heap.size w w') : b = true → HdU M w' ts V := fun e => by
  obtain ⟨g, h1, h2, h3⟩ := h e
  exact ⟨g, h1, h2.go hb, h3⟩
def WsR (w : World) (ts : List T) : Value → World → Prop := fun v w' => (∃ V, v = .tuple #[V, .bool (wps ts).isSome] ∧ ((wps ts).isSome = true → HdU w.heap.size w' ts V)) ∧ Bl w w'
theorem wword {w : World} {t : T} {y : V} (h : Lies w t y) : Calls Try.prog 69 #[.agg (IV y)] w fun e w' => ∃ v, e = .returned v ∧ RVl w (.tuple #[.int .u64 (((wp4 t).1 : Nat) : Int), .bool (wp4 t).2]) v w' := by
  obtain ⟨hl, hag, _, hn, _⟩ := lies_un h
  unfold wp4
  have hB : Bl w w := Bl.refl w
  refine cw_enter Try.func69 rfl 11 rfl ?_
  show CW _ _ _ _ _ _ _ [(0, .agg (IV y))] _
  refine cw_seq ?_
  refine cw_region ?_
  refine rw_new 1 (IV y) 45 (fun _ => by kernel_rfl) (fun _ => by kernel_rfl) ?_
  intro w1 g2 hn3
  have hzg2 : w.heap.size ≤ g2 := by have := hB.size; have := hn3.hg; omega
  replace hB := hB.go hn3.below
  replace hag := hag.go hn3.below
  have hr4 : Rw g2 w1 (IV y) 45 := hn3.row
  refine rp 2 (.int .u64 0) ?_
  refine rp 3 (.bool false) ?_
  refine rw_nil ?_
  refine nw_then ?_
  refine cw_seq ?_
  refine cw_seq ?_
  refine cw_region ?_
  refine rp 4 (.pointer (some ⟨g2, 0, none⟩)) ?_
  refine rv 5 (.bool y.l) (fun _ => ol_cell 4 _ ⟨g2, 0, none⟩ _ _ rfl (by kernel_rfl) (by rw [cell_of_row _ _ _ _ _ _ hr4]; rfl) Try.underlying4 rfl) ?_
  refine rw_nil ?_
  refine nw_then ?_
  cases hq5 : (y.l) with
  | true =>
    refine cw_cond_t (fun _ => by kernel_rfl) ?_
    refine cw_seq ?_
    refine cw_region ?_
    refine rp 2 (.int .u64 0) ?_
    refine rp 3 (.bool false) ?_
    refine rw_nil ?_
    refine nw_then ?_
    refine cw_ret ?_
    refine nw_ret_then ?_
    refine nw_ret_body (.tuple #[.int .u64 0, .bool false]) (fun _ => by kernel_rfl) ?_
    have e : t.l = true := by rw [← hl]; exact hq5
    refine ⟨_, rfl, ?_, hB⟩
    rw [e]
    rfl
  | false =>
    refine cw_cond_f (fun _ => by kernel_rfl) ?_
    refine cw_skip ?_
    refine nw_then ?_
    refine cw_seq ?_
    refine cw_region ?_
    refine rp 6 (.pointer (some ⟨g2, 1, none⟩)) ?_
    refine rv 7 (.slice y.ba y.bn y.bc) (fun _ => ol_cell 24 _ ⟨g2, 1, none⟩ _ _ rfl (by kernel_rfl) (by rw [cell_of_row _ _ _ _ _ _ hr4]; rfl) Try.underlying24 rfl) ?_
    refine rw_call 8 78 #[.slice y.ba y.bn y.bc] (fun _ => by kernel_rfl) (fun _ => by kernel_rfl) (R := RVl w1 (.tuple #[.int .u64 (((Wo.rdP t.bs).1 : Nat) : Int), .bool (Wo.rdP t.bs).2])) (wread hag hn) ?_
    rintro _ w6 ⟨rfl, hb7⟩
    replace hB := hB.go hb7
    replace hag := hag.go hb7
    replace hr4 := hr4.go hb7
    refine rp 9 (.int .u64 (((Wo.rdP t.bs).1 : Nat) : Int)) ?_
    refine rp 10 (.bool (Wo.rdP t.bs).2) ?_
    refine rp 2 (.int .u64 (((Wo.rdP t.bs).1 : Nat) : Int)) ?_
    refine rp 3 (.bool (Wo.rdP t.bs).2) ?_
    refine rw_nil ?_
    refine nw_then ?_
    refine cw_ret ?_
    refine nw_ret_body (.tuple #[.int .u64 (((Wo.rdP t.bs).1 : Nat) : Int), .bool (Wo.rdP t.bs).2]) (fun _ => by kernel_rfl) ?_
    have e : t.l = false := by rw [← hl]; exact hq5
    refine ⟨_, rfl, ?_, hB⟩
    rw [e]
    rfl
theorem wtruth {w : World} {t : T} {y : V} (h : Lies w t y) : Calls Try.prog 50 #[.agg (IV y)] w fun e w' => ∃ v, e = .returned v ∧ RVl w (.tuple #[.bool ((tru t).getD false), .bool (tru t).isSome]) v w' := by
  have hB : Bl w w := Bl.refl w
  refine cw_enter Try.func50 rfl 18 rfl ?_
  show CW _ _ _ _ _ _ _ [(0, .agg (IV y))] _
  refine cw_seq ?_
  refine cw_region ?_
  refine rw_new 1 (IV y) 45 (fun _ => by kernel_rfl) (fun _ => by kernel_rfl) ?_
  intro w1 g2 hn3
  have hzg2 : w.heap.size ≤ g2 := by have := hB.size; have := hn3.hg; omega
  replace hB := hB.go hn3.below
  replace h := lies_mono hn3.below _ _ h
  have hr4 : Rw g2 w1 (IV y) 45 := hn3.row
  refine rp 2 (.bool false) ?_
  refine rp 3 (.bool false) ?_
  refine rw_nil ?_
  refine nw_then ?_
  refine cw_seq ?_
  refine cw_region ?_
  refine rv 6 (.agg (IV y)) (fun _ => ol_row 45 _ _ _ _ _ _ rfl (by kernel_rfl) hr4 Try.underlying45 rfl (by kernel_rfl)) ?_
  refine rw_call 7 69 #[.agg (IV y)] (fun _ => by kernel_rfl) (fun _ => by kernel_rfl) (R := RVl w1 (.tuple #[.int .u64 (((wp4 t).1 : Nat) : Int), .bool (wp4 t).2])) (wword h) ?_
  rintro _ w5 ⟨rfl, hb6⟩
  replace hB := hB.go hb6
  replace h := lies_mono hb6 _ _ h
  replace hr4 := hr4.go hb6
  refine rp 5 (.tuple #[.int .u64 (((wp4 t).1 : Nat) : Int), .bool (wp4 t).2]) ?_
  refine rp 8 (.int .u64 (((wp4 t).1 : Nat) : Int)) ?_
  refine rp 9 (.bool (wp4 t).2) ?_
  refine rp 4 (.int .u64 (((wp4 t).1 : Nat) : Int)) ?_
  refine rp 3 (.bool (wp4 t).2) ?_
  refine rw_nil ?_
  refine nw_then ?_
  refine cw_seq ?_
  refine cw_seq ?_
  refine cw_region ?_
  refine rp 10 (.bool (wp4 t).2) ?_
  refine rp 11 (.bool (!((wp4 t).2))) ?_
  refine rp 12 (.bool (!((wp4 t).2))) ?_
  cases hq7 : (!((wp4 t).2)) with
  | true =>
    refine rw_off 13 (fun _ => by kernel_rfl) ?_
    refine rw_off 14 (fun _ => by kernel_rfl) ?_
    refine rp 15 (.bool true) ?_
    refine rw_nil ?_
    refine nw_then ?_
    refine cw_cond_t (fun _ => by kernel_rfl) ?_
    refine cw_seq ?_
    refine cw_region ?_
    refine rp 2 (.bool false) ?_
    refine rp 3 (.bool false) ?_
    refine rw_nil ?_
    refine nw_then ?_
    refine cw_ret ?_
    refine nw_ret_then ?_
    refine nw_ret_body (.tuple #[.bool false, .bool false]) (fun _ => by kernel_rfl) ?_
    try simp only [Bool.not_eq_true', Bool.not_eq_false', decide_eq_true_eq, decide_eq_false_iff_not] at hq7
    exact ⟨_, rfl, by rw [tru_no1 hq7]; rfl, hB⟩
  | false =>
    refine rp 13 (.int .u64 (((wp4 t).1 : Nat) : Int)) ?_
    refine rp 14 (.bool (decide ((((wp4 t).1 : Nat) : Int) > (1 : Int)))) ?_
    refine rp 15 (.bool (decide ((((wp4 t).1 : Nat) : Int) > (1 : Int)))) ?_
    refine rw_nil ?_
    refine nw_then ?_
    cases hq8 : (decide ((((wp4 t).1 : Nat) : Int) > (1 : Int))) with
    | true =>
      refine cw_cond_t (fun _ => by kernel_rfl) ?_
      refine cw_seq ?_
      refine cw_region ?_
      refine rp 2 (.bool false) ?_
      refine rp 3 (.bool false) ?_
      refine rw_nil ?_
      refine nw_then ?_
      refine cw_ret ?_
      refine nw_ret_then ?_
      refine nw_ret_body (.tuple #[.bool false, .bool false]) (fun _ => by kernel_rfl) ?_
      try simp only [Bool.not_eq_true', Bool.not_eq_false', decide_eq_true_eq, decide_eq_false_iff_not] at hq7
      try simp only [Bool.not_eq_true', Bool.not_eq_false', decide_eq_true_eq, decide_eq_false_iff_not] at hq8
      exact ⟨_, rfl, by rw [tru_no2 (by omega)]; rfl, hB⟩
    | false =>
      refine cw_cond_f (fun _ => by kernel_rfl) ?_
      refine cw_skip ?_
      refine nw_then ?_
      refine cw_seq ?_
      refine cw_region ?_
      refine rp 16 (.int .u64 (((wp4 t).1 : Nat) : Int)) ?_
      refine rp 17 (.bool ((((wp4 t).1 : Nat) : Int) == (1 : Int))) ?_
      refine rp 2 (.bool ((((wp4 t).1 : Nat) : Int) == (1 : Int))) ?_
      refine rp 3 (.bool true) ?_
      refine rw_nil ?_
      refine nw_then ?_
      refine cw_ret ?_
      refine nw_ret_body (.tuple #[.bool ((((wp4 t).1 : Nat) : Int) == (1 : Int)), .bool true]) (fun _ => by kernel_rfl) ?_
      try simp only [Bool.not_eq_true', Bool.not_eq_false', decide_eq_true_eq, decide_eq_false_iff_not] at hq7
      try simp only [Bool.not_eq_true', Bool.not_eq_false', decide_eq_true_eq, decide_eq_false_iff_not] at hq8
      exact ⟨_, rfl, by rw [tru_yes hq7 (by omega)]; rfl, hB⟩
set_option maxHeartbeats 1000000 in
theorem wwords {w : World} {a : Option Addr} {m c : Nat} {ts : List T} (h : LiesAll w ts a 0) (hlen : m = ts.length) (hm : m ≤ 16777216) : Calls Try.prog 49 #[.slice a m c] w fun e w' => ∃ v, e = .returned v ∧ WsR w ts v w' := by
  have hll : (ts.map fun t => (wp4 t).1).length = m := by rw [List.length_map, hlen]
  have hB : Bl w w := Bl.refl w
  refine cw_enter Try.func49 rfl 32 rfl ?_
  show CW _ _ _ _ _ _ _ [(0, .slice a m c)] _
  refine cw_seq ?_
  refine cw_region ?_
  refine rp 2 (.slice none 0 0) ?_
  refine rp 3 (.bool false) ?_
  refine rw_nil ?_
  refine nw_then ?_
  refine cw_seq ?_
  refine cw_region ?_
  refine rp 9 (.slice a m c) ?_
  refine rp 10 (.int .i64 m) ?_
  refine rw_newS 11 ((List.replicate m (u64 0)).toArray) 22 m (fun _ => by kernel_rfl) (fun _ => ol_mkU _ _ (by omega) rfl (by kernel_rfl) (by kernel_rfl)) ?_
  intro w1 g2 hn3
  have hzg : w.heap.size ≤ g2 := by have := hB.size; have := hn3.hg; omega
  replace hB := hB.go hn3.below
  have hrm : Rw g2 w1 (mid (ts.map fun t => (wp4 t).1) 0) 22 := by rw [mid_zero, hll]; exact hn3.row
  refine rp 4 (.slice (some ⟨g2, 0, none⟩) m m) ?_
  refine rw_nil ?_
  refine nw_then ?_
  refine cw_seq ?_
  refine cw_seq ?_
  refine cw_region ?_
  refine rp 12 (.slice a m c) ?_
  refine rp 13 (.int .i64 m) ?_
  refine rp 14 (.int .i64 0) ?_
  refine rw_nil ?_
  refine nw_then ?_
  refine cw_block ?_
  refine cw_loop (X := Nat) (fun z => [(14, .int .i64 ((z : Nat) : Int)), (4, .slice (some ⟨g2, 0, none⟩) m m), (12, .slice a m c), (13, .int .i64 m)]) (fun z v => Bl w v ∧ Rw g2 v (mid (ts.map fun t => (wp4 t).1) z) 22 ∧ (∀ t ∈ ts.take z, (wp4 t).2 = true) ∧ z ≤ m) (fun z => m - z) 0 (by exact ⟨fun _ => by kernel_rfl, ⟨fun _ => by kernel_rfl, ⟨fun _ => by kernel_rfl, ⟨fun _ => by kernel_rfl, trivial⟩⟩⟩⟩) ⟨hB, hrm, (fun t ht => by simp at ht), Nat.zero_le _⟩ ?_
  clear hB hrm
  rintro i v ⟨hB, hrm, hal, hi⟩
  show CW _ _ _ _ _ _ _ [(14, .int .i64 ((i : Nat) : Int)), (4, .slice (some ⟨g2, 0, none⟩) m m), (12, .slice a m c), (13, .int .i64 m)] _
  by_cases hlt : i < m
  · skip
    refine cw_seq ?_
    refine cw_region ?_
    refine rv 15 (.bool true) (fun _ => ol_conv (v := .bool (decide (((i : Nat) : Int) < (m : Int)))) (by kernel_rfl) (congrArg Value.bool (decide_eq_true (by omega)))) ?_
    refine rw_nil ?_
    refine nw_then ?_
    refine cw_seq ?_
    refine cw_cond_t (fun _ => by kernel_rfl) ?_
    refine cw_skip ?_
    refine nw_then ?_
    refine cw_seq ?_
    refine cw_block ?_
    refine cw_seq ?_
    obtain ⟨x, hx⟩ : ∃ x, ts[i]? = some x := ⟨_, List.getElem?_eq_getElem (by omega)⟩
    obtain ⟨gb, off, y, hia, hcl, hly⟩ := lies_i h hx
    refine cw_region ?_
    refine rp 16 (.int .i64 ((i : Nat) : Int)) ?_
    refine rv 17 (.pointer (some ⟨gb, off + i * 3, none⟩)) (fun _ => ol_index 43 _ _ gb off i m c 3 45 rfl (congrArg (fun a => Value.slice a m c) hia) (by kernel_rfl) hlt Try.underlying43 (by kernel_rfl)) ?_
    refine rv 18 (.agg (IV y)) (fun _ => ol_mid 45 _ gb (off + i * 3) (V.cells y) _ rfl (by kernel_rfl) (hcl _ hB) Try.underlying45 rfl (by kernel_rfl)) ?_
    refine rw_new 6 (#[.bool false, .slice none 0 0, .slice none 0 0]) 45 (fun _ => by kernel_rfl) (fun _ => by kernel_rfl) ?_
    intro w4 g5 hn6
    have hlg2g5 : g2 < g5 := by have := hrm.lt; have := hn6.hg; omega
    have hzg5 : w.heap.size ≤ g5 := by have := hB.size; have := hn6.hg; omega
    replace hB := hB.go hn6.below
    replace hrm := hrm.go hn6.below
    have hr7 : Rw g5 w4 (#[.bool false, .slice none 0 0, .slice none 0 0]) 45 := hn6.row
    refine rp 5 (.int .i64 ((i : Nat) : Int)) ?_
    refine rw_put g5 (IV y) (fun _ => by kernel_rfl) (fun _ => ol_store 45 _ _ _ _ _ 45 rfl (by kernel_rfl) (by kernel_rfl) hr7 (by kernel_rfl) (by kernel_rfl) (by kernel_rfl)) ?_
    intro w8 hp9
    replace hB := hB.put hp9 hzg5
    replace hrm := hrm.past hp9 (by omega)
    replace hr7 := hr7.put hp9
    refine rw_nil ?_
    refine nw_then ?_
    refine cw_seq ?_
    refine cw_region ?_
    refine rv 20 (.agg (IV y)) (fun _ => ol_row 45 _ _ _ _ _ _ rfl (by kernel_rfl) hr7 Try.underlying45 rfl (by kernel_rfl)) ?_
    refine rw_call 21 69 #[.agg (IV y)] (fun _ => by kernel_rfl) (fun _ => by kernel_rfl) (R := RVl w8 (.tuple #[.int .u64 (((wp4 x).1 : Nat) : Int), .bool (wp4 x).2])) (wword (lies_mono hB _ _ hly)) ?_
    rintro _ w10 ⟨rfl, hb11⟩
    replace hB := hB.go hb11
    replace hrm := hrm.go hb11
    replace hr7 := hr7.go hb11
    refine rp 19 (.tuple #[.int .u64 (((wp4 x).1 : Nat) : Int), .bool (wp4 x).2]) ?_
    refine rp 22 (.int .u64 (((wp4 x).1 : Nat) : Int)) ?_
    refine rp 23 (.bool (wp4 x).2) ?_
    refine rp 7 (.int .u64 (((wp4 x).1 : Nat) : Int)) ?_
    refine rp 8 (.bool (wp4 x).2) ?_
    refine rw_nil ?_
    refine nw_then ?_
    refine cw_seq ?_
    refine cw_seq ?_
    refine cw_region ?_
    refine rp 24 (.bool (wp4 x).2) ?_
    refine rp 25 (.bool (!((wp4 x).2))) ?_
    refine rw_nil ?_
    refine nw_then ?_
    cases hq12 : (!((wp4 x).2)) with
    | true =>
      refine cw_cond_t (fun _ => by kernel_rfl) ?_
      refine cw_seq ?_
      refine cw_region ?_
      refine rp 2 (.slice none 0 0) ?_
      refine rp 3 (.bool false) ?_
      refine rw_nil ?_
      refine nw_then ?_
      refine cw_ret ?_
      refine nw_ret_then ?_
      refine nw_ret_block ?_
      refine nw_ret_then ?_
      refine nw_ret_then ?_
      refine nw_ret_block ?_
      refine nw_ret_then ?_
      refine nw_ret_body (.tuple #[.slice none 0 0, .bool false]) (fun _ => by kernel_rfl) ?_
      have hno : wps ts = none := wps_no (List.mem_of_getElem? hx) (by simpa using hq12)
      exact ⟨_, rfl, ⟨.slice none 0 0, by rw [hno]; rfl, fun e => by rw [hno] at e; cases e⟩, hB⟩
    | false =>
      refine cw_cond_f (fun _ => by kernel_rfl) ?_
      refine cw_skip ?_
      refine nw_then ?_
      refine cw_region ?_
      refine rp 26 (.slice (some ⟨g2, 0, none⟩) m m) ?_
      refine rp 27 (.int .i64 ((i : Nat) : Int)) ?_
      refine rp 28 (.int .u64 (((wp4 x).1 : Nat) : Int)) ?_
      refine rv 29 (.pointer (some ⟨g2, 0 + i * 1, none⟩)) (fun _ => ol_index 23 _ _ g2 0 i m m 1 22 rfl (by kernel_rfl) (by kernel_rfl) hlt Try.underlying23 (by kernel_rfl)) ?_
      have hlm : i < (ts.map fun t => (wp4 t).1).length := by omega
      have hc0 : ∃ u, w10.cell? ⟨g2, 0 + i * 1, none⟩ = some u := by rw [cell_of_row _ _ _ _ _ _ hrm]; exact ⟨_, Array.getElem?_eq_getElem (by rw [mid_size _ (by omega)]; omega)⟩
      obtain ⟨u0, hc0⟩ := hc0
      refine rw_set1 g2 (0 + i * 1) (.int .u64 (((wp4 x).1 : Nat) : Int)) (fun _ => by kernel_rfl) (fun _ => ol_storeU _ _ rfl (by kernel_rfl) (by kernel_rfl) hc0 (fun o => frozen_of_row _ _ _ _ _ hrm)) ?_
      intro w13 hs14
      have hsz := hB.size
      replace hB : Bl w w13 := hs14.touch.below hB hzg hB.size
      replace hrm := hrm.put1 hs14
      rw [Nat.zero_add, Nat.mul_one, show (Value.int .u64 (((wp4 x).1 : Nat) : Int)) = u64 (wp4 x).1 from rfl, mid_set _ (show (ts.map fun t => (wp4 t).1)[i]? = some (wp4 x).1 by rw [List.getElem?_map, hx]; rfl)] at hrm
      refine rw_nil ?_
      refine nw_block ?_
      refine nw_then ?_
      refine cw_region ?_
      refine rv 30 (.int .i64 (((i : Nat) : Int) + 1)) (fun _ => ol_conv (v := .int .i64 (IntKind.i64.wrap (((i : Nat) : Int) + 1))) (by kernel_rfl) (congrArg (Value.int .i64) (wrap64 (by omega) (by omega)))) ?_
      refine rp 14 (.int .i64 (((i : Nat) : Int) + 1)) ?_
      refine rw_nil ?_
      have hx2 : (wp4 x).2 = true := by simpa using hq12
      exact nw_round (E := fun z => [(14, .int .i64 ((z : Nat) : Int)), (4, .slice (some ⟨g2, 0, none⟩) m m), (12, .slice a m c), (13, .int .i64 m)]) (R := fun z v => Bl w v ∧ Rw g2 v (mid (ts.map fun t => (wp4 t).1) z) 22 ∧ (∀ t ∈ ts.take z, (wp4 t).2 = true) ∧ z ≤ m) (μ := fun z => m - z) (x := i) (i + 1) (by exact ⟨fun _ => by kernel_rfl, ⟨fun _ => by kernel_rfl, ⟨fun _ => by kernel_rfl, ⟨fun _ => by kernel_rfl, trivial⟩⟩⟩⟩) ⟨hB, hrm, (fun t ht => by rw [List.take_add_one, hx] at ht; rcases List.mem_append.1 ht with q | q; exact hal t q; simp at q; rw [q]; exact hx2), by omega⟩ (by show m - (i + 1) < m - i; omega)
  obtain rfl : i = m := by omega
  rw [show mid (ts.map fun t => (wp4 t).1) i = ((ts.map fun t => (wp4 t).1).map u64).toArray from by rw [← hll]; exact mid_all _] at hrm
  have hall : wps ts = some (ts.map fun t => (wp4 t).1) := wps_all fun t ht => hal t (by rw [hlen, List.take_length]; exact ht)
  show CW _ _ _ _ _ _ _ [(14, .int .i64 ((i : Nat) : Int)), (4, .slice (some ⟨g2, 0, none⟩) i i), (12, .slice a i c), (13, .int .i64 i)] _
  refine cw_seq ?_
  refine cw_region ?_
  refine rv 15 (.bool false) (fun _ => ol_conv (v := .bool (decide (((i : Nat) : Int) < (i : Int)))) (by kernel_rfl) (congrArg Value.bool (decide_eq_false (by omega)))) ?_
  refine rw_nil ?_
  refine nw_then ?_
  refine cw_seq ?_
  refine cw_cond_f (fun _ => by kernel_rfl) ?_
  refine cw_exit ?_
  refine nw_exit_then ?_
  refine nw_exit_then ?_
  refine nw_exit_here ?_
  refine nw_then ?_
  refine cw_seq ?_
  refine cw_region ?_
  refine rp 31 (.slice (some ⟨g2, 0, none⟩) i i) ?_
  refine rp 2 (.slice (some ⟨g2, 0, none⟩) i i) ?_
  refine rp 3 (.bool true) ?_
  refine rw_nil ?_
  refine nw_then ?_
  refine cw_ret ?_
  refine nw_ret_body (.tuple #[.slice (some ⟨g2, 0, none⟩) i i, .bool true]) (fun _ => by kernel_rfl) ?_
  exact ⟨_, rfl, ⟨.slice (some ⟨g2, 0, none⟩) i i, by rw [hall]; rfl, fun _ => ⟨g2, by rw [← hlen], hrm, hzg⟩⟩, hB⟩
theorem wwords_b {w : World} {a : Option Addr} {m c : Nat} {ts : List T} {b : Bool} (hq : (wps ts).isSome = b) (h : LiesAll w ts a 0) (hlen : m = ts.length) (hm : m ≤ 16777216) : Calls Try.prog 49 #[.slice a m c] w fun e w' => ∃ v, e = .returned v ∧ (∃ V, v = .tuple #[V, .bool b] ∧ (b = true → HdU w.heap.size w' ts V)) ∧ Bl w w' := by
  subst hq
  exact wwords h hlen hm
end Go.Proofs.Ytmofehloiiopfaa
