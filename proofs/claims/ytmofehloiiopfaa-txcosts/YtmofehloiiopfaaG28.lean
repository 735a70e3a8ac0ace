/- The program's item and bytes of a transaction. -/
import Derived.Test.YtmofehloiiopfaaG27
import Derived.Test.YtmofehloiiopfaaG25
import Derived.Test.YtmofehloiiopfaaG10
import Derived.Test.YtmofehloiiopfaaG20
import Derived.Test.YtmofehloiiopfaaG21
import Derived.Test.YtmofehloiiopfaaG24
import Derived.Test.YtmofehloiiopfaaG26
namespace Go.Proofs.Ytmofehloiiopfaa
open Go.RowKit
open Di (dref)
set_option linter.unusedVariables false
set_option linter.unusedSimpArgs false
set_option maxRecDepth 100000
set_option maxHeartbeats 1000000 in
theorem wtxitem (y : TV) (w : World) (ok : TXa w y) (hm : y.im ≤ 16777216) : Calls Try.prog 25 #[.agg y.cells] w fun e w' => ∃ v, e = .returned v ∧ (∃ z : V, v = .agg (IV z) ∧ Lies w' (itX y.t) z) ∧ Bl w w' := by
  have hB : Bl w w := Bl.refl w
  refine cw_enter Try.func25 rfl 42 rfl ?_
  show CW _ _ _ _ _ _ _ [(0, .agg #[.int .u64 ((y.t.f : Nat) : Int), .int .u64 ((y.t.n : Nat) : Int), .int .u64 ((y.t.g : Nat) : Int), .int .u64 ((y.t.p : Nat) : Int), .int .u64 ((y.t.o : Nat) : Int), .int .u64 ((y.t.v : Nat) : Int), .slice y.ia y.im y.ic, .bool y.t.m, .slice y.ca y.cn y.cc])] _
  refine cw_seq ?_
  refine cw_region ?_
  refine rw_new 1 (#[.int .u64 ((y.t.f : Nat) : Int), .int .u64 ((y.t.n : Nat) : Int), .int .u64 ((y.t.g : Nat) : Int), .int .u64 ((y.t.p : Nat) : Int), .int .u64 ((y.t.o : Nat) : Int), .int .u64 ((y.t.v : Nat) : Int), .slice y.ia y.im y.ic, .bool y.t.m, .slice y.ca y.cn y.cc]) 26 (fun _ => by kernel_rfl) (fun _ => by kernel_rfl) ?_
  intro w1 g2 hn3
  have hzg2 : w.heap.size ≤ g2 := by have := hB.size; have := hn3.hg; omega
  replace hB := hB.go hn3.below
  have hr4 : Rw g2 w1 (#[.int .u64 ((y.t.f : Nat) : Int), .int .u64 ((y.t.n : Nat) : Int), .int .u64 ((y.t.g : Nat) : Int), .int .u64 ((y.t.p : Nat) : Int), .int .u64 ((y.t.o : Nat) : Int), .int .u64 ((y.t.v : Nat) : Int), .slice y.ia y.im y.ic, .bool y.t.m, .slice y.ca y.cn y.cc]) 26 := hn3.row
  refine rw_new 2 (#[.bool false, .slice none 0 0, .slice none 0 0]) 45 (fun _ => by kernel_rfl) (fun _ => by kernel_rfl) ?_
  intro w5 g6 hn7
  have hlg2g6 : g2 < g6 := by have := hr4.lt; have := hn7.hg; omega
  have hzg6 : w.heap.size ≤ g6 := by have := hB.size; have := hn7.hg; omega
  replace hB := hB.go hn7.below
  replace hr4 := hr4.go hn7.below
  have hr8 : Rw g6 w5 (#[.bool false, .slice none 0 0, .slice none 0 0]) 45 := hn7.row
  refine rw_nil ?_
  refine nw_then ?_
  refine cw_seq ?_
  refine cw_region ?_
  refine rw_new 3 (((List.replicate 9 zV).flatMap V.cells).toArray) 61 (fun _ => by kernel_rfl) (fun _ => by kernel_rfl) ?_
  intro w9 g10 hn11
  have hlg2 : g2 < g10 := by have := hr4.lt; have := hn11.hg; omega
  have hlg6 : g6 < g10 := by have := hr8.lt; have := hn11.hg; omega
  have hzg : w.heap.size ≤ g10 := by have := hB.size; have := hn11.hg; omega
  replace hB := hB.go hn11.below
  replace hr4 := hr4.go hn11.below
  replace hr8 := hr8.go hn11.below
  have hys : Rw g10 w9 (((List.replicate 9 zV).flatMap V.cells).toArray) 61 := hn11.row
  have hgM : g10 < w9.heap.size := hys.lt
  have hal : AllP (Np w9.heap.size) w9 (List.replicate 9 t0) (List.replicate 9 zV) := allP_zero 9
  have hUs : w9.heap.size ≤ w9.heap.size := Nat.le_refl _
  have hlMg2 : g2 < w9.heap.size := by omega
  have hlMg6 : g6 < w9.heap.size := by omega
  refine rw_nil ?_
  refine nw_then ?_
  refine cw_seq ?_
  have hbv : Bl w9 w9 := Bl.refl _
  refine cw_region ?_
  refine rp 4 (.pointer (some ⟨g2, 0, none⟩)) ?_
  refine rv 5 (.int .u64 ((y.t.f : Nat) : Int)) (fun _ => ol_cell 22 _ ⟨g2, 0, none⟩ _ _ rfl (by kernel_rfl) (by rw [cell_of_row _ _ _ _ _ _ hr4]; rfl) Try.underlying22 rfl) ?_
  have hUz := Nat.le_trans hUs hbv.size
  refine rw_call 6 41 #[.int .u64 ((y.t.f : Nat) : Int)] (fun _ => by kernel_rfl) (fun _ => by kernel_rfl) (R := RIt w9.heap.size w9 (tx (be y.t.f))) (wtextOf y.t.f ok.o.f w9 (N := w9.heap.size) hUz) ?_
  rintro _ w13 ⟨⟨y12, rfl, hl14⟩, hb15⟩
  replace hB := hB.go hb15
  replace hr4 := hr4.go hb15
  replace hr8 := hr8.go hb15
  replace hys := hys.go hb15
  replace hal := allP_go hal hb15
  replace hbv := hbv.go hb15
  refine rp 7 (.pointer (some ⟨g10, 0 + 0 * 3, none⟩)) ?_
  have hsz := hB.size
  have hbU := hbv.size
  refine rw_put g10 ((((List.replicate 9 zV).set 0 y12).flatMap V.cells).toArray) (fun _ => by kernel_rfl) (fun _ => ol_storeA _ _ hys (by simp only [List.length_set, List.length_replicate]; omega) rfl (by kernel_rfl) (by kernel_rfl)) ?_
  intro w16 hp17
  replace hB := hB.put hp17 hzg
  replace hr4 := hr4.past hp17 (by omega)
  replace hr8 := hr8.past hp17 (by omega)
  replace hys := hys.put hp17
  replace hal := AllP.upd (lp_put hl14 hp17 hgM) 0 (allP_put hal hp17 hgM)
  replace hUs : w9.heap.size ≤ w16.heap.size := by rw [hp17.size]; exact Nat.le_trans hUs hbU
  clear hbv hl14
  refine rw_nil ?_
  refine nw_then ?_
  refine cw_seq ?_
  have hbv : Bl w16 w16 := Bl.refl _
  refine cw_region ?_
  refine rp 8 (.pointer (some ⟨g2, 1, none⟩)) ?_
  refine rv 9 (.int .u64 ((y.t.n : Nat) : Int)) (fun _ => ol_cell 22 _ ⟨g2, 1, none⟩ _ _ rfl (by kernel_rfl) (by rw [cell_of_row _ _ _ _ _ _ hr4]; rfl) Try.underlying22 rfl) ?_
  have hUz := Nat.le_trans hUs hbv.size
  refine rw_call 10 41 #[.int .u64 ((y.t.n : Nat) : Int)] (fun _ => by kernel_rfl) (fun _ => by kernel_rfl) (R := RIt w9.heap.size w16 (tx (be y.t.n))) (wtextOf y.t.n ok.o.n w16 (N := w9.heap.size) hUz) ?_
  rintro _ w19 ⟨⟨y18, rfl, hl20⟩, hb21⟩
  replace hB := hB.go hb21
  replace hr4 := hr4.go hb21
  replace hr8 := hr8.go hb21
  replace hys := hys.go hb21
  replace hal := allP_go hal hb21
  replace hbv := hbv.go hb21
  refine rp 11 (.pointer (some ⟨g10, 0 + 1 * 3, none⟩)) ?_
  have hsz := hB.size
  have hbU := hbv.size
  refine rw_put g10 (((((List.replicate 9 zV).set 0 y12).set 1 y18).flatMap V.cells).toArray) (fun _ => by kernel_rfl) (fun _ => ol_storeA _ _ hys (by simp only [List.length_set, List.length_replicate]; omega) rfl (by kernel_rfl) (by kernel_rfl)) ?_
  intro w22 hp23
  replace hB := hB.put hp23 hzg
  replace hr4 := hr4.past hp23 (by omega)
  replace hr8 := hr8.past hp23 (by omega)
  replace hys := hys.put hp23
  replace hal := AllP.upd (lp_put hl20 hp23 hgM) 1 (allP_put hal hp23 hgM)
  replace hUs : w9.heap.size ≤ w22.heap.size := by rw [hp23.size]; exact Nat.le_trans hUs hbU
  clear hbv hl20
  refine rw_nil ?_
  refine nw_then ?_
  refine cw_seq ?_
  have hbv : Bl w22 w22 := Bl.refl _
  refine cw_region ?_
  refine rp 12 (.pointer (some ⟨g2, 2, none⟩)) ?_
  refine rv 13 (.int .u64 ((y.t.g : Nat) : Int)) (fun _ => ol_cell 22 _ ⟨g2, 2, none⟩ _ _ rfl (by kernel_rfl) (by rw [cell_of_row _ _ _ _ _ _ hr4]; rfl) Try.underlying22 rfl) ?_
  have hUz := Nat.le_trans hUs hbv.size
  refine rw_call 14 41 #[.int .u64 ((y.t.g : Nat) : Int)] (fun _ => by kernel_rfl) (fun _ => by kernel_rfl) (R := RIt w9.heap.size w22 (tx (be y.t.g))) (wtextOf y.t.g ok.o.g w22 (N := w9.heap.size) hUz) ?_
  rintro _ w25 ⟨⟨y24, rfl, hl26⟩, hb27⟩
  replace hB := hB.go hb27
  replace hr4 := hr4.go hb27
  replace hr8 := hr8.go hb27
  replace hys := hys.go hb27
  replace hal := allP_go hal hb27
  replace hbv := hbv.go hb27
  refine rp 15 (.pointer (some ⟨g10, 0 + 2 * 3, none⟩)) ?_
  have hsz := hB.size
  have hbU := hbv.size
  refine rw_put g10 ((((((List.replicate 9 zV).set 0 y12).set 1 y18).set 2 y24).flatMap V.cells).toArray) (fun _ => by kernel_rfl) (fun _ => ol_storeA _ _ hys (by simp only [List.length_set, List.length_replicate]; omega) rfl (by kernel_rfl) (by kernel_rfl)) ?_
  intro w28 hp29
  replace hB := hB.put hp29 hzg
  replace hr4 := hr4.past hp29 (by omega)
  replace hr8 := hr8.past hp29 (by omega)
  replace hys := hys.put hp29
  replace hal := AllP.upd (lp_put hl26 hp29 hgM) 2 (allP_put hal hp29 hgM)
  replace hUs : w9.heap.size ≤ w28.heap.size := by rw [hp29.size]; exact Nat.le_trans hUs hbU
  clear hbv hl26
  refine rw_nil ?_
  refine nw_then ?_
  refine cw_seq ?_
  have hbv : Bl w28 w28 := Bl.refl _
  refine cw_region ?_
  refine rp 16 (.pointer (some ⟨g2, 3, none⟩)) ?_
  refine rv 17 (.int .u64 ((y.t.p : Nat) : Int)) (fun _ => ol_cell 22 _ ⟨g2, 3, none⟩ _ _ rfl (by kernel_rfl) (by rw [cell_of_row _ _ _ _ _ _ hr4]; rfl) Try.underlying22 rfl) ?_
  have hUz := Nat.le_trans hUs hbv.size
  refine rw_call 18 41 #[.int .u64 ((y.t.p : Nat) : Int)] (fun _ => by kernel_rfl) (fun _ => by kernel_rfl) (R := RIt w9.heap.size w28 (tx (be y.t.p))) (wtextOf y.t.p ok.o.p w28 (N := w9.heap.size) hUz) ?_
  rintro _ w31 ⟨⟨y30, rfl, hl32⟩, hb33⟩
  replace hB := hB.go hb33
  replace hr4 := hr4.go hb33
  replace hr8 := hr8.go hb33
  replace hys := hys.go hb33
  replace hal := allP_go hal hb33
  replace hbv := hbv.go hb33
  refine rp 19 (.pointer (some ⟨g10, 0 + 3 * 3, none⟩)) ?_
  have hsz := hB.size
  have hbU := hbv.size
  refine rw_put g10 (((((((List.replicate 9 zV).set 0 y12).set 1 y18).set 2 y24).set 3 y30).flatMap V.cells).toArray) (fun _ => by kernel_rfl) (fun _ => ol_storeA _ _ hys (by simp only [List.length_set, List.length_replicate]; omega) rfl (by kernel_rfl) (by kernel_rfl)) ?_
  intro w34 hp35
  replace hB := hB.put hp35 hzg
  replace hr4 := hr4.past hp35 (by omega)
  replace hr8 := hr8.past hp35 (by omega)
  replace hys := hys.put hp35
  replace hal := AllP.upd (lp_put hl32 hp35 hgM) 3 (allP_put hal hp35 hgM)
  replace hUs : w9.heap.size ≤ w34.heap.size := by rw [hp35.size]; exact Nat.le_trans hUs hbU
  clear hbv hl32
  refine rw_nil ?_
  refine nw_then ?_
  refine cw_seq ?_
  have hbv : Bl w34 w34 := Bl.refl _
  refine cw_region ?_
  refine rp 20 (.pointer (some ⟨g2, 4, none⟩)) ?_
  refine rv 21 (.int .u64 ((y.t.o : Nat) : Int)) (fun _ => ol_cell 22 _ ⟨g2, 4, none⟩ _ _ rfl (by kernel_rfl) (by rw [cell_of_row _ _ _ _ _ _ hr4]; rfl) Try.underlying22 rfl) ?_
  have hUz := Nat.le_trans hUs hbv.size
  refine rw_call 22 41 #[.int .u64 ((y.t.o : Nat) : Int)] (fun _ => by kernel_rfl) (fun _ => by kernel_rfl) (R := RIt w9.heap.size w34 (tx (be y.t.o))) (wtextOf y.t.o ok.o.o w34 (N := w9.heap.size) hUz) ?_
  rintro _ w37 ⟨⟨y36, rfl, hl38⟩, hb39⟩
  replace hB := hB.go hb39
  replace hr4 := hr4.go hb39
  replace hr8 := hr8.go hb39
  replace hys := hys.go hb39
  replace hal := allP_go hal hb39
  replace hbv := hbv.go hb39
  refine rp 23 (.pointer (some ⟨g10, 0 + 4 * 3, none⟩)) ?_
  have hsz := hB.size
  have hbU := hbv.size
  refine rw_put g10 ((((((((List.replicate 9 zV).set 0 y12).set 1 y18).set 2 y24).set 3 y30).set 4 y36).flatMap V.cells).toArray) (fun _ => by kernel_rfl) (fun _ => ol_storeA _ _ hys (by simp only [List.length_set, List.length_replicate]; omega) rfl (by kernel_rfl) (by kernel_rfl)) ?_
  intro w40 hp41
  replace hB := hB.put hp41 hzg
  replace hr4 := hr4.past hp41 (by omega)
  replace hr8 := hr8.past hp41 (by omega)
  replace hys := hys.put hp41
  replace hal := AllP.upd (lp_put hl38 hp41 hgM) 4 (allP_put hal hp41 hgM)
  replace hUs : w9.heap.size ≤ w40.heap.size := by rw [hp41.size]; exact Nat.le_trans hUs hbU
  clear hbv hl38
  refine rw_nil ?_
  refine nw_then ?_
  refine cw_seq ?_
  have hbv : Bl w40 w40 := Bl.refl _
  refine cw_region ?_
  refine rp 24 (.pointer (some ⟨g2, 5, none⟩)) ?_
  refine rv 25 (.int .u64 ((y.t.v : Nat) : Int)) (fun _ => ol_cell 22 _ ⟨g2, 5, none⟩ _ _ rfl (by kernel_rfl) (by rw [cell_of_row _ _ _ _ _ _ hr4]; rfl) Try.underlying22 rfl) ?_
  have hUz := Nat.le_trans hUs hbv.size
  refine rw_call 26 41 #[.int .u64 ((y.t.v : Nat) : Int)] (fun _ => by kernel_rfl) (fun _ => by kernel_rfl) (R := RIt w9.heap.size w40 (tx (be y.t.v))) (wtextOf y.t.v ok.o.v w40 (N := w9.heap.size) hUz) ?_
  rintro _ w43 ⟨⟨y42, rfl, hl44⟩, hb45⟩
  replace hB := hB.go hb45
  replace hr4 := hr4.go hb45
  replace hr8 := hr8.go hb45
  replace hys := hys.go hb45
  replace hal := allP_go hal hb45
  replace hbv := hbv.go hb45
  refine rp 27 (.pointer (some ⟨g10, 0 + 5 * 3, none⟩)) ?_
  have hsz := hB.size
  have hbU := hbv.size
  refine rw_put g10 (((((((((List.replicate 9 zV).set 0 y12).set 1 y18).set 2 y24).set 3 y30).set 4 y36).set 5 y42).flatMap V.cells).toArray) (fun _ => by kernel_rfl) (fun _ => ol_storeA _ _ hys (by simp only [List.length_set, List.length_replicate]; omega) rfl (by kernel_rfl) (by kernel_rfl)) ?_
  intro w46 hp47
  replace hB := hB.put hp47 hzg
  replace hr4 := hr4.past hp47 (by omega)
  replace hr8 := hr8.past hp47 (by omega)
  replace hys := hys.put hp47
  replace hal := AllP.upd (lp_put hl44 hp47 hgM) 5 (allP_put hal hp47 hgM)
  replace hUs : w9.heap.size ≤ w46.heap.size := by rw [hp47.size]; exact Nat.le_trans hUs hbU
  clear hbv hl44
  refine rw_nil ?_
  refine nw_then ?_
  refine cw_seq ?_
  have hbv : Bl w46 w46 := Bl.refl _
  refine cw_region ?_
  refine rp 28 (.pointer (some ⟨g2, 6, none⟩)) ?_
  refine rv 29 (.slice y.ia y.im y.ic) (fun _ => ol_cell 23 _ ⟨g2, 6, none⟩ _ _ rfl (by kernel_rfl) (by rw [cell_of_row _ _ _ _ _ _ hr4]; rfl) Try.underlying23 rfl) ?_
  have hUz := Nat.le_trans hUs hbv.size
  refine rw_call 30 42 #[.slice y.ia y.im y.ic] (fun _ => by kernel_rfl) (fun _ => by kernel_rfl) (R := RIt w9.heap.size w46 (.mk true [] (tws y.t.i))) (wlistOf (ok.go hB).i hm (N := w9.heap.size) hUz) ?_
  rintro _ w49 ⟨⟨y48, rfl, hl50⟩, hb51⟩
  replace hB := hB.go hb51
  replace hr4 := hr4.go hb51
  replace hr8 := hr8.go hb51
  replace hys := hys.go hb51
  replace hal := allP_go hal hb51
  replace hbv := hbv.go hb51
  refine rp 31 (.pointer (some ⟨g10, 0 + 6 * 3, none⟩)) ?_
  have hsz := hB.size
  have hbU := hbv.size
  refine rw_put g10 ((((((((((List.replicate 9 zV).set 0 y12).set 1 y18).set 2 y24).set 3 y30).set 4 y36).set 5 y42).set 6 y48).flatMap V.cells).toArray) (fun _ => by kernel_rfl) (fun _ => ol_storeA _ _ hys (by simp only [List.length_set, List.length_replicate]; omega) rfl (by kernel_rfl) (by kernel_rfl)) ?_
  intro w52 hp53
  replace hB := hB.put hp53 hzg
  replace hr4 := hr4.past hp53 (by omega)
  replace hr8 := hr8.past hp53 (by omega)
  replace hys := hys.put hp53
  replace hal := AllP.upd (lp_put hl50 hp53 hgM) 6 (allP_put hal hp53 hgM)
  replace hUs : w9.heap.size ≤ w52.heap.size := by rw [hp53.size]; exact Nat.le_trans hUs hbU
  clear hbv hl50
  refine rw_nil ?_
  refine nw_then ?_
  refine cw_seq ?_
  have hbv : Bl w52 w52 := Bl.refl _
  refine cw_region ?_
  refine rp 32 (.pointer (some ⟨g2, 7, none⟩)) ?_
  refine rv 33 (.bool y.t.m) (fun _ => ol_cell 4 _ ⟨g2, 7, none⟩ _ _ rfl (by kernel_rfl) (by rw [cell_of_row _ _ _ _ _ _ hr4]; rfl) Try.underlying4 rfl) ?_
  have hUz := Nat.le_trans hUs hbv.size
  refine rw_call 34 43 #[.bool y.t.m] (fun _ => by kernel_rfl) (fun _ => by kernel_rfl) (R := RIt w9.heap.size w52 (tx (mkB y.t.m))) (wtruthText y.t.m w52 (N := w9.heap.size) hUz) ?_
  rintro _ w55 ⟨⟨y54, rfl, hl56⟩, hb57⟩
  replace hB := hB.go hb57
  replace hr4 := hr4.go hb57
  replace hr8 := hr8.go hb57
  replace hys := hys.go hb57
  replace hal := allP_go hal hb57
  replace hbv := hbv.go hb57
  refine rp 35 (.pointer (some ⟨g10, 0 + 7 * 3, none⟩)) ?_
  have hsz := hB.size
  have hbU := hbv.size
  refine rw_put g10 (((((((((((List.replicate 9 zV).set 0 y12).set 1 y18).set 2 y24).set 3 y30).set 4 y36).set 5 y42).set 6 y48).set 7 y54).flatMap V.cells).toArray) (fun _ => by kernel_rfl) (fun _ => ol_storeA _ _ hys (by simp only [List.length_set, List.length_replicate]; omega) rfl (by kernel_rfl) (by kernel_rfl)) ?_
  intro w58 hp59
  replace hB := hB.put hp59 hzg
  replace hr4 := hr4.past hp59 (by omega)
  replace hr8 := hr8.past hp59 (by omega)
  replace hys := hys.put hp59
  replace hal := AllP.upd (lp_put hl56 hp59 hgM) 7 (allP_put hal hp59 hgM)
  replace hUs : w9.heap.size ≤ w58.heap.size := by rw [hp59.size]; exact Nat.le_trans hUs hbU
  clear hbv hl56
  refine rw_nil ?_
  refine nw_then ?_
  refine cw_seq ?_
  have hbv : Bl w58 w58 := Bl.refl _
  refine cw_region ?_
  refine rp 36 (.pointer (some ⟨g2, 8, none⟩)) ?_
  refine rv 37 (.slice y.ca y.cn y.cc) (fun _ => ol_cell 24 _ ⟨g2, 8, none⟩ _ _ rfl (by kernel_rfl) (by rw [cell_of_row _ _ _ _ _ _ hr4]; rfl) Try.underlying24 rfl) ?_
  have hUz := Nat.le_trans hUs hbv.size
  refine rw_call 38 44 #[.slice y.ca y.cn y.cc] (fun _ => by kernel_rfl) (fun _ => by kernel_rfl) (R := RIt w9.heap.size w58 (tx y.t.c)) (wtext (ok.go hB).c ok.m (N := w9.heap.size) hUz) ?_
  rintro _ w61 ⟨⟨y60, rfl, hl62⟩, hb63⟩
  replace hB := hB.go hb63
  replace hr4 := hr4.go hb63
  replace hr8 := hr8.go hb63
  replace hys := hys.go hb63
  replace hal := allP_go hal hb63
  replace hbv := hbv.go hb63
  refine rp 39 (.pointer (some ⟨g10, 0 + 8 * 3, none⟩)) ?_
  have hsz := hB.size
  have hbU := hbv.size
  refine rw_put g10 ((((((((((((List.replicate 9 zV).set 0 y12).set 1 y18).set 2 y24).set 3 y30).set 4 y36).set 5 y42).set 6 y48).set 7 y54).set 8 y60).flatMap V.cells).toArray) (fun _ => by kernel_rfl) (fun _ => ol_storeA _ _ hys (by simp only [List.length_set, List.length_replicate]; omega) rfl (by kernel_rfl) (by kernel_rfl)) ?_
  intro w64 hp65
  replace hB := hB.put hp65 hzg
  replace hr4 := hr4.past hp65 (by omega)
  replace hr8 := hr8.past hp65 (by omega)
  replace hys := hys.put hp65
  replace hal := AllP.upd (lp_put hl62 hp65 hgM) 8 (allP_put hal hp65 hgM)
  replace hUs : w9.heap.size ≤ w64.heap.size := by rw [hp65.size]; exact Nat.le_trans hUs hbU
  clear hbv hl62
  refine rw_nil ?_
  refine nw_then ?_
  refine cw_seq ?_
  refine cw_region ?_
  refine rp 40 (.slice (some ⟨g10, 0, none⟩) 9 9) ?_
  refine rw_call 41 45 #[.slice (some ⟨g10, 0, none⟩) 9 9] (fun _ => by kernel_rfl) (fun _ => by kernel_rfl) (R := RIt w9.heap.size w64 (.mk true [] ((((((((((List.replicate 9 t0).set 0 (tx (be y.t.f))).set 1 (tx (be y.t.n))).set 2 (tx (be y.t.g))).set 3 (tx (be y.t.p))).set 4 (tx (be y.t.o))).set 5 (tx (be y.t.v))).set 6 (.mk true [] (tws y.t.i))).set 7 (tx (mkB y.t.m))).set 8 (tx y.t.c)))) (list_rw (N := w9.heap.size) hUs hys hal rfl (by show 9 ≤ 16777216; omega)) ?_
  rintro _ w67 ⟨⟨y66, rfl, hl68⟩, hb69⟩
  replace hB := hB.go hb69
  replace hr4 := hr4.go hb69
  replace hr8 := hr8.go hb69
  replace hys := hys.go hb69
  replace hal := allP_go hal hb69
  refine rw_put g6 (IV y66) (fun _ => by kernel_rfl) (fun _ => ol_store 45 _ _ _ _ _ 45 rfl (by kernel_rfl) (by kernel_rfl) hr8 (by kernel_rfl) (by kernel_rfl) (by kernel_rfl)) ?_
  intro w70 hp71
  replace hB := hB.put hp71 hzg6
  replace hr4 := hr4.past hp71 (by omega)
  replace hr8 := hr8.put hp71
  replace hl68 := lp_put hl68 hp71 (by omega)
  refine rw_nil ?_
  refine nw_then ?_
  refine cw_ret ?_
  refine nw_ret_body (.agg (IV y66)) (fun _ => res_c1 rfl _ g6 _ (by kernel_rfl) hr8 Try.underlying45 rfl (by kernel_rfl)) ?_
  exact ⟨_, rfl, ⟨y66, rfl, liesP_lies _ _ hl68⟩, hB⟩
theorem wencX {t : PX} (ok : okX t) (hr : rtX t = true) {w : World} {y : V} (h : Lies w (itX t) y) : Calls Try.prog 24 #[.agg (IV y)] w fun e w' => ∃ v, e = .returned v ∧ (∃ x n c, v = .tuple #[.slice x n c, .int .i64 0] ∧ Ag w' x n c (enX t) ∧ Fr w.heap.size w' x n) ∧ Bl w w' := by
  refine (encode_own (itX t) y w h).mono ?_
  rintro e w' ⟨⟨x, n, c, rfl, hag, hfr⟩, hb⟩
  have he : encP (itX t) = (enX t, 0) := encP_yes (mX ok hr)
  rw [he] at hag ⊢
  exact ⟨_, rfl, ⟨x, n, c, rfl, hag, hfr⟩, hb⟩
/-- What Encode of a transaction tells. -/
def REx (w : World) (t : PX) : Value → World → Prop := fun v w' => (∃ x n c, v = .tuple #[.slice x n c, .int .i64 (erX t)] ∧ Ag w' x n c (if rtX t = true then enX t else []) ∧ Fr w.heap.size w' x n) ∧ Bl w w'
theorem wtxenc (y : TV) (w : World) (ok : TXa w y) : Calls Try.prog 9 #[.agg y.cells] w fun e w' => ∃ v, e = .returned v ∧ REx w y.t v w' := by
  have hB : Bl w w := Bl.refl w
  refine cw_enter Try.func9 rfl 12 rfl ?_
  show CW _ _ _ _ _ _ _ [(0, .agg #[.int .u64 ((y.t.f : Nat) : Int), .int .u64 ((y.t.n : Nat) : Int), .int .u64 ((y.t.g : Nat) : Int), .int .u64 ((y.t.p : Nat) : Int), .int .u64 ((y.t.o : Nat) : Int), .int .u64 ((y.t.v : Nat) : Int), .slice y.ia y.im y.ic, .bool y.t.m, .slice y.ca y.cn y.cc])] _
  refine cw_seq ?_
  refine cw_region ?_
  refine rw_new 1 (#[.int .u64 ((y.t.f : Nat) : Int), .int .u64 ((y.t.n : Nat) : Int), .int .u64 ((y.t.g : Nat) : Int), .int .u64 ((y.t.p : Nat) : Int), .int .u64 ((y.t.o : Nat) : Int), .int .u64 ((y.t.v : Nat) : Int), .slice y.ia y.im y.ic, .bool y.t.m, .slice y.ca y.cn y.cc]) 26 (fun _ => by kernel_rfl) (fun _ => by kernel_rfl) ?_
  intro w1 g2 hn3
  have hzg2 : w.heap.size ≤ g2 := by have := hB.size; have := hn3.hg; omega
  replace hB := hB.go hn3.below
  have hr4 : Rw g2 w1 (#[.int .u64 ((y.t.f : Nat) : Int), .int .u64 ((y.t.n : Nat) : Int), .int .u64 ((y.t.g : Nat) : Int), .int .u64 ((y.t.p : Nat) : Int), .int .u64 ((y.t.o : Nat) : Int), .int .u64 ((y.t.v : Nat) : Int), .slice y.ia y.im y.ic, .bool y.t.m, .slice y.ca y.cn y.cc]) 26 := hn3.row
  refine rp 2 (.slice none 0 0) ?_
  refine rp 3 (.int .i64 0) ?_
  refine rw_nil ?_
  refine nw_then ?_
  refine cw_seq ?_
  refine cw_seq ?_
  refine cw_region ?_
  refine rv 4 (.agg (#[.int .u64 ((y.t.f : Nat) : Int), .int .u64 ((y.t.n : Nat) : Int), .int .u64 ((y.t.g : Nat) : Int), .int .u64 ((y.t.p : Nat) : Int), .int .u64 ((y.t.o : Nat) : Int), .int .u64 ((y.t.v : Nat) : Int), .slice y.ia y.im y.ic, .bool y.t.m, .slice y.ca y.cn y.cc])) (fun _ => ol_row 26 _ _ _ _ _ _ rfl (by kernel_rfl) hr4 Try.underlying26 rfl (by kernel_rfl)) ?_
  refine rw_call 5 13 #[.agg (#[.int .u64 ((y.t.f : Nat) : Int), .int .u64 ((y.t.n : Nat) : Int), .int .u64 ((y.t.g : Nat) : Int), .int .u64 ((y.t.p : Nat) : Int), .int .u64 ((y.t.o : Nat) : Int), .int .u64 ((y.t.v : Nat) : Int), .slice y.ia y.im y.ic, .bool y.t.m, .slice y.ca y.cn y.cc])] (fun _ => by kernel_rfl) (fun _ => by kernel_rfl) (R := RVl w1 (.bool (rtX y.t))) (wright y w1 (ok.go hB)) ?_
  rintro _ w5 ⟨rfl, hb6⟩
  replace hB := hB.go hb6
  replace hr4 := hr4.go hb6
  refine rp 6 (.bool (!(rtX y.t))) ?_
  refine rw_nil ?_
  refine nw_then ?_
  cases hq7 : (!(rtX y.t)) with
  | true =>
    refine cw_cond_t (fun _ => by kernel_rfl) ?_
    refine cw_seq ?_
    refine cw_region ?_
    refine rp 2 (.slice none 0 0) ?_
    refine rp 3 (.int .i64 160) ?_
    refine rw_nil ?_
    refine nw_then ?_
    refine cw_ret ?_
    refine nw_ret_then ?_
    refine nw_ret_body (.tuple #[.slice none 0 0, .int .i64 160]) (fun _ => by kernel_rfl) ?_
    have hn : rtX y.t = false := by simpa using hq7
    exact ⟨_, rfl, ⟨none, 0, 0, by rw [erX, hn]; rfl, by rw [hn]; exact Wo.ag_nil _, fun g off e => by cases e⟩, hB⟩
  | false =>
    refine cw_cond_f (fun _ => by kernel_rfl) ?_
    refine cw_skip ?_
    refine nw_then ?_
    refine cw_seq ?_
    refine cw_region ?_
    refine rv 7 (.agg (#[.int .u64 ((y.t.f : Nat) : Int), .int .u64 ((y.t.n : Nat) : Int), .int .u64 ((y.t.g : Nat) : Int), .int .u64 ((y.t.p : Nat) : Int), .int .u64 ((y.t.o : Nat) : Int), .int .u64 ((y.t.v : Nat) : Int), .slice y.ia y.im y.ic, .bool y.t.m, .slice y.ca y.cn y.cc])) (fun _ => ol_row 26 _ _ _ _ _ _ rfl (by kernel_rfl) hr4 Try.underlying26 rfl (by kernel_rfl)) ?_
    have hr : rtX y.t = true := by simpa using hq7
    obtain ⟨h8, h256⟩ := rtX_len hr
    rw [ok.i.e] at h8
    refine rw_call 8 25 #[.agg (#[.int .u64 ((y.t.f : Nat) : Int), .int .u64 ((y.t.n : Nat) : Int), .int .u64 ((y.t.g : Nat) : Int), .int .u64 ((y.t.p : Nat) : Int), .int .u64 ((y.t.o : Nat) : Int), .int .u64 ((y.t.v : Nat) : Int), .slice y.ia y.im y.ic, .bool y.t.m, .slice y.ca y.cn y.cc])] (fun _ => by kernel_rfl) (fun _ => by kernel_rfl) (R := fun v w' => (∃ z : V, v = .agg (IV z) ∧ Lies w' (itX y.t) z) ∧ Bl w5 w') (wtxitem y w5 (ok.go hB) (by omega)) ?_
    rintro _ w9 ⟨⟨z8, rfl, hl10⟩, hb11⟩
    replace hB := hB.go hb11
    replace hr4 := hr4.go hb11
    refine rw_call 9 24 #[.agg (IV z8)] (fun _ => by kernel_rfl) (fun _ => by kernel_rfl) (R := fun v w' => (∃ x n c, v = .tuple #[.slice x n c, .int .i64 0] ∧ Ag w' x n c (enX y.t) ∧ Fr w9.heap.size w' x n) ∧ Bl w9 w') (wencX ok.o hr hl10) ?_
    rintro _ w15 ⟨⟨a12, n13, c14, rfl, ha16, hf17⟩, hb18⟩
    have hws : w.heap.size ≤ w9.heap.size := hB.size
    replace hB := hB.go hb18
    replace hr4 := hr4.go hb18
    replace hl10 := lies_mono hb18 _ _ hl10
    refine rp 10 (.slice a12 n13 c14) ?_
    refine rp 11 (.int .i64 0) ?_
    refine rp 2 (.slice a12 n13 c14) ?_
    refine rp 3 (.int .i64 0) ?_
    refine rw_nil ?_
    refine nw_then ?_
    refine cw_ret ?_
    refine nw_ret_body (.tuple #[.slice a12 n13 c14, .int .i64 0]) (fun _ => by kernel_rfl) ?_
    exact ⟨_, rfl, ⟨_, _, _, by rw [erX, hr]; rfl, by rw [hr]; exact ha16, fun g off e h0 => ⟨Nat.le_trans hws (hf17 g off e h0).1, (hf17 g off e h0).2⟩⟩, hB⟩
end Go.Proofs.Ytmofehloiiopfaa
/- The document's Same. -/
namespace Go.Proofs.Ytmofehloiiopfaa
open Go.RowKit
open Di (dref)
set_option linter.unusedVariables false
set_option linter.unusedSimpArgs false
set_option maxRecDepth 100000
def smX (a b : PX) : Bool := decide (a.f = b.f ∧ a.n = b.n ∧ a.g = b.g ∧ a.p = b.p ∧ a.o = b.o ∧ a.v = b.v ∧ a.i = b.i ∧ a.m = b.m ∧ a.c = b.c)
def pre9 (a b : PX) : Prop := a.f = b.f ∧ a.n = b.n ∧ a.g = b.g ∧ a.p = b.p ∧ a.o = b.o ∧ a.v = b.v ∧ a.m = b.m ∧ a.c = b.c
end Go.Proofs.Ytmofehloiiopfaa
/- The laws of transactions. -/
namespace Go.Proofs.Ytmofehloiiopfaa
open Go.RowKit
open Di (dref)
set_option linter.unusedVariables false
set_option linter.unusedSimpArgs false
set_option maxRecDepth 100000
/-- What a law's call comes to. -/
def Law16 (w : World) : Ending → World → Prop := fun e w' => e = .returned (.bool true) ∧ Below w.heap.size w w'
def RDy (w : World) (D : PX) (er : Int) : Value → World → Prop := fun v w' => (∃ z : TV, v = .tuple #[.agg z.cells, .int .i64 er] ∧ z.t = D ∧ TXa w' z ∧ NwX w.heap.size z) ∧ Bl w w'
def REy (w : World) (bs : List Int) (er : Int) : Value → World → Prop := fun v w' => (∃ x n c, v = .tuple #[.slice x n c, .int .i64 er] ∧ Ag w' x n c bs ∧ Fr w.heap.size w' x n) ∧ Bl w w'
def a1 : PX := ⟨1, 0, 100, 2, 2, 7, [], false, []⟩
def a2 : PX := ⟨1, 0, 0, 0, 0, 0, [], true, [0]⟩
def b1 : List Int := [201, 1, 128, 100, 2, 2, 7, 192, 128, 128]
def b2 : List Int := [201, 1, 128, 128, 128, 128, 128, 192, 1, 0]
theorem b1_str : ((strOfNums b1).toList == (⟨#[201, 1, 128, 100, 2, 2, 7, 192, 128, 128]⟩ : ByteArray).toList) = true := by decide +kernel
theorem a1_ok : okX a1 := ⟨by decide, by decide, by decide, by decide, by decide, by decide, (fun x hx => by cases hx), (fun x hx => by cases hx)⟩
theorem a2_ok : okX a2 := ⟨by decide, by decide, by decide, by decide, by decide, by decide, (fun x hx => by cases hx), (fun x hx => by simp [a2] at hx; omega)⟩
theorem a1_en : enX a1 = b1 := by decide +kernel
theorem a2_en : enX a2 = b2 := by decide +kernel
theorem a2_de : deX b2 = some a2 := by rw [← a2_en]; exact deX_back a2_ok (by decide)
theorem wenc_a1 (w : World) : Calls Try.prog 9 #[.agg #[.int .u64 1, .int .u64 0, .int .u64 100, .int .u64 2, .int .u64 2, .int .u64 7, .slice none 0 0, .bool false, .slice none 0 0]] w fun e w' => ∃ v, e = .returned v ∧ REy w b1 0 v w' := by
  have hT : TXa w ⟨a1, none, 0, 0, none, 0, 0⟩ := ⟨a1_ok, ⟨.inl ⟨rfl, rfl⟩, fun _ => ⟨rfl, rfl⟩, rfl, (fun x hx => by cases hx), by show (0 : Nat) ≤ 0 ∧ (0 : Nat) ≤ maxLen ∧ (0 : Nat) ≤ _; unfold maxLen; omega⟩, Wo.ag_nil _, by show (0 : Nat) ≤ _; omega⟩
  have := wtxenc ⟨a1, none, 0, 0, none, 0, 0⟩ w hT
  unfold REx at this
  rw [show erX a1 = 0 from by decide, show (if rtX a1 = true then enX a1 else []) = b1 from (if_pos (by decide)).trans a1_en] at this
  exact this
def RA2 (w : World) : Value → World → Prop := fun v w' => (∃ ia im ic ca cc, v = .tuple #[.agg #[.int .u64 1, .int .u64 0, .int .u64 0, .int .u64 0, .int .u64 0, .int .u64 0, .slice ia im ic, .bool true, .slice ca 1 cc], .int .i64 0] ∧ TXa w' ⟨a2, ia, im, ic, ca, 1, cc⟩) ∧ Bl w w'
theorem wdec_a2 {w : World} {x : Option Addr} {n c : Nat} (h : Ag w x n c b2) : Calls Try.prog 15 #[.slice x n c] w fun e w' => ∃ v, e = .returned v ∧ RA2 w v w' := by
  refine (wtxde h (by have := h.l; simp [b2] at this; omega)).mono ?_
  rintro e w' ⟨v, h1, ⟨⟨t, ia, im, ic, ca, cn, cc⟩, h2, h3, h4, h5⟩, h6⟩
  rw [a2_de] at h2 h3
  have e1 : t = a2 := h3
  subst e1
  have e2 : 1 = cn := h4.c.l
  subst e2
  exact ⟨v, h1, ⟨ia, im, ic, ca, cc, h2, h4⟩, h6⟩
theorem wleast_a2 {w : World} {ia ca : Option Addr} {im ic cc : Nat} (h : TXa w ⟨a2, ia, im, ic, ca, 1, cc⟩) : Calls Try.prog 20 #[.agg #[.int .u64 1, .int .u64 0, .int .u64 0, .int .u64 0, .int .u64 0, .int .u64 0, .slice ia im ic, .bool true, .slice ca 1 cc]] w fun e w' => ∃ v, e = .returned v ∧ RVl w (.int .u64 102) v w' := by
  have := wleast _ w h
  rw [show ((leX a2 : Nat) : Int) = 102 from by decide] at this
  exact this
/-- A row of bytes that may be written over. -/
structure Sft (w : World) (g o n : Nat) : Prop where
  c : ∀ j, j < n → ∃ x : Int, w.cell? ⟨g, o + j, none⟩ = some (.int .u8 x)
  f : ∀ q, w.frozen? ⟨g, q, none⟩ = false
/-- The same of a slice, in a block of K. -/
def SfA (w : World) (K : Nat → Prop) (a : Option Addr) (n : Nat) : Prop := 0 < n → ∃ g o, a = some ⟨g, o, none⟩ ∧ K g ∧ Sft w g o n
set_option maxHeartbeats 1000000 in
theorem walive (w : World) : Calls Try.prog 11 #[] w fun e w' => ∃ v, e = .returned v ∧ RVl w (.bool true) v w' := by
  have hB : Bl w w := Bl.refl w
  refine cw_enter Try.func11 rfl 46 rfl ?_
  show CW _ _ _ _ _ _ _ [] _
  refine cw_seq ?_
  refine cw_region ?_
  refine rp 0 (.bool false) ?_
  refine rw_nil ?_
  refine nw_then ?_
  refine cw_seq ?_
  refine cw_region ?_
  refine rp 6 (.agg #[.int .u64 1, .int .u64 0, .int .u64 100, .int .u64 2, .int .u64 2, .int .u64 7, .slice none 0 0, .bool false, .slice none 0 0]) ?_
  refine rw_call 7 9 #[.agg #[.int .u64 1, .int .u64 0, .int .u64 100, .int .u64 2, .int .u64 2, .int .u64 7, .slice none 0 0, .bool false, .slice none 0 0]] (fun _ => by kernel_rfl) (fun _ => by kernel_rfl) (R := REy w b1 0) (wenc_a1 w) ?_
  rintro _ w4 ⟨⟨a1, n2, c3, rfl, ha5, hf6⟩, hb7⟩
  replace hB := hB.go hb7
  refine rp 5 (.tuple #[.slice a1 n2 c3, .int .i64 0]) ?_
  refine rp 8 (.slice a1 n2 c3) ?_
  refine rp 9 (.int .i64 0) ?_
  refine rp 1 (.slice a1 n2 c3) ?_
  refine rp 2 (.int .i64 0) ?_
  refine rw_nil ?_
  refine nw_then ?_
  refine cw_seq ?_
  refine cw_region ?_
  refine rw_newS 11 #[.int .u8 201, .int .u8 1, .int .u8 128, .int .u8 128, .int .u8 128, .int .u8 128, .int .u8 128, .int .u8 192, .int .u8 1, .int .u8 0] 5 10 (fun _ => by kernel_rfl) (fun _ => by kernel_rfl) ?_
  intro w8 g9 hn10
  replace hB := hB.go hn10.below
  replace ha5 := ha5.go hn10.below
  have ha11 : Ag w8 (some ⟨g9, 0, none⟩) 10 10 [201, 1, 128, 128, 128, 128, 128, 192, 1, 0] := row_ag (show Row g9 w8 [201, 1, 128, 128, 128, 128, 128, 192, 1, 0] from hn10.row) rfl (fun x hx => by simp at hx; omega) (by omega)
  refine rw_call 12 15 #[.slice (some ⟨g9, 0, none⟩) 10 10] (fun _ => by kernel_rfl) (fun _ => by kernel_rfl) (R := RA2 w8) (wdec_a2 ha11) ?_
  rintro _ w17 ⟨⟨ia12, im13, ic14, ca15, cc16, rfl, hz18⟩, hb19⟩
  replace hB := hB.go hb19
  replace ha5 := ha5.go hb19
  replace ha11 := ha11.go hb19
  refine rp 10 (.tuple #[.agg #[.int .u64 1, .int .u64 0, .int .u64 0, .int .u64 0, .int .u64 0, .int .u64 0, .slice ia12 im13 ic14, .bool true, .slice ca15 1 cc16], .int .i64 0]) ?_
  refine rp 13 (.agg #[.int .u64 1, .int .u64 0, .int .u64 0, .int .u64 0, .int .u64 0, .int .u64 0, .slice ia12 im13 ic14, .bool true, .slice ca15 1 cc16]) ?_
  refine rp 14 (.int .i64 0) ?_
  refine rw_new 3 (#[.int .u64 0, .int .u64 0, .int .u64 0, .int .u64 0, .int .u64 0, .int .u64 0, .slice none 0 0, .bool false, .slice none 0 0]) 26 (fun _ => by kernel_rfl) (fun _ => by kernel_rfl) ?_
  intro w20 g21 hn22
  have hr23 : Rw g21 w20 (#[.int .u64 0, .int .u64 0, .int .u64 0, .int .u64 0, .int .u64 0, .int .u64 0, .slice none 0 0, .bool false, .slice none 0 0]) 26 := hn22.row
  refine rw_put g21 (#[.int .u64 1, .int .u64 0, .int .u64 0, .int .u64 0, .int .u64 0, .int .u64 0, .slice ia12 im13 ic14, .bool true, .slice ca15 1 cc16]) (fun _ => by kernel_rfl) (fun _ => ol_store 26 _ _ _ _ _ 26 rfl (by kernel_rfl) (by kernel_rfl) hr23 (by kernel_rfl) (by kernel_rfl) (by kernel_rfl)) ?_
  intro w24 hp25
  have hbg21 : Below w17.heap.size w17 w24 := hp25.below hn22.below (Nat.le_of_eq hn22.hg.symm) (by have := hn22.size; have := hn22.hg; omega)
  have hzg21 : w.heap.size ≤ g21 := by have := hB.size; have := hn22.hg; omega
  replace hB := hB.go hbg21
  replace ha5 := ha5.go hbg21
  replace ha11 := ha11.go hbg21
  replace hz18 := txa_go hz18 hbg21
  have hr26 : Rw g21 w24 (#[.int .u64 1, .int .u64 0, .int .u64 0, .int .u64 0, .int .u64 0, .int .u64 0, .slice ia12 im13 ic14, .bool true, .slice ca15 1 cc16]) 26 := hr23.put hp25
  refine rp 4 (.int .i64 0) ?_
  refine rw_nil ?_
  refine nw_then ?_
  refine cw_seq ?_
  refine cw_region ?_
  refine rp 15 (.int .i64 0) ?_
  refine rp 16 (.bool true) ?_
  refine rp 17 (.bool true) ?_
  refine rp 18 (.slice a1 n2 c3) ?_
  refine rv 19 (.string (strOfNums b1)) (fun _ => ha5.run_str _ _ _ rfl (by kernel_rfl)) ?_
  refine rv 20 (.bool true) (fun _ => ol_eqs 9 _ _ _ _ _ rfl (by kernel_rfl) (by kernel_rfl) b1_str) ?_
  refine rp 21 (.bool true) ?_
  refine rp 22 (.bool true) ?_
  refine rp 23 (.int .i64 0) ?_
  refine rp 24 (.bool true) ?_
  refine rp 25 (.bool true) ?_
  refine rp 26 (.bool true) ?_
  refine rp 27 (.pointer (some ⟨g21, 0, none⟩)) ?_
  refine rv 28 (.int .u64 1) (fun _ => ol_cell 22 _ ⟨g21, 0, none⟩ _ _ rfl (by kernel_rfl) (by rw [cell_of_row _ _ _ _ _ _ hr26]; rfl) Try.underlying22 rfl) ?_
  refine rp 29 (.bool true) ?_
  refine rp 30 (.bool true) ?_
  refine rp 31 (.bool true) ?_
  refine rp 32 (.pointer (some ⟨g21, 7, none⟩)) ?_
  refine rv 33 (.bool true) (fun _ => ol_cell 4 _ ⟨g21, 7, none⟩ _ _ rfl (by kernel_rfl) (by rw [cell_of_row _ _ _ _ _ _ hr26]; rfl) Try.underlying4 rfl) ?_
  refine rp 34 (.bool true) ?_
  refine rp 35 (.bool true) ?_
  refine rp 36 (.pointer (some ⟨g21, 8, none⟩)) ?_
  refine rv 37 (.slice ca15 1 cc16) (fun _ => ol_cell 24 _ ⟨g21, 8, none⟩ _ _ rfl (by kernel_rfl) (by rw [cell_of_row _ _ _ _ _ _ hr26]; rfl) Try.underlying24 rfl) ?_
  refine rp 38 (.int .i64 1) ?_
  refine rp 39 (.bool true) ?_
  refine rp 40 (.bool true) ?_
  refine rp 41 (.bool true) ?_
  refine rv 42 (.agg (#[.int .u64 1, .int .u64 0, .int .u64 0, .int .u64 0, .int .u64 0, .int .u64 0, .slice ia12 im13 ic14, .bool true, .slice ca15 1 cc16])) (fun _ => ol_row 26 _ _ _ _ _ _ rfl (by kernel_rfl) hr26 Try.underlying26 rfl (by kernel_rfl)) ?_
  refine rw_call 43 20 #[.agg (#[.int .u64 1, .int .u64 0, .int .u64 0, .int .u64 0, .int .u64 0, .int .u64 0, .slice ia12 im13 ic14, .bool true, .slice ca15 1 cc16])] (fun _ => by kernel_rfl) (fun _ => by kernel_rfl) (R := RVl w24 (.int .u64 102)) (wleast_a2 hz18) ?_
  rintro _ w27 ⟨rfl, hb28⟩
  replace hB := hB.go hb28
  replace ha5 := ha5.go hb28
  replace ha11 := ha11.go hb28
  replace hz18 := txa_go hz18 hb28
  replace hr26 := hr26.go hb28
  refine rp 44 (.bool true) ?_
  refine rp 45 (.bool true) ?_
  refine rp 0 (.bool true) ?_
  refine rw_nil ?_
  refine nw_then ?_
  refine cw_ret ?_
  refine nw_ret_body (.bool true) (fun _ => by kernel_rfl) ?_
  exact ⟨_, rfl, rfl, hB⟩
set_option maxHeartbeats 1000000 in
theorem costs_nat (y : TV) (s n : Nat) (hs : s < W64) (hn : n < W64) (w : World) (ok : TXa w y) : Calls Try.prog 5 #[.agg y.cells, .int .u64 ((s : Nat) : Int), .int .u64 ((n : Nat) : Int)] w (Law16 w) := by
  obtain ⟨m, hm⟩ : ∃ m, Wo.mulP (y.t.g : Nat) (y.t.p : Nat) = m := ⟨_, rfl⟩
  have hB : Bl w w := Bl.refl w
  refine cw_enter Try.func5 rfl 48 rfl ?_
  show CW _ _ _ _ _ _ _ [(0, .agg #[.int .u64 ((y.t.f : Nat) : Int), .int .u64 ((y.t.n : Nat) : Int), .int .u64 ((y.t.g : Nat) : Int), .int .u64 ((y.t.p : Nat) : Int), .int .u64 ((y.t.o : Nat) : Int), .int .u64 ((y.t.v : Nat) : Int), .slice y.ia y.im y.ic, .bool y.t.m, .slice y.ca y.cn y.cc]), (1, .int .u64 ((s : Nat) : Int)), (2, .int .u64 ((n : Nat) : Int))] _
  refine cw_seq ?_
  refine cw_region ?_
  refine rw_new 3 (#[.int .u64 ((y.t.f : Nat) : Int), .int .u64 ((y.t.n : Nat) : Int), .int .u64 ((y.t.g : Nat) : Int), .int .u64 ((y.t.p : Nat) : Int), .int .u64 ((y.t.o : Nat) : Int), .int .u64 ((y.t.v : Nat) : Int), .slice y.ia y.im y.ic, .bool y.t.m, .slice y.ca y.cn y.cc]) 26 (fun _ => by kernel_rfl) (fun _ => by kernel_rfl) ?_
  intro w1 g2 hn3
  have hzg2 : w.heap.size ≤ g2 := by have := hB.size; have := hn3.hg; omega
  replace hB := hB.go hn3.below
  have hr4 : Rw g2 w1 (#[.int .u64 ((y.t.f : Nat) : Int), .int .u64 ((y.t.n : Nat) : Int), .int .u64 ((y.t.g : Nat) : Int), .int .u64 ((y.t.p : Nat) : Int), .int .u64 ((y.t.o : Nat) : Int), .int .u64 ((y.t.v : Nat) : Int), .slice y.ia y.im y.ic, .bool y.t.m, .slice y.ca y.cn y.cc]) 26 := hn3.row
  refine rp 6 (.bool false) ?_
  refine rw_nil ?_
  refine nw_then ?_
  refine cw_seq ?_
  refine cw_region ?_
  refine rv 12 (.agg (#[.int .u64 ((y.t.f : Nat) : Int), .int .u64 ((y.t.n : Nat) : Int), .int .u64 ((y.t.g : Nat) : Int), .int .u64 ((y.t.p : Nat) : Int), .int .u64 ((y.t.o : Nat) : Int), .int .u64 ((y.t.v : Nat) : Int), .slice y.ia y.im y.ic, .bool y.t.m, .slice y.ca y.cn y.cc])) (fun _ => ol_row 26 _ _ _ _ _ _ rfl (by kernel_rfl) hr4 Try.underlying26 rfl (by kernel_rfl)) ?_
  refine rw_call 13 18 #[.agg (#[.int .u64 ((y.t.f : Nat) : Int), .int .u64 ((y.t.n : Nat) : Int), .int .u64 ((y.t.g : Nat) : Int), .int .u64 ((y.t.p : Nat) : Int), .int .u64 ((y.t.o : Nat) : Int), .int .u64 ((y.t.v : Nat) : Int), .slice y.ia y.im y.ic, .bool y.t.m, .slice y.ca y.cn y.cc])] (fun _ => by kernel_rfl) (fun _ => by kernel_rfl) (R := RVl w1 (.tuple #[.int .u64 m.1, .bool m.2])) (by have := wfee y w1 (ok.go hB); rw [hm] at this; exact this) ?_
  rintro _ w5 ⟨rfl, hb6⟩
  replace hB := hB.go hb6
  replace hr4 := hr4.go hb6
  refine rp 11 (.tuple #[.int .u64 m.1, .bool m.2]) ?_
  refine rp 14 (.int .u64 m.1) ?_
  refine rp 15 (.bool m.2) ?_
  refine rp 7 (.int .u64 m.1) ?_
  refine rp 8 (.bool m.2) ?_
  refine rw_nil ?_
  refine nw_then ?_
  refine cw_seq ?_
  refine cw_region ?_
  refine rv 17 (.agg (#[.int .u64 ((y.t.f : Nat) : Int), .int .u64 ((y.t.n : Nat) : Int), .int .u64 ((y.t.g : Nat) : Int), .int .u64 ((y.t.p : Nat) : Int), .int .u64 ((y.t.o : Nat) : Int), .int .u64 ((y.t.v : Nat) : Int), .slice y.ia y.im y.ic, .bool y.t.m, .slice y.ca y.cn y.cc])) (fun _ => ol_row 26 _ _ _ _ _ _ rfl (by kernel_rfl) hr4 Try.underlying26 rfl (by kernel_rfl)) ?_
  refine rw_call 18 19 #[.agg (#[.int .u64 ((y.t.f : Nat) : Int), .int .u64 ((y.t.n : Nat) : Int), .int .u64 ((y.t.g : Nat) : Int), .int .u64 ((y.t.p : Nat) : Int), .int .u64 ((y.t.o : Nat) : Int), .int .u64 ((y.t.v : Nat) : Int), .slice y.ia y.im y.ic, .bool y.t.m, .slice y.ca y.cn y.cc])] (fun _ => by kernel_rfl) (fun _ => by kernel_rfl) (R := RVl w5 (.tuple #[.int .u64 m.1, .bool m.2])) (by have := rfee y w5 (ok.go hB); rw [hm] at this; exact this) ?_
  rintro _ w7 ⟨rfl, hb8⟩
  replace hB := hB.go hb8
  replace hr4 := hr4.go hb8
  refine rp 16 (.tuple #[.int .u64 m.1, .bool m.2]) ?_
  refine rp 19 (.int .u64 m.1) ?_
  refine rp 20 (.bool m.2) ?_
  refine rp 9 (.int .u64 m.1) ?_
  refine rp 10 (.bool m.2) ?_
  refine rw_nil ?_
  refine nw_then ?_
  refine cw_seq ?_
  refine cw_draw (fun v => Rw g2 v y.cells 26) (by kernel_rfl) (hr4.drew) ?_
  replace hB := hB.go (Below.refl _ _).drew
  replace hr4 := hr4.go (Below.refl _ _).drew
  refine dw_ready [0] (by kernel_rfl) (by simp) ?_
  refine ar_call 0 21 11 #[] rfl (fun _ => by kernel_rfl) (fun _ => by kernel_rfl) (R := RVl w7.drew (.bool true)) (walive w7.drew) (fun u w' h9 => hr4.go h9.2) ?_ ar_nil
  rintro _ w9 ⟨rfl, hb10⟩
  replace hB := hB.go hb10
  replace hr4 := hr4.go hb10
  refine dt 1 22 (.bool true) (fun v hv _ => by kernel_rfl) hr4 ?_
  refine dt 2 23 (.agg (#[.int .u64 ((y.t.f : Nat) : Int), .int .u64 ((y.t.n : Nat) : Int), .int .u64 ((y.t.g : Nat) : Int), .int .u64 ((y.t.p : Nat) : Int), .int .u64 ((y.t.o : Nat) : Int), .int .u64 ((y.t.v : Nat) : Int), .slice y.ia y.im y.ic, .bool y.t.m, .slice y.ca y.cn y.cc])) (fun v hv _ => ol_row 26 _ _ _ _ _ _ rfl (by kernel_rfl) hv Try.underlying26 rfl (by kernel_rfl)) hr4 ?_
  refine dt 4 25 (.agg (#[.int .u64 ((y.t.f : Nat) : Int), .int .u64 ((y.t.n : Nat) : Int), .int .u64 ((y.t.g : Nat) : Int), .int .u64 ((y.t.p : Nat) : Int), .int .u64 ((y.t.o : Nat) : Int), .int .u64 ((y.t.v : Nat) : Int), .slice y.ia y.im y.ic, .bool y.t.m, .slice y.ca y.cn y.cc])) (fun v hv _ => ol_row 26 _ _ _ _ _ _ rfl (by kernel_rfl) hv Try.underlying26 rfl (by kernel_rfl)) hr4 ?_
  refine dw_ready [3] (by kernel_rfl) (by simp) ?_
  refine ar_call 3 24 20 #[.agg (#[.int .u64 ((y.t.f : Nat) : Int), .int .u64 ((y.t.n : Nat) : Int), .int .u64 ((y.t.g : Nat) : Int), .int .u64 ((y.t.p : Nat) : Int), .int .u64 ((y.t.o : Nat) : Int), .int .u64 ((y.t.v : Nat) : Int), .slice y.ia y.im y.ic, .bool y.t.m, .slice y.ca y.cn y.cc])] rfl (fun _ => by kernel_rfl) (fun _ => by kernel_rfl) (R := RVl w9 (.int .u64 ((leX y.t : Nat) : Int))) (by have := wleast y w9 (ok.go hB); exact this) (fun u w' h9 => hr4.go h9.2) ?_ ar_nil
  rintro _ w11 ⟨rfl, hb12⟩
  replace hB := hB.go hb12
  replace hr4 := hr4.go hb12
  refine dw_ready [5] (by kernel_rfl) (by simp) ?_
  refine ar_call 5 26 21 #[.agg (#[.int .u64 ((y.t.f : Nat) : Int), .int .u64 ((y.t.n : Nat) : Int), .int .u64 ((y.t.g : Nat) : Int), .int .u64 ((y.t.p : Nat) : Int), .int .u64 ((y.t.o : Nat) : Int), .int .u64 ((y.t.v : Nat) : Int), .slice y.ia y.im y.ic, .bool y.t.m, .slice y.ca y.cn y.cc])] rfl (fun _ => by kernel_rfl) (fun _ => by kernel_rfl) (R := RVl w11 (.int .u64 ((leX y.t : Nat) : Int))) (by have := rleast y w11 (ok.go hB); exact this) (fun u w' h9 => hr4.go h9.2) ?_ ar_nil
  rintro _ w13 ⟨rfl, hb14⟩
  replace hB := hB.go hb14
  replace hr4 := hr4.go hb14
  refine dt 6 27 (.bool true) (fun v hv => (fun _ => ol_conv (v := .bool (((leX y.t : Nat) : Int) == ((leX y.t : Nat) : Int))) (by kernel_rfl) (congrArg Value.bool (beq_self_eq_true _)))) hr4 ?_
  refine dt 7 28 (.bool true) (fun v hv _ => by kernel_rfl) hr4 ?_
  refine dt 8 29 (.bool true) (fun v hv _ => by kernel_rfl) hr4 ?_
  refine dt 9 30 (.int .u64 m.1) (fun v hv _ => by kernel_rfl) hr4 ?_
  refine dt 10 31 (.int .u64 m.1) (fun v hv _ => by kernel_rfl) hr4 ?_
  refine dt 11 32 (.bool true) (fun v hv => (fun _ => ol_conv (v := .bool ((m.1 : Int) == (m.1 : Int))) (by kernel_rfl) (congrArg Value.bool (beq_self_eq_true _)))) hr4 ?_
  refine dt 12 33 (.bool true) (fun v hv _ => by kernel_rfl) hr4 ?_
  refine dt 13 34 (.bool true) (fun v hv _ => by kernel_rfl) hr4 ?_
  refine dt 14 35 (.bool m.2) (fun v hv _ => by kernel_rfl) hr4 ?_
  refine dt 15 36 (.bool m.2) (fun v hv _ => by kernel_rfl) hr4 ?_
  refine dt 16 37 (.bool true) (fun v hv => (fun _ => ol_eqb 4 _ _ _ (m.2) (m.2) rfl (by kernel_rfl) (by kernel_rfl) (beq_self_eq_true _) Try.underlying4)) hr4 ?_
  refine dt 17 38 (.bool true) (fun v hv _ => by kernel_rfl) hr4 ?_
  refine dt 18 39 (.bool true) (fun v hv _ => by kernel_rfl) hr4 ?_
  refine dt 19 40 (.int .u64 ((s : Nat) : Int)) (fun v hv _ => by kernel_rfl) hr4 ?_
  refine dt 20 41 (.int .u64 ((n : Nat) : Int)) (fun v hv _ => by kernel_rfl) hr4 ?_
  refine dt 22 43 (.int .u64 ((s : Nat) : Int)) (fun v hv _ => by kernel_rfl) hr4 ?_
  refine dt 23 44 (.int .u64 ((n : Nat) : Int)) (fun v hv _ => by kernel_rfl) hr4 ?_
  refine dw_ready [21] (by kernel_rfl) (by simp) ?_
  refine ar_call 21 42 22 #[.int .u64 ((s : Nat) : Int), .int .u64 ((n : Nat) : Int)] rfl (fun _ => by kernel_rfl) (fun _ => by kernel_rfl) (R := RVl w13 (.int .u64 ((maX s n : Nat) : Int))) (wmade s n hs hn w13) (fun u w' h9 => hr4.go h9.2) ?_ ar_nil
  rintro _ w15 ⟨rfl, hb16⟩
  replace hB := hB.go hb16
  replace hr4 := hr4.go hb16
  refine dw_ready [24] (by kernel_rfl) (by simp) ?_
  refine ar_call 24 45 23 #[.int .u64 ((s : Nat) : Int), .int .u64 ((n : Nat) : Int)] rfl (fun _ => by kernel_rfl) (fun _ => by kernel_rfl) (R := RVl w15 (.int .u64 ((maX s n : Nat) : Int))) (rmade s n hs hn w15) (fun u w' h9 => hr4.go h9.2) ?_ ar_nil
  rintro _ w17 ⟨rfl, hb18⟩
  replace hB := hB.go hb18
  replace hr4 := hr4.go hb18
  refine dt 25 46 (.bool true) (fun v hv => (fun _ => ol_conv (v := .bool (((maX s n : Nat) : Int) == ((maX s n : Nat) : Int))) (by kernel_rfl) (congrArg Value.bool (beq_self_eq_true _)))) hr4 ?_
  refine dt 26 47 (.bool true) (fun v hv _ => by kernel_rfl) hr4 ?_
  refine dt 27 6 (.bool true) (fun v hv _ => by kernel_rfl) hr4 ?_
  refine dw_done (by kernel_rfl) ?_
  refine nw_then ?_
  refine cw_ret ?_
  refine nw_ret_body (.bool true) (fun _ => by kernel_rfl) ?_
  exact ⟨rfl, hB⟩
theorem costs_any (y : TV) (s n : Int) (hs : 0 ≤ s ∧ s < 18446744073709551616) (hn : 0 ≤ n ∧ n < 18446744073709551616) (w : World) (ok : TXa w y) : Calls Try.prog 5 #[.agg y.cells, .int .u64 s, .int .u64 n] w (Law16 w) := by
  obtain ⟨s, rfl⟩ := Int.eq_ofNat_of_zero_le hs.1
  obtain ⟨n, rfl⟩ := Int.eq_ofNat_of_zero_le hn.1
  exact costs_nat y s n (by unfold W64; omega) (by unfold W64; omega) w ok
end Go.Proofs.Ytmofehloiiopfaa
