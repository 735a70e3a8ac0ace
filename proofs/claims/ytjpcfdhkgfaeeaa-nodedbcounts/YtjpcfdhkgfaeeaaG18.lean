/- What the statements' own begun answers. -/
import Derived.Test.YtjpcfdhkgfaeeaaG17
import Derived.Lib.SlBytesConst
namespace Go.Proofs.Ytjpcfdhkgfaeeaa
open Go.RowKit
open Di (dref dref_len)
set_option linter.unusedVariables false
set_option maxRecDepth 100000
def thing : ByteArray := ⟨#[116, 104, 105, 110, 103]⟩
def tcells : Array Value := #[.int .u8 116, .int .u8 104, .int .u8 105, .int .u8 110, .int .u8 103]
theorem rd_thing {a : Act} {w : World} {o : Oper} (ho : o.op = .buildSlice 54 5 #[(0, .const (.int .u8 116)), (1, .const (.int .u8 104)), (2, .const (.int .u8 105)), (3, .const (.int .u8 110)), (4, .const (.int .u8 103))]) : (execOp a.eval o).run Try.prog w = .ok (.value (.slice (some ⟨w.heap.size, 0, none⟩) 5 5)) (w.alloc (.cells tcells 5)) := by
  unfold execOp
  rw [ho]
  go_simp
  try rfl
theorem thing_in (w : World) : Di.InB (w.alloc (.cells tcells 5 (5, 6))) (some ⟨w.heap.size, 0, none⟩) 5 5 (nums thing) := by
  refine .inr ⟨_, rfl, rfl, fun j u hu => ?_⟩
  rw [addr_add, Nat.zero_add, cell_of_row _ _ _ _ _ _ (heap_alloc_new w (.cells tcells 5 (5, 6)))]
  have e : (nums thing).map (Value.int .u8) = tcells.toList := by rfl
  rw [e] at hu
  simpa using hu
theorem put_thing : putP 1 thing [] = ([⟨dref (nums thing), thing, 1⟩], dref (nums thing), 0) := rfl
theorem get_thing (d : List Int) : getT d [⟨d, thing, 1⟩] = (thing, 1, true) := by simp [getT, findT]
theorem touch_below {w v v' : World} {m : Nat} (h : Below w.heap.size w v) (t : Touch m v v') (hm : w.heap.size ≤ m) : Below w.heap.size w v' := Touch.below h t hm h.size
set_option maxHeartbeats 8000000 in
theorem begun_any (most : Int) (w : World) : Calls Try.prog 9 #[.int .i64 most] w fun e w' => (∃ g m, e = .returned (.tuple #[.pointer (some ⟨g, 0, none⟩), .bool true]) ∧ Sto w' g m most [] ∧ w.heap.size ≤ g ∧ w.heap.size ≤ m) ∧ Below w.heap.size w w' := by
  obtain ⟨d, hd⟩ : ∃ d, dref (nums thing) = d := ⟨_, rfl⟩
  have HD := Hid.mk hd
  have HDL := Hid.mk (show d.length = 32 from by rw [← hd]; exact dref_len _)
  clear hd
  go_enter Try.func9, Try.ntmps9
  go_wp2_with fail
  refine (new_any 1 w).mono ?_
  rintro e w1 ⟨⟨g, m, rfl, hst, hg, hm⟩, hb1⟩
  have HST := Hid.mk hst
  have HG := Hid.mk (And.intro hg hm)
  have HB1 := Hid.mk hb1
  clear hst hg hm hb1
  go_wp2_with fail
  refine (put_any HST.out (fun x hx => by cases hx) (fun x hx => by cases hx) thing (by decide)).mono ?_
  rw [put_thing, HD.out]
  simp only
  rintro e w2 ⟨rfl, hst2, ht2⟩
  have HS1 := Hid.mk hst2
  have HB2 := Hid.mk (touch_below HB1.out ht2 HG.out.2)
  clear hst2 ht2 HST HB1
  go_upto_region 5 with (first | refine wpList_store_row rfl 30 _ _ rfl _ (B8 d) rfl rfl 30 _ (heap_alloc_new _ _) (infoD d HDL.out) (z8_size HDL.out) (B8_ones _) ?_)
  refine gen_w (p := fun v => Code.wp _ _ _ _ v) (q := fun v => DBx w2.heap.size v d ∧ Below w2.heap.size w2 v) ⟨⟨setRow_heap _ _ _ _ _ _ (heap_alloc_new _ _), HDL.out⟩, Below.setRow (below_new w2 _) (Nat.le_refl _) _⟩ ?_
  rintro v3 ⟨D3, b3⟩
  have HD3 := Hid.mk D3
  have HS3 := Hid.mk (HS1.out.go b3)
  have HB3 := Hid.mk (below_go HB2.out b3)
  clear D3 b3 HS1 HB2
  obtain ⟨gD, hgD⟩ : ∃ gD, w2.heap.size = gD := ⟨_, rfl⟩
  rw [hgD] at HD3 ⊢
  clear hgD
  go_wp2_with (first | refine wpl_loadD rfl _ rfl gD 0 rfl d HDL.out HD3.out.all ?_)
  refine (get_any HS3.out d HDL.out).mono ?_
  rw [get_thing]
  simp only
  rintro e w4 ⟨rfl, hb4⟩
  have HD4 := Hid.mk (HD3.out.go hb4)
  have HS4 := Hid.mk (HS3.out.go hb4)
  have HB4 := Hid.mk (below_go HB3.out hb4)
  clear hb4 HD3 HS3 HB3
  go_wp2_with fail
  refine (new_any most w4).mono ?_
  rintro e u5 ⟨⟨g2, m2, rfl, hst5, hg5, hm5⟩, hb5⟩
  have HS2 := Hid.mk hst5
  have HS1 := Hid.mk (HS4.out.go hb5)
  have HD5 := Hid.mk (HD4.out.go hb5)
  have HB5 := Hid.mk (below_go HB4.out hb5)
  have HG2 := Hid.mk (show w.heap.size ≤ g2 ∧ w.heap.size ≤ m2 from ⟨Nat.le_trans HB4.out.size hg5, Nat.le_trans HB4.out.size hm5⟩)
  clear hst5 hg5 hm5 hb5 HD4 HS4 HB4
  go_upto_region 7 with fail
  rename_i KK hkk
  refine wp_region_held_drew (S := fun v' => Sto v' g m 1 [⟨d, thing, 1⟩] ∧ DBx gD v' d ∧ Sto v' g2 m2 most [] ∧ Below w.heap.size w v') (by kernel_rfl) ⟨HS1.out.go (Below.refl _ _).drew, HD5.out.go (Below.refl _ _).drew, HS2.out.go (Below.refl _ _).drew, HB5.out.drew⟩ (fun hS => ?_)
  refine rd_take 0 28 (.pointer (some ⟨g2, 0, none⟩)) rfl rfl (by kernel_rfl) (by kernel_rfl) (by kernel_rfl) (fun _ _ _ h => h) (by kernel_rfl) (fun v _ => by kernel_rfl) hS ?_
  refine rd_take 1 29 (.pointer (some ⟨g2, 0, none⟩)) rfl rfl (by kernel_rfl) (by kernel_rfl) (by kernel_rfl) (fun _ _ _ h => h) (by kernel_rfl) (fun v _ => by kernel_rfl) hS ?_
  refine rd_take 2 30 (.bool true) rfl rfl (by kernel_rfl) (by kernel_rfl) (by kernel_rfl) (fun _ _ _ h => h) (by kernel_rfl) (fun v _ => by kernel_rfl) hS ?_
  refine rd_take 3 31 (.bool true) rfl rfl (by kernel_rfl) (by kernel_rfl) (by kernel_rfl) (fun _ _ _ h => h) (by kernel_rfl) (fun v _ => by kernel_rfl) hS ?_
  refine rd_take 4 32 (.int .i64 0) rfl rfl (by kernel_rfl) (by kernel_rfl) (by kernel_rfl) (fun _ _ _ h => h) (by kernel_rfl) (fun v _ => by kernel_rfl) hS ?_
  refine rd_take 5 33 (.bool true) rfl rfl (by kernel_rfl) (by kernel_rfl) (by kernel_rfl) (fun _ _ _ h => h) (by kernel_rfl) (fun v _ => by kernel_rfl) hS ?_
  refine rd_take 6 34 (.bool true) rfl rfl (by kernel_rfl) (by kernel_rfl) (by kernel_rfl) (fun _ _ _ h => h) (by kernel_rfl) (fun v _ => by kernel_rfl) hS ?_
  refine rd_take 7 35 (.bool true) rfl rfl (by kernel_rfl) (by kernel_rfl) (by kernel_rfl) (fun _ _ _ h => h) (by kernel_rfl) (fun v _ => by kernel_rfl) hS ?_
  refine rd_take 8 36 (.string thing) rfl rfl (by kernel_rfl) (by kernel_rfl) (by kernel_rfl) (fun _ _ _ h => h) (by kernel_rfl) (fun v _ => by kernel_rfl) hS ?_
  refine rd_take 9 37 (.bool true) rfl rfl (by kernel_rfl) (by kernel_rfl) (by kernel_rfl) (fun _ _ _ h => h) (by kernel_rfl) (fun v _ => by kernel_rfl) hS ?_
  refine rd_take 10 38 (.bool true) rfl rfl (by kernel_rfl) (by kernel_rfl) (by kernel_rfl) (fun _ _ _ h => h) (by kernel_rfl) (fun v _ => by kernel_rfl) hS ?_
  refine rd_take 11 39 (.bool true) rfl rfl (by kernel_rfl) (by kernel_rfl) (by kernel_rfl) (fun _ _ _ h => h) (by kernel_rfl) (fun v _ => by kernel_rfl) hS ?_
  refine rd_take 12 40 (.int .i64 1) rfl rfl (by kernel_rfl) (by kernel_rfl) (by kernel_rfl) (fun _ _ _ h => h) (by kernel_rfl) (fun v _ => by kernel_rfl) hS ?_
  refine rd_take 13 41 (.bool true) rfl rfl (by kernel_rfl) (by kernel_rfl) (by kernel_rfl) (fun _ _ _ h => h) (by kernel_rfl) (fun v _ => by kernel_rfl) hS ?_
  refine rd_take 14 42 (.bool true) rfl rfl (by kernel_rfl) (by kernel_rfl) (by kernel_rfl) (fun _ _ _ h => h) (by kernel_rfl) (fun v _ => by kernel_rfl) hS ?_
  refine rd_take 15 43 (.bool true) rfl rfl (by kernel_rfl) (by kernel_rfl) (by kernel_rfl) (fun _ _ _ h => h) (by kernel_rfl) (fun v _ => by kernel_rfl) hS ?_
  refine rd_take 16 44 (.bool true) rfl rfl (by kernel_rfl) (by kernel_rfl) (by kernel_rfl) (fun _ _ _ h => h) (by kernel_rfl) (fun v _ => by kernel_rfl) hS ?_
  refine rd_take 17 45 (.bool true) rfl rfl (by kernel_rfl) (by kernel_rfl) (by kernel_rfl) (fun _ _ _ h => h) (by kernel_rfl) (fun v _ => by kernel_rfl) hS ?_
  refine rd_take 18 46 (.bool true) rfl rfl (by kernel_rfl) (by kernel_rfl) (by kernel_rfl) (fun _ _ _ h => h) (by kernel_rfl) (fun v _ => by kernel_rfl) hS ?_
  refine rd_take 19 47 (.pointer (some ⟨g, 0, none⟩)) rfl rfl (by kernel_rfl) (by kernel_rfl) (by kernel_rfl) (fun _ _ _ h => h) (by kernel_rfl) (fun v _ => by kernel_rfl) hS ?_
  refine wpAnyH_ready (rs := [20]) (by kernel_rfl) (by simp) ?_
  refine rd_call 20 48 rfl rfl (by kernel_rfl) 15 #[.pointer (some ⟨g, 0, none⟩)] (by kernel_rfl) (R := fun val w' => val = .int .i64 1 ∧ w' = u5.drew) ((len_any hS.1).mono (fun e w' h => ⟨_, h.1, rfl, h.2⟩)) (fun val w' h => by rw [h.2]; exact hS) ?_ AllReadyH.nil
  rintro val p0 ⟨rfl, rfl⟩
  refine rd_take 21 49 (.bool true) rfl rfl (by kernel_rfl) (by kernel_rfl) (by kernel_rfl) (fun _ _ _ h => h) (by kernel_rfl) (fun v _ => by kernel_rfl) hS ?_
  refine rd_take 22 50 (.bool true) rfl rfl (by kernel_rfl) (by kernel_rfl) (by kernel_rfl) (fun _ _ _ h => h) (by kernel_rfl) (fun v _ => by kernel_rfl) hS ?_
  refine rd_take 23 51 (.bool true) rfl rfl (by kernel_rfl) (by kernel_rfl) (by kernel_rfl) (fun _ _ _ h => h) (by kernel_rfl) (fun v _ => by kernel_rfl) hS ?_
  refine rd_take 24 52 (.agg (B8 d)) rfl rfl (by kernel_rfl) (by kernel_rfl) (by kernel_rfl) (fun _ _ _ h => h) (by kernel_rfl) (fun v' hv => rd_loadDd rfl (by kernel_rfl) hv.2.1) hS ?_
  refine wpAnyH_ready (rs := [25]) (by kernel_rfl) (by simp) ?_
  refine rd_run 25 53 (.slice (some ⟨u5.heap.size, 0, none⟩) 5 5) rfl rfl (by kernel_rfl) (rd_thing rfl) ⟨hS.1.go (below_new _ _), hS.2.1.go (below_new _ _), hS.2.2.1.go (below_new _ _), below_go hS.2.2.2 (below_new _ _)⟩ ?_ AllReadyH.nil
  refine wpAnyH_ready (rs := [26]) (by kernel_rfl) (by simp) ?_
  have hbt : Below u5.drew.heap.size u5.drew (u5.drew.alloc (.cells tcells 5 (5, 6))) := below_new _ _
  have hS3 : Sto (u5.drew.alloc (.cells tcells 5 (5, 6))) g m 1 [⟨d, thing, 1⟩] ∧ DBx gD (u5.drew.alloc (.cells tcells 5 (5, 6))) d ∧ Sto (u5.drew.alloc (.cells tcells 5 (5, 6))) g2 m2 most [] ∧ Below w.heap.size w (u5.drew.alloc (.cells tcells 5 (5, 6))) := ⟨hS.1.go hbt, hS.2.1.go hbt, hS.2.2.1.go hbt, below_go hS.2.2.2 hbt⟩
  refine rd_run 26 54 (.slice (some ⟨u5.heap.size, 0, none⟩) 5 5) rfl rfl (by kernel_rfl) (rd_convX rfl (by kernel_rfl) (Lib.run_convert_bytes_const u5.drew 54 5 tcells 5 5 Try.underlying54 Try.underlying5)) hS3 ?_ AllReadyH.nil
  refine wpAnyH_ready (rs := [27]) (by kernel_rfl) (by simp) ?_
  refine rd_call 27 55 rfl rfl (by kernel_rfl) 20 #[.slice (some ⟨u5.heap.size, 0, none⟩) 5 5] (by kernel_rfl) (R := fun val w' => val = .agg (B8 d) ∧ Below (u5.drew.alloc (.cells tcells 5 (5, 6))).heap.size (u5.drew.alloc (.cells tcells 5 (5, 6))) w') ((Di.rof_any _ _ _ (nums thing) _ (thing_in u5.drew) (nums_b _) (by decide)).mono (fun e w' h => ⟨_, h.1, by rw [← HD.out]; rfl, h.2⟩)) (fun val w' h => ⟨hS3.1.go h.2, hS3.2.1.go h.2, hS3.2.2.1.go h.2, below_go hS3.2.2.2 h.2⟩) ?_ AllReadyH.nil
  rintro val p2 ⟨rfl, hb2⟩
  have hS4 : Sto p2 g m 1 [⟨d, thing, 1⟩] ∧ DBx gD p2 d ∧ Sto p2 g2 m2 most [] ∧ Below w.heap.size w p2 := ⟨hS3.1.go hb2, hS3.2.1.go hb2, hS3.2.2.1.go hb2, below_go hS3.2.2.2 hb2⟩
  refine rd_take 28 56 (.bool true) rfl rfl (by kernel_rfl) (by kernel_rfl) (by kernel_rfl) (fun _ _ _ h => h) (by kernel_rfl) (fun v' _ => rd_eqDig rfl (by kernel_rfl) (by kernel_rfl) HDL.out HDL.out (by simp)) hS4 ?_
  refine rd_take 29 57 (.bool true) rfl rfl (by kernel_rfl) (by kernel_rfl) (by kernel_rfl) (fun _ _ _ h => h) (by kernel_rfl) (fun v _ => by kernel_rfl) hS4 ?_
  refine rd_take 30 2 (.pointer (some ⟨g2, 0, none⟩)) rfl rfl (by kernel_rfl) (by kernel_rfl) (by kernel_rfl) (fun _ _ _ h => h) (by kernel_rfl) (fun v _ => by kernel_rfl) hS4 ?_
  refine rd_take 31 3 (.bool true) rfl rfl (by kernel_rfl) (by kernel_rfl) (by kernel_rfl) (fun _ _ _ h => h) (by kernel_rfl) (fun v _ => by kernel_rfl) hS4 ?_
  refine wpAnyH_done (by kernel_rfl) ?_ _
  refine hkk _ _ ?_
  have HEND := Hid.mk hS4
  clear hkk hS hS3 hS4 hb2 hbt
  go_frame
  go_wp2_with fail
  go_ret2
  exact ⟨⟨g2, m2, rfl, HEND.out.2.2.1, HG2.out.1, HG2.out.2⟩, HEND.out.2.2.2⟩
end Go.Proofs.Ytjpcfdhkgfaeeaa
