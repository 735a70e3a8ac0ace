/- A transaction that is read of its bytes: the program's. -/
import Derived.Test.YtmofehloiiopfaaG23
import Derived.Test.YtmofehloiiopfaaG10
import Derived.Test.YtmofehloiiopfaaG20
import Derived.Test.YtmofehloiiopfaaG09
import Derived.Test.YtmofehloiiopfaaG22
namespace Go.Proofs.Ytmofehloiiopfaa
open Go.RowKit
open Di (dref)
set_option linter.unusedVariables false
set_option linter.unusedSimpArgs false
set_option maxRecDepth 100000
def zX : PX := ⟨0, 0, 0, 0, 0, 0, [], false, []⟩
def zTV : TV := ⟨zX, none, 0, 0, none, 0, 0⟩
theorem zX_ok : okX zX := ⟨by decide, by decide, by decide, by decide, by decide, by decide, (fun x hx => by cases hx), (fun x hx => by cases hx)⟩
theorem zTV_at (w : World) : TXa w zTV := ⟨zX_ok, ⟨.inl ⟨rfl, rfl⟩, fun _ => ⟨rfl, rfl⟩, rfl, (fun x hx => by cases hx), by show (0 : Nat) ≤ 0 ∧ (0 : Nat) ≤ maxLen ∧ (0 : Nat) ≤ _; unfold maxLen; omega⟩, Wo.ag_nil _, by show (0 : Nat) ≤ _; omega⟩
/-- What it hangs on is new. -/
def NwX (N : Nat) (z : TV) : Prop := (∀ g off, z.ia = some ⟨g, off, none⟩ → N ≤ g) ∧ (∀ g off, z.ca = some ⟨g, off, none⟩ → 0 < z.cn → N ≤ g)
theorem zTV_nw (N : Nat) : NwX N zTV := ⟨(fun g off e => by cases e), (fun g off e => by cases e)⟩
theorem nw_le {N M : Nat} {z : TV} (h : N ≤ M) (hz : NwX M z) : NwX N z := ⟨fun g off e => Nat.le_trans h (hz.1 g off e), fun g off e h0 => Nat.le_trans h (hz.2 g off e h0)⟩
def TxR (N : Nat) (w : World) (r : Option PX) : Value → World → Prop := fun v w' => (∃ z : TV, v = .tuple #[.agg z.cells, .bool r.isSome] ∧ z.t = r.getD zX ∧ TXa w' z ∧ NwX N z) ∧ Bl w w'
theorem txa_go {w w' : World} {y : TV} (h : TXa w y) (hb : Below w.heap.size w w') : TXa w' y := h.go hb
theorem txa_put {N g : Nat} {w w' : World} {z : TV} {cells : Array Value} (h : TXa w z) (hn : NwX N z) (hp : Put w w' g cells) (hg : g < N) : TXa w' z :=
  ⟨h.o, h.i.keep fun g' off e _ => hp.other (by have := hn.1 g' off e; omega), ag_keep h.c fun g' off e h0 _ => hp.other (by have := hn.2 g' off e h0; omega), h.m⟩
theorem lpk_go {N : Nat} {w w' : World} {t : T} {y : V} (h : LiesP (Np N) w t y) (hb : Below w.heap.size w w') : LiesP (Np N) w' t y := liesP_mono (fun b hn hlt => ⟨hb.block b hlt, hn⟩) t y h
theorem ne_tag {g g' : Nat} {w : World} {c c' : Array Value} {T T' : TypeId} (h : Rw g w c T) (h' : Rw g' w c' T') (hne : T ≠ T') : g ≠ g' := by
  rintro rfl
  rw [Rw] at h h'
  rw [h] at h'
  simp at h'
  exact hne h'.2
theorem wtx_no {w : World} {t : T} {y : V} {N : Nat} (h : Lies w t y) (h9 : y.m ≠ 9) : Calls Try.prog 28 #[.agg (IV y)] w fun e w' => ∃ v, e = .returned v ∧ TxR N w (txB t) v w' := by
  obtain ⟨_, _, hm, _, _⟩ := lies_un h
  have e : txB t = none := if_neg fun q => h9 (hm.trans q.1)
  have hB : Bl w w := Bl.refl w
  refine cw_enter Try.func28 rfl 89 rfl ?_
  show CW _ _ _ _ _ _ _ [(0, .agg (IV y))] _
  refine cw_seq ?_
  refine cw_region ?_
  refine rw_new 1 (IV y) 45 (fun _ => by kernel_rfl) (fun _ => by kernel_rfl) ?_
  intro w1 g2 hn3
  have hzg2 : w.heap.size ≤ g2 := by have := hB.size; have := hn3.hg; omega
  replace hB := hB.go hn3.below
  have hr4 : Rw g2 w1 (IV y) 45 := hn3.row
  refine rw_new 2 (#[.int .u64 0, .int .u64 0, .int .u64 0, .int .u64 0, .int .u64 0, .int .u64 0, .slice none 0 0, .bool false, .slice none 0 0]) 26 (fun _ => by kernel_rfl) (fun _ => by kernel_rfl) ?_
  intro w5 g6 hn7
  have hlg2g6 : g2 < g6 := by have := hr4.lt; have := hn7.hg; omega
  have hzg6 : w.heap.size ≤ g6 := by have := hB.size; have := hn7.hg; omega
  replace hB := hB.go hn7.below
  replace hr4 := hr4.go hn7.below
  have hr8 : Rw g6 w5 (#[.int .u64 0, .int .u64 0, .int .u64 0, .int .u64 0, .int .u64 0, .int .u64 0, .slice none 0 0, .bool false, .slice none 0 0]) 26 := hn7.row
  refine rp 3 (.bool false) ?_
  refine rw_nil ?_
  refine nw_then ?_
  refine cw_seq ?_
  refine cw_seq ?_
  refine cw_region ?_
  refine rp 12 (.pointer (some ⟨g2, 2, none⟩)) ?_
  refine rv 13 (.slice y.ia y.m y.ic) (fun _ => ol_cell 43 _ ⟨g2, 2, none⟩ _ _ rfl (by kernel_rfl) (by rw [cell_of_row _ _ _ _ _ _ hr4]; rfl) Try.underlying43 rfl) ?_
  refine rp 14 (.int .i64 y.m) ?_
  refine rv 15 (.bool true) (fun _ => ol_conv (v := .bool (!((y.m : Int) == (9 : Int)))) (by kernel_rfl) (congrArg Value.bool (by rw [Bool.not_eq_true', beq_eq_false_iff_ne]; omega))) ?_
  refine rw_nil ?_
  refine nw_then ?_
  refine cw_cond_t (fun _ => by kernel_rfl) ?_
  refine cw_seq ?_
  refine cw_region ?_
  refine rp 16 (.agg #[.int .u64 0, .int .u64 0, .int .u64 0, .int .u64 0, .int .u64 0, .int .u64 0, .slice none 0 0, .bool false, .slice none 0 0]) ?_
  refine rw_put g6 (#[.int .u64 0, .int .u64 0, .int .u64 0, .int .u64 0, .int .u64 0, .int .u64 0, .slice none 0 0, .bool false, .slice none 0 0]) (fun _ => by kernel_rfl) (fun _ => ol_store 26 _ _ _ _ _ 26 rfl (by kernel_rfl) (by kernel_rfl) hr8 (by kernel_rfl) (by kernel_rfl) (by kernel_rfl)) ?_
  intro w9 hp10
  replace hB := hB.put hp10 hzg6
  replace hr4 := hr4.past hp10 (by omega)
  replace hr8 := hr8.put hp10
  refine rp 3 (.bool false) ?_
  refine rw_nil ?_
  refine nw_then ?_
  refine cw_ret ?_
  refine nw_ret_then ?_
  refine nw_ret_body (.tuple #[.agg (#[.int .u64 0, .int .u64 0, .int .u64 0, .int .u64 0, .int .u64 0, .int .u64 0, .slice none 0 0, .bool false, .slice none 0 0]), .bool false]) (fun _ => res_c2 rfl _ g6 _ _ (by kernel_rfl) (by kernel_rfl) hr8 Try.underlying26 rfl (by kernel_rfl)) ?_
  rw [e]
  exact ⟨_, rfl, ⟨zTV, rfl, rfl, zTV_at _, zTV_nw _⟩, hB⟩
set_option maxHeartbeats 2000000 in
theorem wtx_9 {w : World} {t : T} {N : Nat} (hN : N ≤ w.heap.size) {yl : Bool} {yba : Option Addr} {ybn ybc g off yic : Nat} {x0 x1 x2 x3 x4 x5 x6 x7 x8 : T} {y6 y7 y8 : V} (hi : t.its = [x0, x1, x2, x3, x4, x5, x6, x7, x8]) (hby : byts t.its) (hic : 9 ≤ yic) (hal : LiesAll w [x0, x1, x2, x3, x4, x5, x6, x7, x8] (some ⟨g, off, none⟩) 0) (r6 : ∀ v, Bl w v → v.rangeAt g (off + 6 * 3) (V.cells y6)) (r7 : ∀ v, Bl w v → v.rangeAt g (off + 7 * 3) (V.cells y7)) (r8 : ∀ v, Bl w v → v.rangeAt g (off + 8 * 3) (V.cells y8)) (L6 : Lies w x6 y6) (L7 : Lies w x7 y7) (L8 : LiesP (Np N) w x8 y8) (hx6 : x6.its.length ≤ 16777216) : Calls Try.prog 28 #[.agg #[.bool yl, .slice yba ybn ybc, .slice (some ⟨g, off, none⟩) 9 yic]] w fun e w' => ∃ v, e = .returned v ∧ TxR N w (txB t) v w' := by
  obtain ⟨b6, hb6⟩ : ∃ b, (wps [x0, x1, x2, x3, x4, x5]).isSome = b := ⟨_, rfl⟩
  obtain ⟨bi6, hbi⟩ : ∃ b, (wps x6.its).isSome = b := ⟨_, rfl⟩
  obtain ⟨bt7, hbt⟩ : ∃ b, (tru x7).isSome = b := ⟨_, rfl⟩
  obtain ⟨vt7, hvt⟩ : ∃ b, (tru x7).getD false = b := ⟨_, rfl⟩
  obtain ⟨l6, _, m6, _, a6⟩ := lies_un L6
  obtain ⟨⟨l8, g8, _, _, _, m8⟩, n8, _⟩ := liesP_un L8
  have he : txB t = if (b6 = true ∧ y6.l = true ∧ bi6 = true ∧ bt7 = true ∧ y8.l = false) then some (mkX [x0, x1, x2, x3, x4, x5, x6, x7, x8]) else none := by
    unfold txB; rw [hi, ← hb6, ← hbi, ← hbt, l6, l8]; congr 1; exact propext ⟨fun q => q.2, fun q => ⟨rfl, q⟩⟩
  have hB : Bl w w := Bl.refl w
  refine cw_enter Try.func28 rfl 89 rfl ?_
  show CW _ _ _ _ _ _ _ [(0, .agg #[.bool yl, .slice yba ybn ybc, .slice (some ⟨g, off, none⟩) 9 yic])] _
  refine cw_seq ?_
  refine cw_region ?_
  refine rw_new 1 (#[.bool yl, .slice yba ybn ybc, .slice (some ⟨g, off, none⟩) 9 yic]) 45 (fun _ => by kernel_rfl) (fun _ => by kernel_rfl) ?_
  intro w1 g2 hn3
  have hzg2 : w.heap.size ≤ g2 := by have := hB.size; have := hn3.hg; omega
  replace hB := hB.go hn3.below
  have hr4 : Rw g2 w1 (#[.bool yl, .slice yba ybn ybc, .slice (some ⟨g, off, none⟩) 9 yic]) 45 := hn3.row
  refine rw_new 2 (#[.int .u64 0, .int .u64 0, .int .u64 0, .int .u64 0, .int .u64 0, .int .u64 0, .slice none 0 0, .bool false, .slice none 0 0]) 26 (fun _ => by kernel_rfl) (fun _ => by kernel_rfl) ?_
  intro w5 g6 hn7
  have hlg2g6 : g2 < g6 := by have := hr4.lt; have := hn7.hg; omega
  have hzg6 : w.heap.size ≤ g6 := by have := hB.size; have := hn7.hg; omega
  replace hB := hB.go hn7.below
  replace hr4 := hr4.go hn7.below
  have hr8 : Rw g6 w5 (#[.int .u64 0, .int .u64 0, .int .u64 0, .int .u64 0, .int .u64 0, .int .u64 0, .slice none 0 0, .bool false, .slice none 0 0]) 26 := hn7.row
  refine rp 3 (.bool false) ?_
  refine rw_nil ?_
  refine nw_then ?_
  refine cw_seq ?_
  refine cw_seq ?_
  refine cw_region ?_
  refine rp 12 (.pointer (some ⟨g2, 2, none⟩)) ?_
  refine rv 13 (.slice (some ⟨g, off, none⟩) 9 yic) (fun _ => ol_cell 43 _ ⟨g2, 2, none⟩ _ _ rfl (by kernel_rfl) (by rw [cell_of_row _ _ _ _ _ _ hr4]; rfl) Try.underlying43 rfl) ?_
  refine rp 14 (.int .i64 9) ?_
  refine rp 15 (.bool false) ?_
  refine rw_nil ?_
  refine nw_then ?_
  refine cw_cond_f (fun _ => by kernel_rfl) ?_
  refine cw_skip ?_
  refine nw_then ?_
  refine cw_seq ?_
  refine cw_region ?_
  refine rp 18 (.pointer (some ⟨g2, 2, none⟩)) ?_
  refine rv 19 (.slice (some ⟨g, off, none⟩) 9 yic) (fun _ => ol_cell 43 _ ⟨g2, 2, none⟩ _ _ rfl (by kernel_rfl) (by rw [cell_of_row _ _ _ _ _ _ hr4]; rfl) Try.underlying43 rfl) ?_
  refine rv 20 (.slice (some ⟨g, off, none⟩) 6 yic) (fun _ => ol_cutL (by omega) hic _ _ rfl (by kernel_rfl) (by kernel_rfl)) ?_
  refine rw_call 21 49 #[.slice (some ⟨g, off, none⟩) 6 yic] (fun _ => by kernel_rfl) (fun _ => by kernel_rfl) (R := fun v w' => (∃ V, v = .tuple #[V, .bool b6] ∧ (b6 = true → HdU w5.heap.size w' [x0, x1, x2, x3, x4, x5] V)) ∧ Bl w5 w') (wwords_b hb6 (show LiesAll w5 [x0, x1, x2, x3, x4, x5] _ 0 from liesAll_go hB (liesAll_take 6 hal)) rfl (by omega)) ?_
  rintro _ w10 ⟨⟨V9, rfl, hW11⟩, hb12⟩
  have hzwV9 := hB.size
  replace hB := hB.go hb12
  replace hr4 := hr4.go hb12
  replace hr8 := hr8.go hb12
  refine rp 17 (.tuple #[V9, .bool b6]) ?_
  refine rp 22 (V9) ?_
  refine rp 23 (.bool b6) ?_
  refine rp 4 (V9) ?_
  refine rp 5 (.bool b6) ?_
  refine rw_nil ?_
  refine nw_then ?_
  refine cw_seq ?_
  refine cw_region ?_
  refine rp 24 (.pointer (some ⟨g2, 2, none⟩)) ?_
  refine rv 25 (.slice (some ⟨g, off, none⟩) 9 yic) (fun _ => ol_cell 43 _ ⟨g2, 2, none⟩ _ _ rfl (by kernel_rfl) (by rw [cell_of_row _ _ _ _ _ _ hr4]; rfl) Try.underlying43 rfl) ?_
  refine rv 26 (.pointer (some ⟨g, off + 6 * 3, none⟩)) (fun _ => ol_index 43 _ _ g off 6 9 yic 3 45 rfl (by kernel_rfl) (by kernel_rfl) (by omega) Try.underlying43 (by kernel_rfl)) ?_
  refine rv 27 (.agg (IV y6)) (fun _ => ol_mid 45 _ g (off + 6 * 3) (V.cells y6) _ rfl (by kernel_rfl) (r6 _ hB) Try.underlying45 rfl (by kernel_rfl)) ?_
  refine rw_new 6 (#[.bool false, .slice none 0 0, .slice none 0 0]) 45 (fun _ => by kernel_rfl) (fun _ => by kernel_rfl) ?_
  intro w13 g14 hn15
  have hr16 : Rw g14 w13 (#[.bool false, .slice none 0 0, .slice none 0 0]) 45 := hn15.row
  refine rw_put g14 (IV y6) (fun _ => by kernel_rfl) (fun _ => ol_store 45 _ _ _ _ _ 45 rfl (by kernel_rfl) (by kernel_rfl) hr16 (by kernel_rfl) (by kernel_rfl) (by kernel_rfl)) ?_
  intro w17 hp18
  have hbg14 : Below w10.heap.size w10 w17 := hp18.below hn15.below (Nat.le_of_eq hn15.hg.symm) (by have := hn15.size; have := hn15.hg; omega)
  have hzg14 : w.heap.size ≤ g14 := by have := hB.size; have := hn15.hg; omega
  replace hB := hB.go hbg14
  replace hr4 := hr4.go hbg14
  replace hr8 := hr8.go hbg14
  replace hW11 := hd_go hW11 hbg14
  have hr19 : Rw g14 w17 (IV y6) 45 := hr16.put hp18
  refine rw_nil ?_
  refine nw_then ?_
  refine cw_seq ?_
  refine cw_region ?_
  refine rp 29 (.pointer (some ⟨g14, 2, none⟩)) ?_
  refine rv 30 (.slice y6.ia y6.m y6.ic) (fun _ => ol_cell 43 _ ⟨g14, 2, none⟩ _ _ rfl (by kernel_rfl) (by rw [cell_of_row _ _ _ _ _ _ hr19]; rfl) Try.underlying43 rfl) ?_
  refine rw_call 31 49 #[.slice y6.ia y6.m y6.ic] (fun _ => by kernel_rfl) (fun _ => by kernel_rfl) (R := fun v w' => (∃ V, v = .tuple #[V, .bool bi6] ∧ (bi6 = true → HdU w17.heap.size w' x6.its V)) ∧ Bl w17 w') (wwords_b hbi (show LiesAll w17 x6.its _ 0 from liesAll_go hB a6) m6 (by omega)) ?_
  rintro _ w21 ⟨⟨V20, rfl, hW22⟩, hb23⟩
  have hzwV20 := hB.size
  replace hB := hB.go hb23
  replace hr4 := hr4.go hb23
  replace hr8 := hr8.go hb23
  replace hW11 := hd_go hW11 hb23
  replace hr19 := hr19.go hb23
  refine rp 28 (.tuple #[V20, .bool bi6]) ?_
  refine rp 32 (V20) ?_
  refine rp 33 (.bool bi6) ?_
  refine rp 7 (V20) ?_
  refine rp 8 (.bool bi6) ?_
  refine rw_nil ?_
  refine nw_then ?_
  refine cw_seq ?_
  refine cw_region ?_
  refine rp 35 (.pointer (some ⟨g2, 2, none⟩)) ?_
  refine rv 36 (.slice (some ⟨g, off, none⟩) 9 yic) (fun _ => ol_cell 43 _ ⟨g2, 2, none⟩ _ _ rfl (by kernel_rfl) (by rw [cell_of_row _ _ _ _ _ _ hr4]; rfl) Try.underlying43 rfl) ?_
  refine rv 37 (.pointer (some ⟨g, off + 7 * 3, none⟩)) (fun _ => ol_index 43 _ _ g off 7 9 yic 3 45 rfl (by kernel_rfl) (by kernel_rfl) (by omega) Try.underlying43 (by kernel_rfl)) ?_
  refine rv 38 (.agg (IV y7)) (fun _ => ol_mid 45 _ g (off + 7 * 3) (V.cells y7) _ rfl (by kernel_rfl) (r7 _ hB) Try.underlying45 rfl (by kernel_rfl)) ?_
  refine rw_call 39 50 #[.agg (IV y7)] (fun _ => by kernel_rfl) (fun _ => by kernel_rfl) (R := RVl w21 (.tuple #[.bool vt7, .bool bt7])) (by have := wtruth (lies_mono hB _ _ L7); rw [hbt, hvt] at this; exact this) ?_
  rintro _ w24 ⟨rfl, hb25⟩
  replace hB := hB.go hb25
  replace hr4 := hr4.go hb25
  replace hr8 := hr8.go hb25
  replace hW11 := hd_go hW11 hb25
  replace hr19 := hr19.go hb25
  replace hW22 := hd_go hW22 hb25
  refine rp 34 (.tuple #[.bool vt7, .bool bt7]) ?_
  refine rp 40 (.bool vt7) ?_
  refine rp 41 (.bool bt7) ?_
  refine rp 9 (.bool vt7) ?_
  refine rp 10 (.bool bt7) ?_
  refine rw_nil ?_
  refine nw_then ?_
  refine cw_seq ?_
  refine cw_region ?_
  refine rp 42 (.pointer (some ⟨g2, 2, none⟩)) ?_
  refine rv 43 (.slice (some ⟨g, off, none⟩) 9 yic) (fun _ => ol_cell 43 _ ⟨g2, 2, none⟩ _ _ rfl (by kernel_rfl) (by rw [cell_of_row _ _ _ _ _ _ hr4]; rfl) Try.underlying43 rfl) ?_
  refine rv 44 (.pointer (some ⟨g, off + 8 * 3, none⟩)) (fun _ => ol_index 43 _ _ g off 8 9 yic 3 45 rfl (by kernel_rfl) (by kernel_rfl) (by omega) Try.underlying43 (by kernel_rfl)) ?_
  refine rv 45 (.agg (IV y8)) (fun _ => ol_mid 45 _ g (off + 8 * 3) (V.cells y8) _ rfl (by kernel_rfl) (r8 _ hB) Try.underlying45 rfl (by kernel_rfl)) ?_
  refine rw_new 11 (#[.bool false, .slice none 0 0, .slice none 0 0]) 45 (fun _ => by kernel_rfl) (fun _ => by kernel_rfl) ?_
  intro w26 g27 hn28
  have hr29 : Rw g27 w26 (#[.bool false, .slice none 0 0, .slice none 0 0]) 45 := hn28.row
  refine rw_put g27 (IV y8) (fun _ => by kernel_rfl) (fun _ => ol_store 45 _ _ _ _ _ 45 rfl (by kernel_rfl) (by kernel_rfl) hr29 (by kernel_rfl) (by kernel_rfl) (by kernel_rfl)) ?_
  intro w30 hp31
  have hbg27 : Below w24.heap.size w24 w30 := hp31.below hn28.below (Nat.le_of_eq hn28.hg.symm) (by have := hn28.size; have := hn28.hg; omega)
  have hzg27 : w.heap.size ≤ g27 := by have := hB.size; have := hn28.hg; omega
  replace hB := hB.go hbg27
  replace hr4 := hr4.go hbg27
  replace hr8 := hr8.go hbg27
  replace hW11 := hd_go hW11 hbg27
  replace hr19 := hr19.go hbg27
  replace hW22 := hd_go hW22 hbg27
  have hr32 : Rw g27 w30 (IV y8) 45 := hr29.put hp31
  refine rw_nil ?_
  refine nw_then ?_
  refine cw_seq ?_
  refine cw_seq ?_
  refine cw_region ?_
  refine rp 46 (.bool b6) ?_
  refine rp 47 (.bool (!b6)) ?_
  refine rp 48 (.bool (!b6)) ?_
  cases hq33 : (!b6) with
  | true =>
    refine rw_off 49 (fun _ => by kernel_rfl) ?_
    refine rw_off 50 (fun _ => by kernel_rfl) ?_
    refine rw_off 51 (fun _ => by kernel_rfl) ?_
    refine rp 52 (.bool true) ?_
    refine rp 53 (.bool true) ?_
    refine rw_off 54 (fun _ => by kernel_rfl) ?_
    refine rw_off 55 (fun _ => by kernel_rfl) ?_
    refine rp 56 (.bool true) ?_
    refine rp 57 (.bool true) ?_
    refine rw_off 58 (fun _ => by kernel_rfl) ?_
    refine rw_off 59 (fun _ => by kernel_rfl) ?_
    refine rp 60 (.bool true) ?_
    refine rp 61 (.bool true) ?_
    refine rw_off 62 (fun _ => by kernel_rfl) ?_
    refine rw_off 63 (fun _ => by kernel_rfl) ?_
    refine rp 64 (.bool true) ?_
    refine rw_nil ?_
    refine nw_then ?_
    refine cw_cond_t (fun _ => by kernel_rfl) ?_
    refine cw_seq ?_
    refine cw_region ?_
    refine rp 65 (.agg #[.int .u64 0, .int .u64 0, .int .u64 0, .int .u64 0, .int .u64 0, .int .u64 0, .slice none 0 0, .bool false, .slice none 0 0]) ?_
    refine rw_put g6 (#[.int .u64 0, .int .u64 0, .int .u64 0, .int .u64 0, .int .u64 0, .int .u64 0, .slice none 0 0, .bool false, .slice none 0 0]) (fun _ => by kernel_rfl) (fun _ => ol_store 26 _ _ _ _ _ 26 rfl (by kernel_rfl) (by kernel_rfl) hr8 (by kernel_rfl) (by kernel_rfl) (by kernel_rfl)) ?_
    intro w34 hp35
    replace hB := hB.put hp35 hzg6
    replace hr4 := hr4.past hp35 (by omega)
    replace hr8 := hr8.put hp35
    refine rp 3 (.bool false) ?_
    refine rw_nil ?_
    refine nw_then ?_
    refine cw_ret ?_
    refine nw_ret_then ?_
    refine nw_ret_body (.tuple #[.agg (#[.int .u64 0, .int .u64 0, .int .u64 0, .int .u64 0, .int .u64 0, .int .u64 0, .slice none 0 0, .bool false, .slice none 0 0]), .bool false]) (fun _ => res_c2 rfl _ g6 _ _ (by kernel_rfl) (by kernel_rfl) hr8 Try.underlying26 rfl (by kernel_rfl)) ?_
    try simp only [Bool.not_eq_false', Bool.not_eq_true'] at hq33
    have e : txB t = none := by rw [he]; exact if_neg fun q => by obtain ⟨q1, q2, q3, q4, q5⟩ := q; first | (rw [q1] at hq33; cases hq33) | (rw [q2] at hq33; cases hq33) | (rw [q3] at hq33; cases hq33) | (rw [q4] at hq33; cases hq33) | (rw [q5] at hq33; cases hq33)
    rw [e]
    exact ⟨_, rfl, ⟨zTV, rfl, rfl, zTV_at _, zTV_nw _⟩, hB⟩
  | false =>
    refine rp 49 (.pointer (some ⟨g14, 0, none⟩)) ?_
    refine rv 50 (.bool y6.l) (fun _ => ol_cell 4 _ ⟨g14, 0, none⟩ _ _ rfl (by kernel_rfl) (by rw [cell_of_row _ _ _ _ _ _ hr19]; rfl) Try.underlying4 rfl) ?_
    refine rp 51 (.bool (!y6.l)) ?_
    refine rp 52 (.bool (!y6.l)) ?_
    refine rp 53 (.bool (!y6.l)) ?_
    cases hq36 : (!y6.l) with
    | true =>
      refine rw_off 54 (fun _ => by kernel_rfl) ?_
      refine rw_off 55 (fun _ => by kernel_rfl) ?_
      refine rp 56 (.bool true) ?_
      refine rp 57 (.bool true) ?_
      refine rw_off 58 (fun _ => by kernel_rfl) ?_
      refine rw_off 59 (fun _ => by kernel_rfl) ?_
      refine rp 60 (.bool true) ?_
      refine rp 61 (.bool true) ?_
      refine rw_off 62 (fun _ => by kernel_rfl) ?_
      refine rw_off 63 (fun _ => by kernel_rfl) ?_
      refine rp 64 (.bool true) ?_
      refine rw_nil ?_
      refine nw_then ?_
      refine cw_cond_t (fun _ => by kernel_rfl) ?_
      refine cw_seq ?_
      refine cw_region ?_
      refine rp 65 (.agg #[.int .u64 0, .int .u64 0, .int .u64 0, .int .u64 0, .int .u64 0, .int .u64 0, .slice none 0 0, .bool false, .slice none 0 0]) ?_
      refine rw_put g6 (#[.int .u64 0, .int .u64 0, .int .u64 0, .int .u64 0, .int .u64 0, .int .u64 0, .slice none 0 0, .bool false, .slice none 0 0]) (fun _ => by kernel_rfl) (fun _ => ol_store 26 _ _ _ _ _ 26 rfl (by kernel_rfl) (by kernel_rfl) hr8 (by kernel_rfl) (by kernel_rfl) (by kernel_rfl)) ?_
      intro w37 hp38
      replace hB := hB.put hp38 hzg6
      replace hr4 := hr4.past hp38 (by omega)
      replace hr8 := hr8.put hp38
      refine rp 3 (.bool false) ?_
      refine rw_nil ?_
      refine nw_then ?_
      refine cw_ret ?_
      refine nw_ret_then ?_
      refine nw_ret_body (.tuple #[.agg (#[.int .u64 0, .int .u64 0, .int .u64 0, .int .u64 0, .int .u64 0, .int .u64 0, .slice none 0 0, .bool false, .slice none 0 0]), .bool false]) (fun _ => res_c2 rfl _ g6 _ _ (by kernel_rfl) (by kernel_rfl) hr8 Try.underlying26 rfl (by kernel_rfl)) ?_
      try simp only [Bool.not_eq_false', Bool.not_eq_true'] at hq33
      try simp only [Bool.not_eq_false', Bool.not_eq_true'] at hq36
      have e : txB t = none := by rw [he]; exact if_neg fun q => by obtain ⟨q1, q2, q3, q4, q5⟩ := q; first | (rw [q1] at hq36; cases hq36) | (rw [q2] at hq36; cases hq36) | (rw [q3] at hq36; cases hq36) | (rw [q4] at hq36; cases hq36) | (rw [q5] at hq36; cases hq36)
      rw [e]
      exact ⟨_, rfl, ⟨zTV, rfl, rfl, zTV_at _, zTV_nw _⟩, hB⟩
    | false =>
      refine rp 54 (.bool bi6) ?_
      refine rp 55 (.bool (!bi6)) ?_
      refine rp 56 (.bool (!bi6)) ?_
      refine rp 57 (.bool (!bi6)) ?_
      cases hq39 : (!bi6) with
      | true =>
        refine rw_off 58 (fun _ => by kernel_rfl) ?_
        refine rw_off 59 (fun _ => by kernel_rfl) ?_
        refine rp 60 (.bool true) ?_
        refine rp 61 (.bool true) ?_
        refine rw_off 62 (fun _ => by kernel_rfl) ?_
        refine rw_off 63 (fun _ => by kernel_rfl) ?_
        refine rp 64 (.bool true) ?_
        refine rw_nil ?_
        refine nw_then ?_
        refine cw_cond_t (fun _ => by kernel_rfl) ?_
        refine cw_seq ?_
        refine cw_region ?_
        refine rp 65 (.agg #[.int .u64 0, .int .u64 0, .int .u64 0, .int .u64 0, .int .u64 0, .int .u64 0, .slice none 0 0, .bool false, .slice none 0 0]) ?_
        refine rw_put g6 (#[.int .u64 0, .int .u64 0, .int .u64 0, .int .u64 0, .int .u64 0, .int .u64 0, .slice none 0 0, .bool false, .slice none 0 0]) (fun _ => by kernel_rfl) (fun _ => ol_store 26 _ _ _ _ _ 26 rfl (by kernel_rfl) (by kernel_rfl) hr8 (by kernel_rfl) (by kernel_rfl) (by kernel_rfl)) ?_
        intro w40 hp41
        replace hB := hB.put hp41 hzg6
        replace hr4 := hr4.past hp41 (by omega)
        replace hr8 := hr8.put hp41
        refine rp 3 (.bool false) ?_
        refine rw_nil ?_
        refine nw_then ?_
        refine cw_ret ?_
        refine nw_ret_then ?_
        refine nw_ret_body (.tuple #[.agg (#[.int .u64 0, .int .u64 0, .int .u64 0, .int .u64 0, .int .u64 0, .int .u64 0, .slice none 0 0, .bool false, .slice none 0 0]), .bool false]) (fun _ => res_c2 rfl _ g6 _ _ (by kernel_rfl) (by kernel_rfl) hr8 Try.underlying26 rfl (by kernel_rfl)) ?_
        try simp only [Bool.not_eq_false', Bool.not_eq_true'] at hq33
        try simp only [Bool.not_eq_false', Bool.not_eq_true'] at hq36
        try simp only [Bool.not_eq_false', Bool.not_eq_true'] at hq39
        have e : txB t = none := by rw [he]; exact if_neg fun q => by obtain ⟨q1, q2, q3, q4, q5⟩ := q; first | (rw [q1] at hq39; cases hq39) | (rw [q2] at hq39; cases hq39) | (rw [q3] at hq39; cases hq39) | (rw [q4] at hq39; cases hq39) | (rw [q5] at hq39; cases hq39)
        rw [e]
        exact ⟨_, rfl, ⟨zTV, rfl, rfl, zTV_at _, zTV_nw _⟩, hB⟩
      | false =>
        refine rp 58 (.bool bt7) ?_
        refine rp 59 (.bool (!bt7)) ?_
        refine rp 60 (.bool (!bt7)) ?_
        refine rp 61 (.bool (!bt7)) ?_
        cases hq42 : (!bt7) with
        | true =>
          refine rw_off 62 (fun _ => by kernel_rfl) ?_
          refine rw_off 63 (fun _ => by kernel_rfl) ?_
          refine rp 64 (.bool true) ?_
          refine rw_nil ?_
          refine nw_then ?_
          refine cw_cond_t (fun _ => by kernel_rfl) ?_
          refine cw_seq ?_
          refine cw_region ?_
          refine rp 65 (.agg #[.int .u64 0, .int .u64 0, .int .u64 0, .int .u64 0, .int .u64 0, .int .u64 0, .slice none 0 0, .bool false, .slice none 0 0]) ?_
          refine rw_put g6 (#[.int .u64 0, .int .u64 0, .int .u64 0, .int .u64 0, .int .u64 0, .int .u64 0, .slice none 0 0, .bool false, .slice none 0 0]) (fun _ => by kernel_rfl) (fun _ => ol_store 26 _ _ _ _ _ 26 rfl (by kernel_rfl) (by kernel_rfl) hr8 (by kernel_rfl) (by kernel_rfl) (by kernel_rfl)) ?_
          intro w43 hp44
          replace hB := hB.put hp44 hzg6
          replace hr4 := hr4.past hp44 (by omega)
          replace hr8 := hr8.put hp44
          refine rp 3 (.bool false) ?_
          refine rw_nil ?_
          refine nw_then ?_
          refine cw_ret ?_
          refine nw_ret_then ?_
          refine nw_ret_body (.tuple #[.agg (#[.int .u64 0, .int .u64 0, .int .u64 0, .int .u64 0, .int .u64 0, .int .u64 0, .slice none 0 0, .bool false, .slice none 0 0]), .bool false]) (fun _ => res_c2 rfl _ g6 _ _ (by kernel_rfl) (by kernel_rfl) hr8 Try.underlying26 rfl (by kernel_rfl)) ?_
          try simp only [Bool.not_eq_false', Bool.not_eq_true'] at hq33
          try simp only [Bool.not_eq_false', Bool.not_eq_true'] at hq36
          try simp only [Bool.not_eq_false', Bool.not_eq_true'] at hq39
          try simp only [Bool.not_eq_false', Bool.not_eq_true'] at hq42
          have e : txB t = none := by rw [he]; exact if_neg fun q => by obtain ⟨q1, q2, q3, q4, q5⟩ := q; first | (rw [q1] at hq42; cases hq42) | (rw [q2] at hq42; cases hq42) | (rw [q3] at hq42; cases hq42) | (rw [q4] at hq42; cases hq42) | (rw [q5] at hq42; cases hq42)
          rw [e]
          exact ⟨_, rfl, ⟨zTV, rfl, rfl, zTV_at _, zTV_nw _⟩, hB⟩
        | false =>
          refine rp 62 (.pointer (some ⟨g27, 0, none⟩)) ?_
          refine rv 63 (.bool y8.l) (fun _ => ol_cell 4 _ ⟨g27, 0, none⟩ _ _ rfl (by kernel_rfl) (by rw [cell_of_row _ _ _ _ _ _ hr32]; rfl) Try.underlying4 rfl) ?_
          refine rp 64 (.bool y8.l) ?_
          refine rw_nil ?_
          refine nw_then ?_
          cases hq45 : (y8.l) with
          | true =>
            refine cw_cond_t (fun _ => by kernel_rfl) ?_
            refine cw_seq ?_
            refine cw_region ?_
            refine rp 65 (.agg #[.int .u64 0, .int .u64 0, .int .u64 0, .int .u64 0, .int .u64 0, .int .u64 0, .slice none 0 0, .bool false, .slice none 0 0]) ?_
            refine rw_put g6 (#[.int .u64 0, .int .u64 0, .int .u64 0, .int .u64 0, .int .u64 0, .int .u64 0, .slice none 0 0, .bool false, .slice none 0 0]) (fun _ => by kernel_rfl) (fun _ => ol_store 26 _ _ _ _ _ 26 rfl (by kernel_rfl) (by kernel_rfl) hr8 (by kernel_rfl) (by kernel_rfl) (by kernel_rfl)) ?_
            intro w46 hp47
            replace hB := hB.put hp47 hzg6
            replace hr4 := hr4.past hp47 (by omega)
            replace hr8 := hr8.put hp47
            refine rp 3 (.bool false) ?_
            refine rw_nil ?_
            refine nw_then ?_
            refine cw_ret ?_
            refine nw_ret_then ?_
            refine nw_ret_body (.tuple #[.agg (#[.int .u64 0, .int .u64 0, .int .u64 0, .int .u64 0, .int .u64 0, .int .u64 0, .slice none 0 0, .bool false, .slice none 0 0]), .bool false]) (fun _ => res_c2 rfl _ g6 _ _ (by kernel_rfl) (by kernel_rfl) hr8 Try.underlying26 rfl (by kernel_rfl)) ?_
            try simp only [Bool.not_eq_false', Bool.not_eq_true'] at hq33
            try simp only [Bool.not_eq_false', Bool.not_eq_true'] at hq36
            try simp only [Bool.not_eq_false', Bool.not_eq_true'] at hq39
            try simp only [Bool.not_eq_false', Bool.not_eq_true'] at hq42
            try simp only [Bool.not_eq_false', Bool.not_eq_true'] at hq45
            have e : txB t = none := by rw [he]; exact if_neg fun q => by obtain ⟨q1, q2, q3, q4, q5⟩ := q; first | (rw [q1] at hq45; cases hq45) | (rw [q2] at hq45; cases hq45) | (rw [q3] at hq45; cases hq45) | (rw [q4] at hq45; cases hq45) | (rw [q5] at hq45; cases hq45)
            rw [e]
            exact ⟨_, rfl, ⟨zTV, rfl, rfl, zTV_at _, zTV_nw _⟩, hB⟩
          | false =>
            refine cw_cond_f (fun _ => by kernel_rfl) ?_
            refine cw_skip ?_
            refine nw_then ?_
            refine cw_seq ?_
            try simp only [Bool.not_eq_false', Bool.not_eq_true'] at hq33
            try simp only [Bool.not_eq_false', Bool.not_eq_true'] at hq36
            try simp only [Bool.not_eq_false', Bool.not_eq_true'] at hq39
            try simp only [Bool.not_eq_false', Bool.not_eq_true'] at hq42
            try simp only [Bool.not_eq_false', Bool.not_eq_true'] at hq45
            obtain ⟨gh, hV6, hRh, _⟩ := hW11 hq33
            have hV6b : V9 = .slice (some ⟨gh, 0, none⟩) 6 6 := hV6
            clear hV6
            subst hV6b
            obtain ⟨gi, hVi, hRi, hgi⟩ := hW22 hq39
            subst hVi
            refine cw_sub [(11, .pointer (some ⟨g27, 0, none⟩)), (9, .bool vt7), (7, .slice (some ⟨gi, 0, none⟩) x6.its.length x6.its.length), (4, .slice (some ⟨gh, 0, none⟩) 6 6), (3, .bool false), (2, .pointer (some ⟨g6, 0, none⟩))] (by exact ⟨fun _ => by kernel_rfl, ⟨fun _ => by kernel_rfl, ⟨fun _ => by kernel_rfl, ⟨fun _ => by kernel_rfl, ⟨fun _ => by kernel_rfl, ⟨fun _ => by kernel_rfl, trivial⟩⟩⟩⟩⟩⟩) ?_
            skip
            refine cw_draw (fun v => Rw gh v ((([x0, x1, x2, x3, x4, x5].map fun t => (wp4 t).1).map u64).toArray) 22 ∧ Rw g27 v (IV y8) 45) (by kernel_rfl) (⟨hRh.drew, hr32.drew⟩) ?_
            replace hB := hB.go (Below.refl _ _).drew
            replace hr8 := hr8.go (Below.refl _ _).drew
            replace hr32 := hr32.go (Below.refl _ _).drew
            replace hRh := hRh.go (Below.refl _ _).drew
            replace hRi := hRi.go (Below.refl _ _).drew
            refine dt 0 66 (.slice (some ⟨gh, 0, none⟩) 6 6) (fun v hv _ => by kernel_rfl) ⟨hRh, hr32⟩ ?_
            refine dt 1 67 (.pointer (some ⟨gh, 0 + 0 * 1, none⟩)) (fun v hv _ => ol_index 23 _ _ gh 0 0 6 6 1 22 rfl (by kernel_rfl) (by kernel_rfl) (by omega) Try.underlying23 (by kernel_rfl)) ⟨hRh, hr32⟩ ?_
            refine dt 2 68 (.int .u64 (((wp4 x0).1 : Nat) : Int)) (fun v hv _ => ol_cell 22 _ ⟨gh, 0 + 0 * 1, none⟩ _ _ rfl (by kernel_rfl) (mid_cell hv.1 (i := 0) rfl) Try.underlying22 rfl) ⟨hRh, hr32⟩ ?_
            refine dt 3 69 (.slice (some ⟨gh, 0, none⟩) 6 6) (fun v hv _ => by kernel_rfl) ⟨hRh, hr32⟩ ?_
            refine dt 4 70 (.pointer (some ⟨gh, 0 + 1 * 1, none⟩)) (fun v hv _ => ol_index 23 _ _ gh 0 1 6 6 1 22 rfl (by kernel_rfl) (by kernel_rfl) (by omega) Try.underlying23 (by kernel_rfl)) ⟨hRh, hr32⟩ ?_
            refine dt 5 71 (.int .u64 (((wp4 x1).1 : Nat) : Int)) (fun v hv _ => ol_cell 22 _ ⟨gh, 0 + 1 * 1, none⟩ _ _ rfl (by kernel_rfl) (mid_cell hv.1 (i := 1) rfl) Try.underlying22 rfl) ⟨hRh, hr32⟩ ?_
            refine dt 6 72 (.slice (some ⟨gh, 0, none⟩) 6 6) (fun v hv _ => by kernel_rfl) ⟨hRh, hr32⟩ ?_
            refine dt 7 73 (.pointer (some ⟨gh, 0 + 2 * 1, none⟩)) (fun v hv _ => ol_index 23 _ _ gh 0 2 6 6 1 22 rfl (by kernel_rfl) (by kernel_rfl) (by omega) Try.underlying23 (by kernel_rfl)) ⟨hRh, hr32⟩ ?_
            refine dt 8 74 (.int .u64 (((wp4 x2).1 : Nat) : Int)) (fun v hv _ => ol_cell 22 _ ⟨gh, 0 + 2 * 1, none⟩ _ _ rfl (by kernel_rfl) (mid_cell hv.1 (i := 2) rfl) Try.underlying22 rfl) ⟨hRh, hr32⟩ ?_
            refine dt 9 75 (.slice (some ⟨gh, 0, none⟩) 6 6) (fun v hv _ => by kernel_rfl) ⟨hRh, hr32⟩ ?_
            refine dt 10 76 (.pointer (some ⟨gh, 0 + 3 * 1, none⟩)) (fun v hv _ => ol_index 23 _ _ gh 0 3 6 6 1 22 rfl (by kernel_rfl) (by kernel_rfl) (by omega) Try.underlying23 (by kernel_rfl)) ⟨hRh, hr32⟩ ?_
            refine dt 11 77 (.int .u64 (((wp4 x3).1 : Nat) : Int)) (fun v hv _ => ol_cell 22 _ ⟨gh, 0 + 3 * 1, none⟩ _ _ rfl (by kernel_rfl) (mid_cell hv.1 (i := 3) rfl) Try.underlying22 rfl) ⟨hRh, hr32⟩ ?_
            refine dt 12 78 (.slice (some ⟨gh, 0, none⟩) 6 6) (fun v hv _ => by kernel_rfl) ⟨hRh, hr32⟩ ?_
            refine dt 13 79 (.pointer (some ⟨gh, 0 + 4 * 1, none⟩)) (fun v hv _ => ol_index 23 _ _ gh 0 4 6 6 1 22 rfl (by kernel_rfl) (by kernel_rfl) (by omega) Try.underlying23 (by kernel_rfl)) ⟨hRh, hr32⟩ ?_
            refine dt 14 80 (.int .u64 (((wp4 x4).1 : Nat) : Int)) (fun v hv _ => ol_cell 22 _ ⟨gh, 0 + 4 * 1, none⟩ _ _ rfl (by kernel_rfl) (mid_cell hv.1 (i := 4) rfl) Try.underlying22 rfl) ⟨hRh, hr32⟩ ?_
            refine dt 15 81 (.slice (some ⟨gh, 0, none⟩) 6 6) (fun v hv _ => by kernel_rfl) ⟨hRh, hr32⟩ ?_
            refine dt 16 82 (.pointer (some ⟨gh, 0 + 5 * 1, none⟩)) (fun v hv _ => ol_index 23 _ _ gh 0 5 6 6 1 22 rfl (by kernel_rfl) (by kernel_rfl) (by omega) Try.underlying23 (by kernel_rfl)) ⟨hRh, hr32⟩ ?_
            refine dt 17 83 (.int .u64 (((wp4 x5).1 : Nat) : Int)) (fun v hv _ => ol_cell 22 _ ⟨gh, 0 + 5 * 1, none⟩ _ _ rfl (by kernel_rfl) (mid_cell hv.1 (i := 5) rfl) Try.underlying22 rfl) ⟨hRh, hr32⟩ ?_
            refine dt 18 84 (.slice (some ⟨gi, 0, none⟩) x6.its.length x6.its.length) (fun v hv _ => by kernel_rfl) ⟨hRh, hr32⟩ ?_
            refine dt 19 85 (.bool vt7) (fun v hv _ => by kernel_rfl) ⟨hRh, hr32⟩ ?_
            refine dt 20 86 (.pointer (some ⟨g27, 1, none⟩)) (fun v hv _ => by kernel_rfl) ⟨hRh, hr32⟩ ?_
            refine dt 21 87 (.slice y8.ba y8.bn y8.bc) (fun v hv _ => ol_cell 24 _ ⟨g27, 1, none⟩ _ _ rfl (by kernel_rfl) (by rw [cell_of_row _ _ _ _ _ _ hv.2]; rfl) Try.underlying24 rfl) ⟨hRh, hr32⟩ ?_
            refine dt 22 88 (.agg #[.int .u64 (((wp4 x0).1 : Nat) : Int), .int .u64 (((wp4 x1).1 : Nat) : Int), .int .u64 (((wp4 x2).1 : Nat) : Int), .int .u64 (((wp4 x3).1 : Nat) : Int), .int .u64 (((wp4 x4).1 : Nat) : Int), .int .u64 (((wp4 x5).1 : Nat) : Int), .slice (some ⟨gi, 0, none⟩) x6.its.length x6.its.length, .bool vt7, .slice y8.ba y8.bn y8.bc]) (fun v hv => (fun _ => by kernel_rfl)) ⟨hRh, hr32⟩ ?_
            refine dw_ready [23] (by kernel_rfl) (by simp) ?_
            have hl2 : gh ≠ g6 ∧ gi ≠ g6 := ⟨ne_tag hRh hr8 (by decide), ne_tag hRi hr8 (by decide)⟩
            have hl3 : g27 ≠ g6 := ne_tag hr32 hr8 (by decide)
            refine ar_put 23 g6 (#[.int .u64 (((wp4 x0).1 : Nat) : Int), .int .u64 (((wp4 x1).1 : Nat) : Int), .int .u64 (((wp4 x2).1 : Nat) : Int), .int .u64 (((wp4 x3).1 : Nat) : Int), .int .u64 (((wp4 x4).1 : Nat) : Int), .int .u64 (((wp4 x5).1 : Nat) : Int), .slice (some ⟨gi, 0, none⟩) x6.its.length x6.its.length, .bool vt7, .slice y8.ba y8.bn y8.bc]) rfl (fun _ => by kernel_rfl) (fun _ => ol_store 26 _ _ _ _ _ 26 rfl (by kernel_rfl) (by kernel_rfl) hr8 (by kernel_rfl) (by kernel_rfl) (by kernel_rfl)) (fun w' hp => ⟨hRh.past hp hl2.1, hr32.past hp hl3⟩) ?_ ar_nil
            intro w48 hp49
            have hsz := hB.size
            replace hB := hB.put hp49 hzg6
            replace hRh := hRh.past hp49 hl2.1
            replace hRi := hRi.past hp49 hl2.2
            replace hr32 := hr32.past hp49 hl3
            replace hr8 := hr8.put hp49
            refine dt 24 3 (.bool true) (fun v hv _ => by kernel_rfl) ⟨hRh, hr32⟩ ?_
            refine dw_done (by kernel_rfl) ?_
            refine nw_then ?_
            refine cw_ret ?_
            refine nw_ret_body (.tuple #[.agg (#[.int .u64 (((wp4 x0).1 : Nat) : Int), .int .u64 (((wp4 x1).1 : Nat) : Int), .int .u64 (((wp4 x2).1 : Nat) : Int), .int .u64 (((wp4 x3).1 : Nat) : Int), .int .u64 (((wp4 x4).1 : Nat) : Int), .int .u64 (((wp4 x5).1 : Nat) : Int), .slice (some ⟨gi, 0, none⟩) x6.its.length x6.its.length, .bool vt7, .slice y8.ba y8.bn y8.bc]), .bool true]) (fun _ => res_c2 rfl _ g6 _ _ (by kernel_rfl) (by kernel_rfl) hr8 Try.underlying26 rfl (by kernel_rfl)) ?_
            have e : txB t = some (mkX [x0, x1, x2, x3, x4, x5, x6, x7, x8]) := by rw [he]; exact if_pos ⟨hq33, hq36, hq39, hq42, hq45⟩
            have hvd : vt7 = decide ((wp4 x7).1 = 1) := by rw [← hvt]; exact tru_dec (by rw [hbt]; exact hq42)
            subst hvd
            rw [e]
            have hok : okX (mkX [x0, x1, x2, x3, x4, x5, x6, x7, x8]) := mkX_ok (by rw [← hi]; exact hby)
            have hwl := rw_wl hRi hok.i (by rw [List.length_map]; exact hx6)
            rw [List.length_map] at hwl
            exact ⟨_, rfl, ⟨⟨mkX [x0, x1, x2, x3, x4, x5, x6, x7, x8], some ⟨gi, 0, none⟩, x6.its.length, x6.its.length, y8.ba, y8.bn, y8.bc⟩, rfl, rfl, ⟨hok, hwl, g8.go hB, m8⟩, ⟨(fun g off e => by cases e; omega), n8⟩⟩, hB⟩
theorem wtxOf {w : World} {t : T} {y : V} {N : Nat} (hN : N ≤ w.heap.size) (h : LiesP (Np N) w t y) (hl1 : t.its.length ≤ 16777216) (hl2 : ∀ x ∈ t.its, x.its.length ≤ 16777216) (hby : byt t) : Calls Try.prog 28 #[.agg (IV y)] w fun e w' => ∃ v, e = .returned v ∧ TxR N w (txB t) v w' := by
  by_cases h9 : y.m = 9
  · obtain ⟨⟨_, _, hm, hic, _, _⟩, _, hp⟩ := liesP_un h
    have hbs : byts t.its := by obtain ⟨l, bs, its⟩ := t; rw [byt_eq] at hby; exact hby.2
    rw [h9] at hm
    match hi : t.its, hm with
    | [x0, x1, x2, x3, x4, x5, x6, x7, x8], _ =>
      rw [hi] at hp
      obtain ⟨g, off, y6, ha, r6, L6⟩ := liesP_i hp (i := 6) (x := x6) rfl
      obtain ⟨g7, off7, y7, ha7, r7, L7⟩ := liesP_i hp (i := 7) (x := x7) rfl
      obtain ⟨g8, off8, y8, ha8, r8, L8⟩ := liesP_i hp (i := 8) (x := x8) rfl
      rw [ha] at ha7 ha8
      cases ha7
      cases ha8
      have hal := liesPAll_all hp
      obtain ⟨yl, yba, ybn, ybc, yia, ym, yic⟩ := y
      simp only at ha h9 hic hal
      subst ha h9
      exact wtx_9 hN hi hbs hic hal (by simpa using r6) (by simpa using r7) (by simpa using r8) (liesP_lies _ _ L6) (liesP_lies _ _ L7) L8 (hl2 x6 (by rw [hi]; simp))
  · exact wtx_no (liesP_lies _ _ h) h9
theorem wdecP_bad {w : World} {a : Option Addr} {n c : Nat} {b : List Int} (h : Ag w a n c b) (hn : n ≤ 140737488351232) {e0 : Nat} (hd : decP b = .bad e0) : Calls Try.prog 27 #[.slice a n c] w fun e w' => ∃ v, e = .returned v ∧ (∃ (y : V) (er : Nat), v = .tuple #[.agg (IV y), .int .i64 (er : Nat)] ∧ er ≠ 0) ∧ Bl w w' :=
  (wdecode h hn).mono fun e w' ⟨v, h1, ⟨y, er, h2, h3⟩, h4⟩ => ⟨v, h1, ⟨y, er, h2, by rw [hd] at h3; exact h3.1⟩, h4⟩
theorem wdecP_ok {w : World} {a : Option Addr} {n c : Nat} {b : List Int} (h : Ag w a n c b) (hn : n ≤ 140737488351232) {t : T} (hd : decP b = .ok t) : Calls Try.prog 27 #[.slice a n c] w fun e w' => ∃ v, e = .returned v ∧ (∃ y : V, v = .tuple #[.agg (IV y), .int .i64 0] ∧ LiesP (Np w.heap.size) w' t y) ∧ Bl w w' :=
  (decode_any a n c b w h hn).mono fun e w' hp => by
    rw [hd] at hp
    obtain ⟨hb, y, he, hl⟩ := hp
    exact ⟨_, he, ⟨y, rfl, hl⟩, hb⟩
/-- What Decode of a transaction tells. -/
def RDx (w : World) (r : Option PX) : Value → World → Prop := fun v w' => (∃ z : TV, v = .tuple #[.agg z.cells, .int .i64 (if r.isSome then 0 else 160)] ∧ z.t = r.getD zX ∧ TXa w' z ∧ NwX w.heap.size z) ∧ Bl w w'
theorem wtxde_bad {w : World} {x : Option Addr} {n c : Nat} {b : List Int} (h : Ag w x n c b) (hn : n ≤ 140737488351232) {e0 : Nat} (hd : decP b = .bad e0) : Calls Try.prog 15 #[.slice x n c] w fun e w' => ∃ v, e = .returned v ∧ RDx w (deX b) v w' := by
  have e : deX b = none := by unfold deX; rw [hd]
  rw [e]
  have hB : Bl w w := Bl.refl w
  refine cw_enter Try.func15 rfl 30 rfl ?_
  show CW _ _ _ _ _ _ _ [(0, .slice x n c)] _
  refine cw_seq ?_
  refine cw_region ?_
  refine rw_new 2 (#[.int .u64 0, .int .u64 0, .int .u64 0, .int .u64 0, .int .u64 0, .int .u64 0, .slice none 0 0, .bool false, .slice none 0 0]) 26 (fun _ => by kernel_rfl) (fun _ => by kernel_rfl) ?_
  intro w1 g2 hn3
  have hzg2 : w.heap.size ≤ g2 := by have := hB.size; have := hn3.hg; omega
  replace hB := hB.go hn3.below
  replace h := h.go hn3.below
  have hr4 : Rw g2 w1 (#[.int .u64 0, .int .u64 0, .int .u64 0, .int .u64 0, .int .u64 0, .int .u64 0, .slice none 0 0, .bool false, .slice none 0 0]) 26 := hn3.row
  refine rp 3 (.int .i64 0) ?_
  refine rw_nil ?_
  refine nw_then ?_
  refine cw_seq ?_
  have hN2 : Bl w1 w1 := Bl.refl _
  have hgNg2 : g2 < w1.heap.size := hr4.lt
  refine cw_region ?_
  refine rp 9 (.slice x n c) ?_
  refine rw_call 10 27 #[.slice x n c] (fun _ => by kernel_rfl) (fun _ => by kernel_rfl) (R := fun v w' => (∃ (y : V) (er : Nat), v = .tuple #[.agg (IV y), .int .i64 (er : Nat)] ∧ er ≠ 0) ∧ Bl w1 w') (wdecP_bad h hn hd) ?_
  rintro _ w7 ⟨⟨y5, er6, rfl, hx8⟩, hb9⟩
  replace hB := hB.go hb9
  replace h := h.go hb9
  replace hr4 := hr4.go hb9
  replace hN2 := hN2.go hb9
  refine rp 8 (.tuple #[.agg (IV y5), .int .i64 er6]) ?_
  refine rp 11 (.agg (IV y5)) ?_
  refine rp 12 (.int .i64 er6) ?_
  refine rw_new 4 (#[.bool false, .slice none 0 0, .slice none 0 0]) 45 (fun _ => by kernel_rfl) (fun _ => by kernel_rfl) ?_
  intro w10 g11 hn12
  have hr13 : Rw g11 w10 (#[.bool false, .slice none 0 0, .slice none 0 0]) 45 := hn12.row
  refine rw_put g11 (IV y5) (fun _ => by kernel_rfl) (fun _ => ol_store 45 _ _ _ _ _ 45 rfl (by kernel_rfl) (by kernel_rfl) hr13 (by kernel_rfl) (by kernel_rfl) (by kernel_rfl)) ?_
  intro w14 hp15
  have hbg11 : Below w7.heap.size w7 w14 := hp15.below hn12.below (Nat.le_of_eq hn12.hg.symm) (by have := hn12.size; have := hn12.hg; omega)
  have hzg11 : w.heap.size ≤ g11 := by have := hB.size; have := hn12.hg; omega
  replace hB := hB.go hbg11
  replace h := h.go hbg11
  replace hr4 := hr4.go hbg11
  replace hN2 := hN2.go hbg11
  have hr16 : Rw g11 w14 (IV y5) 45 := hr13.put hp15
  refine rp 5 (.int .i64 er6) ?_
  refine rw_nil ?_
  refine nw_then ?_
  refine cw_seq ?_
  refine cw_seq ?_
  refine cw_region ?_
  refine rp 13 (.int .i64 er6) ?_
  refine rv 14 (.bool true) (fun _ => ol_conv (v := .bool (!((er6 : Int) == (0 : Int)))) (by kernel_rfl) (congrArg Value.bool (by rw [Bool.not_eq_true', beq_eq_false_iff_ne]; omega))) ?_
  refine rw_nil ?_
  refine nw_then ?_
  refine cw_cond_t (fun _ => by kernel_rfl) ?_
  refine cw_seq ?_
  refine cw_region ?_
  refine rp 15 (.agg #[.int .u64 0, .int .u64 0, .int .u64 0, .int .u64 0, .int .u64 0, .int .u64 0, .slice none 0 0, .bool false, .slice none 0 0]) ?_
  refine rw_put g2 (#[.int .u64 0, .int .u64 0, .int .u64 0, .int .u64 0, .int .u64 0, .int .u64 0, .slice none 0 0, .bool false, .slice none 0 0]) (fun _ => by kernel_rfl) (fun _ => ol_store 26 _ _ _ _ _ 26 rfl (by kernel_rfl) (by kernel_rfl) hr4 (by kernel_rfl) (by kernel_rfl) (by kernel_rfl)) ?_
  intro w17 hp18
  replace hB := hB.put hp18 hzg2
  replace hr4 := hr4.put hp18
  refine rp 3 (.int .i64 160) ?_
  refine rw_nil ?_
  refine nw_then ?_
  refine cw_ret ?_
  refine nw_ret_then ?_
  refine nw_ret_body (.tuple #[.agg (#[.int .u64 0, .int .u64 0, .int .u64 0, .int .u64 0, .int .u64 0, .int .u64 0, .slice none 0 0, .bool false, .slice none 0 0]), .int .i64 160]) (fun _ => res_c2 rfl _ g2 _ _ (by kernel_rfl) (by kernel_rfl) hr4 Try.underlying26 rfl (by kernel_rfl)) ?_
  exact ⟨_, rfl, ⟨zTV, rfl, rfl, zTV_at _, zTV_nw _⟩, hB⟩
theorem wtxde_ok {w : World} {x : Option Addr} {n c : Nat} {b : List Int} (h : Ag w x n c b) (hn : n ≤ 140737488351232) {t : T} (hd : decP b = .ok t) : Calls Try.prog 15 #[.slice x n c] w fun e w' => ∃ v, e = .returned v ∧ RDx w (deX b) v w' := by
  have e := deX_tx h.b hd
  obtain ⟨hl1, hl2⟩ := dec_len h.b hd
  have hby := (dec_byt h.b hd).1
  have hB : Bl w w := Bl.refl w
  refine cw_enter Try.func15 rfl 30 rfl ?_
  show CW _ _ _ _ _ _ _ [(0, .slice x n c)] _
  refine cw_seq ?_
  refine cw_region ?_
  refine rw_new 2 (#[.int .u64 0, .int .u64 0, .int .u64 0, .int .u64 0, .int .u64 0, .int .u64 0, .slice none 0 0, .bool false, .slice none 0 0]) 26 (fun _ => by kernel_rfl) (fun _ => by kernel_rfl) ?_
  intro w1 g2 hn3
  have hzg2 : w.heap.size ≤ g2 := by have := hB.size; have := hn3.hg; omega
  replace hB := hB.go hn3.below
  replace h := h.go hn3.below
  have hr4 : Rw g2 w1 (#[.int .u64 0, .int .u64 0, .int .u64 0, .int .u64 0, .int .u64 0, .int .u64 0, .slice none 0 0, .bool false, .slice none 0 0]) 26 := hn3.row
  refine rp 3 (.int .i64 0) ?_
  refine rw_nil ?_
  refine nw_then ?_
  refine cw_seq ?_
  have hN2 : Bl w1 w1 := Bl.refl _
  have hgNg2 : g2 < w1.heap.size := hr4.lt
  refine cw_region ?_
  refine rp 9 (.slice x n c) ?_
  have hw0 := hB.size
  refine rw_call 10 27 #[.slice x n c] (fun _ => by kernel_rfl) (fun _ => by kernel_rfl) (R := fun v w' => (∃ y : V, v = .tuple #[.agg (IV y), .int .i64 0] ∧ LiesP (Np w1.heap.size) w' t y) ∧ Bl w1 w') (wdecP_ok h hn hd) ?_
  rintro _ w7 ⟨⟨y5, rfl, hx8⟩, hb9⟩
  replace hB := hB.go hb9
  replace h := h.go hb9
  replace hr4 := hr4.go hb9
  replace hN2 := hN2.go hb9
  refine rp 8 (.tuple #[.agg (IV y5), .int .i64 0]) ?_
  refine rp 11 (.agg (IV y5)) ?_
  refine rp 12 (.int .i64 0) ?_
  refine rw_new 4 (#[.bool false, .slice none 0 0, .slice none 0 0]) 45 (fun _ => by kernel_rfl) (fun _ => by kernel_rfl) ?_
  intro w10 g11 hn12
  have hr13 : Rw g11 w10 (#[.bool false, .slice none 0 0, .slice none 0 0]) 45 := hn12.row
  refine rw_put g11 (IV y5) (fun _ => by kernel_rfl) (fun _ => ol_store 45 _ _ _ _ _ 45 rfl (by kernel_rfl) (by kernel_rfl) hr13 (by kernel_rfl) (by kernel_rfl) (by kernel_rfl)) ?_
  intro w14 hp15
  have hbg11 : Below w7.heap.size w7 w14 := hp15.below hn12.below (Nat.le_of_eq hn12.hg.symm) (by have := hn12.size; have := hn12.hg; omega)
  have hzg11 : w.heap.size ≤ g11 := by have := hB.size; have := hn12.hg; omega
  replace hB := hB.go hbg11
  replace h := h.go hbg11
  replace hr4 := hr4.go hbg11
  replace hN2 := hN2.go hbg11
  replace hx8 := lpk_go hx8 hbg11
  have hr16 : Rw g11 w14 (IV y5) 45 := hr13.put hp15
  refine rp 5 (.int .i64 0) ?_
  refine rw_nil ?_
  refine nw_then ?_
  refine cw_seq ?_
  refine cw_seq ?_
  refine cw_region ?_
  refine rp 13 (.int .i64 0) ?_
  refine rp 14 (.bool false) ?_
  refine rw_nil ?_
  refine nw_then ?_
  refine cw_cond_f (fun _ => by kernel_rfl) ?_
  refine cw_skip ?_
  refine nw_then ?_
  refine cw_seq ?_
  refine cw_region ?_
  refine rv 17 (.agg (IV y5)) (fun _ => ol_row 45 _ _ _ _ _ _ rfl (by kernel_rfl) hr16 Try.underlying45 rfl (by kernel_rfl)) ?_
  have hNs : w1.heap.size ≤ w14.heap.size := by have := hN2.size; omega
  refine rw_call 18 28 #[.agg (IV y5)] (fun _ => by kernel_rfl) (fun _ => by kernel_rfl) (R := TxR w1.heap.size w14 (txB t)) (wtxOf hNs hx8 hl1 hl2 hby) ?_
  rintro _ w18 ⟨⟨z17, rfl, ez19, hz20, hnw21⟩, hb22⟩
  replace hB := hB.go hb22
  replace h := h.go hb22
  replace hr4 := hr4.go hb22
  replace hN2 := hN2.go hb22
  replace hx8 := lpk_go hx8 hb22
  replace hr16 := hr16.go hb22
  refine rp 16 (.tuple #[.agg z17.cells, .bool (txB t).isSome]) ?_
  refine rp 19 (.agg z17.cells) ?_
  refine rp 20 (.bool (txB t).isSome) ?_
  refine rw_new 6 (#[.int .u64 0, .int .u64 0, .int .u64 0, .int .u64 0, .int .u64 0, .int .u64 0, .slice none 0 0, .bool false, .slice none 0 0]) 26 (fun _ => by kernel_rfl) (fun _ => by kernel_rfl) ?_
  intro w23 g24 hn25
  have hr26 : Rw g24 w23 (#[.int .u64 0, .int .u64 0, .int .u64 0, .int .u64 0, .int .u64 0, .int .u64 0, .slice none 0 0, .bool false, .slice none 0 0]) 26 := hn25.row
  refine rw_put g24 z17.cells (fun _ => by kernel_rfl) (fun _ => ol_store 26 _ _ _ _ _ 26 rfl (by kernel_rfl) (by kernel_rfl) hr26 (by kernel_rfl) (by kernel_rfl) (by kernel_rfl)) ?_
  intro w27 hp28
  have hbg24 : Below w18.heap.size w18 w27 := hp28.below hn25.below (Nat.le_of_eq hn25.hg.symm) (by have := hn25.size; have := hn25.hg; omega)
  have hzg24 : w.heap.size ≤ g24 := by have := hB.size; have := hn25.hg; omega
  replace hB := hB.go hbg24
  replace h := h.go hbg24
  replace hr4 := hr4.go hbg24
  replace hN2 := hN2.go hbg24
  replace hx8 := lpk_go hx8 hbg24
  replace hr16 := hr16.go hbg24
  replace hz20 := txa_go hz20 hbg24
  have hr29 : Rw g24 w27 z17.cells 26 := hr26.put hp28
  refine rp 7 (.bool (txB t).isSome) ?_
  refine rw_nil ?_
  refine nw_then ?_
  refine cw_seq ?_
  refine cw_seq ?_
  refine cw_region ?_
  refine rp 21 (.bool (txB t).isSome) ?_
  refine rp 22 (.bool (!((txB t).isSome))) ?_
  refine rp 23 (.bool (!((txB t).isSome))) ?_
  cases hq30 : (!((txB t).isSome)) with
  | true =>
    refine rw_off 24 (fun _ => by kernel_rfl) ?_
    refine rw_off 25 (fun _ => by kernel_rfl) ?_
    refine rw_off 26 (fun _ => by kernel_rfl) ?_
    refine rp 27 (.bool true) ?_
    refine rw_nil ?_
    refine nw_then ?_
    refine cw_cond_t (fun _ => by kernel_rfl) ?_
    refine cw_seq ?_
    refine cw_region ?_
    refine rp 28 (.agg #[.int .u64 0, .int .u64 0, .int .u64 0, .int .u64 0, .int .u64 0, .int .u64 0, .slice none 0 0, .bool false, .slice none 0 0]) ?_
    refine rw_put g2 (#[.int .u64 0, .int .u64 0, .int .u64 0, .int .u64 0, .int .u64 0, .int .u64 0, .slice none 0 0, .bool false, .slice none 0 0]) (fun _ => by kernel_rfl) (fun _ => ol_store 26 _ _ _ _ _ 26 rfl (by kernel_rfl) (by kernel_rfl) hr4 (by kernel_rfl) (by kernel_rfl) (by kernel_rfl)) ?_
    intro w31 hp32
    replace hz20 := txa_put hz20 hnw21 hp32 (by omega)
    replace hB := hB.put hp32 hzg2
    replace hr4 := hr4.put hp32
    refine rp 3 (.int .i64 160) ?_
    refine rw_nil ?_
    refine nw_then ?_
    refine cw_ret ?_
    refine nw_ret_then ?_
    refine nw_ret_body (.tuple #[.agg (#[.int .u64 0, .int .u64 0, .int .u64 0, .int .u64 0, .int .u64 0, .int .u64 0, .slice none 0 0, .bool false, .slice none 0 0]), .int .i64 160]) (fun _ => res_c2 rfl _ g2 _ _ (by kernel_rfl) (by kernel_rfl) hr4 Try.underlying26 rfl (by kernel_rfl)) ?_
    try simp only [Bool.not_eq_false', Bool.not_eq_true'] at hq30
    have e2 : deX b = none := by
      rw [e]
      cases hq : txB t with | none => rfl | some a => rw [hq] at hq30; cases hq30
    rw [e2]
    exact ⟨_, rfl, ⟨zTV, rfl, rfl, zTV_at _, zTV_nw _⟩, hB⟩
  | false =>
    refine rv 24 (.agg z17.cells) (fun _ => ol_row 26 _ _ _ _ _ _ rfl (by kernel_rfl) hr29 Try.underlying26 rfl (by kernel_rfl)) ?_
    refine rw_call 25 13 #[.agg z17.cells] (fun _ => by kernel_rfl) (fun _ => by kernel_rfl) (R := RVl w27 (.bool (rtX z17.t))) (wright z17 w27 hz20) ?_
    rintro _ w33 ⟨rfl, hb34⟩
    replace hB := hB.go hb34
    replace h := h.go hb34
    replace hr4 := hr4.go hb34
    replace hN2 := hN2.go hb34
    replace hx8 := lpk_go hx8 hb34
    replace hr16 := hr16.go hb34
    replace hz20 := txa_go hz20 hb34
    replace hr29 := hr29.go hb34
    refine rp 26 (.bool (!(rtX z17.t))) ?_
    refine rp 27 (.bool (!(rtX z17.t))) ?_
    refine rw_nil ?_
    refine nw_then ?_
    cases hq35 : (!(rtX z17.t)) with
    | true =>
      refine cw_cond_t (fun _ => by kernel_rfl) ?_
      refine cw_seq ?_
      refine cw_region ?_
      refine rp 28 (.agg #[.int .u64 0, .int .u64 0, .int .u64 0, .int .u64 0, .int .u64 0, .int .u64 0, .slice none 0 0, .bool false, .slice none 0 0]) ?_
      refine rw_put g2 (#[.int .u64 0, .int .u64 0, .int .u64 0, .int .u64 0, .int .u64 0, .int .u64 0, .slice none 0 0, .bool false, .slice none 0 0]) (fun _ => by kernel_rfl) (fun _ => ol_store 26 _ _ _ _ _ 26 rfl (by kernel_rfl) (by kernel_rfl) hr4 (by kernel_rfl) (by kernel_rfl) (by kernel_rfl)) ?_
      intro w36 hp37
      replace hz20 := txa_put hz20 hnw21 hp37 (by omega)
      replace hB := hB.put hp37 hzg2
      replace hr4 := hr4.put hp37
      refine rp 3 (.int .i64 160) ?_
      refine rw_nil ?_
      refine nw_then ?_
      refine cw_ret ?_
      refine nw_ret_then ?_
      refine nw_ret_body (.tuple #[.agg (#[.int .u64 0, .int .u64 0, .int .u64 0, .int .u64 0, .int .u64 0, .int .u64 0, .slice none 0 0, .bool false, .slice none 0 0]), .int .i64 160]) (fun _ => res_c2 rfl _ g2 _ _ (by kernel_rfl) (by kernel_rfl) hr4 Try.underlying26 rfl (by kernel_rfl)) ?_
      try simp only [Bool.not_eq_false', Bool.not_eq_true'] at hq30
      try simp only [Bool.not_eq_false', Bool.not_eq_true'] at hq35
      have e2 : deX b = none := by
        rw [e]
        cases hq : txB t with
        | none => rfl
        | some a =>
          rw [hq] at ez19; have e4 : z17.t = a := ez19; rw [e4] at hq35
          exact if_neg (by rw [hq35]; decide)
      rw [e2]
      exact ⟨_, rfl, ⟨zTV, rfl, rfl, zTV_at _, zTV_nw _⟩, hB⟩
    | false =>
      refine cw_cond_f (fun _ => by kernel_rfl) ?_
      refine cw_skip ?_
      refine nw_then ?_
      refine cw_seq ?_
      refine cw_region ?_
      refine rv 29 (.agg z17.cells) (fun _ => ol_row 26 _ _ _ _ _ _ rfl (by kernel_rfl) hr29 Try.underlying26 rfl (by kernel_rfl)) ?_
      refine rw_put g2 z17.cells (fun _ => by kernel_rfl) (fun _ => ol_store 26 _ _ _ _ _ 26 rfl (by kernel_rfl) (by kernel_rfl) hr4 (by kernel_rfl) (by kernel_rfl) (by kernel_rfl)) ?_
      intro w38 hp39
      replace hz20 := txa_put hz20 hnw21 hp39 (by omega)
      replace hB := hB.put hp39 hzg2
      replace hr4 := hr4.put hp39
      refine rp 3 (.int .i64 0) ?_
      refine rw_nil ?_
      refine nw_then ?_
      refine cw_ret ?_
      refine nw_ret_body (.tuple #[.agg z17.cells, .int .i64 0]) (fun _ => res_c2 rfl _ g2 _ _ (by kernel_rfl) (by kernel_rfl) hr4 Try.underlying26 rfl (by kernel_rfl)) ?_
      try simp only [Bool.not_eq_false', Bool.not_eq_true'] at hq30
      try simp only [Bool.not_eq_false', Bool.not_eq_true'] at hq35
      have e2 : deX b = some z17.t := by
        rw [e]
        cases hq : txB t with
        | none => rw [hq] at hq30; cases hq30
        | some a =>
          rw [hq] at ez19; have e4 : z17.t = a := ez19; rw [← e4]; exact if_pos hq35
      rw [e2]
      exact ⟨_, rfl, ⟨z17, rfl, rfl, hz20, nw_le hw0 hnw21⟩, hB⟩
theorem wtxde {w : World} {x : Option Addr} {n c : Nat} {b : List Int} (h : Ag w x n c b) (hn : n ≤ 140737488351232) : Calls Try.prog 15 #[.slice x n c] w fun e w' => ∃ v, e = .returned v ∧ RDx w (deX b) v w' := by
  cases hd : decP b with
  | bad e0 => exact wtxde_bad h hn hd
  | ok t => exact wtxde_ok h hn hd
end Go.Proofs.Ytmofehloiiopfaa
/- What the document's Decode of a transaction reads: plain. -/
namespace Go.Proofs.Ytmofehloiiopfaa
set_option linter.unusedVariables false
end Go.Proofs.Ytmofehloiiopfaa
/- The document's Decode of a transaction. -/
namespace Go.Proofs.Ytmofehloiiopfaa
open Go.RowKit
open Di (dref)
set_option linter.unusedVariables false
set_option linter.unusedSimpArgs false
set_option maxRecDepth 100000
/-- A list of nine that is read. -/
def R9 (w : World) (x0 x1 x2 x3 x4 x5 x6 x7 x8 : T) : Value → World → Prop := fun v w' => (∃ (yl : Bool) (yba : Option Addr) (ybn ybc g off yic : Nat) (y : Nat → V), v = .tuple #[.agg #[.bool yl, .slice yba ybn ybc, .slice (some ⟨g, off, none⟩) 9 yic], .int .i64 0] ∧ ∀ i x, [x0, x1, x2, x3, x4, x5, x6, x7, x8][i]? = some x → (∀ u, Bl w' u → u.rangeAt g (off + i * 3) (V.cells (y i))) ∧ LiesP (Np w.heap.size) w' x (y i)) ∧ Bl w w'
end Go.Proofs.Ytmofehloiiopfaa
