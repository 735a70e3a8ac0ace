/- Digests of bytes, as the walk asks them; eight bytes of one. -/
import Derived.Test.YtmofehloiiopfaaG20
import Derived.Test.YtmofehloiiopfaaG25
import Derived.Test.YtmofehloiiopfaaG10
namespace Go.Proofs.Ytmofehloiiopfaa
open Go.RowKit
open Di (dref)
set_option linter.unusedVariables false
set_option maxRecDepth 100000
def z32 : List Int := List.replicate 32 0
def isB (b : List Int) : Prop := ∀ x ∈ b, 0 ≤ x ∧ x < 256
def B8 (bs : List Int) : Array Value := (bs.map (Value.int .u8)).toArray
theorem B8_size (bs : List Int) : (B8 bs).size = bs.length := by simp [B8]
theorem infoD : (Try.prog.info? 56).map (·.size) = some 32 := by kernel_rfl
theorem infoD' {ds : List Int} (h : ds.length = 32) : (Try.prog.info? 56).map (·.size) = some (B8 ds).size := by rw [infoD, B8_size, h]
theorem B8_one (bs : List Int) : (B8 bs).all (·.oneCell') = true := all_oneCell_toArray (B8_one2 bs)
theorem dof_any (a : Option Addr) (n c : Nat) (b : List Int) (w : World) (h : Ag w a n c b) (hn : n ≤ 140737488351232) : Calls Try.prog 34 #[.slice a n c] w fun e w' => e = .returned (.agg (B8 (dref b))) ∧ Below w.heap.size w w' :=
  Di.of_any a n c b w h.i h.l.symm h.b (by omega)
theorem rdof_any (a : Option Addr) (n c : Nat) (b : List Int) (w : World) (h : Ag w a n c b) (hn : n ≤ 140737488351232) : Calls Try.prog 37 #[.slice a n c] w fun e w' => e = .returned (.agg (B8 (dref b))) ∧ Below w.heap.size w w' :=
  Di.rof_any a n c b w (h.i.inB h.nil) h.b (by rw [h.l]; exact hn)
theorem dref_len (b : List Int) : (dref b).length = 32 := Di.dref_len b
theorem dref_isB (b : List Int) : isB (dref b) := fun x hx => by
  unfold dref Di.dig at hx
  obtain ⟨i, _, rfl⟩ := List.mem_map.1 hx
  unfold Di.bt
  omega
theorem dig8 {w : World} {g : Nat} {R : List Int} (h : Rw g w (B8 R) 56) (hl : R.length = 32) (hb : isB R) : Ag w (some ⟨g, 0, none⟩) 8 32 (R.take 8) := by
  have hl8 : (R.take 8).length = 8 := by rw [List.length_take]; omega
  refine ⟨.inr ⟨g, 0, rfl, hl8, by omega, by omega, by unfold maxLen; omega, fun j hj => ?_⟩, (fun e => by cases e), hl8, fun x hx => hb x (List.mem_of_mem_take hx)⟩
  have hj8 : j < 8 := by omega
  rw [cell_of_row _ _ _ _ _ _ h, Nat.zero_add]
  simp [B8, List.getD, List.getElem?_take_of_lt hj8, List.getElem?_eq_getElem (show j < R.length by omega)]
/-- The address of what a sender makes. -/
def maX (s n : Nat) : Nat := (Wo.wdP ((dref (Wo.bek 8 s ++ Wo.bek 8 n)).take 8)).1
theorem rkey2 {m : Nat} (hm : m < W64) (w : World) : Calls Try.prog 36 #[.int .u64 ((m : Nat) : Int)] w fun e w' => ∃ v, e = .returned v ∧ RSl w (Wo.bek 8 m) v w' := by
  refine (Wo.rkey_any (m : Int) (by omega) (by unfold W64 at hm; omega) w).mono ?_
  rintro e w' ⟨⟨a, c, rfl, hag, _⟩, hb⟩
  exact ⟨_, rfl, ⟨_, _, _, rfl, hag⟩, hb⟩
theorem rof2 {w : World} {a : Option Addr} {n c : Nat} {b : List Int} (h : Ag w a n c b) (hn : n ≤ 140737488351232) : Calls Try.prog 37 #[.slice a n c] w fun e w' => ∃ v, e = .returned v ∧ RVl w (.agg (B8 (dref b))) v w' := (rdof_any a n c b w h hn).mono fun e w' h => ⟨_, h.1, rfl, h.2⟩
theorem rword2 {w : World} {a : Option Addr} {n c : Nat} {b : List Int} (h : Ag w a n c b) (hn : n ≤ 140737488351232) : Calls Try.prog 38 #[.slice a n c] w fun e w' => ∃ v, e = .returned v ∧ RVl w (.tuple #[.int .u64 ((Wo.wdP b).1 : Nat), .bool (Wo.wdP b).2]) v w' := (Wo.rword_any a n c b w h hn).mono fun e w' h => ⟨_, h.1, rfl, by rw [h.2]; exact Bl.refl _⟩
end Go.Proofs.Ytmofehloiiopfaa
/- The document's Made. -/
namespace Go.Proofs.Ytmofehloiiopfaa
open Go.RowKit
open Di (dref)
set_option linter.unusedVariables false
set_option linter.unusedSimpArgs false
set_option maxRecDepth 100000
theorem ownb_go {w w' : World} {N : Nat} {v : Value} {bs : List Int} (h : OwnB w N v bs) (hb : Below w.heap.size w w') : OwnB w' N v bs := by
  refine ⟨h.1, ?_⟩
  rcases h.2 with h2 | ⟨g, cap, cur, hv, hg, hh, r⟩
  · exact .inl h2
  · exact .inr ⟨g, cap, cur, hv, hg, (hb.block g (lt_of_get hh)).trans hh, r⟩
theorem rmade (s n : Nat) (hs : s < W64) (hn : n < W64) (w : World) : Calls Try.prog 23 #[.int .u64 ((s : Nat) : Int), .int .u64 ((n : Nat) : Int)] w fun e w' => ∃ v, e = .returned v ∧ RVl w (.int .u64 ((maX s n : Nat) : Int)) v w' := by
  have hB : Bl w w := Bl.refl w
  refine cw_enter Try.func23 rfl 25 rfl ?_
  show CW _ _ _ _ _ _ _ [(0, .int .u64 ((s : Nat) : Int)), (1, .int .u64 ((n : Nat) : Int))] _
  have hO := ownB_nil w w.heap.size
  refine cw_seq ?_
  refine cw_region ?_
  refine rp 4 (.int .u64 0) ?_
  refine rw_nil ?_
  refine nw_then ?_
  refine cw_seq ?_
  refine cw_region ?_
  refine rp 5 (.slice none 0 0) ?_
  refine rw_nil ?_
  refine nw_then ?_
  refine cw_seq ?_
  refine cw_region ?_
  refine rp 9 (.slice none 0 0) ?_
  refine rp 10 (.int .u64 ((s : Nat) : Int)) ?_
  refine rw_call 11 36 #[.int .u64 ((s : Nat) : Int)] (fun _ => by kernel_rfl) (fun _ => by kernel_rfl) (R := RSl w (Wo.bek 8 s)) (rkey2 hs w) ?_
  rintro _ w4 ⟨⟨a1, n2, c3, rfl, ha5⟩, hb6⟩
  replace hB := hB.go hb6
  replace hO := ownb_go hO hb6
  skip
  obtain ⟨v7, w7, hr7, hO7, hb7⟩ := app_run hO ha5 (by have h9 := ha5.l; simp only [Wo.bek_len, List.length_nil] at h9 ⊢; omega) hB.size
  obtain ⟨x7, c7, rfl, hA7⟩ := hO7.ag (by intro x hx; rw [List.nil_append] at hx; exact Wo.bek_bd _ _ _ hx)
  replace hO := hO7
  replace hB : Bl w w7 := Below.trans hB hb7
  simp only [List.nil_append, List.length_append, Wo.bek_len] at hA7 hO
  refine rw_v 12 (.slice x7 8 c7) (fun _ => by kernel_rfl) (fun _ => ol_app (fun ty => by have := hr7 ty; simpa only [List.nil_append, List.length_append, Wo.bek_len] using this) _ _ rfl (by kernel_rfl) (by kernel_rfl)) ?_
  refine rp 5 (.slice x7 8 c7) ?_
  refine rw_nil ?_
  refine nw_then ?_
  refine cw_seq ?_
  refine cw_region ?_
  refine rp 13 (.slice x7 8 c7) ?_
  refine rp 14 (.int .u64 ((n : Nat) : Int)) ?_
  refine rw_call 15 36 #[.int .u64 ((n : Nat) : Int)] (fun _ => by kernel_rfl) (fun _ => by kernel_rfl) (R := RSl w7 (Wo.bek 8 n)) (rkey2 hn w7) ?_
  rintro _ w11 ⟨⟨a8, n9, c10, rfl, ha12⟩, hb13⟩
  replace hB := hB.go hb13
  replace hO := ownb_go hO hb13
  replace hA7 := hA7.go hb13
  skip
  obtain ⟨v14, w14, hr14, hO14, hb14⟩ := app_run hO ha12 (by have h9 := ha12.l; simp only [Wo.bek_len, List.length_nil] at h9 ⊢; omega) hB.size
  obtain ⟨x14, c14, rfl, hA14⟩ := hO14.ag (by intro x hx; simp only [List.nil_append, List.mem_append] at hx; rcases hx with hx | hx <;> exact Wo.bek_bd _ _ _ hx)
  replace hO := hO14
  replace hB : Bl w w14 := Below.trans hB hb14
  simp only [List.nil_append, List.length_append, Wo.bek_len] at hA14 hO
  refine rw_v 16 (.slice x14 (8 + 8) c14) (fun _ => by kernel_rfl) (fun _ => ol_app (fun ty => by have := hr14 ty; simpa only [List.nil_append, List.length_append, Wo.bek_len] using this) _ _ rfl (by kernel_rfl) (by kernel_rfl)) ?_
  refine rp 5 (.slice x14 (8 + 8) c14) ?_
  refine rw_nil ?_
  refine nw_then ?_
  refine cw_seq ?_
  refine cw_region ?_
  refine rp 17 (.slice x14 (8 + 8) c14) ?_
  refine rw_call 18 37 #[.slice x14 (8 + 8) c14] (fun _ => by kernel_rfl) (fun _ => by kernel_rfl) (R := RVl w14 (.agg (B8 (dref (Wo.bek 8 s ++ Wo.bek 8 n))))) (rof2 hA14 (by omega)) ?_
  rintro _ w15 ⟨rfl, hb16⟩
  replace hB := hB.go hb16
  replace hO := ownb_go hO hb16
  replace hA14 := hA14.go hb16
  refine rw_new 6 (B8 z32) 56 (fun _ => by kernel_rfl) (fun _ => by kernel_rfl) ?_
  intro w17 g18 hn19
  have hr20 : Rw g18 w17 (B8 z32) 56 := hn19.row
  refine rw_put g18 (B8 (dref (Wo.bek 8 s ++ Wo.bek 8 n))) (fun _ => by kernel_rfl) (fun _ => ol_store 56 _ _ _ _ _ 56 rfl (by kernel_rfl) (by kernel_rfl) hr20 (infoD' (dref_len _)) ((B8_size _).trans ((show z32.length = 32 from rfl).trans ((dref_len _).symm.trans (B8_size _).symm))) (B8_one _)) ?_
  intro w21 hp22
  have hbg18 : Below w15.heap.size w15 w21 := hp22.below hn19.below (Nat.le_of_eq hn19.hg.symm) (by have := hn19.size; have := hn19.hg; omega)
  have hzg18 : w.heap.size ≤ g18 := by have := hB.size; have := hn19.hg; omega
  replace hB := hB.go hbg18
  replace hO := ownb_go hO hbg18
  replace hA14 := hA14.go hbg18
  have hr23 : Rw g18 w21 (B8 (dref (Wo.bek 8 s ++ Wo.bek 8 n))) 56 := hr20.put hp22
  refine rw_nil ?_
  refine nw_then ?_
  refine cw_seq ?_
  refine cw_region ?_
  refine rp 20 (.slice (some ⟨g18, 0, none⟩) 8 32) ?_
  refine rw_call 21 38 #[.slice (some ⟨g18, 0, none⟩) 8 32] (fun _ => by kernel_rfl) (fun _ => by kernel_rfl) (R := RVl w21 (.tuple #[.int .u64 ((maX s n : Nat) : Int), .bool (Wo.wdP ((dref (Wo.bek 8 s ++ Wo.bek 8 n)).take 8)).2])) (rword2 (dig8 hr23 (dref_len _) (dref_isB _)) (by omega)) ?_
  rintro _ w24 ⟨rfl, hb25⟩
  replace hB := hB.go hb25
  replace hO := ownb_go hO hb25
  replace hA14 := hA14.go hb25
  replace hr23 := hr23.go hb25
  refine rp 19 (.tuple #[.int .u64 ((maX s n : Nat) : Int), .bool (Wo.wdP ((dref (Wo.bek 8 s ++ Wo.bek 8 n)).take 8)).2]) ?_
  refine rp 22 (.int .u64 ((maX s n : Nat) : Int)) ?_
  refine rp 23 (.bool (Wo.wdP ((dref (Wo.bek 8 s ++ Wo.bek 8 n)).take 8)).2) ?_
  refine rp 7 (.int .u64 ((maX s n : Nat) : Int)) ?_
  refine rp 8 (.bool (Wo.wdP ((dref (Wo.bek 8 s ++ Wo.bek 8 n)).take 8)).2) ?_
  refine rw_nil ?_
  refine nw_then ?_
  refine cw_seq ?_
  refine cw_region ?_
  refine rp 24 (.int .u64 ((maX s n : Nat) : Int)) ?_
  refine rp 4 (.int .u64 ((maX s n : Nat) : Int)) ?_
  refine rw_nil ?_
  refine nw_then ?_
  refine cw_ret ?_
  refine nw_ret_body (.int .u64 ((maX s n : Nat) : Int)) (fun _ => by kernel_rfl) ?_
  exact ⟨_, rfl, rfl, hB⟩
end Go.Proofs.Ytmofehloiiopfaa
/- The program's Made. -/
namespace Go.Proofs.Ytmofehloiiopfaa
open Go.RowKit
open Di (dref)
set_option linter.unusedVariables false
set_option linter.unusedSimpArgs false
set_option maxRecDepth 100000
theorem wkey2 {m : Nat} (hm : m < W64) (w : World) : Calls Try.prog 33 #[.int .u64 ((m : Nat) : Int)] w fun e w' => ∃ v, e = .returned v ∧ RSl w (Wo.bek 8 m) v w' := by
  refine (Wo.key_any (m : Int) (by omega) (by unfold W64 at hm; omega) w).mono ?_
  rintro e w' ⟨rfl, hr, hb⟩
  rw [Int.toNat_natCast] at hr
  exact ⟨_, rfl, ⟨_, _, _, rfl, row_ag (show Row _ _ _ from hr) (Wo.bek_len _ _) (Wo.bek_bd _ _) (by omega)⟩, hb⟩
theorem wkey1 {m : Nat} (hm : m < W64) (w : World) : Calls Try.prog 33 #[.int .u64 ((m : Nat) : Int)] w fun e w' => ∃ v, e = .returned v ∧ (∃ g, v = .slice (some ⟨g, 0, none⟩) 8 8 ∧ ∀ N, N ≤ w.heap.size → OwnB w' N (.slice (some ⟨g, 0, none⟩) 8 8) (Wo.bek 8 m)) ∧ Bl w w' := by
  refine (Wo.key_any (m : Int) (by omega) (by unfold W64 at hm; omega) w).mono ?_
  rintro e w' ⟨rfl, hr, hb⟩
  rw [Int.toNat_natCast] at hr
  refine ⟨_, rfl, ⟨_, rfl, fun N hN => ?_⟩, hb⟩
  have := row_own hr N hN (by rw [Wo.bek_len]; omega)
  rwa [Wo.bek_len] at this
theorem wof2 {w : World} {a : Option Addr} {n c : Nat} {b : List Int} (h : Ag w a n c b) (hn : n ≤ 140737488351232) : Calls Try.prog 34 #[.slice a n c] w fun e w' => ∃ v, e = .returned v ∧ RVl w (.agg (B8 (dref b))) v w' := (dof_any a n c b w h hn).mono fun e w' h => ⟨_, h.1, rfl, h.2⟩
theorem wword2 {w : World} {a : Option Addr} {n c : Nat} {b : List Int} (h : Ag w a n c b) (hn : n ≤ 140737488351232) : Calls Try.prog 35 #[.slice a n c] w fun e w' => ∃ v, e = .returned v ∧ RVl w (.tuple #[.int .u64 ((Wo.wdP b).1 : Nat), .bool (Wo.wdP b).2]) v w' := (Wo.word_any a n c b w h hn).mono fun e w' h => ⟨_, h.1, rfl, by rw [h.2]; exact Bl.refl _⟩
theorem wmade (s n : Nat) (hs : s < W64) (hn : n < W64) (w : World) : Calls Try.prog 22 #[.int .u64 ((s : Nat) : Int), .int .u64 ((n : Nat) : Int)] w fun e w' => ∃ v, e = .returned v ∧ RVl w (.int .u64 ((maX s n : Nat) : Int)) v w' := by
  have hB : Bl w w := Bl.refl w
  refine cw_enter Try.func22 rfl 24 rfl ?_
  show CW _ _ _ _ _ _ _ [(0, .int .u64 ((s : Nat) : Int)), (1, .int .u64 ((n : Nat) : Int))] _
  refine cw_seq ?_
  refine cw_region ?_
  refine rp 4 (.int .u64 0) ?_
  refine rw_nil ?_
  refine nw_then ?_
  refine cw_seq ?_
  refine cw_region ?_
  refine rp 9 (.int .u64 ((s : Nat) : Int)) ?_
  have hB0 := hB.size
  refine rw_call 10 33 #[.int .u64 ((s : Nat) : Int)] (fun _ => by kernel_rfl) (fun _ => by kernel_rfl) (R := fun v w' => (∃ g, v = .slice (some ⟨g, 0, none⟩) 8 8 ∧ ∀ N, N ≤ w.heap.size → OwnB w' N (.slice (some ⟨g, 0, none⟩) 8 8) (Wo.bek 8 s)) ∧ Bl w w') (wkey1 hs w) ?_
  rintro _ w1 ⟨⟨g2, rfl, hO3⟩, hb4⟩
  replace hB := hB.go hb4
  have hO := hO3 w.heap.size hB0
  refine rp 5 (.slice (some ⟨g2, 0, none⟩) 8 8) ?_
  refine rw_nil ?_
  refine nw_then ?_
  refine cw_seq ?_
  refine cw_region ?_
  refine rp 11 (.slice (some ⟨g2, 0, none⟩) 8 8) ?_
  refine rp 12 (.int .u64 ((n : Nat) : Int)) ?_
  refine rw_call 13 33 #[.int .u64 ((n : Nat) : Int)] (fun _ => by kernel_rfl) (fun _ => by kernel_rfl) (R := RSl w1 (Wo.bek 8 n)) (wkey2 hn w1) ?_
  rintro _ w8 ⟨⟨a5, n6, c7, rfl, ha9⟩, hb10⟩
  replace hB := hB.go hb10
  replace hO := ownb_go hO hb10
  obtain ⟨v11, w11, hr11, hO11, hb11⟩ := app_run hO ha9 (by have h9 := ha9.l; simp only [Wo.bek_len] at h9 ⊢; omega) hB.size
  obtain ⟨x11, c11, rfl, hA11⟩ := hO11.ag (by intro x hx; simp only [List.mem_append] at hx; rcases hx with hx | hx <;> exact Wo.bek_bd _ _ _ hx)
  replace hB : Bl w w11 := Below.trans hB hb11
  simp only [List.length_append, Wo.bek_len] at hA11
  refine rw_v 14 (.slice x11 (8 + 8) c11) (fun _ => by kernel_rfl) (fun _ => ol_app (fun ty => by have := hr11 ty; simpa only [List.length_append, Wo.bek_len] using this) _ _ rfl (by kernel_rfl) (by kernel_rfl)) ?_
  refine rw_call 15 34 #[.slice x11 (8 + 8) c11] (fun _ => by kernel_rfl) (fun _ => by kernel_rfl) (R := RVl w11 (.agg (B8 (dref (Wo.bek 8 s ++ Wo.bek 8 n))))) (wof2 hA11 (by omega)) ?_
  rintro _ w12 ⟨rfl, hb13⟩
  replace hB := hB.go hb13
  replace hA11 := hA11.go hb13
  refine rw_new 6 (B8 z32) 56 (fun _ => by kernel_rfl) (fun _ => by kernel_rfl) ?_
  intro w14 g15 hn16
  have hr17 : Rw g15 w14 (B8 z32) 56 := hn16.row
  refine rw_put g15 (B8 (dref (Wo.bek 8 s ++ Wo.bek 8 n))) (fun _ => by kernel_rfl) (fun _ => ol_store 56 _ _ _ _ _ 56 rfl (by kernel_rfl) (by kernel_rfl) hr17 (infoD' (dref_len _)) ((B8_size _).trans ((show z32.length = 32 from rfl).trans ((dref_len _).symm.trans (B8_size _).symm))) (B8_one _)) ?_
  intro w18 hp19
  have hbg15 : Below w12.heap.size w12 w18 := hp19.below hn16.below (Nat.le_of_eq hn16.hg.symm) (by have := hn16.size; have := hn16.hg; omega)
  have hzg15 : w.heap.size ≤ g15 := by have := hB.size; have := hn16.hg; omega
  replace hB := hB.go hbg15
  replace hA11 := hA11.go hbg15
  have hr20 : Rw g15 w18 (B8 (dref (Wo.bek 8 s ++ Wo.bek 8 n))) 56 := hr17.put hp19
  refine rw_nil ?_
  refine nw_then ?_
  refine cw_seq ?_
  refine cw_region ?_
  refine rp 17 (.slice (some ⟨g2, 0, none⟩) 8 8) ?_
  refine rp 18 (.int .i64 8) ?_
  refine rp 19 (.slice (some ⟨g15, 0, none⟩) 8 32) ?_
  refine rw_call 20 35 #[.slice (some ⟨g15, 0, none⟩) 8 32] (fun _ => by kernel_rfl) (fun _ => by kernel_rfl) (R := RVl w18 (.tuple #[.int .u64 ((maX s n : Nat) : Int), .bool (Wo.wdP ((dref (Wo.bek 8 s ++ Wo.bek 8 n)).take 8)).2])) (wword2 (dig8 hr20 (dref_len _) (dref_isB _)) (by omega)) ?_
  rintro _ w21 ⟨rfl, hb22⟩
  replace hB := hB.go hb22
  replace hA11 := hA11.go hb22
  replace hr20 := hr20.go hb22
  refine rp 16 (.tuple #[.int .u64 ((maX s n : Nat) : Int), .bool (Wo.wdP ((dref (Wo.bek 8 s ++ Wo.bek 8 n)).take 8)).2]) ?_
  refine rp 21 (.int .u64 ((maX s n : Nat) : Int)) ?_
  refine rp 22 (.bool (Wo.wdP ((dref (Wo.bek 8 s ++ Wo.bek 8 n)).take 8)).2) ?_
  refine rp 7 (.int .u64 ((maX s n : Nat) : Int)) ?_
  refine rp 8 (.bool (Wo.wdP ((dref (Wo.bek 8 s ++ Wo.bek 8 n)).take 8)).2) ?_
  refine rw_nil ?_
  refine nw_then ?_
  refine cw_seq ?_
  refine cw_region ?_
  refine rp 23 (.int .u64 ((maX s n : Nat) : Int)) ?_
  refine rp 4 (.int .u64 ((maX s n : Nat) : Int)) ?_
  refine rw_nil ?_
  refine nw_then ?_
  refine cw_ret ?_
  refine nw_ret_body (.int .u64 ((maX s n : Nat) : Int)) (fun _ => by kernel_rfl) ?_
  exact ⟨_, rfl, rfl, hB⟩
end Go.Proofs.Ytmofehloiiopfaa
