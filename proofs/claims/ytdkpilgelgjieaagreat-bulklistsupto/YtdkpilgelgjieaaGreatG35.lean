/- A row of bytes in a block of its own; texts of bytes. -/
import Derived.Test.YtdkpilgelgjieaaGreatG00
import Derived.Lib.Bytes
import Derived.Deep.OwnRows
import Derived.Test.YtdkpilgelgjieaaGreatG34
set_option linter.unusedVariables false
set_option maxRecDepth 100000
namespace Go.Proofs.YtdkpilgelgjieaaGreat.Wo
open Go.RowKit
def Row (g : Nat) (w : World) (R : List Int) : Prop := w.heap[g]? = some (.cells (R.map (Value.int .u8)).toArray 5)
theorem Row.set {g : Nat} {w : World} {R : List Int} (h : Row g w R) (i : Nat) (x : Int) : Row g (w.setCell ⟨g, i, none⟩ (.int .u8 x)) (R.set i x) := by
 have := heap_setCell_same w g i _ 5 (.int .u8 x) h
 unfold Row
 rw [this]
 congr 2
 rw [List.setIfInBounds_toArray, List.map_set]
theorem Row.cell {g : Nat} {w : World} {R : List Int} (h : Row g w R) {i : Nat} (hi : i < R.length) : w.cell? ⟨g, i, none⟩ = some (.int .u8 (R.getD i 0)) := by
 rw [cell_of_row _ _ _ _ _ _ h]
 simp [List.getElem?_eq_getElem hi]
theorem Row.frozen {g : Nat} {w : World} {R : List Int} (h : Row g w R) (i : Nat) : w.frozen? ⟨g, i, none⟩ = false := frozen_of_row _ _ _ _ _ h
theorem made_bytes (n : Nat) : madeCells #[Value.int .u8 0] n = ((List.replicate n (0 : Int)).map (Value.int .u8)).toArray := by
 apply Array.ext'
 rw [toList_madeCells_one]
 simp
theorem row_ag {w : World} {g n : Nat} {bs : List Int} (h : Row g w bs) (hl : bs.length = n) (hb : ∀ x ∈ bs, 0 <= x /\ x < 256) (hn : n <= 9223372036854775807) : Ag w (some ⟨g, 0, none⟩) n n bs := by
 refine ⟨?_, (fun h => by cases h), hl, hb⟩
 by_cases h0 : n = 0
 ·exact .inl ⟨h0, List.eq_nil_of_length_eq_zero (by omega)⟩
 ·exact .inr ⟨g, 0, rfl, hl, by omega, Nat.le_refl _, by unfold maxLen; omega, fun j hj => by rw [Nat.zero_add]; exact h.cell hj⟩
theorem info5b : (Tryz.prog.info? 5).map (fun i => (i.zero, i.size, i.bytes)) = some (some (.int .u8 0), 1, 1) := by kernel_rfl
theorem ag_head {w : World} {a : Option Addr} {n c : Nat} {bs : List Int} (h : Ag w a n c bs) (h1 : 0 < n) : ∃ g off, a = some ⟨g, off, none⟩ /\ n <= c /\ c <= maxLen /\ ∀ j, j < n -> w.cell? ⟨g, off + j, none⟩ = some (.int .u8 (bs.getD j 0)) := by
 rcases h.i with ⟨h0, _⟩ | ⟨g, off, h2, h3, h4, h5, h6, h7⟩
 ·omega
 ·exact ⟨g, off, h2, h5, h6, fun j hj => h7 j (by omega)⟩
theorem cell_alloc {w : World} {g off : Nat} {v : Value} (h : w.cell? ⟨g, off, none⟩ = some v) : ∀ o, (w.alloc o).cell? ⟨g, off, none⟩ = some v := fun o => (World.cell?_of_block (w := w) (Below.heap_alloc w _ _ (block_lt_of_cell h))).trans h
theorem Zy4 {x y : Int} (hx : 0 <= x /\ x < 256) (hy : 0 <= y /\ y < 256) (h : UInt8.ofNat x.toNat = UInt8.ofNat y.toNat) : x = y := by
 have e := congrArg UInt8.toNat h
 rw [UInt8.toNat_ofNat', UInt8.toNat_ofNat', Nat.mod_eq_of_lt (by omega), Nat.mod_eq_of_lt (by omega)] at e
 omega
theorem Zsk : ∀ {a b : List Int}, (∀ x ∈ a, 0 <= x /\ x < 256) -> (∀ x ∈ b, 0 <= x /\ x < 256) -> (a.map fun n => UInt8.ofNat n.toNat) = (b.map fun n => UInt8.ofNat n.toNat) -> a = b
 | [], [], _, _, _ => rfl
 | [], _ :: _, _, _, h => by simp at h
 | _ :: _, [], _, _, h => by simp at h
 | x :: a, y :: b, ha, hb, h => by
  rw [List.map_cons, List.map_cons] at h
  injection h with h1 h2
  rw [Zy4 (ha x (by simp)) (hb y (by simp)) h1, Zsk (fun z hz => ha z (List.mem_cons_of_mem _ hz)) (fun z hz => hb z (List.mem_cons_of_mem _ hz)) h2]
theorem Zul {a b : List Int} (ha : ∀ x ∈ a, 0 <= x /\ x < 256) (hb : ∀ x ∈ b, 0 <= x /\ x < 256) : (strOfNums a).toList = (strOfNums b).toList ↔ a = b := by
 rw [Go.Lib.strOfNums_toList, Go.Lib.strOfNums_toList]
 exact ⟨Zsk ha hb, fun h => by rw [h]⟩
theorem str_beq {a b : List Int} (ha : ∀ x ∈ a, 0 <= x /\ x < 256) (hb : ∀ x ∈ b, 0 <= x /\ x < 256) : ((strOfNums a).toList == (strOfNums b).toList) = decide (a = b) := by
 by_cases h : a = b
 ·simp [h]
 ·have : ¬ (strOfNums a).toList = (strOfNums b).toList := fun e => h ((Zul ha hb).1 e)
  simp [h, this]
theorem gen_w {W : World} {p q : World -> Prop} (F : q W) (h : ∀ v, q v -> p v) : p W := h W F
end Go.Proofs.YtdkpilgelgjieaaGreat.Wo
namespace Go.Proofs.YtdkpilgelgjieaaGreat.Wo
open Go.RowKit
theorem shr_nat (x : Int) (k : Nat) (hx : 0 <= x) : x / 2 ^ (8 * k) = ((x.toNat / 256 ^ k : Nat) : Int) := by
 have e : (2 : Int) ^ (8 * k) = ((256 ^ k : Nat) : Int) := by rw [Int.pow_mul]; norm_cast
 rw [e]
 conv => lhs; rw [<- Int.toNat_of_nonneg hx]
 rfl
theorem bek_row (n c i : Nat) (hi : i < c) : (List.replicate (c - i) (0 : Int) ++ bek i n).set (c - 1 - i) ((n / 256 ^ i % 256 : Nat) : Int) = List.replicate (c - (i + 1)) (0 : Int) ++ bek (i + 1) n := by
 rw [bek_front]
 obtain ⟨d, rfl⟩ : ∃ d, c = i + 1 + d := ⟨c - (i + 1), by omega⟩
 rw [show i + 1 + d - i = d + 1 from by omega, show i + 1 + d - 1 - i = d from by omega, show i + 1 + d - (i + 1) = d from by omega, List.replicate_succ', List.append_assoc, List.set_append_right _ _ (by simp)]
 simp
theorem byte_nat (x : Int) (k : Nat) (hx : 0 <= x) : x / 2 ^ (8 * k) % 256 = ((x.toNat / 256 ^ k % 256 : Nat) : Int) := by rw [shr_nat x k hx]; generalize x.toNat / 256 ^ k = q; omega
set_option maxHeartbeats 1000000 in
theorem lowBytes_any (x : Int) (c : Nat) (hx0 : 0 <= x) (hx1 : x < 18446744073709551616) (hc : c <= 8) (w : World) :
  Calls Tryz.prog 68 #[.int .u64 x, .int .i64 c] w fun e w' => e = .returned (.slice (some ⟨w.heap.size, 0, none⟩) c c) /\ Row w.heap.size w' (bek c x.toNat) /\ Below w.heap.size w w' := by
 have hmk := run_make_row' (P := Tryz.prog) 32 5 (.int .u8 0) 1 Tryz.underlying32 info5b rfl .i64 .i64 c (by omega) (by omega)
 have hrow : Row w.heap.size (w.alloc (.cells (madeCells #[.int .u8 0] c) 5)) (List.replicate c 0) := by
  unfold Row; rw [heap_alloc_new, made_bytes]
 have hbw : Below w.heap.size w (w.alloc (.cells (madeCells #[.int .u8 0] c) 5)) := (Below.refl _ _).alloc (Nat.le_refl _) _
 have HR := Hid.mk hrow
 have HB := Hid.mk hbw
 have HN : Hid (∀ k, x / 2 ^ (8 * k) % 256 = ((x.toNat / 256 ^ k % 256 : Nat) : Int)) := Hid.mk fun k => byte_nat x k hx0
 obtain ⟨n, hn⟩ : ∃ n, x.toNat = n := ⟨_, rfl⟩
 rw [hn] at HN ⊢
 clear hrow hbw hn
 go_enter Tryz.func68, Tryz.ntmps68
 go_wp2_with fail
 go_loopw [10] (fun i v => ∃ k : Nat, k <= c /\ i = .int .i64 k /\ Row w.heap.size v (List.replicate (c - k) 0 ++ bek k n) /\ Below w.heap.size w v) (fun i _ => c - (intOf i).toNat)
 case atStart => exact ⟨0, by omega, rfl, by rw [Nat.sub_zero, show bek 0 n = [] from rfl, List.append_nil]; exact HR.out, HB.out⟩
 case round =>
  obtain ⟨k, hk, rfl, hrow, hb⟩ := hrel
  by_cases hlt : k < c
  ·have hki : (k : Int) < c := by omega
   have hlen : (List.replicate (c - k) (0 : Int) ++ bek k n).length = c := by rw [List.length_append, List.length_replicate, bek_len]; omega
   have hcell := hrow.cell (i := c - 1 - k) (by omega)
   have hfz := hrow.frozen (c - 1 - k)
   have hset := hrow.set (c - 1 - k) ((n / 256 ^ k % 256 : Nat) : Int)
   rw [bek_row n c k hlt] at hset
   have hv := HN.out k
   have hto : ((c : Int) - 1 - k).toNat = c - 1 - k := by omega
   generalize ((n / 256 ^ k % 256 : Nat) : Int) = y at hset hv
   have HS := Hid.mk hset
   have HBB := Hid.mk hb
   clear hset hb hrow hlen
   go_wp2_with fail
   exact ⟨⟨k + 1, by omega, by simp, HS.out, HBB.out.setCell (Nat.le_refl _) _⟩, by simp [intOf]; omega⟩
  ·have hki : ¬ (k : Int) < c := by omega
   have e : k = c := by omega
   subst e
   rw [Nat.sub_self, List.replicate_zero, List.nil_append] at hrow
   have HS := Hid.mk hrow
   have HBB := Hid.mk hb
   clear hrow hb
   go_wp2_with fail
   go_ret
   exact ⟨rfl, HS.out, HBB.out⟩
end Go.Proofs.YtdkpilgelgjieaaGreat.Wo
namespace Go.Proofs.YtdkpilgelgjieaaGreat.Wo
open Go.RowKit
theorem Zx3 (x : Int) (hx0 : 0 <= x) (hx1 : x < 18446744073709551616) (w : World) :
  Calls Tryz.prog 46 #[.int .u64 x] w fun e w' => e = .returned (.slice (some ⟨w.heap.size, 0, none⟩) 8 8) /\ Row w.heap.size w' (bek 8 x.toNat) /\ Below w.heap.size w w' := by
 have h2 := lowBytes_any x 8 hx0 hx1 (by omega) w
 rw [show ((8 : Nat) : Int) = 8 from rfl] at h2
 generalize bek 8 x.toNat = bs at *
 go_enter Tryz.func46, Tryz.ntmps46
 go_wp2_with fail
 refine h2.mono ?_
 rintro e w2 ⟨rfl, hr, hb⟩
 have HR := Hid.mk hr
 have HB := Hid.mk hb
 clear hr hb h2
 go_wp2_with fail
 go_ret
 exact ⟨rfl, HR.out, HB.out⟩
def rdP (b : List Int) : Nat × Bool := if 8 < b.length \/ (0 < b.length /\ b.getD 0 0 = 0) then (0, false) else (vl b, true)
def wdP (b : List Int) : Nat × Bool := if b.length = 8 then (vl b, true) else (0, false)
end Go.Proofs.YtdkpilgelgjieaaGreat.Wo
namespace Go.Proofs.YtdkpilgelgjieaaGreat.Wo
open Go.RowKit
theorem OwnB.one (w : World) (z : Int) : OwnB (w.alloc (.cells #[.int .u8 z] 5)) w.heap.size (.slice (some ⟨w.heap.size, 0, none⟩) 1 1) [z] :=
 ⟨rfl, .inr ⟨w.heap.size, 1, #[.int .u8 z], rfl, Nat.le_refl _, heap_alloc_new _ _, Nat.le_refl _, by unfold maxLen; omega, rfl, rfl⟩⟩
theorem OwnB.lo {w : World} {base : Nat} {a : Option Addr} {n c : Nat} {bs : List Int} (h : OwnB w base (.slice a n c) bs) : ∀ g off, a = some ⟨g, off, none⟩ -> base <= g := by
 intro g off e
 rcases h.2 with ⟨h1, _⟩ | ⟨k, cap, cur, hv, hb, hh, r⟩
 ·injection h1 with h1; rw [h1] at e; cases e
 ·injection hv with hv1; rw [hv1] at e; cases e; exact hb
def Lo (N : Nat) (a : Option Addr) : Prop := ∀ g off, a = some ⟨g, off, none⟩ -> N <= g
theorem ag_nil (w : World) : Ag w none 0 0 [] := ⟨.inl ⟨rfl, rfl⟩, fun _ => ⟨rfl, rfl⟩, rfl, fun x hx => by cases hx⟩
set_option maxHeartbeats 1000000 in
theorem Zp5 (x : Int) (hx0 : 0 <= x) (hx1 : x < 18446744073709551616) (w : World) :
  Calls Tryz.prog 69 #[.int .u64 x] w fun e w' => (∃ a c, e = .returned (.slice a (nb x.toNat) c) /\ Ag w' a (nb x.toNat) c (be x.toNat) /\ Lo w.heap.size a) /\ Below w.heap.size w w' := by
 have HN : Hid (nb x.toNat <= 8) := Hid.mk (nb8 (by omega))
 obtain ⟨g, hg⟩ : ∃ g, be x.toNat = g := ⟨_, rfl⟩
 have HL : Hid (g.length = nb x.toNat) := Hid.mk (by rw [<- hg, Zkc])
 rw [hg]
 have HG := Hid.mk hg
 generalize nb x.toNat = k at *
 clear hg
 go_enter Tryz.func69, Tryz.ntmps69
 go_wp2_with fail
 go_loopw [0, 3] (fun p q v => ∃ (y : Int) (a : Option Addr) (m c : Nat) (bs : List Int), p = .int .u64 y /\ q = .slice a m c /\ 0 <= y /\ y < 18446744073709551616 /\ g = be y.toNat ++ bs /\ Ag v a m c bs /\ Lo w.heap.size a /\ Below w.heap.size w v) (fun p _ _ => (intOf p).toNat)
 case atStart => exact ⟨x, none, 0, 0, [], rfl, rfl, hx0, hx1, by rw [List.append_nil]; exact HG.out.symm, ag_nil w, (fun _ _ e => by cases e), Below.refl _ _⟩
 case round =>
  obtain ⟨y, a, m, c, bs, rfl, rfl, hy0, hy1, hgb, hag, hlo, hb⟩ := hrel
  have HW := Hid.mk hlo
  clear hlo
  have hlen := congrArg List.length hgb
  rw [List.length_append, hag.l, HL.out] at hlen
  have hm8 := HN.out
  by_cases hz : y = 0
  ·subst hz
   rw [show (0 : Int).toNat = 0 from rfl, Zel, List.nil_append] at hgb
   rw [show (0 : Int).toNat = 0 from rfl, Zel] at hlen
   have hmk : k = m := by simpa using hlen
   subst hmk hgb
   have HA := Hid.mk hag
   have HB := Hid.mk hb
   clear hag hb hlen hm8
   go_wp2_with fail
   go_ret
   exact ⟨⟨a, c, rfl, HA.out, HW.out⟩, HB.out⟩
  ·have hyp : y > 0 := by omega
   have hbe := Zem (n := y.toNat) (by omega)
   have e1 : y.toNat / 256 = (y / 256).toNat := by omega
   have e2 : ((y.toNat % 256 : Nat) : Int) = y % 256 := by omega
   rw [e1, e2] at hbe
   rw [hbe, List.append_assoc] at hgb
   have HGB := Hid.mk hgb
   have HA := Hid.mk hag
   have HB := Hid.mk hb
   have hmk : m <= 8 := by omega
   clear hag hb hbe e1 e2 hgb hlen hm8
   have HO : Hid (∀ z ∈ [y % 256] ++ bs, 0 <= z /\ z < 256) := Hid.mk (Znm (fun z hz => by
    have e : z = y % 256 := by simpa using hz
    omega) HA.out.b)
   go_wp2_with (first | (at_builtin; refine Zbx rfl (.tmp 9) (.tmp 10) rfl wr.heap.size _ [y % 256] rfl (OwnB.one wr _) a m c bs rfl (HA.out.at ((Below.refl _ _).alloc (Nat.le_refl _) _)).i HA.out.nil HA.out.l (by simp; omega) (by simp) ?_; intro v1 w1 o1 hb1; obtain ⟨a1, c1, rfl, hag1⟩ := OwnB.ag o1 HO.out; have HW1 := Hid.mk (OwnB.lo o1); generalize hgl : ([y % 256] ++ bs).length = m1 at hag1; generalize hgb : [y % 256] ++ bs = bs1 at hag1 HGB; clear o1))
   refine ⟨⟨y / 256, a1, m1, c1, bs1, rfl, rfl, by omega, by omega, HGB.out, hag1, (fun g off e => Nat.le_trans HB.out.size (HW1.out g off e)), ?_⟩, by simp [intOf]; omega⟩
   exact HB.out.trans ((((Below.refl _ _).alloc (Nat.le_refl _) _).trans hb1).mono HB.out.size)
theorem bek_pad {k n : Nat} (h : n < 256 ^ k) : bek (k + 1) n = 0 :: bek k n := by rw [bek_front, Nat.div_eq_of_lt h]; rfl
set_option maxHeartbeats 1000000 in
theorem Zha (x : Int) (hx0 : 0 <= x) (hx1 : x < 18446744073709551616) (w : World) :
  Calls Tryz.prog 47 #[.int .u64 x] w fun e w' => (∃ a c, e = .returned (.slice a 8 c) /\ Ag w' a 8 c (bek 8 x.toNat) /\ Lo w.heap.size a) /\ Below w.heap.size w w' := by
 have H1 := Hid.mk (Zp5 x hx0 hx1 w)
 have H8 : Hid (nb x.toNat <= 8) := Hid.mk (nb8 (by omega))
 have HE := Hid.mk (be_bek x.toNat)
 have HQ : Hid (∀ m, nb x.toNat <= m -> x.toNat < 256 ^ m) := Hid.mk fun m => (nb_le_iff _ _).1
 generalize x.toNat = n at *
 generalize nb n = k at *
 go_enter Tryz.func47, Tryz.ntmps47
 go_wp2_with fail
 refine H1.out.mono ?_
 rintro e w1 ⟨⟨a, c, rfl, hag, hlo⟩, hb⟩
 rw [HE.out] at hag
 have HA := Hid.mk hag
 have HB := Hid.mk hb
 have HW := Hid.mk hlo
 clear hag hb hlo
 go_wp2_with fail
 go_loopw [3] (fun q v => ∃ (a : Option Addr) (m c : Nat), q = .slice a m c /\ k <= m /\ m <= 8 /\ Ag v a m c (bek m n) /\ Lo w.heap.size a /\ Below w.heap.size w v) (fun q _ => 8 - (match q with | .slice _ m _ => m | _ => 0))
 case atStart => exact ⟨a, k, c, rfl, Nat.le_refl _, H8.out, HA.out, HW.out, HB.out⟩
 case round =>
  clear HA HW
  obtain ⟨a, m, c, rfl, hkm, hm8, hag, hlo, hb⟩ := hrel
  have HW := Hid.mk hlo
  clear hlo
  have HA := Hid.mk hag
  have HBB := Hid.mk hb
  clear hag hb
  by_cases h8 : m = 8
  ·subst h8
   clear hkm
   go_wp2_with fail
   go_ret
   exact ⟨⟨a, c, rfl, HA.out, HW.out⟩, HBB.out⟩
  ·have hmi : (m : Int) < 8 := by omega
   have hpad := bek_pad (HQ.out m hkm)
   have HO : Hid (∀ z ∈ [0] ++ bek m n, 0 <= z /\ z < 256) := Hid.mk (Znm (by decide) HA.out.b)
   have HP : Hid ([0] ++ bek m n = bek (m + 1) n) := Hid.mk hpad.symm
   have HL : Hid ((bek (m + 1) n).length = m + 1) := Hid.mk (bek_len _ _)
   clear hpad
   go_wp2_with (first | (at_builtin; refine Zbx rfl (.tmp 9) (.tmp 10) rfl wr.heap.size _ [0] rfl (OwnB.one wr _) a m c (bek m n) rfl (HA.out.at ((Below.refl _ _).alloc (Nat.le_refl _) _)).i HA.out.nil HA.out.l (by simp; omega) (by simp) ?_; intro v1 w1 o1 hb1; obtain ⟨a1, c1, rfl, hag1⟩ := OwnB.ag o1 HO.out; have HW1 := Hid.mk (OwnB.lo o1); rw [HP.out, HL.out] at hag1; rw [HP.out, HL.out]; have HG := Hid.mk hag1; have HB1 := Hid.mk hb1; clear o1 hag1 hb1))
   refine ⟨⟨a1, m + 1, c1, rfl, by omega, by omega, HG.out, (fun g off e => Nat.le_trans HBB.out.size (HW1.out g off e)), ?_⟩, by simp; omega⟩
   exact HBB.out.trans ((((Below.refl _ _).alloc (Nat.le_refl _) _).trans HB1.out).mono HBB.out.size)
end Go.Proofs.YtdkpilgelgjieaaGreat.Wo
namespace Go.Proofs.YtdkpilgelgjieaaGreat
open Go.RowKit
open Tr
open Di (dref)
theorem key_less : ∀ k i j : Nat, i % 256 ^ k < j % 256 ^ k -> Ni.lessP (Wo.bek k i) (Wo.bek k j) = true
 | 0, i, j, h => by simp [Nat.mod_one] at h
 | k + 1, i, j, h => by
  rw [Wo.bek_front, Wo.bek_front]
  have hi := Nat.mod_mul (x := i) (a := 256 ^ k) (b := 256)
  have hj := Nat.mod_mul (x := j) (a := 256 ^ k) (b := 256)
  rw [Nat.pow_succ, hi, hj] at h
  have hli := Nat.mod_lt i (show 0 < 256 ^ k from Nat.pow_pos (by omega))
  have hlj := Nat.mod_lt j (show 0 < 256 ^ k from Nat.pow_pos (by omega))
  simp only [Ni.lessP]
  by_cases e : i / 256 ^ k % 256 = j / 256 ^ k % 256
  ·rw [if_pos (by rw [e])]
   rw [e] at h
   exact key_less k i j (by omega)
  ·rw [if_neg (by intro q; exact e (by exact_mod_cast q))]
   apply decide_eq_true
   have hlt : i / 256 ^ k % 256 < j / 256 ^ k % 256 := by
    rcases Nat.lt_or_ge (i / 256 ^ k % 256) (j / 256 ^ k % 256) with q | q
    ·exact q
    ·exfalso
     have q2 : j / 256 ^ k % 256 + 1 <= i / 256 ^ k % 256 := by omega
     have q3 := Nat.mul_le_mul_left (256 ^ k) q2
     rw [Nat.mul_add, Nat.mul_one] at q3
     omega
   exact_mod_cast hlt
theorem key_lt {i j : Nat} (h : i < j) (hj : j < 18446744073709551616) : Ni.lessP (Wo.bek 8 i) (Wo.bek 8 j) = true := key_less 8 i j (by rw [Nat.mod_eq_of_lt (show i < 256 ^ 8 by omega), Nat.mod_eq_of_lt (show j < 256 ^ 8 by omega)]; exact h)
def LP (M : List (List Int)) (j : Nat) : PList := (List.range j).map fun i => (Wo.bek 8 i, dref (M.getD i []))
theorem LP_succ (M : List (List Int)) (j : Nat) : LP M (j + 1) = LP M j ++ [(Wo.bek 8 j, dref (M.getD j []))] := by
 unfold LP; rw [List.range_succ, List.map_append]; rfl
theorem LP_len (M : List (List Int)) (j : Nat) : (LP M j).length = j := by simp [LP]
theorem LP_add (M : List (List Int)) {j : Nat} (hj : j < 18446744073709551616) : addE (lkP (LP M j)) (Wo.bek 8 j) (dref (M.getD j [])) = 0 := by
 have h1 := Wo.bek_len 8 j
 have h2 := dref_len (M.getD j [])
 unfold addE
 rw [if_pos (by omega), if_pos (by omega)]
 cases j with
 | zero => rfl
 | succ j =>
  rw [LP_succ, Zsm]
  simp only
  rw [key_lt (Nat.lt_succ_self j) hj]
  rfl
theorem LP_tk (M : List (List Int)) : ∀ j : Nat, j <= 1048577 -> ∃ t, Tk t (LP M j)
 | 0, _ => ⟨no, Tk.nil⟩
 | j + 1, h => by
  obtain ⟨t, ht⟩ := LP_tk M j (by omega)
  have he := LP_add M (j := j) (by omega)
  have := (ht.step (Wo.bek_bd 8 j) he).1
  rw [show addL (LP M j) (Wo.bek 8 j) (dref (M.getD j [])) = LP M (j + 1) from by unfold addL; rw [if_pos he, LP_succ]] at this
  exact ⟨_, this⟩
theorem b8_sk {w : World} {g : Nat} {ds : List Int} (h : Rw g w (B8 ds) 24) (hl : ds.length = 32) (hb : isB ds) : Sk (fun b => b = g) w (some ⟨g, 0, none⟩) 32 32 ds := by
 refine ⟨⟨.inr ⟨g, 0, rfl, hl, by omega, by omega, by unfold maxLen; omega, fun j hj => ?_⟩, (fun e => by cases e), hl, hb⟩, fun y hy _ => by cases hy; rfl⟩
 rw [cell_of_row _ _ _ _ _ _ h, Nat.zero_add]
 simp [B8, List.getElem?_eq_getElem hj, List.getD]
theorem ol_sl32 {ρ : Operand -> Value} {w : World} {o : Oper} {x : Operand} {g o0 : Nat} (ho : o.op = .slice 24 x none none none) (hx : ρ x = .pointer (some ⟨g, o0, none⟩)) : (execOp ρ o).run Tryz.prog w = .ok (.value (.slice (some ⟨g, o0, none⟩) 32 32)) w := by
 have hs : (Tryz.prog.info? 5).map (·.size) = some 1 := by kernel_rfl
 cases hq : Tryz.prog.info? 5 with
 | none => simp [hq] at hs
 | some y =>
  unfold execOp
  rw [ho]
  simp [hx, Instr.sliceAt, run_underlying Tryz.underlying24, Instr.sureAddr, Instr.sliceBounds, sizeOf, typeInfo, hq, Zax, Result.andThen]
theorem wkey8 {w : World} {j : Nat} (hj : j < 18446744073709551616) : Calls Tryz.prog 46 #[.int .u64 ((j : Nat) : Int)] w fun e w' => ∃ u, e = .returned u /\ (∃ a c, u = .slice a 8 c /\ Sk (fun b => w.heap.size <= b) w' a 8 c (Wo.bek 8 j)) /\ Bl w w' :=
 (Wo.Zx3 _ (by omega) (by omega) w).mono (fun e w' ⟨e1, hr, hb⟩ => ⟨_, e1, ⟨_, _, rfl, ⟨⟨.inr ⟨w.heap.size, 0, rfl, Wo.bek_len 8 _, by omega, by omega, by unfold maxLen; omega, fun i hi => by
  have := cell_of_row w' w.heap.size i _ _ _ hr
  rw [Nat.zero_add, this]
  simp [List.getElem?_eq_getElem hi, List.getD]⟩, (fun e => by cases e), Wo.bek_len 8 _, Wo.bek_bd 8 _⟩, fun y hy _ => by cases hy; exact Nat.le_refl _⟩⟩, hb⟩)
theorem rkey8 {w : World} {j : Nat} (hj : j < 18446744073709551616) : Calls Tryz.prog 47 #[.int .u64 ((j : Nat) : Int)] w fun e w' => ∃ u, e = .returned u /\ (∃ a c, u = .slice a 8 c /\ Sk (fun b => w.heap.size <= b) w' a 8 c (Wo.bek 8 j)) /\ Bl w w' :=
 (Wo.Zha _ (by omega) (by omega) w).mono (fun e w' ⟨⟨a, c, e1, h1, h2⟩, hb⟩ => ⟨_, e1, ⟨a, c, rfl, ⟨h1, fun x hx h0 => by obtain ⟨g, off, e, _⟩ := ag_head h1 h0; rw [e] at hx; cases hx; exact h2 g off e⟩⟩, hb⟩)
theorem wrapU {j : Nat} (h : j < 18446744073709551616) : IntKind.u64.wrap ((j : Nat) : Int) = ((j : Nat) : Int) := by unfold IntKind.wrap; simp [IntKind.bits, IntKind.signed]; omega
theorem Tk.one {t u : Tr} {T : PList} (h : Tk t T) (k : Tk u T) : t = u := by
 refine Rel.one k.rel h.rel.ok ?_ (fun q y hq => ((h.rel.m q y).1 hq).2.2.2)
 intro q hq hg
 obtain ⟨y, h1, h2, h3⟩ := h.rel.e q hq hg
 exact ⟨y, ⟨Tr.get t (Ni.nib y), (h.rel.m y _).2 ⟨h1, h2, by rw [<- h3]; exact hg, rfl⟩⟩, h1, h2, h3⟩
set_option maxHeartbeats 4000000 in
theorem blist_any {K : Nat -> Prop} {w : World} {a : Option Addr} {n c : Nat} {M : List (List Int)} (hL : Bt K w a n M) (hn : n <= 1048576) (hM : ∀ b ∈ M, b.length <= 1048576) :
  Calls Tryz.prog 22 #[.slice a n c] w fun e w' => ∃ u, e = .returned u /\ (fun u w' => (∃ t, Tk t (LP M n) /\ u = .tuple #[.agg (B8 (rootP t)), .int .i64 0]) /\ Bl w w') u w' := by
 have hB := Bl.refl w
 have hln := hL.len
 obtain ⟨tN, hkN⟩ := LP_tk M n (by omega)
 have hdl := Zdl tN
 obtain ⟨ds, hds⟩ : ∃ ds, rootP tN = ds := ⟨_, rfl⟩
 rw [hds] at hdl
 have hL0 := hL
 refine Za3 Tryz.func22 rfl 27 rfl ?_
 show CW _ _ _ _ _ _ _ [(0, .slice a n c)] _
 refine Zac <| Zaa <| Zb7 2 (B8 z32) 24 (fun _ => by kernel_rfl) (fun _ => by kernel_rfl) ?_
 intro w1 gd hnd
 replace hB := hB.go hnd.below
 have hrd : Rw gd w1 (B8 z32) 24 := hnd.row
 have hgd := hnd.hg
 refine rp 3 (.int .i64 0) <| Zad <| Zab <| Zac <| Zaa <| Za1 8 11 #[] (fun _ => by kernel_rfl) (fun _ => by kernel_rfl) (R := fun u w' => (∃ gB, u = .pointer (some ⟨gB, 0, none⟩) /\ Bu (fun _ => True) w' w1.heap.size gB 0 no none (.slice none 0 0) /\ w1.heap.size <= gB) /\ Bl w1 w') (Zpl (Y := fun _ => True) w1.heap.size) ?_
 rintro _ u1 ⟨⟨gB, rfl, hU, hgB⟩, hb1⟩
 replace hB := hB.go hb1
 replace hrd := hrd.go hb1
 refine rp 4 (.pointer (some ⟨gB, 0, none⟩)) <| Zad <| Zab <| Zac <| Zac <| Zaa <| rp 9 (.slice a n c) <| rp 10 (.int .i64 n) <| rp 11 (.int .i64 0) <| Zad <| Zab <| Zay ?_
 refine Zdj (X := Nat) (fun q => [(11, .int .i64 ((q : Nat) : Int)), (9, .slice a n c), (10, .int .i64 n), (4, .pointer (some ⟨gB, 0, none⟩)), (2, .pointer (some ⟨gd, 0, none⟩))]) (fun q v => Bl w v /\ Rw gd v (B8 z32) 24 /\ (∃ t vW, Bu (fun _ => True) v w1.heap.size gB q t (lkP (LP M q)) vW /\ Tk t (LP M q)) /\ q <= n /\ w1.heap.size <= v.heap.size) (fun q => n - q) 0 (by exact ⟨fun _ => by kernel_rfl, ⟨fun _ => by kernel_rfl, ⟨fun _ => by kernel_rfl, ⟨fun _ => by kernel_rfl, ⟨fun _ => by kernel_rfl, trivial⟩⟩⟩⟩⟩) ⟨hB, hrd, ⟨no, .slice none 0 0, hU, Tk.nil⟩, Nat.zero_le _, by have := hb1.size; omega⟩ ?_
 clear hB hrd hU
 rintro j v ⟨hB, hrd, ⟨t, vW, hU, hk⟩, hj, hbv⟩
 show CW _ _ _ _ _ _ _ [(11, .int .i64 ((j : Nat) : Int)), (9, .slice a n c), (10, .int .i64 n), (4, .pointer (some ⟨gB, 0, none⟩)), (2, .pointer (some ⟨gd, 0, none⟩))] _
 by_cases hlt : j < n
 ·skip
  obtain ⟨gE, oE, a1, n1, c1, ea, hc1, hs1⟩ := (hL0.go hB).row j hlt
  subst ea
  have ls1 := hs1.len
  have hb1 : (M.getD j []).length <= 1048576 := hM _ (by rw [List.getD, List.getElem?_eq_getElem (by omega)]; exact List.getElem_mem _)
  have hel := dref_len (M.getD j [])
  have heb := Zpd (M.getD j [])
  have hadd := LP_add M (j := j) (by omega)
  obtain ⟨es, hes⟩ : ∃ es, dref (M.getD j []) = es := ⟨_, rfl⟩
  rw [hes] at hel heb hadd
  have hUl := hU.lo
  refine Zac <| Zaa <| rv 12 (.bool true) (fun _ => Zai (v := .bool (decide (((j : Nat) : Int) < (n : Int)))) (by kernel_rfl) (congrArg Value.bool (decide_eq_true (by omega)))) <| Zad <| Zab <| Zac <| Zan (fun _ => by kernel_rfl) <| Zaz <| Zab <| Zac <| Zay <| Zac ?_
  refine Zaa <| rp 13 (.int .i64 ((j : Nat) : Int)) <| rv 14 (.pointer (some ⟨gE, oE + j * 1, none⟩)) (fun _ => Zas 47 _ _ gE oE j n c 1 32 rfl (by kernel_rfl) (by kernel_rfl) hlt Tryz.underlying47 (by kernel_rfl)) <| rv 15 (.slice a1 n1 c1) (fun _ => Zam 32 _ _ _ _ rfl (by kernel_rfl) hc1 Tryz.underlying32 rfl) <| rp 5 (.int .i64 ((j : Nat) : Int)) <| rp 6 (.slice a1 n1 c1) <| Zad <| Zab <| Zac <| Zaa <| rp 16 (.slice a1 n1 c1) <| Za1 17 34 #[.slice a1 n1 c1] (fun _ => by kernel_rfl) (fun _ => by kernel_rfl) (R := fun u w' => u = .agg (B8 es) /\ Bl (v) w') ((Znt a1 n1 c1 (M.getD j []) (v) hs1.ag (by omega)).mono (fun e w' h => ⟨_, by rw [h.1, hes], rfl, h.2⟩)) ?_
  rintro _ u2 ⟨rfl, hb2⟩
  replace hB := hB.go hb2
  replace hrd := hrd.go hb2
  replace hU := hU.go hb2
  replace hs1 := hs1.go hb2
  refine Zb7 7 (B8 z32) 24 (fun _ => by kernel_rfl) (fun _ => by kernel_rfl) ?_
  intro w7 g7 hn7
  refine Zcx g7 (B8 es) (fun _ => by kernel_rfl) (fun _ => Zbf 24 _ _ _ _ _ _ rfl (by kernel_rfl) (by kernel_rfl) hn7.row (Zce hel) (Zcv hel) (B8_one _)) ?_
  intro w8 hp8
  have hn8 := hn7.put hp8
  have hg7 := hn8.hg
  replace hB := hB.go hn8.below
  replace hrd := hrd.go hn8.below
  replace hU := hU.go hn8.below
  replace hs1 := hs1.go hn8.below
  have hr7 : Rw g7 w8 (B8 es) 24 := hn8.row
  refine Zad <| Zab ?_
  have h70 := hr7
  have hV8 := Bl.refl w8
  refine Zcb (fun _ => True) (by kernel_rfl) (trivial) ?_
  replace hB := hB.drew
  replace hrd := hrd.drew
  replace hU := hU.go (Below.refl _ _).drew
  replace hs1 := hs1.drew
  replace hr7 := hr7.drew
  replace hV8 := hV8.drew
  refine dt 0 18 (.pointer (some ⟨gB, 0, none⟩)) (fun v hv _ => by kernel_rfl) trivial <| dt 1 19 (.int .i64 ((j : Nat) : Int)) (fun v hv _ => by kernel_rfl) trivial <| dt 2 20 (.int .u64 ((j : Nat) : Int)) (fun v hv _ => Zai (v := .int .u64 (IntKind.u64.wrap ((j : Nat) : Int))) (by kernel_rfl) (congrArg (Value.int .u64) (wrapU (by omega)))) trivial <| dt 4 22 (.slice (some ⟨g7, 0, none⟩) 32 32) (fun v hv _ => ol_sl32 rfl (by kernel_rfl)) trivial <| Zah [3] (by kernel_rfl) (by simp) ?_
  refine Zba 3 21 46 #[.int .u64 ((j : Nat) : Int)] rfl (fun _ => by kernel_rfl) (fun _ => by kernel_rfl) (R := fun u w' => (∃ a c, u = .slice a 8 c /\ Sk (fun b => (w8.drew).heap.size <= b) w' a 8 c (Wo.bek 8 j)) /\ Bl (w8.drew) w') (wkey8 (by omega)) (fun _ _ _ => trivial) ?_ Zar
  rintro _ u3 ⟨⟨a3, c3, rfl, hs3⟩, hb3⟩
  replace hB := hB.go hb3
  replace hrd := hrd.go hb3
  replace hU := hU.go hb3
  replace hs1 := hs1.go hb3
  replace hr7 := hr7.go hb3
  replace hV8 := hV8.go hb3
  refine Zah [5] (by kernel_rfl) (by simp) ?_
  have hs7 := b8_sk hr7 hel heb
  have q1 := hb2.size
  have q2 := hn8.size
  have q3 := hV8.size
  have q4 := hnd.size
  have q5 := hUl.2
  refine Zba 5 23 12 #[.pointer (some ⟨gB, 0, none⟩), .slice a3 8 c3, .slice (some ⟨g7, 0, none⟩) 32 32] rfl (fun _ => by kernel_rfl) (fun _ => by kernel_rfl) (R := RAd (fun _ => True) (u3) w1.heap.size gB j t (lkP (LP M j)) vW (Wo.bek 8 j) es) (Zpo hU (fun _ _ => trivial) (by have := hV8.size; have := hB.size; omega) (by omega) hs3 (hs7.mono (fun b hb => ⟨fun e => by have : b = g7 := hb; have := (hUl.1 b e).2; omega, by have : b = g7 := hb; have := hUl.2; omega⟩))) (fun _ _ _ => trivial) ?_ Zar
  rintro _ u4 ⟨rfl, vW2, hU2, hA2⟩
  rw [if_pos hadd, if_pos hadd, if_pos hadd] at hU2
  have hz4 := hA2.size
  have hz8 := hV8.size
  have hgdl := lt_of_get hrd
  replace hrd : Rw gd u4 (B8 z32) 24 := (hA2.block gd hgdl (by omega) (fun e => by have := (hUl.1 gd e).1; have := hnd.size; omega)).trans hrd
  replace hB : Bl w u4 := hA2.blw hB (by omega) (fun k hk => by have := (hUl.1 k hk).1; have := hnd.size; omega)
  refine Zbn (by kernel_rfl) <| Zbb <| Zab <| Zaa <| rv 24 (.int .i64 (((j : Nat) : Int) + 1)) (fun _ => Zai (v := .int .i64 (IntKind.i64.wrap (((j : Nat) : Int) + 1))) (by kernel_rfl) (congrArg (Value.int .i64) (Zb6 (by omega) (by omega)))) <| rp 11 (.int .i64 (((j : Nat) : Int) + 1)) <| Zad ?_
  have hst := (hk.step (x := es) (Wo.bek_bd 8 j) hadd).1
  exact Zbi (E := fun q => [(11, .int .i64 ((q : Nat) : Int)), (9, .slice (some ⟨gE, oE, none⟩) n c), (10, .int .i64 n), (4, .pointer (some ⟨gB, 0, none⟩)), (2, .pointer (some ⟨gd, 0, none⟩))]) (R := fun q v => Bl w v /\ Rw gd v (B8 z32) 24 /\ (∃ t vW, Bu (fun _ => True) v w1.heap.size gB q t (lkP (LP M q)) vW /\ Tk t (LP M q)) /\ q <= n /\ w1.heap.size <= v.heap.size) (μ := fun q => n - q) (x := j) (j + 1) (by exact ⟨fun _ => by kernel_rfl, ⟨fun _ => by kernel_rfl, ⟨fun _ => by kernel_rfl, ⟨fun _ => by kernel_rfl, ⟨fun _ => by kernel_rfl, trivial⟩⟩⟩⟩⟩) ⟨hB, hrd, ⟨putT t (Wo.bek 8 j) es, vW2, by show Bu _ _ _ _ (j + 1) _ (lkP (LP M (j + 1))) _; rw [LP_succ, Zsm]; exact hU2, by show Tk _ (LP M (j + 1)); rw [LP_succ, hes, <- show addL (LP M j) (Wo.bek 8 j) es = LP M j ++ [(Wo.bek 8 j, es)] from if_pos hadd]; exact hst⟩, hlt, by omega⟩ (by omega)
 obtain rfl : j = n := by omega
 show CW _ _ _ _ _ _ _ [(11, .int .i64 ((j : Nat) : Int)), (9, .slice a j c), (10, .int .i64 ((j : Nat) : Int)), (4, .pointer (some ⟨gB, 0, none⟩)), (2, .pointer (some ⟨gd, 0, none⟩))] _
 have hte : t = tN := Tk.one hk hkN
 refine Zac <| Zaa <| rv 12 (.bool false) (fun _ => Zai (v := .bool (decide (((j : Nat) : Int) < ((j : Nat) : Int)))) (by kernel_rfl) (congrArg Value.bool (decide_eq_false (by omega)))) <| Zad <| Zab <| Zac <| Zao (fun _ => by kernel_rfl) <| Zd5 <| Zat <| Zat <| Zbj <| Zab ?_
 refine Zac <| Zaa <| rp 25 (.pointer (some ⟨gB, 0, none⟩)) <| Za1 26 15 #[.pointer (some ⟨gB, 0, none⟩)] (fun _ => by kernel_rfl) (fun _ => by kernel_rfl) (R := fun u w' => u = .agg (B8 ds) /\ Bl (v) w') (((Zmu hU).mono (fun e w' ⟨u, e1, e2, e3⟩ => ⟨u, e1, by rw [e2, hte, hds], e3⟩))) ?_
 rintro _ u5 ⟨rfl, hb5⟩
 replace hB := hB.go hb5
 replace hrd := hrd.go hb5
 replace hU := hU.go hb5
 refine Zcx gd (B8 ds) (fun _ => by kernel_rfl) (fun _ => Zbf 24 _ _ _ _ _ _ rfl (by kernel_rfl) (by kernel_rfl) hrd (Zce hdl) (Zcv hdl) (B8_one _)) ?_
 intro uE hpE
 replace hB : Bl w uE := hpE.below hB (by omega) hB.size
 have hrE : Rw gd uE (B8 ds) 24 := hpE.row hrd
 refine rp 3 (.int .i64 0) <| Zad <| Zab <| Za5 ?_
 exact Zaf (.tuple #[.agg (B8 ds), .int .i64 0]) (fun _ => Zep Tryz.results22 _ gd ds hdl (by kernel_rfl) (by kernel_rfl) hrE) ⟨_, rfl, ⟨tN, hkN, by rw [hds]⟩, hB⟩
set_option maxHeartbeats 4000000 in
theorem rlist_any {K : Nat -> Prop} {w : World} {a : Option Addr} {n c : Nat} {M : List (List Int)} (hL : Bt K w a n M) (hn : n <= 1048576) (hM : ∀ b ∈ M, b.length <= 1048576) :
  Calls Tryz.prog 23 #[.slice a n c] w fun e w' => ∃ u, e = .returned u /\ (fun u w' => (∃ t, Tk t (LP M n) /\ u = .agg (B8 (rootP t))) /\ Bl w w') u w' := by
 have hB := Bl.refl w
 have hln := hL.len
 obtain ⟨tN, hkN⟩ := LP_tk M n (by omega)
 have hdl := Zdl tN
 obtain ⟨ds, hds⟩ : ∃ ds, rootP tN = ds := ⟨_, rfl⟩
 rw [hds] at hdl
 have hL0 := hL
 refine Za3 Tryz.func23 rfl 31 rfl ?_
 show CW _ _ _ _ _ _ _ [(0, .slice a n c)] _
 refine Zac <| Zaa <| Zb7 2 (B8 z32) 24 (fun _ => by kernel_rfl) (fun _ => by kernel_rfl) ?_
 intro w1 gd hnd
 replace hB := hB.go hnd.below
 have hrd : Rw gd w1 (B8 z32) 24 := hnd.row
 have hgd := hnd.hg
 refine Zad <| Zab <| Zac <| Zaa <| rp 3 (.slice none 0 0) <| Zad <| Zab <| Zac <| Zac <| Zaa <| rp 4 (.int .i64 0) <| Zad ?_
 refine Zab <| Zay <| Zdj (X := Nat × Value) (fun q => [(4, .int .i64 ((q.1 : Nat) : Int)), (3, q.2), (0, .slice a n c), (2, .pointer (some ⟨gd, 0, none⟩))]) (fun q v => Bl w v /\ Rw gd v (B8 z32) 24 /\ OwnL (fun _ => True) v (gd + 1) q.2 (LP M q.1) /\ q.1 <= n) (fun q => n - q.1) (0, .slice none 0 0) (by exact ⟨fun _ => by kernel_rfl, ⟨fun _ => by kernel_rfl, ⟨fun _ => by kernel_rfl, ⟨fun _ => by kernel_rfl, trivial⟩⟩⟩⟩) ⟨hB, hrd, OwnL.none8 (fun _ _ => trivial), Nat.zero_le _⟩ ?_
 clear hB hrd
 rintro ⟨j, V⟩ v ⟨hB, hrd, hO, hj⟩
 simp only at hB hrd hO hj
 show CW _ _ _ _ _ _ _ [(4, .int .i64 ((j : Nat) : Int)), (3, V), (0, .slice a n c), (2, .pointer (some ⟨gd, 0, none⟩))] _
 by_cases hlt : j < n
 ·skip
  obtain ⟨gE, oE, a1, n1, c1, ea, hc1, hs1⟩ := (hL0.go hB).row j hlt
  subst ea
  have ls1 := hs1.len
  have hb1 : (M.getD j []).length <= 1048576 := hM _ (by rw [List.getD, List.getElem?_eq_getElem (by omega)]; exact List.getElem_mem _)
  have hel := dref_len (M.getD j [])
  have heb := Zpd (M.getD j [])
  have hadd := LP_add M (j := j) (by omega)
  obtain ⟨es, hes⟩ : ∃ es, dref (M.getD j []) = es := ⟨_, rfl⟩
  rw [hes] at hel heb hadd
  refine Zac <| Zac <| Zaa <| rp 7 (.int .i64 ((j : Nat) : Int)) <| rp 8 (.slice (some ⟨gE, oE, none⟩) n c) <| rp 9 (.int .i64 n) <| rv 10 (.bool true) (fun _ => Zai (v := .bool (decide (((j : Nat) : Int) < (n : Int)))) (by kernel_rfl) (congrArg Value.bool (decide_eq_true (by omega)))) <| Zad <| Zab <| Zan (fun _ => by kernel_rfl) <| Zaz <| Zab ?_
  refine Zac <| Zay <| Zac <| Zaa <| rp 13 (.slice (some ⟨gE, oE, none⟩) n c) <| rp 14 (.int .i64 ((j : Nat) : Int)) <| rv 15 (.pointer (some ⟨gE, oE + j * 1, none⟩)) (fun _ => Zas 47 _ _ gE oE j n c 1 32 rfl (by kernel_rfl) (by kernel_rfl) hlt Tryz.underlying47 (by kernel_rfl)) <| rv 16 (.slice a1 n1 c1) (fun _ => Zam 32 _ _ _ _ rfl (by kernel_rfl) hc1 Tryz.underlying32 rfl) <| Za1 17 25 #[.slice a1 n1 c1] (fun _ => by kernel_rfl) (fun _ => by kernel_rfl) (R := fun u w' => u = .agg (B8 es) /\ Bl (v) w') ((Zhe a1 n1 c1 (M.getD j []) (v) hs1.ag (by omega)).mono (fun e w' h => ⟨_, by rw [h.1, hes], rfl, h.2⟩)) ?_
  rintro _ u2 ⟨rfl, hb2⟩
  replace hB := hB.go hb2
  replace hrd := hrd.go hb2
  replace hO := hO.far hb2
  replace hs1 := hs1.go hb2
  refine Zb7 5 (B8 z32) 24 (fun _ => by kernel_rfl) (fun _ => by kernel_rfl) ?_
  intro w7 g7 hn7
  refine Zcx g7 (B8 es) (fun _ => by kernel_rfl) (fun _ => Zbf 24 _ _ _ _ _ _ rfl (by kernel_rfl) (by kernel_rfl) hn7.row (Zce hel) (Zcv hel) (B8_one _)) ?_
  intro w8 hp8
  have hn8 := hn7.put hp8
  have hg7 := hn8.hg
  replace hB := hB.go hn8.below
  replace hrd := hrd.go hn8.below
  replace hO := hO.far hn8.below
  replace hs1 := hs1.go hn8.below
  have hr7 : Rw g7 w8 (B8 es) 24 := hn8.row
  refine Zad <| Zab <| Zac <| Zaa <| rp 6 (.slice none 0 0) <| Zad <| Zab <| Zac <| Zaa <| rp 18 (.slice none 0 0) <| rv 19 (.slice (some ⟨g7, 0, none⟩) 32 32) (fun _ => ol_sl32 rfl (by kernel_rfl)) ?_
  have hs7 := b8_sk hr7 hel heb
  obtain ⟨vX, wX, hrX, hoX, hbX⟩ := app_run (w := w8) (base := w8.heap.size) (v := .slice none 0 0) (bs := []) (World.ownsRow_nil _ _ _ 1) hs7.ag (by simp) (Nat.le_refl _)
  rw [List.nil_append] at hoX
  refine rw_v 20 vX (fun _ => by kernel_rfl) (fun _ => ol_app hrX _ _ rfl (by kernel_rfl) (by kernel_rfl)) ?_
  obtain ⟨aX, cX, eX, hsX⟩ := hoX.sk (K := fun b => w8.heap.size <= b) heb (fun _ hb => hb)
  subst eX
  have hOwX := hO.own
  replace hB := hB.go (show Bl w8 wX from hbX)
  replace hrd := hrd.go (show Bl w8 wX from hbX)
  replace hO := hO.far (show Bl w8 wX from hbX)
  replace hs1 := hs1.go (show Bl w8 wX from hbX)
  replace hr7 := hr7.go (show Bl w8 wX from hbX)
  refine rp 6 (.slice aX es.length cX) <| Zad <| Zab <| Zaa <| rp 21 (V) <| rp 22 (.int .i64 ((j : Nat) : Int)) <| rv 23 (.int .u64 ((j : Nat) : Int)) (fun _ => Zai (v := .int .u64 (IntKind.u64.wrap ((j : Nat) : Int))) (by kernel_rfl) (congrArg (Value.int .u64) (wrapU (by omega)))) ?_
  have hOwK := hO.own
  refine Za1 24 47 #[.int .u64 ((j : Nat) : Int)] (fun _ => by kernel_rfl) (fun _ => by kernel_rfl) (R := fun u w' => (∃ a c, u = .slice a 8 c /\ Sk (fun b => (wX).heap.size <= b) w' a 8 c (Wo.bek 8 j)) /\ Bl (wX) w') (rkey8 (by omega)) ?_
  rintro _ u3 ⟨⟨a3, c3, rfl, hs3⟩, hb3⟩
  replace hB := hB.go hb3
  replace hrd := hrd.go hb3
  replace hO := hO.far hb3
  replace hs1 := hs1.go hb3
  replace hr7 := hr7.go hb3
  replace hsX := hsX.go hb3
  refine rp 25 (.slice aX es.length cX) <| rp 26 (.agg #[.slice a3 8 c3, .slice aX es.length cX]) ?_
  have hOw := hO.own
  have hwz := hB.size
  refine Zdf 27 #[.slice a3 8 c3, .slice aX es.length cX] 34 1 (fun _ => by kernel_rfl) (fun _ => by kernel_rfl) ?_
  intro wN gN hnN
  have hP1 := PAt.one hnN (K := fun b => V.ownBlock ≠ some b) (hs3.mono (fun b hb e => by have := (hOwK b e).2; have : _ <= b := hb; omega)) (hsX.mono (fun b hb e => by have := (hOwX b e).2; have : _ <= b := hb; omega)) (by intro e; have := hOw gN e; have := hnN.hg; omega)
  replace hB := hB.go hnN.below
  replace hrd := hrd.go hnN.below
  replace hO := hO.far hnN.below
  obtain ⟨V2, wQ, hrQ, hOQ, hbQ⟩ := appP hO hP1 (fun b hb => ⟨hb, trivial⟩) (by rw [LP_len]; omega) (lt_of_get hrd)
  refine rw_v 28 V2 (fun _ => by kernel_rfl) (fun _ => Zk0 hrQ _ _ rfl (by kernel_rfl) (by kernel_rfl)) ?_
  replace hB : Bl w wQ := ⟨hbQ.os.trans hB.os, hbQ.tape.trans hB.tape, hbQ.output.trans hB.output, Nat.le_trans hB.size hbQ.size, fun q hq => (hbQ.block q (by omega)).trans (hB.block q hq)⟩
  replace hrd : Rw gd wQ (B8 z32) 24 := (hbQ.block gd (by omega)).trans hrd
  replace hO := hOQ
  refine rp 3 (V2) <| Zad <| Zbb <| Zab <| Zaa <| rp 11 (.int .i64 ((j : Nat) : Int)) <| rv 12 (.int .i64 (((j : Nat) : Int) + 1)) (fun _ => Zai (v := .int .i64 (IntKind.i64.wrap (((j : Nat) : Int) + 1))) (by kernel_rfl) (congrArg (Value.int .i64) (Zb6 (by omega) (by omega)))) <| rp 4 (.int .i64 (((j : Nat) : Int) + 1)) <| Zad ?_
  exact Zbi (E := fun q => [(4, .int .i64 ((q.1 : Nat) : Int)), (3, q.2), (0, .slice (some ⟨gE, oE, none⟩) n c), (2, .pointer (some ⟨gd, 0, none⟩))]) (R := fun q v => Bl w v /\ Rw gd v (B8 z32) 24 /\ OwnL (fun _ => True) v (gd + 1) q.2 (LP M q.1) /\ q.1 <= n) (μ := fun q => n - q.1) (x := (j, V)) (j + 1, V2) (by exact ⟨fun _ => by kernel_rfl, ⟨fun _ => by kernel_rfl, ⟨fun _ => by kernel_rfl, ⟨fun _ => by kernel_rfl, trivial⟩⟩⟩⟩) ⟨hB, hrd, by show OwnL _ _ _ _ (LP M (j + 1)); rw [LP_succ, hes]; exact hO, by show j + 1 <= n; omega⟩ (by show n - (j + 1) < n - j; omega)
 obtain rfl : j = n := by omega
 show CW _ _ _ _ _ _ _ [(4, .int .i64 ((j : Nat) : Int)), (3, V), (0, .slice a j c), (2, .pointer (some ⟨gd, 0, none⟩))] _
 refine Zac <| Zac <| Zaa <| rp 7 (.int .i64 ((j : Nat) : Int)) <| rp 8 (.slice a j c) <| rp 9 (.int .i64 j) <| rv 10 (.bool false) (fun _ => Zai (v := .bool (decide (((j : Nat) : Int) < (j : Int)))) (by kernel_rfl) (congrArg Value.bool (decide_eq_false (by omega)))) <| Zad <| Zab <| Zao (fun _ => by kernel_rfl) <| Zd5 <| Zat ?_
 refine Zat <| Zbj <| Zab <| Zac ?_
 obtain ⟨aF, cF, vsF, eF, hF⟩ := hO.pat
 subst eF
 have lF := LP_len M j
 refine Zaa <| rp 29 (.slice aF (LP M j).length cF) <| Za1 30 16 #[.slice aF (LP M j).length cF] (fun _ => by kernel_rfl) (fun _ => by kernel_rfl) (R := fun u w' => u = .agg (B8 ds) /\ Bl (v) w') ((Zxw hkN.rel hF (by omega)).mono (fun e w' ⟨u, e1, e2, e3⟩ => ⟨u, e1, by rw [e2, hds], e3⟩)) ?_
 rintro _ u7 ⟨rfl, hb7⟩
 replace hB := hB.go hb7
 replace hrd := hrd.go hb7
 refine Zcx gd (B8 ds) (fun _ => by kernel_rfl) (fun _ => Zbf 24 _ _ _ _ _ _ rfl (by kernel_rfl) (by kernel_rfl) hrd (Zce hdl) (Zcv hdl) (B8_one _)) ?_
 intro uE hpE
 replace hB : Bl w uE := hpE.below hB (by omega) hB.size
 have hrE : Rw gd uE (B8 ds) 24 := hpE.row hrd
 refine Zad <| Zab <| Za5 ?_
 exact Zaf (.agg (B8 ds)) (fun _ => Zfl Tryz.results23 _ gd ds hdl (by kernel_rfl) hrE) ⟨_, rfl, ⟨tN, hkN, by rw [hds]⟩, hB⟩
set_option maxHeartbeats 4000000 in
theorem lists8_x {K : Nat -> Prop} {w : World} {a : Option Addr} {n c : Nat} {M : List (List Int)} (hL : Bt K w a n M) (hn : n <= 1048576) (hM : ∀ b ∈ M, b.length <= 1048576) :
  Calls Tryz.prog 7 #[.slice a n c] w fun e w' => ∃ u, e = .returned u /\ (fun u w' => u = .bool true /\ Bl w w') u w' := by
 have hB := Bl.refl w
 have hL0 := hL
 refine Za3 Tryz.func7 rfl 36 rfl ?_
 show CW _ _ _ _ _ _ _ [(0, .slice a n c)] _
 refine Zac <| Zaa <| rp 2 (.bool false) <| Zad <| Zab <| Zac <| Zaa <| rp 8 (.slice a n c) <| Za1 9 22 #[.slice a n c] (fun _ => by kernel_rfl) (fun _ => by kernel_rfl) (R := fun u w' => (∃ t, Tk t (LP M n) /\ u = .tuple #[.agg (B8 (rootP t)), .int .i64 0]) /\ Bl (w) w') (blist_any hL hn hM) ?_
 rintro _ u1 ⟨⟨t1, hk1, rfl⟩, hb1⟩
 have hdl := Zdl t1
 obtain ⟨ds, hds⟩ : ∃ ds, rootP t1 = ds := ⟨_, rfl⟩
 rw [hds] at hdl ⊢
 replace hB := hB.go hb1
 replace hL := hL.go hb1
 refine rp 7 (.tuple #[.agg (B8 ds), .int .i64 0]) <| rp 10 (.agg (B8 ds)) <| rp 11 (.int .i64 0) <| Zb7 3 (B8 z32) 24 (fun _ => by kernel_rfl) (fun _ => by kernel_rfl) ?_
 intro wa1 g1 hn1
 refine Zcx g1 (B8 ds) (fun _ => by kernel_rfl) (fun _ => Zbf 24 _ _ _ _ _ _ rfl (by kernel_rfl) (by kernel_rfl) hn1.row (Zce hdl) (Zcv hdl) (B8_one _)) ?_
 intro wb1 hp1
 have hc1 := hn1.put hp1
 replace hB := hB.go hc1.below
 replace hL := hL.go hc1.below
 have hr1 : Rw g1 wb1 (B8 ds) 24 := hc1.row
 refine rp 4 (.int .i64 0) <| Zad <| Zab <| Zac <| Zaa <| Za1 13 22 #[.slice none 0 0] (fun _ => by kernel_rfl) (fun _ => by kernel_rfl) (R := fun u w' => (∃ t, Tk t (LP [] 0) /\ u = .tuple #[.agg (B8 (rootP t)), .int .i64 0]) /\ Bl (wb1) w') (blist_any (K := fun _ => True) (M := []) ⟨rfl, fun j hj => by omega⟩ (by omega) (fun b hb => by cases hb)) ?_
 rintro _ u2 ⟨⟨t2, hk2, rfl⟩, hb2⟩
 have ht2 : t2 = no := Tk.one hk2 Tk.nil
 subst ht2
 have hel := Zdl no
 have heq : rootP no = dref [128] := rfl
 rw [heq] at hel ⊢
 obtain ⟨es, hes⟩ : ∃ es, dref [128] = es := ⟨_, rfl⟩
 rw [hes] at hel ⊢
 replace hB := hB.go hb2
 replace hL := hL.go hb2
 replace hr1 := hr1.go hb2
 refine rp 12 (.tuple #[.agg (B8 es), .int .i64 0]) <| rp 14 (.agg (B8 es)) <| rp 15 (.int .i64 0) <| Zb7 5 (B8 z32) 24 (fun _ => by kernel_rfl) (fun _ => by kernel_rfl) ?_
 intro wa2 g2 hn2
 refine Zcx g2 (B8 es) (fun _ => by kernel_rfl) (fun _ => Zbf 24 _ _ _ _ _ _ rfl (by kernel_rfl) (by kernel_rfl) hn2.row (Zce hel) (Zcv hel) (B8_one _)) ?_
 intro wb2 hp2
 have hc2 := hn2.put hp2
 replace hB := hB.go hc2.below
 replace hL := hL.go hc2.below
 replace hr1 := hr1.go hc2.below
 have hr2 : Rw g2 wb2 (B8 es) 24 := hc2.row
 refine rp 6 (.int .i64 0) <| Zad <| Zab <| Zac ?_
 have hV := Bl.refl wb2
 have hr10 := hr1
 have hr20 := hr2
 refine Zcb (fun v => Bl wb2 v) (by kernel_rfl) (hV.drew) ?_
 replace hB := hB.drew
 replace hL := hL.drew
 replace hr1 := hr1.drew
 replace hr2 := hr2.drew
 replace hV := hV.drew
 refine Zah [0] (by kernel_rfl) (by simp) ?_
 refine Zba 0 16 10 #[] rfl (fun _ => by kernel_rfl) (fun _ => by kernel_rfl) (R := fun u w' => u = .bool true /\ Bl (wb2.drew) w') (Zt6) (fun u w' h => hV.go h.2) ?_ Zar
 rintro _ u3 ⟨rfl, hb3⟩
 replace hB := hB.go hb3
 replace hL := hL.go hb3
 replace hr1 := hr1.go hb3
 replace hr2 := hr2.go hb3
 replace hV := hV.go hb3
 refine dt 1 17 (.bool true) (fun v hv _ => by kernel_rfl) hV <| dt 2 18 (.int .i64 0) (fun v hv _ => by kernel_rfl) hV <| dt 3 19 (.bool true) (fun v hv _ => by kernel_rfl) hV <| dt 4 20 (.bool true) (fun v hv _ => by kernel_rfl) hV <| dt 5 21 (.bool true) (fun v hv _ => by kernel_rfl) hV <| dt 6 22 (.agg (B8 ds)) (fun v hv _ => Zed 24 _ _ _ _ _ _ rfl (by kernel_rfl) (hr10.go hv) Tryz.underlying24 rfl (Zce hdl)) hV <| dt 7 23 (.slice a n c) (fun v hv _ => by kernel_rfl) hV <| Zah [8] (by kernel_rfl) (by simp) ?_
 refine Zba 8 24 23 #[.slice a n c] rfl (fun _ => by kernel_rfl) (fun _ => by kernel_rfl) (R := fun u w' => u = .agg (B8 ds) /\ Bl (u3) w') ((rlist_any hL hn hM).mono (fun e w' ⟨u, e1, ⟨t, e2, e3⟩, e4⟩ => ⟨u, e1, by rw [e3, Tk.one e2 hk1, hds], e4⟩)) (fun u w' h => hV.go h.2) ?_ Zar
 rintro _ u4 ⟨rfl, hb4⟩
 replace hB := hB.go hb4
 replace hL := hL.go hb4
 replace hr1 := hr1.go hb4
 replace hr2 := hr2.go hb4
 replace hV := hV.go hb4
 refine dt 9 25 (.bool true) (fun v hv _ => Zr8 rfl (by kernel_rfl) (by kernel_rfl) hdl) hV <| dt 10 26 (.bool true) (fun v hv _ => by kernel_rfl) hV <| dt 11 27 (.bool true) (fun v hv _ => by kernel_rfl) hV <| dt 12 28 (.int .i64 0) (fun v hv _ => by kernel_rfl) hV <| dt 13 29 (.bool true) (fun v hv _ => by kernel_rfl) hV <| dt 14 30 (.bool true) (fun v hv _ => by kernel_rfl) hV <| dt 15 31 (.bool true) (fun v hv _ => by kernel_rfl) hV <| dt 16 32 (.agg (B8 es)) (fun v hv _ => Zed 24 _ _ _ _ _ _ rfl (by kernel_rfl) (hr20.go hv) Tryz.underlying24 rfl (Zce hel)) hV <| Zah [17] (by kernel_rfl) (by simp) ?_
 refine Zba 17 33 24 #[] rfl (fun _ => by kernel_rfl) (fun _ => by kernel_rfl) (R := fun u w' => u = .agg (B8 es) /\ Bl (u4) w') ((Zja (u4)).mono (fun e w' h => ⟨_, by rw [h.1, hes], rfl, h.2⟩)) (fun u w' h => hV.go h.2) ?_ Zar
 rintro _ u5 ⟨rfl, hb5⟩
 replace hB := hB.go hb5
 replace hL := hL.go hb5
 replace hr1 := hr1.go hb5
 replace hr2 := hr2.go hb5
 replace hV := hV.go hb5
 refine dt 18 34 (.bool true) (fun v hv _ => Zr8 rfl (by kernel_rfl) (by kernel_rfl) hel) hV <| dt 19 35 (.bool true) (fun v hv _ => by kernel_rfl) hV <| dt 20 2 (.bool true) (fun v hv _ => by kernel_rfl) hV <| Zbn (by kernel_rfl) <| Zab <| Za5 ?_
 exact Zaf (.bool true) (fun _ => by kernel_rfl) ⟨_, rfl, rfl, hB⟩
theorem bulklists_any {K1 : Nat -> Prop} (a : Option Addr) (n c : Nat) (M : List (List Int)) (w : World) (hL : Bt (fun _ => True) w a n M) (hnc : n <= c) (hni : a = none -> c = 0) (hn : n <= 1048576) (hM : ∀ b ∈ M, b.length <= 1048576) :
  Calls Tryz.prog 7 #[.slice a n c] w fun e w' => e = .returned (.bool true) /\ Below w.heap.size w w' :=
 (lists8_x hL hn hM).mono (fun e w' ⟨u, e1, e2, e3⟩ => ⟨by rw [e1, e2], e3⟩)
end Go.Proofs.YtdkpilgelgjieaaGreat
