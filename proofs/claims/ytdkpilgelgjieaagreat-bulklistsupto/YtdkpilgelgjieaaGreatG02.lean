/- A row of bytes in a block of its own; texts of bytes. -/
import Derived.Test.YtdkpilgelgjieaaGreatG00
import Derived.Lib.Bytes
import Derived.Deep.OwnRows
import Derived.Test.YtdkpilgelgjieaaGreatG01
import Derived.Lib.AppendZeros
set_option linter.unusedVariables false
set_option maxRecDepth 100000
namespace Go.Proofs.YtdkpilgelgjieaaGreat.Ni
open Go.RowKit
def Row (g : Nat) (w : World) (R : List Int) : Prop := w.heap[g]? = some (.cells (R.map (Value.int .u8)).toArray 5)
theorem Row.set {g : Nat} {w : World} {R : List Int} (h : Row g w R) (i : Nat) (x : Int) : Row g (w.setCell ⟨g, i, none⟩ (.int .u8 x)) (R.set i x) := by
 have := heap_setCell_same w g i _ 5 (.int .u8 x) h
 unfold Row
 rw [this]
 congr 2
 rw [List.setIfInBounds_toArray, List.map_set]
theorem Row.cell {g : Nat} {w : World} {R : List Int} (h : Row g w R) {i : Nat} (hi : i < R.length) : w.cell? ⟨g, i, none⟩ = some (.int .u8 (R.getD i 0)) := by
 rw [cell_of_row _ _ _ _ _ _ h]
 simp [List.getElem?_eq_getElem hi]
theorem Row.frozen {g : Nat} {w : World} {R : List Int} (h : Row g w R) (i : Nat) : w.frozen? ⟨g, i, none⟩ = false := frozen_of_row _ _ _ _ _ h
theorem made_bytes (n : Nat) : madeCells #[Value.int .u8 0] n = ((List.replicate n (0 : Int)).map (Value.int .u8)).toArray := by
 apply Array.ext'
 rw [toList_madeCells_one]
 simp
theorem row_ag {w : World} {g n : Nat} {bs : List Int} (h : Row g w bs) (hl : bs.length = n) (hb : ∀ x ∈ bs, 0 <= x /\ x < 256) (hn : n <= 9223372036854775807) : Ag w (some ⟨g, 0, none⟩) n n bs := by
 refine ⟨?_, (fun h => by cases h), hl, hb⟩
 by_cases h0 : n = 0
 ·exact .inl ⟨h0, List.eq_nil_of_length_eq_zero (by omega)⟩
 ·exact .inr ⟨g, 0, rfl, hl, by omega, Nat.le_refl _, by unfold maxLen; omega, fun j hj => by rw [Nat.zero_add]; exact h.cell hj⟩
theorem info5b : (Tryz.prog.info? 5).map (fun i => (i.zero, i.size, i.bytes)) = some (some (.int .u8 0), 1, 1) := by kernel_rfl
theorem ag_head {w : World} {a : Option Addr} {n c : Nat} {bs : List Int} (h : Ag w a n c bs) (h1 : 0 < n) : ∃ g off, a = some ⟨g, off, none⟩ /\ n <= c /\ c <= maxLen /\ ∀ j, j < n -> w.cell? ⟨g, off + j, none⟩ = some (.int .u8 (bs.getD j 0)) := by
 rcases h.i with ⟨h0, _⟩ | ⟨g, off, h2, h3, h4, h5, h6, h7⟩
 ·omega
 ·exact ⟨g, off, h2, h5, h6, fun j hj => h7 j (by omega)⟩
theorem cell_alloc {w : World} {g off : Nat} {v : Value} (h : w.cell? ⟨g, off, none⟩ = some v) : ∀ o, (w.alloc o).cell? ⟨g, off, none⟩ = some v := fun o => (World.cell?_of_block (w := w) (Below.heap_alloc w _ _ (block_lt_of_cell h))).trans h
theorem Zy4 {x y : Int} (hx : 0 <= x /\ x < 256) (hy : 0 <= y /\ y < 256) (h : UInt8.ofNat x.toNat = UInt8.ofNat y.toNat) : x = y := by
 have e := congrArg UInt8.toNat h
 rw [UInt8.toNat_ofNat', UInt8.toNat_ofNat', Nat.mod_eq_of_lt (by omega), Nat.mod_eq_of_lt (by omega)] at e
 omega
theorem Zsk : ∀ {a b : List Int}, (∀ x ∈ a, 0 <= x /\ x < 256) -> (∀ x ∈ b, 0 <= x /\ x < 256) -> (a.map fun n => UInt8.ofNat n.toNat) = (b.map fun n => UInt8.ofNat n.toNat) -> a = b
 | [], [], _, _, _ => rfl
 | [], _ :: _, _, _, h => by simp at h
 | _ :: _, [], _, _, h => by simp at h
 | x :: a, y :: b, ha, hb, h => by
  rw [List.map_cons, List.map_cons] at h
  injection h with h1 h2
  rw [Zy4 (ha x (by simp)) (hb y (by simp)) h1, Zsk (fun z hz => ha z (List.mem_cons_of_mem _ hz)) (fun z hz => hb z (List.mem_cons_of_mem _ hz)) h2]
theorem Zul {a b : List Int} (ha : ∀ x ∈ a, 0 <= x /\ x < 256) (hb : ∀ x ∈ b, 0 <= x /\ x < 256) : (strOfNums a).toList = (strOfNums b).toList ↔ a = b := by
 rw [Go.Lib.strOfNums_toList, Go.Lib.strOfNums_toList]
 exact ⟨Zsk ha hb, fun h => by rw [h]⟩
theorem str_beq {a b : List Int} (ha : ∀ x ∈ a, 0 <= x /\ x < 256) (hb : ∀ x ∈ b, 0 <= x /\ x < 256) : ((strOfNums a).toList == (strOfNums b).toList) = decide (a = b) := by
 by_cases h : a = b
 ·simp [h]
 ·have : ¬ (strOfNums a).toList = (strOfNums b).toList := fun e => h ((Zul ha hb).1 e)
  simp [h, this]
theorem gen_w {W : World} {p q : World -> Prop} (F : q W) (h : ∀ v, q v -> p v) : p W := h W F
end Go.Proofs.YtdkpilgelgjieaaGreat.Ni
namespace Go.Proofs.YtdkpilgelgjieaaGreat.Ni
open Go.RowKit
theorem Zt4 : ∀ x : Fin 256, bits BinOp.and IntKind.u8 (x.val : Int) 15 = (x.val : Int) % 16 := by decide +kernel
theorem Zze : ∀ x y : Fin 16, bits BinOp.or IntKind.u8 ((x.val : Int) * 16) (y.val : Int) = 16 * (x.val : Int) + (y.val : Int) := by decide +kernel
theorem Z0b {x : Int} (h0 : 0 <= x) (h1 : x < 256) : bits BinOp.and IntKind.u8 x 15 = x % 16 := by
 have := Zt4 ⟨x.toNat, by omega⟩
 rwa [show ((x.toNat : Nat) : Int) = x from by omega] at this
theorem or16 {x y : Int} (h0 : 0 <= x) (h1 : x <= 15) (h2 : 0 <= y) (h3 : y <= 15) : bits BinOp.or IntKind.u8 (x * 16) y = 16 * x + y := by
 have := Zze ⟨x.toNat, by omega⟩ ⟨y.toNat, by omega⟩
 rwa [show ((x.toNat : Nat) : Int) = x from by omega, show ((y.toNat : Nat) : Int) = y from by omega] at this
theorem ownB_nil (w : World) (base : Nat) : OwnB w base (.slice none 0 0) [] := ⟨rfl, .inl ⟨rfl, rfl⟩⟩
theorem ag_nil (w : World) : Ag w none 0 0 [] := ⟨.inl ⟨rfl, rfl⟩, fun _ => ⟨rfl, rfl⟩, rfl, fun x hx => by cases hx⟩
theorem Zyt (w : World) (a : Option Addr) : Ag w a 0 0 [] := ⟨.inl ⟨rfl, rfl⟩, fun _ => ⟨rfl, rfl⟩, rfl, fun x hx => by cases hx⟩
theorem in0_one (w : World) (x : Int) : In0 (w.alloc (.cells #[.int .u8 x] 5)) (some ⟨w.heap.size, 0, none⟩) 1 1 [x] :=
 .inr ⟨w.heap.size, 0, rfl, rfl, by omega, Nat.le_refl _, by unfold maxLen; omega, fun j hj => by
  have : j = 0 := by simp at hj; omega
  subst this
  rw [cell_of_row _ _ _ _ _ _ (heap_alloc_new _ _)]
  rfl⟩
theorem Zx7 (w : World) (x y : Int) : In0 (w.alloc (.cells #[.int .u8 x, .int .u8 y] 5)) (some ⟨w.heap.size, 0, none⟩) 2 2 [x, y] :=
 .inr ⟨w.heap.size, 0, rfl, rfl, by omega, Nat.le_refl _, by unfold maxLen; omega, fun j hj => by
  have : j = 0 \/ j = 1 := by simp at hj; omega
  rcases this with rfl | rfl <;> (rw [cell_of_row _ _ _ _ _ _ (heap_alloc_new _ _)]; rfl)⟩
theorem below_go {w0 w w' : World} (h : Below w0.heap.size w0 w) (hb : Below w.heap.size w w') : Below w0.heap.size w0 w' := h.trans (hb.mono h.size)
theorem below_new (w : World) (o : Obj) : Below w.heap.size w (w.alloc o) := (Below.refl _ _).alloc (Nat.le_refl _) _
theorem _root_.Go.Proofs.YtdkpilgelgjieaaGreat.Ag.drewN {w : World} {a : Option Addr} {len cap : Nat} {bs : List Int} (h : Ag w a len cap bs) : Ag w.drew a len cap bs := ⟨h.i.drew, h.nil, h.l, h.b⟩
end Go.Proofs.YtdkpilgelgjieaaGreat.Ni
namespace Go.Proofs.YtdkpilgelgjieaaGreat.Ni
open Go.RowKit
structure Cut (w : World) (base : Nat) (a : Option Addr) (n : Nat) (bs : List Int) : Prop where
 ag : Ag w a n n bs
 own : 0 < n -> ∃ g off cur, a = some ⟨g, off, none⟩ /\ base <= g /\ w.heap[g]? = some (.cells cur 5)
theorem Zmm (b : List Int) (k j : Nat) : (b.drop k).getD j 0 = b.getD (k + j) 0 := by
 rw [List.getD, List.getD, List.getElem?_drop]
theorem Zt2 (n c k : Nat) (w : World) (hk : k < n) (hnc : n <= c) (hc : c <= maxLen) (hn : n <= 140737488355328) (g off : Nat) :
  Calls Tryz.prog 51 #[.slice (some ⟨g, off, none⟩) n c, .int .i64 k] w fun e w' => e = .returned (.slice (some ⟨g, off + k, none⟩) (n - k) (n - k)) /\ w' = w := by
 unfold maxLen at hc
 have h1 : (k : Int) <= n := by omega
 have h2 : (n : Int) <= c := by omega
 have h3 : ¬ n = k := by omega
 go_enter Tryz.func51, Tryz.ntmps51
 go_wp2_with fail
 go_ret
 exact ⟨rfl, rfl⟩
theorem Zqv (a : Option Addr) (n c : Nat) (w : World) (hnc : n <= c) (hc : c <= maxLen) (hn : n <= 140737488355328) (hd : a = none -> n = 0 /\ c = 0) :
  Calls Tryz.prog 51 #[.slice a n c, .int .i64 n] w fun e w' => (∃ a', e = .returned (.slice a' 0 0)) /\ w' = w := by
 unfold maxLen at hc
 have h2 : (n : Int) <= c := by omega
 cases a with
 | none =>
  obtain ⟨rfl, rfl⟩ := hd rfl
  clear hd
  rw [show ((0 : Nat) : Int) = 0 from rfl]
  go_enter Tryz.func51, Tryz.ntmps51
  go_wp2_with fail
  go_ret
  exact ⟨⟨_, rfl⟩, rfl⟩
 | some ad =>
  clear hd
  go_enter Tryz.func51, Tryz.ntmps51
  go_wp2_with fail
  go_ret
  exact ⟨⟨_, rfl⟩, rfl⟩
theorem Zdw (a : Option Addr) (n c k base : Nat) (bs : List Int) (w : World) (hk : k <= n) (hnc : n <= c) (hc : c <= maxLen) (hn : n <= 140737488355328) (h : Ag w a n c bs)
  (hown : 0 < n -> ∃ g off cur, a = some ⟨g, off, none⟩ /\ base <= g /\ w.heap[g]? = some (.cells cur 5)) :
  Calls Tryz.prog 51 #[.slice a n c, .int .i64 k] w fun e w' => (∃ a', e = .returned (.slice a' (n - k) (n - k)) /\ Cut w base a' (n - k) (bs.drop k)) /\ w' = w := by
 have hl := h.l
 by_cases hkn : k < n
 ·obtain ⟨g, off, cur, rfl, hg, hh⟩ := hown (by omega)
  refine (Zt2 n c k w hkn hnc hc hn g off).mono ?_
  rintro e w' ⟨rfl, rfl⟩
  refine ⟨⟨_, rfl, ⟨⟨.inr ⟨g, off + k, rfl, by rw [List.length_drop]; omega, by omega, Nat.le_refl _, by unfold maxLen at hc ⊢; omega, fun j hj => ?_⟩, (fun h => by cases h), by rw [List.length_drop]; omega, Zoy h.b k⟩, fun _ => ⟨g, off + k, cur, rfl, hg, hh⟩⟩⟩, rfl⟩
  rcases h.i with ⟨h0, _⟩ | ⟨gb, off', h1, h2, h3, h4, h5, h7⟩
  ·omega
  ·injection h1 with h1
   injection h1 with e1 e2
   subst e1 e2
   rw [List.length_drop] at hj
   rw [Zmm, Nat.add_assoc]
   exact h7 (k + j) (by omega)
 ·have e : k = n := by omega
  subst e
  refine (Zqv a k c w hnc hc hn (fun ha => by have := h.nil ha; omega)).mono ?_
  rintro e w' ⟨⟨a', rfl⟩, rfl⟩
  rw [Nat.sub_self, List.drop_of_length_le (by omega)]
  exact ⟨⟨a', rfl, Zyt w' a', fun h => by omega⟩, rfl⟩
end Go.Proofs.YtdkpilgelgjieaaGreat.Ni
namespace Go.Proofs.YtdkpilgelgjieaaGreat.Ni
open Go.RowKit
theorem _root_.Go.Proofs.YtdkpilgelgjieaaGreat.OwnB.cutable {w : World} {base : Nat} {v : Value} {bs : List Int} (h : OwnB w base v bs) (hb : isB bs) :
  ∃ a c, v = .slice a bs.length c /\ bs.length <= c /\ c <= maxLen /\ Ag w a bs.length c bs /\ (0 < bs.length -> ∃ g off cur, a = some ⟨g, off, none⟩ /\ base <= g /\ w.heap[g]? = some (.cells cur 5)) := by
 obtain ⟨a, c, hv, hag⟩ := OwnB.ag h hb
 rcases h.2 with ⟨e1, e2⟩ | ⟨k, cap, cur, e1, e2, e3, e4, e5, e6, e7⟩
 ·rw [hv] at e1
  injection e1 with e1 e3 e4
  exact ⟨a, c, hv, by omega, by unfold maxLen; omega, hag, fun hp => by omega⟩
 ·rw [hv] at e1
  injection e1 with e1 e8 e9
  subst e9
  exact ⟨a, c, hv, e4, e5, hag, fun _ => ⟨k, 0, cur, e1, e2, e3⟩⟩
set_option maxHeartbeats 1000000 in
theorem of_any (a : Option Addr) (n c : Nat) (b : List Int) (w : World) (h : Ag w a n c b) (hn : 2 * n <= 140737488355328) :
  Calls Tryz.prog 26 #[.slice a n c] w fun e w' => (∃ a', e = .returned (.slice a' (2 * n) (2 * n)) /\ Cut w' w.heap.size a' (2 * n) (nib b)) /\ Below w.heap.size w w' := by
 have HL := Hid.mk h.l
 have HC : Hid (0 < n -> ∃ g off, a = some ⟨g, off, none⟩ /\ n <= c /\ c <= maxLen /\ ∀ j, j < n -> w.cell? ⟨g, off + j, none⟩ = some (.int .u8 (b.getD j 0))) := Hid.mk (ag_head h)
 have HB := Hid.mk h.b
 clear h
 go_enter Tryz.func26, Tryz.ntmps26
 go_wp2_with fail
 go_loopw [3, 8] (fun v i w' => ∃ j : Nat, j <= n /\ i = .int .i64 j /\ OwnB w' w.heap.size v (nib (b.take j)) /\ Below w.heap.size w w') (fun _ i _ => n - (intOf i).toNat)
 case atStart => exact ⟨0, by omega, rfl, ownB_nil _ _, Below.refl _ _⟩
 case round =>
  obtain ⟨j, hj, rfl, hown, hb⟩ := hrel
  have HO := Hid.mk hown
  have HBW := Hid.mk hb
  clear hown hb
  by_cases hlt : j < n
  ·obtain ⟨g, off, rfl, hnc, hcm, hcs⟩ := HC.out (by omega)
   unfold maxLen at hcm
   have hcell := (HBW.out.cell (p := ⟨g, off + j, none⟩) (block_lt_of_cell (hcs j hlt))).trans (hcs j hlt)
   have hjb : j < b.length := by have := HL.out; omega
   have hx := HB.out _ (getD_mem hjb)
   have HN := Hid.mk (Zoq hjb)
   have HNL : Hid ((nib (b.take j)).length = 2 * j) := Hid.mk (by rw [nib_len, List.length_take]; omega)
   generalize b.getD j 0 = x at hcell hx HN
   obtain ⟨hx0, hx1⟩ := hx
   have hji : (j : Int) < n := by omega
   have hand := Z0b hx0 hx1
   clear hcs hjb
   have HO2 : Hid (∀ o : Obj, OwnB (wr.alloc o) w.heap.size u3 (nib (b.take j))) := Hid.mk fun o => OwnB.alloc HO.out o
   have HSZ := Hid.mk HBW.out.size
   clear HO
   go_wp2_with (first | (at_builtin; refine Zbx rfl (.tmp 12) (.tmp 17) rfl w.heap.size _ (nib (b.take j)) rfl (HO2.out _) (some ⟨wr.heap.size, 0, none⟩) 2 2 [x / 16, x % 16] rfl (Zx7 wr _ _) (fun h => by cases h) rfl (by rw [HNL.out]; omega) (by have := HSZ.out; simp; omega) ?_; intro v1 w1 o1 hb1; rw [<- HN.out] at o1; have HO1 := Hid.mk o1; have HB1 := Hid.mk hb1; clear o1 hb1))
   refine ⟨⟨j + 1, by omega, by simp, HO1.out, ?_⟩, by simp [intOf]; omega⟩
   exact (HBW.out.alloc HSZ.out _).trans HB1.out
  ·have hji : ¬ (j : Int) < n := by omega
   have hbt : b.take j = b := List.take_of_length_le (by have := HL.out; omega)
   rw [hbt] at HO
   obtain ⟨a', c', rfl, h1, h2, h3, h4⟩ := HO.out.cutable (Zsf HB.out)
   have hln : (nib b).length = 2 * n := by rw [nib_len, HL.out]
   rw [hln] at h1 h3 h4 ⊢
   have hcal := Zdw a' (2 * n) c' 0 w.heap.size (nib b) _ (by omega) h1 h2 (by omega) h3 h4
   rw [show ((0 : Nat) : Int) = 0 from rfl, Nat.sub_zero, List.drop_zero] at hcal
   have HCAL := Hid.mk hcal
   clear hbt h1 h2 h3 h4 hln hcal
   go_wp2_with fail
   refine HCAL.out.mono ?_
   rintro e w1 ⟨⟨a1, rfl, hcut⟩, rfl⟩
   have HCUT := Hid.mk hcut
   clear hcut
   go_wp2_with fail
   go_ret
   exact ⟨⟨a1, rfl, HCUT.out⟩, HBW.out⟩
end Go.Proofs.YtdkpilgelgjieaaGreat.Ni
namespace Go.Proofs.YtdkpilgelgjieaaGreat
open Go.RowKit
structure Sk (K : Nat -> Prop) (w : World) (a : Option Addr) (n c : Nat) (bs : List Int) : Prop where
 ag : Ag w a n c bs
 k : ∀ x, a = some x -> 0 < n -> K x.block
section
variable {K : Nat → Prop} {w w' : World} {a : Option Addr} {n c : Nat} {bs : List Int}
theorem Sk.go (h : Sk K w a n c bs) (hb : Below w.heap.size w w') : Sk K w' a n c bs := ⟨h.ag.at hb, h.k⟩
theorem Sk.drew (h : Sk K w a n c bs) : Sk K w.drew a n c bs := h.go (Below.refl _ _).drew
theorem Sk.nil (K : Nat -> Prop) (w : World) : Sk K w none 0 0 [] := ⟨⟨.inl ⟨rfl, rfl⟩, fun _ => ⟨rfl, rfl⟩, rfl, fun x hx => by cases hx⟩, fun x h => by cases h⟩
theorem Sk.len (h : Sk K w a n c bs) : bs.length = n := h.ag.l
theorem Sk.from (h : Sk K w a n c bs) (f : Nat) (hf : f <= n) : Sk K w (if c = f then a else a.map (·.add (f * 1))) (n - f) (c - f) (bs.drop f) := by
 have hl := h.len
 refine ⟨⟨?_, ?_, by simp [hl], fun x hx => h.ag.b x (List.mem_of_mem_drop hx)⟩, ?_⟩
 ·rcases h.ag.i with ⟨h1, h2⟩ | ⟨gb, off, h1, h2, h3, h4, h5, h7⟩
  ·exact .inl ⟨by omega, by simp [h2]⟩
  ·by_cases hn : n - f = 0
   ·exact .inl ⟨hn, List.drop_eq_nil_of_le (by omega)⟩
   ·refine .inr ⟨gb, off + f, ?_, by simp [hl], by omega, by omega, by omega, fun j hj => ?_⟩
    ·rw [if_neg (by omega), h1, Option.map_some, Zax, Nat.mul_one]
    ·rw [List.length_drop] at hj
     rw [show off + f + j = off + (f + j) from by omega, h7 (f + j) (by omega)]
     simp [List.getD_eq_getElem?_getD, List.getElem?_drop]
 ·intro e
  have : a = none := by
   by_cases hc : c = f
   ·rw [if_pos hc] at e; exact e
   ·rw [if_neg hc] at e; simpa using e
  have := h.ag.nil this
  omega
 ·intro x hx hn
  rcases h.ag.i with ⟨h1, h2⟩ | ⟨gb, off, h1, h2, h3, h4, h5, h7⟩
  ·omega
  ·have hk := h.k _ h1 (by omega)
   by_cases hc : c = f
   ·omega
   ·rw [if_neg hc, h1, Option.map_some, Zax] at hx
    cases hx
    exact hk
theorem Sk.upto (h : Sk K w a n c bs) (f : Nat) (hf : f <= n) : Sk K w (if c = 0 then a else a.map (·.add (0 * 1))) f c (bs.take f) := by
 have hl := h.len
 have ha : ∀ gb off, a = some ⟨gb, off, none⟩ -> (if c = 0 then a else a.map (·.add (0 * 1))) = some ⟨gb, off, none⟩ := by
  intro gb off e
  split
  ·exact e
  ·rw [e, Option.map_some, Zax, Nat.mul_one, Nat.add_zero]
 refine ⟨⟨?_, ?_, by simp; omega, fun x hx => h.ag.b x (List.mem_of_mem_take hx)⟩, ?_⟩
 ·rcases h.ag.i with ⟨h1, h2⟩ | ⟨gb, off, h1, h2, h3, h4, h5, h7⟩
  ·exact .inl ⟨by omega, by simp [h2]⟩
  ·by_cases hn : f = 0
   ·exact .inl ⟨hn, by simp [hn]⟩
   ·refine .inr ⟨gb, off, ha gb off h1, by simp; omega, by omega, by omega, h5, fun j hj => ?_⟩
    rw [List.length_take] at hj
    rw [h7 j (by omega)]
    simp [List.getD_eq_getElem?_getD, List.getElem?_take_of_lt (show j < f by omega)]
 ·intro e
  have : a = none := by
   by_cases hc : c = 0
   ·rw [if_pos hc] at e; exact e
   ·rw [if_neg hc] at e; simpa using e
  have := h.ag.nil this
  omega
 ·intro x hx hn
  rcases h.ag.i with ⟨h1, h2⟩ | ⟨gb, off, h1, h2, h3, h4, h5, h7⟩
  ·omega
  ·rw [ha gb off h1] at hx
   cases hx
   exact h.k _ h1 (by omega)
theorem Sk.cap (h : Sk K w a n c bs) (hn : 0 < n) : n <= c := by
 rcases h.ag.i with ⟨h1, h2⟩ | ⟨gb, off, h1, h2, h3, h4, h5, h7⟩ <;> omega
theorem Sk.run_from (h : Sk K w a n c bs) (f : Nat) (hf : f <= n) (v : World) (ρ : Operand -> Value) (o : Oper) (x y : Operand) (i : Int) (ho : o.op = .slice 32 x (some y) none none) (hx : ρ x = .slice a n c) (hy : ρ y = .int .i64 i) (hi : i = f) :
  (execOp ρ o).run Tryz.prog v = .ok (.value (.slice (if c = f then a else a.map (·.add (f * 1))) (n - f) (c - f))) v := by
 subst hi
 unfold execOp
 rw [ho]
 simp [hx, hy, Instr.sliceAt, run_underlying Tryz.underlying32, Instr.slice, Instr.sliceBounds, Instr.sliceBound, asIntOf, hf, Result.andThen]
theorem Sk.run_upto (h : Sk K w a n c bs) (f : Nat) (hf : f <= n) (v : World) (ρ : Operand -> Value) (o : Oper) (x y : Operand) (i : Int) (ho : o.op = .slice 32 x none (some y) none) (hx : ρ x = .slice a n c) (hy : ρ y = .int .i64 i) (hi : i = f) :
  (execOp ρ o).run Tryz.prog v = .ok (.value (.slice (if c = 0 then a else a.map (·.add (0 * 1))) f c)) v := by
 subst hi
 unfold execOp
 rw [ho]
 have h2 : f <= c := by
  by_cases hn : 0 < n
  ·have := h.cap hn; omega
  ·omega
 simp [hx, hy, Instr.sliceAt, run_underlying Tryz.underlying32, Instr.slice, Instr.sliceBounds, Instr.sliceBound, asIntOf, h2, Result.andThen]
end
theorem app_run {w : World} {base : Nat} {v : Value} {bs : List Int} (hown : OwnB w base v bs) {a : Option Addr} {m c : Nat} {news : List Int} (h : Ag w a m c news) (hb : bs.length + m <= 140737488355328) (hbase : base <= w.heap.size) :
  ∃ v' w', (∀ ty, (Builtin.append_ #[32, 32] ty #[v, .slice a m c]).run Tryz.prog w = .ok v' w') /\ OwnB w' base v' (bs ++ news) /\ Below base w w' := by
 obtain ⟨i, hi, hz, hsz, hby⟩ := info5
 cases a with
 | none =>
  obtain ⟨rfl, rfl⟩ := h.nil rfl
  have hn0 : news = [] := List.eq_nil_of_length_eq_zero h.l
  subst hn0
  exact ⟨v, w, fun ty => run_append_owned_none w base 32 ty 5 i 1 Tryz.underlying32 hi v _ _ hown, by rw [List.append_nil]; exact hown, Below.refl _ _⟩
 | some ad =>
  have hc : ∀ j u, (news.map (Value.int .u8))[j]? = some u -> w.cell? (ad.add j) = some u := by
   rcases h.i.inB h.nil with ⟨h, _⟩ | ⟨ad', h1, _, h3⟩
   ·cases h
   ·cases h1; exact h3
  obtain ⟨v', w', h1, h2, h3, _⟩ := run_append_own w base 32 0 5 i (.int .u8 0) 1 1 Tryz.underlying32 hi hz hsz hby rfl (by decide) v bs.length (bs.map (Value.int .u8)) hown ad m c (news.map (Value.int .u8)) (by simpa using h.l) hc (B8_one2 _) (by unfold maxLen; omega) (by omega) hbase
  refine ⟨v', w', fun ty => h1, ?_, (Below.refl _ _).grown h3 hbase hown.lt⟩
  unfold OwnB
  rw [List.length_append, h.l, List.map_append]
  exact h2
theorem ol_app {w w' : World} {v u r : Value} {ρ : Operand -> Value} {o : Oper} (hr : ∀ ty, (Builtin.append_ #[32, 32] ty #[v, u]).run Tryz.prog w = .ok r w') (x y : Operand) (ho : o.op = .call { callee := .builtin .append, args := #[x, y], argTypes := #[32, 32] }) (hx : ρ x = v) (hy : ρ y = u) : (execOp ρ o).run Tryz.prog w = .ok (.value r) w' := by
 unfold execOp
 simp only [ho, resolve, invoke, builtin, Sem.run_bind, Sem.run_pure, Result.andThen_ok, List.map_toArray, List.map_cons, List.map_nil, hx, hy, hr]
theorem OwnB.sk {K : Nat -> Prop} {w : World} {base : Nat} {v : Value} {bs : List Int} (h : OwnB w base v bs) (hb : ∀ x ∈ bs, 0 <= x /\ x < 256) (hK : ∀ b, base <= b -> K b) : ∃ a c, v = .slice a bs.length c /\ Sk K w a bs.length c bs := by
 obtain ⟨a, c, hv, hag⟩ := h.ag hb
 refine ⟨a, c, hv, hag, fun x hx hn => hK _ ?_⟩
 exact h.lt x.block (by rw [hv, hx]; rfl)
def brc (vs : Nat -> Value) (s : Value) : Array Value := #[vs 0, vs 1, vs 2, vs 3, vs 4, vs 5, vs 6, vs 7, vs 8, vs 9, vs 10, vs 11, vs 12, vs 13, vs 14, vs 15, s]
def updv (vs : Nat -> Value) (i : Nat) (v : Value) : Nat -> Value := fun j => if j = i then v else vs j
open Tr in
def TA (K : Nat -> Prop) (w : World) : Tr -> Value -> Prop
 | no, v => v = .nilIface
 | leaf p x, v => ∃ a n c a' n' c', v = .iface 110 (.agg #[.slice a n c, .slice a' n' c']) /\ Sk K w a n c p /\ Sk K w a' n' c' x /\ n' <= 256
 | ext p t, v => ∃ a n c u, v = .iface 189 (.agg #[.slice a n c, u]) /\ Sk K w a n c p /\ TA K w t u
 | br k x, v => ∃ vs a n c, v = .iface 184 (.agg (brc vs (.slice a n c))) /\ (∀ i, i < 16 -> TA K w (k i) (vs i)) /\ Sk K w a n c x /\ n <= 256
def Iv (name : String) (v : Value) (f : FuncId) (x : Value) : Prop := ∀ (w : World) (ρ : Operand -> Value) (o : Oper) (r : Operand) (xs : Array Operand) (tys : Array TypeId) (vs : Array Value), o.op = .call { callee := .invoke r name, args := xs, argTypes := tys } -> ρ r = v -> xs.map ρ = vs -> (execOp ρ o).run Tryz.prog w = .ok (.enter f (#[x] ++ vs)) w
def meth (a b c : FuncId) (T : TypeId) : FuncId := if T = 110 then a else if T = 189 then b else c
def MC (name : String) (v : Value) (vs : Array Value) (w : World) (R : Value -> World -> Prop) : Prop := ∃ T x f, v = .iface T x /\ Iv name v f x /\ Calls Tryz.prog f (#[x] ++ vs) w fun e w' => ∃ u, e = .returned u /\ R u w'
end Go.Proofs.YtdkpilgelgjieaaGreat
