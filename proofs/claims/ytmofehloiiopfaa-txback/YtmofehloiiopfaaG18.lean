/- What the document's First and Decode answer. -/
import Derived.Test.YtmofehloiiopfaaG17
import Derived.Test.YtmofehloiiopfaaG00
import Derived.Lib.Bytes
import Derived.Deep.OwnRows
import Derived.Test.YtmofehloiiopfaaG08
namespace Go.Proofs.Ytmofehloiiopfaa
open Go.RowKit
set_option linter.unusedVariables false
set_option maxRecDepth 100000
end Go.Proofs.Ytmofehloiiopfaa
/- A row of bytes in a block of its own; texts of bytes. -/
namespace Go.Proofs.Ytmofehloiiopfaa.Wo
open Go.RowKit
set_option linter.unusedVariables false
/-- Block g is a row of bytes. -/
def Row (g : Nat) (w : World) (R : List Int) : Prop := w.heap[g]? = some (.cells (R.map (Value.int .u8)).toArray 5)
theorem Row.set {g : Nat} {w : World} {R : List Int} (h : Row g w R) (i : Nat) (x : Int) : Row g (w.setCell ⟨g, i, none⟩ (.int .u8 x)) (R.set i x) := by
  have := heap_setCell_same w g i _ 5 (.int .u8 x) h
  unfold Row
  rw [this]
  congr 2
  rw [List.setIfInBounds_toArray, List.map_set]
theorem Row.cell {g : Nat} {w : World} {R : List Int} (h : Row g w R) {i : Nat} (hi : i < R.length) : w.cell? ⟨g, i, none⟩ = some (.int .u8 (R.getD i 0)) := by
  rw [cell_of_row _ _ _ _ _ _ h]
  simp [List.getElem?_eq_getElem hi]
theorem Row.frozen {g : Nat} {w : World} {R : List Int} (h : Row g w R) (i : Nat) : w.frozen? ⟨g, i, none⟩ = false := frozen_of_row _ _ _ _ _ h
theorem made_bytes (n : Nat) : madeCells #[Value.int .u8 0] n = ((List.replicate n (0 : Int)).map (Value.int .u8)).toArray := by
  apply Array.ext'
  rw [toList_madeCells_one]
  simp
theorem row_ag {w : World} {g n : Nat} {bs : List Int} (h : Row g w bs) (hl : bs.length = n) (hb : ∀ x ∈ bs, 0 ≤ x ∧ x < 256) (hn : n ≤ 9223372036854775807) : Ag w (some ⟨g, 0, none⟩) n n bs := by
  refine ⟨?_, (fun h => by cases h), hl, hb⟩
  by_cases h0 : n = 0
  · exact .inl ⟨h0, List.eq_nil_of_length_eq_zero (by omega)⟩
  · exact .inr ⟨g, 0, rfl, hl, by omega, Nat.le_refl _, by unfold maxLen; omega, fun j hj => by rw [Nat.zero_add]; exact h.cell hj⟩
theorem info5b : (Try.prog.info? 5).map (fun i => (i.zero, i.size, i.bytes)) = some (some (.int .u8 0), 1, 1) := by kernel_rfl
theorem ag_head {w : World} {a : Option Addr} {n c : Nat} {bs : List Int} (h : Ag w a n c bs) (h1 : 0 < n) : ∃ g off, a = some ⟨g, off, none⟩ ∧ n ≤ c ∧ c ≤ maxLen ∧ ∀ j, j < n → w.cell? ⟨g, off + j, none⟩ = some (.int .u8 (bs.getD j 0)) := by
  rcases h.i with ⟨h0, _⟩ | ⟨g, off, h2, h3, h4, h5, h6, h7⟩
  · omega
  · exact ⟨g, off, h2, h5, h6, fun j hj => h7 j (by omega)⟩
theorem cell_alloc {w : World} {g off : Nat} {v : Value} (h : w.cell? ⟨g, off, none⟩ = some v) : ∀ o, (w.alloc o).cell? ⟨g, off, none⟩ = some v := fun o => (World.cell?_of_block (w := w) (Below.heap_alloc w _ _ (block_lt_of_cell h))).trans h
theorem u8_inj {x y : Int} (hx : 0 ≤ x ∧ x < 256) (hy : 0 ≤ y ∧ y < 256) (h : UInt8.ofNat x.toNat = UInt8.ofNat y.toNat) : x = y := by
  have e := congrArg UInt8.toNat h
  rw [UInt8.toNat_ofNat', UInt8.toNat_ofNat', Nat.mod_eq_of_lt (by omega), Nat.mod_eq_of_lt (by omega)] at e
  omega
theorem map_inj : ∀ {a b : List Int}, (∀ x ∈ a, 0 ≤ x ∧ x < 256) → (∀ x ∈ b, 0 ≤ x ∧ x < 256) → (a.map fun n => UInt8.ofNat n.toNat) = (b.map fun n => UInt8.ofNat n.toNat) → a = b
  | [], [], _, _, _ => rfl
  | [], _ :: _, _, _, h => by simp at h
  | _ :: _, [], _, _, h => by simp at h
  | x :: a, y :: b, ha, hb, h => by
    rw [List.map_cons, List.map_cons] at h
    injection h with h1 h2
    rw [u8_inj (ha x (by simp)) (hb y (by simp)) h1, map_inj (fun z hz => ha z (List.mem_cons_of_mem _ hz)) (fun z hz => hb z (List.mem_cons_of_mem _ hz)) h2]
theorem strOf_eq {a b : List Int} (ha : ∀ x ∈ a, 0 ≤ x ∧ x < 256) (hb : ∀ x ∈ b, 0 ≤ x ∧ x < 256) : (strOfNums a).toList = (strOfNums b).toList ↔ a = b := by
  rw [Go.Lib.strOfNums_toList, Go.Lib.strOfNums_toList]
  exact ⟨map_inj ha hb, fun h => by rw [h]⟩
theorem str_beq {a b : List Int} (ha : ∀ x ∈ a, 0 ≤ x ∧ x < 256) (hb : ∀ x ∈ b, 0 ≤ x ∧ x < 256) : ((strOfNums a).toList == (strOfNums b).toList) = decide (a = b) := by
  by_cases h : a = b
  · simp [h]
  · have : ¬ (strOfNums a).toList = (strOfNums b).toList := fun e => h ((strOf_eq ha hb).1 e)
    simp [h, this]
theorem gen_w {W : World} {p q : World → Prop} (F : q W) (h : ∀ v, q v → p v) : p W := h W F
end Go.Proofs.Ytmofehloiiopfaa.Wo
/- What bytesIn, lowBytes and valueOf answer. -/
namespace Go.Proofs.Ytmofehloiiopfaa.Wo
open Go.RowKit
set_option linter.unusedVariables false
theorem shr_zero (n k : Nat) : (n / 256 ^ k = 0) ↔ nb n ≤ k := by
  rw [nb_le_iff, Nat.div_eq_zero_iff]
  exact ⟨fun h => h.resolve_left (Nat.ne_of_gt (Nat.pow_pos (by decide))), Or.inr⟩
theorem shr_nat (x : Int) (k : Nat) (hx : 0 ≤ x) : x / 2 ^ (8 * k) = ((x.toNat / 256 ^ k : Nat) : Int) := by
  have e : (2 : Int) ^ (8 * k) = ((256 ^ k : Nat) : Int) := by rw [Int.pow_mul]; norm_cast
  rw [e]
  conv => lhs; rw [← Int.toNat_of_nonneg hx]
  rfl
set_option maxHeartbeats 400000 in
theorem bytesIn_any (x : Int) (hx0 : 0 ≤ x) (hx1 : x < 18446744073709551616) (w : World) :
    Calls Try.prog 75 #[.int .u64 x] w fun e w' => e = .returned (.int .i64 (nb x.toNat : Nat)) ∧ w' = w := by
  have h8 := Hid.mk (nb8 (n := x.toNat) (by omega))
  obtain ⟨m, hm⟩ : ∃ m, nb x.toNat = m := ⟨_, rfl⟩
  have hz : ∀ k, x / 2 ^ (8 * k) = 0 ↔ m ≤ k := fun k => by rw [← hm, ← shr_zero, shr_nat _ _ hx0]; omega
  rw [hm] at h8 ⊢
  have HZ := Hid.mk hz
  clear hm hz
  go_enter Try.func75, Try.ntmps75
  go_wp2_with fail
  go_loopw [4] (fun i v => ∃ k : Nat, k ≤ 8 ∧ i = .int .i64 k ∧ k ≤ m ∧ v = w) (fun i _ => 8 - (intOf i).toNat)
  case atStart => exact ⟨0, by omega, rfl, by omega, rfl⟩
  case round =>
    obtain ⟨k, hk, rfl, hkn, rfl⟩ := hrel
    have hzk := HZ.out k
    by_cases hlt : k < 8
    · have hki : (k : Int) < 8 := by omega
      by_cases hmk : m ≤ k
      · have hd : (x / 2 ^ (8 * k) == 0) = true := by simp [hzk.2 hmk]
        clear hzk
        have e : k = m := by omega
        subst e
        go_wp2_with fail
        go_ret
        exact ⟨rfl, rfl⟩
      · have hd : (x / 2 ^ (8 * k) == 0) = false := by
          rw [beq_eq_false_iff_ne]
          exact fun h => hmk (hzk.1 h)
        clear hzk
        go_wp2_with fail
        exact ⟨⟨k + 1, by omega, by simp, by omega, trivial⟩, by simp [intOf]; omega⟩
    · have hki : ¬ (k : Int) < 8 := by omega
      clear hzk
      have := h8.out
      have e : m = 8 := by omega
      subst e
      go_wp2_with fail
      go_ret
      exact ⟨rfl, rfl⟩
theorem bek_row (n c i : Nat) (hi : i < c) : (List.replicate (c - i) (0 : Int) ++ bek i n).set (c - 1 - i) ((n / 256 ^ i % 256 : Nat) : Int) = List.replicate (c - (i + 1)) (0 : Int) ++ bek (i + 1) n := by
  rw [bek_front]
  obtain ⟨d, rfl⟩ : ∃ d, c = i + 1 + d := ⟨c - (i + 1), by omega⟩
  rw [show i + 1 + d - i = d + 1 from by omega, show i + 1 + d - 1 - i = d from by omega, show i + 1 + d - (i + 1) = d from by omega, List.replicate_succ', List.append_assoc, List.set_append_right _ _ (by simp)]
  simp
theorem byte_nat (x : Int) (k : Nat) (hx : 0 ≤ x) : x / 2 ^ (8 * k) % 256 = ((x.toNat / 256 ^ k % 256 : Nat) : Int) := by rw [shr_nat x k hx]; generalize x.toNat / 256 ^ k = q; omega
set_option maxHeartbeats 1000000 in
theorem lowBytes_any (x : Int) (c : Nat) (hx0 : 0 ≤ x) (hx1 : x < 18446744073709551616) (hc : c ≤ 8) (w : World) :
    Calls Try.prog 53 #[.int .u64 x, .int .i64 c] w fun e w' => e = .returned (.slice (some ⟨w.heap.size, 0, none⟩) c c) ∧ Row w.heap.size w' (bek c x.toNat) ∧ Below w.heap.size w w' := by
  have hmk := run_make_row' (P := Try.prog) 24 5 (.int .u8 0) 1 Try.underlying24 info5b rfl .i64 .i64 c (by omega) (by omega)
  have hrow : Row w.heap.size (w.alloc (.cells (madeCells #[.int .u8 0] c) 5)) (List.replicate c 0) := by
    unfold Row; rw [heap_alloc_new, made_bytes]
  have hbw : Below w.heap.size w (w.alloc (.cells (madeCells #[.int .u8 0] c) 5)) := (Below.refl _ _).alloc (Nat.le_refl _) _
  have HR := Hid.mk hrow
  have HB := Hid.mk hbw
  have HN : Hid (∀ k, x / 2 ^ (8 * k) % 256 = ((x.toNat / 256 ^ k % 256 : Nat) : Int)) := Hid.mk fun k => byte_nat x k hx0
  obtain ⟨n, hn⟩ : ∃ n, x.toNat = n := ⟨_, rfl⟩
  rw [hn] at HN ⊢
  clear hrow hbw hn
  go_enter Try.func53, Try.ntmps53
  go_wp2_with fail
  go_loopw [10] (fun i v => ∃ k : Nat, k ≤ c ∧ i = .int .i64 k ∧ Row w.heap.size v (List.replicate (c - k) 0 ++ bek k n) ∧ Below w.heap.size w v) (fun i _ => c - (intOf i).toNat)
  case atStart => exact ⟨0, by omega, rfl, by rw [Nat.sub_zero, show bek 0 n = [] from rfl, List.append_nil]; exact HR.out, HB.out⟩
  case round =>
    obtain ⟨k, hk, rfl, hrow, hb⟩ := hrel
    by_cases hlt : k < c
    · have hki : (k : Int) < c := by omega
      have hlen : (List.replicate (c - k) (0 : Int) ++ bek k n).length = c := by rw [List.length_append, List.length_replicate, bek_len]; omega
      have hcell := hrow.cell (i := c - 1 - k) (by omega)
      have hfz := hrow.frozen (c - 1 - k)
      have hset := hrow.set (c - 1 - k) ((n / 256 ^ k % 256 : Nat) : Int)
      rw [bek_row n c k hlt] at hset
      have hv := HN.out k
      have hto : ((c : Int) - 1 - k).toNat = c - 1 - k := by omega
      generalize ((n / 256 ^ k % 256 : Nat) : Int) = y at hset hv
      have HS := Hid.mk hset
      have HBB := Hid.mk hb
      clear hset hb hrow hlen
      go_wp2_with fail
      exact ⟨⟨k + 1, by omega, by simp, HS.out, HBB.out.setCell (Nat.le_refl _) _⟩, by simp [intOf]; omega⟩
    · have hki : ¬ (k : Int) < c := by omega
      have e : k = c := by omega
      subst e
      rw [Nat.sub_self, List.replicate_zero, List.nil_append] at hrow
      have HS := Hid.mk hrow
      have HBB := Hid.mk hb
      clear hrow hb
      go_wp2_with fail
      go_ret
      exact ⟨rfl, HS.out, HBB.out⟩
set_option maxHeartbeats 400000 in
theorem valueOf_any (a : Option Addr) (n c : Nat) (b : List Int) (w : World) (h : Ag w a n c b) (hn : n ≤ 8) :
    Calls Try.prog 57 #[.slice a n c] w fun e w' => e = .returned (.int .u64 (vl b : Nat)) ∧ w' = w := by
  have HL := Hid.mk h.l
  have HB := Hid.mk h.b
  have HC : Hid (0 < n → ∃ g off, a = some ⟨g, off, none⟩ ∧ n ≤ c ∧ c ≤ maxLen ∧ ∀ j, j < n → w.cell? ⟨g, off + j, none⟩ = some (.int .u8 (b.getD j 0))) := Hid.mk (ag_head h)
  clear h
  go_enter Try.func57, Try.ntmps57
  go_wp2_with fail
  go_loopw [3, 7] (fun q i v => ∃ j : Nat, j ≤ n ∧ i = .int .i64 j ∧ q = .int .u64 (vl (b.take j) : Nat) ∧ v = w) (fun _ i _ => n - (intOf i).toNat)
  case atStart => exact ⟨0, by omega, rfl, rfl, rfl⟩
  case round =>
    obtain ⟨j, hj, rfl, rfl, rfl⟩ := hrel
    by_cases hlt : j < n
    · obtain ⟨g, off, rfl, hnc, hcm, hcs⟩ := HC.out (by omega)
      unfold maxLen at hcm
      have hcell := hcs j hlt
      have hb2 := HB.out
      have hl := HL.out
      have hvs := vl_take (s := b) (j := j) (by omega)
      have hx := hb2 (b.getD j 0) (by rw [List.getD, List.getElem?_eq_getElem (by omega)]; exact List.getElem_mem _)
      have hlt2 : vl (b.take j) < 256 ^ j := by
        have := vl_lt (b.take j) (fun x hx => hb2 x (List.mem_of_mem_take hx))
        rwa [List.length_take, Nat.min_eq_left (by omega)] at this
      have hq : vl (b.take j) < 72057594037927936 := Nat.lt_of_lt_of_le hlt2 (Nat.pow_le_pow_right (by decide) (show j ≤ 7 by omega))
      obtain ⟨q, hqq⟩ : ∃ q : Int, ((vl (b.take j) : Nat) : Int) = q := ⟨_, rfl⟩
      obtain ⟨x, hxx⟩ : ∃ x, b.getD j 0 = x := ⟨_, rfl⟩
      have hq0 : 0 ≤ q := by omega
      have hq1 : q < 72057594037927936 := by omega
      rw [hxx] at hcell hx hvs
      obtain ⟨hx0, hx1⟩ := hx
      have HV : Hid (((vl (b.take (j + 1)) : Nat) : Int) = q * 256 + x) := Hid.mk (by omega)
      rw [hqq]
      have hji : (j : Int) < n := by omega
      have hor : bits BinOp.or IntKind.u64 (q * 256) x = q * 256 + x := by
        refine bits_join .u64 64 (by decide) (fun n a b => by rw [IntKind.wrap_u64]; omega) 8 _ _ (by omega) (by omega) (by omega) hx0 (by omega) (by omega)
      clear hvs hb2 hl hlt2 hq hqq hxx hcs
      go_wp2_with fail
      exact ⟨⟨j + 1, by omega, by simp, by rw [HV.out], trivial⟩, by simp [intOf]; omega⟩
    · have hji : ¬ (j : Int) < n := by omega
      have hl := HL.out
      have e : b.take j = b := List.take_of_length_le (by omega)
      rw [e]
      clear hl e
      go_wp2_with fail
      go_ret
      exact ⟨rfl, rfl⟩
end Go.Proofs.Ytmofehloiiopfaa.Wo
