/- That the statements' alive answers true: the zero digest's text is read as it was, the digest of nothing is the document's and not the zero one. -/
import Derived.Test.YtcbjjndhecehcaaW8
import Derived.Test.YtcbjjndhecehcaaW9
import Derived.Test.YtcbjjndhecehcaaWA
import Derived.Test.YtcbjjndhecehcaaWB
import Derived.Test.YtcbjjndhecehcaaWC
import Derived.Deep.DrawnRows
namespace Go.Proofs.Ytcbjjndhecehcaa
open Go.RowKit
set_option linter.unusedVariables false
theorem nil_not : (dig (finS s0 (List.replicate 32 0) 0) == List.replicate 32 0) = false := by kernel_rfl
theorem nil_same2 : (dig (finS s0 (List.replicate 32 0) 0) == dig (stOf (padded []) ((padded []).length / 32))) = true := by kernel_rfl
theorem sb_str (l : List Int) (h : ∀ x ∈ l, 0 ≤ x ∧ x < 256) : sb (strOfNums l) = l := by
  unfold sb
  rw [strOfNums_data, List.map_map]
  conv => rhs; rw [← List.map_id l]
  refine List.map_congr_left fun x hx => ?_
  obtain ⟨h0, h1⟩ := h x hx
  simp only [Function.comp, id]
  have e : (UInt8.ofNat x.toNat).toNat = x.toNat := by
    rw [UInt8.toNat_ofNat']
    omega
  rw [e]
  omega
theorem hexI_bd (n : Int) (h0 : 0 ≤ n) (h1 : n < 16) : 0 ≤ hexI n ∧ hexI n < 256 ∧ dk (hexI n) = true ∧ dv (hexI n) = n := by
  unfold hexI
  by_cases h : n < 10
  · rw [if_pos h]
    refine ⟨by omega, by omega, ?_, ?_⟩
    · unfold dk; simp; omega
    · unfold dv; rw [if_pos (by omega)]; omega
  · rw [if_neg h]
    refine ⟨by omega, by omega, ?_, ?_⟩
    · unfold dk; simp; omega
    · unfold dv; rw [if_neg (by omega), if_pos (by omega)]; omega
theorem getD_bd (xs : List Int) (h : ∀ x ∈ xs, 0 ≤ x ∧ x < 256) (k : Nat) : 0 ≤ xs.getD k 0 ∧ xs.getD k 0 < 256 := by
  by_cases hk : k < xs.length
  · exact h _ (getD_mem xs k hk)
  · rw [List.getD, List.getElem?_eq_none (by omega)]
    simp
theorem hexAt_bd (xs : List Int) (h : ∀ x ∈ xs, 0 ≤ x ∧ x < 256) (j : Nat) : 0 ≤ hexAt xs j ∧ hexAt xs j < 256 ∧ dk (hexAt xs j) = true := by
  have hb := getD_bd xs h (j / 2)
  unfold hexAt
  split
  · have := hexI_bd (xs.getD (j / 2) 0 / 16) (by omega) (by omega)
    exact ⟨this.1, this.2.1, this.2.2.1⟩
  · have := hexI_bd (xs.getD (j / 2) 0 % 16) (by omega) (by omega)
    exact ⟨this.1, this.2.1, this.2.2.1⟩
theorem hexs_getD (xs : List Int) (j : Nat) (hj : j < 64) : (hexs xs).getD j 0 = hexAt xs j := by
  simp [hexs, List.getD, hj]
theorem hexs_bounds (xs : List Int) (h : ∀ x ∈ xs, 0 ≤ x ∧ x < 256) : ∀ x ∈ hexs xs, 0 ≤ x ∧ x < 256 := by
  intro x hx
  unfold hexs at hx
  obtain ⟨j, _, rfl⟩ := List.mem_map.1 hx
  exact ⟨(hexAt_bd xs h j).1, (hexAt_bd xs h j).2.1⟩
/-- What is written is read as it was. -/
theorem parse_print (xs : List Int) (hx : xs.length = 32) (h : ∀ x ∈ xs, 0 ≤ x ∧ x < 256) : parsed (sb (strOfNums (hexs xs))) = (xs, true) := by
  rw [sb_str _ (hexs_bounds xs h), parsed_yes _ (by simp [hexs])]
  · congr 1
    apply List.ext_getElem
    · rw [pk_length, hx]
    · intro i h1 h2
      rw [pk_length] at h1
      have hb := getD_bd xs h i
      have e1 : (hexs xs).getD (2 * i) 0 = hexI (xs.getD i 0 / 16) := by
        rw [hexs_getD xs _ (by omega)]; unfold hexAt; rw [if_pos (by omega), show 2 * i / 2 = i from by omega]
      have e2 : (hexs xs).getD (2 * i + 1) 0 = hexI (xs.getD i 0 % 16) := by
        rw [hexs_getD xs _ (by omega)]; unfold hexAt; rw [if_neg (by omega), show (2 * i + 1) / 2 = i from by omega]
      simp only [pk, List.getElem_map, List.getElem_range]
      rw [if_pos h1]
      unfold pv
      rw [e1, e2, (hexI_bd _ (by omega) (by omega)).2.2.2, (hexI_bd _ (by omega) (by omega)).2.2.2]
      have e3 : xs.getD i 0 = xs[i] := by simp [List.getD, List.getElem?_eq_getElem h2]
      rw [← e3]
      omega
  · intro j hj
    rw [hexs_getD xs j hj]
    exact (hexAt_bd xs h j).2.2
/-- A load of a digest, kept whole. -/
def load24V (v : Value) : Sem Value := Instr.loadAt 24 v
theorem load24_fold (v : Value) : Instr.loadAt 24 v = load24V v := rfl
theorem load24_run {w : World} {N t : Nat} {ls : List Int} (h : w.heap[N]? = some (.cells (B8 ls) t)) (hl : ls.length = 32) : (load24V (.pointer (some ⟨N, 0, none⟩))).run Try.prog w = .ok (.agg (B8 ls)) w := by
  have hs : (Try.prog.info? 24).map (·.size) = some (B8 ls).size := by rw [B8_size, hl]; kernel_rfl
  simp only [load24V, Instr.loadAt, Instr.sureAddr, Sem.run_bind, Sem.run_pure, Result.andThen_ok, run_loadVar_row w N t 24 (B8 ls) (0, 0) _ h Try.underlying24 rfl hs]
theorem eq24 (xs ys : List Int) (hx : xs.length = 32) (hy : ys.length = 32) (w : World) : (Op.equalIn 10000 24 (.agg (B8 xs)) (.agg (B8 ys))).run Try.prog w = .ok (xs == ys) w := eq_arr xs ys hx hy 9998 w
/-- The zero digest's bytes. -/
def zz : List Int := List.replicate 32 0
theorem zz_len : zz.length = 32 := rfl
theorem zz_bounds : ∀ x ∈ zz, 0 ≤ x ∧ x < 256 := zero_bounds
theorem zz_row : B8 zz = #[.int .u8 0, .int .u8 0, .int .u8 0, .int .u8 0, .int .u8 0, .int .u8 0, .int .u8 0, .int .u8 0, .int .u8 0, .int .u8 0, .int .u8 0, .int .u8 0, .int .u8 0, .int .u8 0, .int .u8 0, .int .u8 0, .int .u8 0, .int .u8 0, .int .u8 0, .int .u8 0, .int .u8 0, .int .u8 0, .int .u8 0, .int .u8 0, .int .u8 0, .int .u8 0, .int .u8 0, .int .u8 0, .int .u8 0, .int .u8 0, .int .u8 0, .int .u8 0] := zeros_24
/-- The digest of nothing. -/
def dn : List Int := dig (finS s0 (List.replicate 32 0) 0)
theorem dn_len : dn.length = 32 := by simp [dn, dig]
theorem dn_not : (dn == zz) = false := nil_not
theorem dn_ref : dig (stOf (padded []) ((padded []).length / 32)) = dn := (eq_of_beq nil_same2).symm
theorem of_dn (w : World) : Calls Try.prog 9 #[.slice none 0 0] w fun e w' => e = .returned (.agg (B8 dn)) ∧ Below w.heap.size w w' := of_nil w
theorem rof_dn (w : World) : Calls Try.prog 11 #[.slice none 0 0] w fun e w' => e = .returned (.agg (B8 dn)) ∧ Below w.heap.size w w' := by
  have h := rof_any none 0 0 [] w (.inl ⟨rfl, rfl, rfl, rfl⟩) (fun x hx => by cases hx) (Nat.zero_le _)
  rw [dn_ref] at h
  exact h
/-- alive's two digests. -/
structure Al (N g1 g3 : Nat) (w0 w : World) : Prop where
  h1 : w.heap[g1]? = some (.cells (B8 zz) 24)
  h3 : w.heap[g3]? = some (.cells (B8 dn) 24)
  bel : Below N w0 w
  n1 : N ≤ g1
  n3 : N ≤ g3
theorem Al.call {N g1 g3 : Nat} {w0 w w' : World} (h : Al N g1 g3 w0 w) (hb : Below w.heap.size w w') : Al N g1 g3 w0 w' :=
  ⟨Below.row hb h.h1, Below.row hb h.h3, h.bel.trans (hb.mono (by have := lt_of_get h.h1; have := h.n1; omega)), h.n1, h.n3⟩
theorem Al.drew {N g1 g3 : Nat} {w0 w : World} (h : Al N g1 g3 w0 w) : Al N g1 g3 w0 w.drew := ⟨h.h1, h.h3, h.bel.drew, h.n1, h.n3⟩
attribute [local go_sem ↓] load24_fold Go.wp_at_zero Go.wp_at_succ
set_option maxHeartbeats 1000000 in
theorem alive_any (w : World) : Calls Try.prog 10 #[] w fun e w' => e = .returned (.bool true) ∧ Below w.heap.size w w' := by
  have HI : Hid ((Try.prog.info? 24).map (·.size) = some (B8 zz).size) := by unfold Hid; rw [B8_size, zz_len]; kernel_rfl
  have HI2 : Hid ((Try.prog.info? 24).map (·.size) = some (B8 dn).size) := by unfold Hid; rw [B8_size, dn_len]; kernel_rfl
  go_enter Try.func10, Try.ntmps10
  go_wp2_with fail
  rw [← zz_row]
  refine (print_any zz zz_len zz_bounds _).mono ?_
  rintro e w1 ⟨rfl, hb1⟩
  go_wp2_with fail
  refine (parse_any _ (by rw [strOfNums_size]; simp [hexs, maxLen]) _).mono ?_
  rintro e w2 ⟨rfl, hb2⟩
  rw [parse_print _ zz_len zz_bounds]
  have hb3 : Below w.heap.size w w2 := hb1.trans (hb2.mono hb1.size)
  clear hb1 hb2
  go_wp2_with (first | refine wpList_store_row rfl 24 _ _ rfl _ (B8 zz) rfl rfl 24 _ (heap_alloc_new w2 _) HI.out rfl (B8_one _) ?_)
  obtain ⟨g1, hg1⟩ : ∃ g, w2.heap.size = g := ⟨_, rfl⟩
  have hz2 := hb3.size
  refine gen_w (p := fun v => Calls _ _ _ v _) (q := fun v => v.heap[g1]? = some (.cells (B8 zz) 24) ∧ Below w.heap.size w v) ⟨?_, ?_⟩ ?_
  · rw [← hg1]; exact setRow_heap _ _ _ _ _ _ (heap_alloc_new w2 _)
  · exact Below.setRow (hb3.alloc (by omega) _) (by omega) _
  rw [hg1] at hz2 ⊢
  clear hb3 hg1
  rintro v ⟨hr1, hb4⟩
  refine (of_dn v).mono ?_
  rintro e w3 ⟨rfl, hb5⟩
  have hr2 := Below.row hb5 hr1
  have hb6 : Below w.heap.size w w3 := hb4.trans (hb5.mono hb4.size)
  have hz3 := hb6.size
  clear hr1 hb4 hb5
  go_wp2_with (first | refine wpList_store_row rfl 24 _ _ rfl _ (B8 dn) rfl rfl 24 _ (heap_alloc_new w3 _) HI2.out (by rw [B8_size, dn_len]; rfl) (B8_one _) ?_)
  obtain ⟨g3, hg3⟩ : ∃ g, w3.heap.size = g := ⟨_, rfl⟩
  refine gen_w (p := fun v => Code.wp _ _ _ _ v) (q := fun v => Al w.heap.size g1 g3 w v) ⟨?_, ?_, ?_, by omega, by omega⟩ ?_
  · have l := lt_of_get hr2
    rw [setRow_other _ _ _ _ (by omega), Below.heap_alloc _ _ _ l]; exact hr2
  · rw [← hg3]; exact setRow_heap _ _ _ _ _ _ (heap_alloc_new w3 _)
  · exact Below.setRow (hb6.alloc (by omega) _) (by omega) _
  rw [hg3]
  clear hr2 hb6 hg3 hz3
  intro v A
  have l1 := load24_run (w := v.drew) A.h1 zz_len
  have l3 := load24_run (w := v.drew) A.h3 dn_len
  have hzr := zz_row.symm
  have q1 : ∀ x, (Op.equalIn 10000 24 (.agg (B8 zz)) (.agg (B8 zz))).run Try.prog x = .ok true x := fun x => by rw [eq24 _ _ zz_len zz_len]; rfl
  have q2 : ∀ x, (Op.equalIn 10000 24 (.agg (B8 dn)) (.agg (B8 dn))).run Try.prog x = .ok true x := fun x => by rw [eq24 _ _ dn_len dn_len]; simp
  have q3 : ∀ x, (Op.equalIn 10000 24 (.agg (B8 dn)) (.agg (B8 zz))).run Try.prog x = .ok false x := fun x => by rw [eq24 _ _ dn_len zz_len, dn_not]
  clear HI HI2 hz2
  go_region_with (first | (go_at_call 11; refine (rof_dn _).mono ?_; rintro e w6 ⟨rfl, hb6⟩; have A6 := A.drew.call hb6; clear hb6; have l3 := load24_run (w := w6) A6.h3 dn_len))
  all_goals
    go_wp2_with fail
    go_ret
    exact ⟨rfl, A6.bel⟩
end Go.Proofs.Ytcbjjndhecehcaa
