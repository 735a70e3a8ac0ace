/- That DigestOf answers true, for all bytes that are handed in, up to 2^47 - 4096 of them. -/
import Derived.Test.YtcbjjndhecehcaaWK
import Derived.Test.YtcbjjndhecehcaaWH
import Derived.Deep.DrawnRows
namespace Go.Proofs.Ytcbjjndhecehcaa
open Go.RowKit
set_option linter.unusedVariables false
attribute [local go_sem ↓] load24_fold Go.wp_at_zero Go.wp_at_succ
theorem In0.mono {w w' : World} {a : Option Addr} {len cap : Nat} {bs : List Int} (h : In0 w a len cap bs) (hb : Below w.heap.size w w') : In0 w' a len cap bs := by
  rcases h with h | ⟨gb, off, h1, h2, h3, h4, h5, h7⟩
  · exact .inl h
  · exact .inr ⟨gb, off, h1, h2, h3, h4, h5, fun j hj => (hb.cell (p := ⟨gb, off + j, none⟩) (block_lt_of_cell (h7 j hj))).trans (h7 j hj)⟩
theorem In0.drew {w : World} {a : Option Addr} {len cap : Nat} {bs : List Int} (h : In0 w a len cap bs) : In0 w.drew a len cap bs := by
  rcases h with h | ⟨gb, off, h1, h2, h3, h4, h5, h7⟩
  · exact .inl h
  · exact .inr ⟨gb, off, h1, h2, h3, h4, h5, h7⟩
theorem addr_add (g o j : Nat) : (⟨g, o, none⟩ : Addr).add j = ⟨g, o + j, none⟩ := by unfold Addr.add; split <;> simp_all
theorem In0.inB {w : World} {a : Option Addr} {len cap : Nat} {bs : List Int} (h : In0 w a len cap bs) (hnil : a = none → len = 0 ∧ cap = 0) : InB w a len cap bs := by
  rcases h with ⟨h1, h2⟩ | ⟨gb, off, h1, h2, h3, h4, h5, h7⟩
  · cases a with
    | none => exact .inl ⟨rfl, h1, (hnil rfl).2, h2⟩
    | some ad => exact .inr ⟨ad, rfl, by rw [h2, h1]; rfl, fun j u hu => by rw [h2] at hu; simp at hu⟩
  · refine .inr ⟨_, h1, h2, fun j u hu => ?_⟩
    have hj : j < bs.length := by have := (List.getElem?_eq_some_iff.1 hu).1; simpa using this
    rw [addr_add, h7 j hj, ← hu]
    simp [List.getElem?_eq_getElem hj]
theorem OwnB.in0 {w : World} {base : Nat} {v : Value} {bs : List Int} (h : OwnB w base v bs) : ∃ a cap, v = .slice a bs.length cap ∧ In0 w a bs.length cap bs ∧ (a = none → bs.length = 0 ∧ cap = 0) := by
  by_cases hp : 0 < bs.length
  · obtain ⟨g, cap, hv, h1, h2, h3, h4, h5⟩ := h.slice hp
    exact ⟨_, cap, hv, .inr ⟨g, 0, rfl, rfl, hp, h3, h4, fun j hj => by rw [Nat.zero_add]; exact h5 j hj⟩, fun hh => by cases hh⟩
  · have h0 : bs.length = 0 := by omega
    have hb0 : bs = [] := List.eq_nil_of_length_eq_zero h0
    obtain ⟨_, h2⟩ := h
    rcases h2 with ⟨hv, _⟩ | ⟨g, cap, cur, hv, _⟩
    · exact ⟨none, 0, by rw [hv, h0], .inl ⟨h0, hb0⟩, fun _ => ⟨h0, rfl⟩⟩
    · exact ⟨some ⟨g, 0, none⟩, cap, hv, .inl ⟨h0, hb0⟩, fun hh => by cases hh⟩
theorem conv_any {w : World} {a : Option Addr} {len cap : Nat} {bs : List Int} (h : In0 w a len cap bs) : (convert 22 9 (.slice a len cap)).run Try.prog w = .ok (.string (strOfNums bs)) w := by
  rcases h with ⟨rfl, rfl⟩ | ⟨gb, off, rfl, h2, h3, h4, h5, h7⟩
  · cases a with
    | none => exact run_convert_bytes_nil w 22 5 Try.underlying22 Try.underlying5 0 cap 9 Try.underlying9
    | some ad =>
      rw [run_convert_bytes_string w 22 9 5 _ 0 cap Try.underlying22 Try.underlying5 Try.underlying9, run_bytesToString w ad 0 cap [] (by have := run_loadCells_list (P := Try.prog) w ad [] (fun j v hv => by simp at hv); simpa using this)]
      rfl
  · exact run_convert_bytes_arg w 22 5 Try.underlying22 Try.underlying5 gb off len cap bs h2 (fun i hi => h7 i (by omega)) 9 Try.underlying9
set_option maxHeartbeats 400000 in
theorem same_any (a1 a2 : Option Addr) (len c1 c2 : Nat) (bs : List Int) (w : World) (h1 : In0 w a1 len c1 bs) (h2 : In0 w a2 len c2 bs) :
    Calls Try.prog 12 #[.slice a1 len c1, .slice a2 len c2] w fun e w' => e = .returned (.bool true) ∧ w' = w := by
  have k1 := conv_any h1
  have k2 := conv_any h2
  have hse : ((strOfNums bs).toList == (strOfNums bs).toList) = true := by simp
  generalize strOfNums bs = s at k1 k2 hse
  clear h1 h2
  go_enter Try.func12, Try.ntmps12
  go_wp2_with fail
  go_ret
  exact ⟨rfl, rfl⟩
/-- What stands while DigestOf asks: the digest, what was handed in, its copy. -/
structure LO (N g4 : Nat) (w0 v : World) (a1 a : Option Addr) (len c1 cap : Nat) (bs : List Int) : Prop where
  h4 : v.heap[g4]? = some (.cells (B8 (dref bs)) 24)
  bel : Below N w0 v
  i1 : In0 v a1 len c1 bs
  i2 : In0 v a len cap bs
  l : N ≤ g4
theorem LO.call {N g4 : Nat} {w0 v v' : World} {a1 a : Option Addr} {len c1 cap : Nat} {bs : List Int} (h : LO N g4 w0 v a1 a len c1 cap bs) (hb : Below v.heap.size v v') : LO N g4 w0 v' a1 a len c1 cap bs :=
  ⟨Below.row hb h.h4, h.bel.trans (hb.mono (by have := lt_of_get h.h4; have := h.l; omega)), h.i1.mono hb, h.i2.mono hb, h.l⟩
theorem LO.drew {N g4 : Nat} {w0 v : World} {a1 a : Option Addr} {len c1 cap : Nat} {bs : List Int} (h : LO N g4 w0 v a1 a len c1 cap bs) : LO N g4 w0 v.drew a1 a len c1 cap bs := ⟨h.h4, h.bel.drew, h.i1.drew, h.i2.drew, h.l⟩
theorem In0.setRow {w : World} {a : Option Addr} {len cap : Nat} {bs : List Int} {o : Obj} {C : Array Value} {g : Nat} (h : In0 (w.alloc o) a len cap bs) (hg : w.heap.size = g) (hw : In0 w a len cap bs) : In0 ((w.alloc o).setRow g C) a len cap bs := by
  rcases hw with h' | ⟨gb, off, h1, h2, h3, h4, h5, h7⟩
  · exact .inl h'
  · refine .inr ⟨gb, off, h1, h2, h3, h4, h5, fun j hj => ?_⟩
    have l := block_lt_of_cell (h7 j hj)
    have e : ((w.alloc o).setRow g C).heap[gb]? = w.heap[gb]? := by rw [setRow_other _ _ _ _ (by simp at l; omega), Below.heap_alloc _ _ _ l]
    rw [World.cell?_of_block (w := w) (a := ⟨gb, off + j, none⟩) e]
    exact h7 j hj
theorem rof_ref (a : Option Addr) (len cap : Nat) (bs : List Int) (w : World) (hin : InB w a len cap bs) (hb : ∀ x ∈ bs, 0 ≤ x ∧ x < 256) (hlen : bs.length ≤ 140737488351232) :
    Calls Try.prog 11 #[.slice a len cap] w fun e w' => e = .returned (.agg (B8 (dref bs))) ∧ Below w.heap.size w w' := rof_any a len cap bs w hin hb hlen
set_option maxHeartbeats 2000000 in
theorem lawOf (a : Option Addr) (len cap : Nat) (bs : List Int) (w : World) (hin : In0 w a len cap bs) (hnil : a = none → len = 0 ∧ cap = 0) (hlen : bs.length = len) (hb : ∀ x ∈ bs, 0 ≤ x ∧ x < 256) (hm : len ≤ 140737488351232) :
    Calls Try.prog 3 #[.slice a len cap] w fun e w' => e = .returned (.bool true) ∧ Below w.heap.size w w' := by
  have HIN := Hid.mk hin
  have HNIL := Hid.mk hnil
  have HB := Hid.mk hb
  have HL := Hid.mk hlen
  have hz : ∀ o, In0 (w.alloc o) a len cap bs := fun o => hin.mono ((Below.refl _ _).alloc (Nat.le_refl _) o)
  have HZ := Hid.mk hz
  have q1 : ∀ x, (Op.equalIn 10000 24 (.agg (B8 (dref bs))) (.agg (B8 (dref bs)))).run Try.prog x = .ok true x := fun x => by rw [eq24 _ _ (dref_len bs) (dref_len bs)]; simp
  have HI : Hid ((Try.prog.info? 24).map (·.size) = some (B8 (dref bs)).size) := by unfold Hid; rw [B8_size, dref_len]; kernel_rfl
  have HZ4 : Hid ((B8 zz).size = (B8 (dref bs)).size) := by unfold Hid; rw [B8_size, B8_size, dref_len, zz_len]
  have HMM := Hid.mk hm
  clear hin hnil hlen hb hz
  go_enter Try.func3, Try.ntmps3
  cases a with
  | none =>
    obtain ⟨hl0, hc0⟩ := HNIL.out rfl
    subst hl0 hc0
    have hb0 : bs = [] := List.eq_nil_of_length_eq_zero HL.out
    subst hb0
    go_wp2_with (first | (at_builtin; refine app_none rfl (.tmp 5) (.tmp 6) rfl w.heap.size _ [] rfl (OwnB.new w) rfl ?_))
    have I1 : In0 (w.alloc (.cells #[] 5)) (some ⟨w.heap.size, 0, none⟩) 0 0 [] := .inl ⟨rfl, rfl⟩
    have I2 := HZ.out (.cells #[] 5)
    have hbw : Below w.heap.size w (w.alloc (.cells #[] 5)) := (Below.refl _ _).alloc (Nat.le_refl _) _
    have HL2 : Hid (0 = ([] : List Int).length) := rfl
    have HNIL2 := HNIL
    have HMM2 : Hid (([] : List Int).length ≤ 140737488351232) := Nat.zero_le _
    clear HZ HIN HNIL HMM
    refine (of_any _ _ _ [] _ I1 rfl (fun x hx => by cases hx) (by omega)).mono ?_
    rintro e w2 ⟨rfl, hb2⟩
    have I3 := I1.mono hb2
    have I4 := I2.mono hb2
    have hbe : Below w.heap.size w w2 := hbw.trans (hb2.mono hbw.size)
    clear I1 I2 hb2 hbw
    have HK := Hid.mk (And.intro I3 I4)
    clear I3 I4
    go_wp2_with (first | refine wpList_store_row rfl 24 _ _ rfl _ (B8 (dref [])) rfl rfl 24 _ (heap_alloc_new w2 _) HI.out HZ4.out (B8_one _) ?_)
    have hz2 := hbe.size
    refine gen_w (p := fun v => Code.wp _ _ _ _ v) (q := fun v => LO w.heap.size w2.heap.size w v (some ⟨w.heap.size, 0, none⟩) none 0 0 0 []) ⟨setRow_heap _ _ _ _ _ _ (heap_alloc_new w2 _), Below.setRow (hbe.alloc (by omega) _) (by omega) _, (HK.out.1.mono ((Below.refl _ _).alloc (Nat.le_refl _) _)).setRow rfl HK.out.1, (HK.out.2.mono ((Below.refl _ _).alloc (Nat.le_refl _) _)).setRow rfl HK.out.2, by omega⟩ ?_
    obtain ⟨g4, hg4⟩ : ∃ g, w2.heap.size = g := ⟨_, rfl⟩
    rw [hg4]
    clear HK hbe hz2 hg4 HI HZ4
    intro v A
    go_region_with (first
      | (go_at_call 10; refine (alive_any _).mono ?_; rintro e w3 ⟨rfl, hb3⟩; have A3 := A.drew.call hb3; clear hb3; have l4 := load24_run A3.h4 (dref_len []))
      | (go_at_call 11; refine (rof_ref _ _ _ [] _ (A3.i2.inB (fun _ => ⟨rfl, rfl⟩)) (fun x hx => by cases hx) (Nat.zero_le _)).mono ?_; rintro e w4 ⟨rfl, hb4⟩; have A4 := A3.call hb4; clear hb4; have l4 := load24_run A4.h4 (dref_len []))
      | (go_at_call 12; refine (same_any _ _ _ _ _ [] _ A4.i1 A4.i2).mono ?_; rintro e w5 ⟨rfl, rfl⟩))
    all_goals
      go_wp2_with fail
      go_ret
      exact ⟨rfl, A4.bel⟩
  | some ad =>
    have hB := (HZ.out (.cells #[] 5)).inB (fun h => by cases h)
    have hc : ∀ j u, (bs.map (Value.int .u8))[j]? = some u → (w.alloc (.cells #[] 5)).cell? (ad.add j) = some u := by
      rcases hB with ⟨h, _⟩ | ⟨ad', h1, _, h3⟩
      · cases h
      · cases h1; exact h3
    have HC := Hid.mk hc
    clear hB hc
    go_wp2_with (first | (at_builtin; refine app_own rfl (.tmp 5) (.tmp 6) rfl w.heap.size _ [] rfl (OwnB.new w) ad len cap bs rfl HL.out HC.out (by simp; omega) (by simp) ?_; intro v1 w1 o1 g1 n1; rw [List.nil_append] at o1))
    obtain ⟨a1, c1, rfl, I1, _⟩ := o1.in0
    rw [HL.out] at I1 ⊢
    have hbw : Below w.heap.size w w1 := ((Below.refl _ _).alloc (Nat.le_refl _) _).grown g1 (by simp) (OwnB.new w).lt
    have I2 : In0 w1 (some ad) len cap bs := (HIN.out.mono hbw)
    have HL2 : Hid (len = bs.length) := HL.out.symm
    have HNIL2 := HNIL
    have HMM2 : Hid (bs.length ≤ 140737488351232) := by unfold Hid; rw [HL.out]; exact HMM.out
    clear HZ HIN HNIL HMM g1 n1 o1 HC
    refine (of_any _ _ _ bs _ I1 HL2.out HB.out (by omega)).mono ?_
    rintro e w2 ⟨rfl, hb2⟩
    have I3 := I1.mono hb2
    have I4 := I2.mono hb2
    have hbe : Below w.heap.size w w2 := hbw.trans (hb2.mono hbw.size)
    clear I1 I2 hb2 hbw
    have HK := Hid.mk (And.intro I3 I4)
    clear I3 I4
    go_wp2_with (first | refine wpList_store_row rfl 24 _ _ rfl _ (B8 (dref bs)) rfl rfl 24 _ (heap_alloc_new w2 _) HI.out HZ4.out (B8_one _) ?_)
    have hz2 := hbe.size
    refine gen_w (p := fun v => Code.wp _ _ _ _ v) (q := fun v => LO w.heap.size w2.heap.size w v a1 (some ad) len c1 cap bs) ⟨setRow_heap _ _ _ _ _ _ (heap_alloc_new w2 _), Below.setRow (hbe.alloc (by omega) _) (by omega) _, (HK.out.1.mono ((Below.refl _ _).alloc (Nat.le_refl _) _)).setRow rfl HK.out.1, (HK.out.2.mono ((Below.refl _ _).alloc (Nat.le_refl _) _)).setRow rfl HK.out.2, by omega⟩ ?_
    obtain ⟨g4, hg4⟩ : ∃ g, w2.heap.size = g := ⟨_, rfl⟩
    rw [hg4]
    clear HK hbe hz2 hg4 HI HZ4
    intro v A
    go_region_with (first
      | (go_at_call 10; refine (alive_any _).mono ?_; rintro e w3 ⟨rfl, hb3⟩; have A3 := A.drew.call hb3; clear hb3; have l4 := load24_run A3.h4 (dref_len bs))
      | (go_at_call 11; refine (rof_ref _ _ _ bs _ (A3.i2.inB (fun h => by cases h)) HB.out HMM2.out).mono ?_; rintro e w4 ⟨rfl, hb4⟩; have A4 := A3.call hb4; clear hb4; have l4 := load24_run A4.h4 (dref_len bs))
      | (go_at_call 12; refine (same_any _ _ _ _ _ bs _ A4.i1 A4.i2).mono ?_; rintro e w5 ⟨rfl, rfl⟩))
    all_goals
      go_wp2_with fail
      go_ret
      exact ⟨rfl, A4.bel⟩
end Go.Proofs.Ytcbjjndhecehcaa
