/- A Hash that takes byte strings in pieces: the law of DigestPieces, where what is handed in is read as rows of bytes. -/
import Derived.Test.YtcbjjndhecehcaaWN
namespace Go.Proofs.Ytcbjjndhecehcaa
open Go.RowKit
set_option linter.unusedVariables false
/-- The first k byte strings, one behind the other. -/
def cat (B : Nat → List Int) : Nat → List Int
  | 0 => []
  | k + 1 => cat B k ++ B k
theorem cat_bounds (B : Nat → List Int) (n : Nat) (h : ∀ r, r < n → ∀ x ∈ B r, 0 ≤ x ∧ x < 256) : ∀ k, k ≤ n → ∀ x ∈ cat B k, 0 ≤ x ∧ x < 256
  | 0, _ => fun x hx => by cases hx
  | k + 1, hk => mem_app (cat_bounds B n h k (by omega)) (h k (by omega))
theorem cat_le (B : Nat → List Int) : ∀ n k, k ≤ n → (cat B k).length ≤ (cat B n).length
  | 0, k, hk => by rw [show k = 0 from by omega]; exact Nat.le_refl _
  | n + 1, k, hk => by
    by_cases e : k = n + 1
    · rw [e]; exact Nat.le_refl _
    · have := cat_le B n k (by omega)
      show _ ≤ (cat B n ++ B n).length
      rw [List.length_append]
      omega
theorem OwnB.touch {w w' : World} {base : Nat} {v : Value} {bs : List Int} {g : Nat} (h : OwnB w base v bs) (t : Touch g w w') (hg : g < base) : OwnB w' base v bs := by
  refine ⟨h.1, ?_⟩
  rcases h.2 with h2 | ⟨k, cap, cur, hv, hb, hh, r⟩
  · exact .inl h2
  · exact .inr ⟨k, cap, cur, hv, hb, (t.block k (lt_of_get hh) (by omega)).trans hh, r⟩
theorem OwnB.below {w w' : World} {base : Nat} {v : Value} {bs : List Int} (h : OwnB w base v bs) (hb : Below w.heap.size w w') : OwnB w' base v bs := by
  refine ⟨h.1, ?_⟩
  rcases h.2 with h2 | ⟨k, cap, cur, hv, hb', hh, r⟩
  · exact .inl h2
  · exact .inr ⟨k, cap, cur, hv, hb', Below.row hb hh, r⟩
theorem OwnB.keep {w w' : World} {base : Nat} {v : Value} {bs : List Int} {g : Nat} (h : OwnB w base v bs) (t : Touch g w w') (hg : w.heap.size ≤ g) : OwnB w' base v bs := by
  refine ⟨h.1, ?_⟩
  rcases h.2 with h2 | ⟨k, cap, cur, hv, hb', hh, r⟩
  · exact .inl h2
  · have := lt_of_get hh
    exact .inr ⟨k, cap, cur, hv, hb', (t.block k (lt_of_get hh) (by omega)).trans hh, r⟩
/-- An own slice, for Write: its row, too. -/
theorem OwnB.row {w : World} {base : Nat} {v : Value} {bs : List Int} {g : Nat} (h : OwnB w base v bs) (hg : g < base) : ∃ a cap, v = .slice a bs.length cap ∧ In2 g w a bs.length cap bs ∧
    (0 < bs.length → ∃ k cur, a = some ⟨k, 0, none⟩ ∧ base ≤ k ∧ w.heap[k]? = some (.cells cur 5 (0, 0)) ∧ bs.length ≤ cur.size) := by
  by_cases hp : 0 < bs.length
  · obtain ⟨k, cap, hv, h1, h2, h3, h4, h5⟩ := h.slice hp
    refine ⟨some ⟨k, 0, none⟩, cap, hv, .inr ⟨k, 0, rfl, rfl, hp, h3, h4, by omega, fun j hj => by rw [Nat.zero_add]; exact h5 j hj⟩, fun _ => ?_⟩
    obtain ⟨_, hh⟩ := h
    rcases hh with ⟨_, hh⟩ | ⟨k', cap', cur, hv', hb', hh, hn, _, hcs, _⟩
    · omega
    · rw [hv] at hv'
      simp only [Value.slice.injEq, Option.some.injEq, Addr.mk.injEq] at hv'
      obtain ⟨⟨rfl, _⟩, _, rfl⟩ := hv'
      exact ⟨k, cur, rfl, h1, hh, by omega⟩
  · have h0 : bs.length = 0 := by omega
    obtain ⟨a, cap, hv, h1, h2⟩ := h.in0
    exact ⟨a, cap, hv, .inl ⟨h0, List.eq_nil_of_length_eq_zero h0⟩, fun hh => by omega⟩
theorem OwnB.far {w w' : World} {base : Nat} {v : Value} {bs : List Int} (h : OwnB w base v bs) (hf : ∀ i, base ≤ i → i < w.heap.size → w'.heap[i]? = w.heap[i]?) : OwnB w' base v bs := by
  refine ⟨h.1, ?_⟩
  rcases h.2 with h2 | ⟨k, cap, cur, hv, hb, hh, r⟩
  · exact .inl h2
  · exact .inr ⟨k, cap, cur, hv, hb, (hf k hb (lt_of_get hh)).trans hh, r⟩
theorem Hs.belowN {g B : Nat} {w w' : World} {all : List Int} {n : Nat} (h : Hs g w all n) (hb : Below B w w') (hg : g < B) : Hs g w' all n := by
  obtain ⟨s, tl, h1, h2⟩ := h.ex
  exact ⟨s, tl, h1, (hb.block g hg).trans h2⟩
/-- The copy's row, while it is written over. -/
def Scr (k lr : Nat) (v : World) : Prop := 0 < lr → ∃ cur, v.heap[k]? = some (.cells cur 5 (0, 0)) ∧ lr ≤ cur.size
set_option maxHeartbeats 4000000 in
theorem lawPieces (al : Option Addr) (n cl : Nat) (gl off : Nat) (A : Nat → Option Addr) (L C : Nat → Nat) (B : Nat → List Int) (w : World) (hal : 0 < n → al = some ⟨gl, off, none⟩) (hn : n ≤ 1048576)
    (hrow : ∀ r, r < n → w.cell? ⟨gl, off + r, none⟩ = some (.slice (A r) (L r) (C r)) ∧ Ag w (A r) (L r) (C r) (B r)) (hcat : (cat B n).length ≤ 1048576) :
    Calls Try.prog 4 #[.slice al n cl] w fun e w' => e = .returned (.bool true) ∧ Below w.heap.size w w' := by
  have HR := Hid.mk hrow
  have HC := Hid.mk hcat
  have HA := Hid.mk hal
  have HBB := Hid.mk (cat_bounds B n (fun r hr => (hrow r hr).2.b))
  clear hrow hcat hal
  go_enter Try.func4, Try.ntmps4
  go_wp2_with fail
  refine (hs_new w).mono ?_
  rintro e v1 ⟨⟨g, rfl, hg, H⟩, hb⟩
  go_wp2_with fail
  refine (alive_any v1).mono ?_
  rintro e v2 ⟨rfl, hb2⟩
  replace H := H.below hb2
  replace hb := hb.trans (hb2.mono hb.size)
  clear hb2
  obtain ⟨N1, hN1⟩ : ∃ N, v2.heap.size = N := ⟨_, rfl⟩
  have hgN : g < N1 := by rw [← hN1]; exact H.lt
  have hNN : w.heap.size ≤ N1 := by omega
  have H0 : OwnB v2 N1 (.slice none 0 0) (cat B 0) := World.ownsRow_nil _ _ _ _
  have hN1' : N1 ≤ v2.heap.size := Nat.le_of_eq hN1.symm
  clear hN1
  go_wp2_with fail
  go_loopw [4, 17] (fun t i v => ∃ r : Nat, r ≤ n ∧ i = .int .i64 r ∧ OwnB v N1 t (cat B r) ∧ Hs g v (cat B r) (cat B r).length ∧ Below w.heap.size w v ∧ N1 ≤ v.heap.size) (fun _ i _ => n - (intOf i).toNat)
  case atStart => exact ⟨0, by omega, rfl, H0, H, hb, hN1'⟩
  case round =>
    clear H0 H hb hN1'
    obtain ⟨r, hr, rfl, O, H, hb, hN1'⟩ := hrel
    by_cases hlt : r < n
    · have hal := HA.out (by omega)
      subst hal
      obtain ⟨hcw, Ar⟩ := HR.out r hlt
      have hcell : wr.cell? ⟨gl, off + r, none⟩ = some (.slice (A r) (L r) (C r)) := (hb.cell (p := ⟨gl, off + r, none⟩) (block_lt_of_cell hcw)).trans hcw
      have hcell2 : ∀ o, (wr.alloc o).cell? ⟨gl, off + r, none⟩ = some (.slice (A r) (L r) (C r)) := fun o => (World.cell?_of_block (w := wr) (Below.heap_alloc wr _ _ (block_lt_of_cell hcell))).trans hcell
      have hlr : (cat B (r + 1)).length = (cat B r).length + L r := by show (cat B r ++ B r).length = _; rw [List.length_append, Ar.l]
      have hle : (cat B (r + 1)).length ≤ 1048576 := Nat.le_trans (cat_le B n (r + 1) (by omega)) HC.out
      have Q := Hid.mk (Ar.at (hb.alloc hb.size (.cells #[] 5)))
      have N6 := OwnB.new wr
      have hri : (r : Int) < n := by omega
      generalize hAr : A r = ar at *
      generalize hLr : L r = lr at *
      generalize hCr : C r = cr at *
      generalize hBr : B r = br at *
      have EB := Hid.mk hBr
      have HCW := Hid.mk hcw
      clear hAr hLr hCr hBr hcw
      have HLR := Hid.mk hlr
      have HLE := Hid.mk hle
      have hlr2 : lr ≤ 1048576 := by omega
      have hcr2 : (cat B r).length ≤ 1048576 := by omega
      clear hlr hle
      go_wp2_with (first
        | (at_builtin; refine app_any rfl (.tmp 20) (.tmp 24) rfl wr.heap.size _ [] rfl N6 ar lr cr br rfl Q.out.i Ar.nil Ar.l (by simp; omega) (by simp) ?_; intro x1 v7 o7 hb8; rw [List.nil_append] at o7))
      have hb9 := ((Below.refl wr.heap.size wr).alloc (Nat.le_refl _) _).trans hb8
      obtain ⟨ax, cx, hx1, I2, hpos⟩ := o7.row (g := g) (by omega)
      rw [Ar.l] at hx1 I2 hpos
      rw [hx1]
      refine (hs_write g ax lr cx _ _ br v7 (H.below hb9) I2 (by omega) Ar.b).mono ?_
      rintro e v8 ⟨rfl, H8, t8⟩
      have hbw8 := Touch.below (hb.trans (hb9.mono hb.size)) t8 hg (Nat.le_trans hb.size hb9.size)
      have hz7 := hb9.size
      have hz8 := t8.size
      obtain ⟨k, hk0, hkx, S8⟩ : ∃ k, wr.heap.size ≤ k ∧ (0 < lr → ax = some ⟨k, 0, none⟩) ∧ Scr k lr v8 := by
        by_cases hp : 0 < lr
        · obtain ⟨k, cur, h1, h2, h3, h4⟩ := hpos hp
          exact ⟨k, h2, fun _ => h1, fun _ => ⟨cur, (t8.block k (lt_of_get h3) (by omega)).trans h3, h4⟩⟩
        · exact ⟨wr.heap.size, Nat.le_refl _, fun h => absurd h hp, fun h => absurd h hp⟩
      have hfar : ∀ i, N1 ≤ i → i < wr.heap.size → v8.heap[i]? = wr.heap[i]? := fun i h1 h2 => (t8.block i (by omega) (by omega)).trans (hb9.block i h2)
      have HF := Hid.mk (And.intro hfar (And.intro O (And.intro H8 (And.intro hbw8 Ar))))
      have HS8 := Hid.mk S8
      have HKX := Hid.mk hkx
      clear hx1 I2 hpos o7 t8 hbw8 hb9 hb8 N6 Q hcell2 hcell hfar O H H8 hb S8 hkx Ar x1
      go_wp2_with fail
      go_loopw [31] (fun i v => ∃ j : Nat, j ≤ lr ∧ i = .int .i64 j ∧ Touch k v8 v ∧ Scr k lr v) (fun i _ => lr - (intOf i).toNat)
      case atStart => exact ⟨0, by omega, rfl, Touch.refl _ _, HS8.out⟩
      case round =>
        obtain ⟨j, hj, rfl, tk, S⟩ := hrel
        by_cases hjl : j < lr
        · have hax := HKX.out (by omega)
          subst hax
          obtain ⟨cur, hcur, hcs⟩ := S (by omega)
          have hc1 : wr.cell? ⟨k, j, none⟩ = some cur[j] := by rw [cell_of_row _ _ _ _ _ _ hcur]; simp
          have hfz : wr.frozen? ⟨k, j, none⟩ = false := frozen_of_row _ _ _ _ _ hcur
          have hji : (j : Int) < lr := by omega
          go_wp2_with fail
          refine ⟨⟨j + 1, by omega, by simp, tk.trans (Touch.setCell _ _ _ _), fun _ => ⟨_, heap_setCell_same _ _ _ _ _ _ hcur, by simp; exact hcs⟩⟩, ?_⟩
          simp [intOf]
          omega
        · obtain ⟨hfar, O, H8, hbw8, Ar⟩ := HF.out
          have hji : ¬ (j : Int) < lr := by omega
          have hbW := Touch.below hbw8 tk (by omega) (by omega)
          have hcW : wr.cell? ⟨gl, off + r, none⟩ = some (.slice ar lr cr) := (hbW.cell (p := ⟨gl, off + r, none⟩) (block_lt_of_cell HCW.out)).trans HCW.out
          have OW := O.far (w' := wr) (fun i h1 h2 => (tk.block i (by omega) (by omega)).trans (hfar i h1 h2))
          have HW := H8.touch tk (by omega)
          have QW := Ar.at hbW
          have hzW : N1 ≤ wr.heap.size := by have := tk.size; omega
          have ecat : cat B r ++ br = cat B (r + 1) := by show _ = cat B r ++ B r; rw [EB.out]
          have hbnd := HBB.out (r + 1) (by omega)
          have hlr := HLR.out
          have hle := HLE.out
          rw [ecat, ← hlr] at HW
          clear hfar O H8 hbw8 tk S HF HS8 HKX hz7 hz8
          go_wp2_with (first
            | (at_builtin; refine app_any rfl (.tmp 38) (.tmp 42) rfl N1 _ (cat B r) rfl OW ar lr cr br rfl QW.i Ar.nil Ar.l (by omega) hzW ?_; intro x2 v9 o9 hb10; rw [ecat] at o9))
          have H9 := HW.belowN hb10 hgN
          have hb9 := hbW.trans (hb10.mono hNN)
          have hz9 : N1 ≤ v9.heap.size := Nat.le_trans hzW hb10.size
          obtain ⟨xa, xc, hxv, X⟩ := o9.ag hbnd
          rw [hxv] at o9 ⊢
          clear hxv HW OW QW hbW hcW hb10 hzW ecat hbnd HCW EB HLR HLE hk0 hji hjl Ar hlr hlr2
          obtain ⟨cs, ecs⟩ : ∃ cs, cat B (r + 1) = cs := ⟨_, rfl⟩
          rw [ecs] at o9 X H9 hle ⊢
          obtain ⟨m, em⟩ : ∃ m, cs.length = m := ⟨_, rfl⟩
          rw [em] at X H9 hle ⊢
          have ECS := Hid.mk ecs
          have EM := Hid.mk em
          clear ecs em
          have q1 : ∀ x, (Op.equalIn 10000 24 (.agg (B8 (dref cs))) (.agg (B8 (dref cs)))).run Try.prog x = .ok true x := fun x => by rw [eq24 _ _ (dref_len _) (dref_len _)]; simp
          refine (hs_sum g _ _ v9 H9 (by omega)).mono ?_
          rintro e v11 ⟨rfl, k11⟩
          go_wp2_with fail
          refine (ag_ref X k11 (by omega)).mono ?_
          rintro e v12 ⟨rfl, k12⟩
          have k13 := k11.trans (k12.mono k11.size)
          clear k11 k12
          go_wp2_with fail
          refine (hs_len g _ _ v12 (H9.below k13)).mono ?_
          rintro e v15 ⟨rfl, rfl⟩
          go_wp2_with fail
          have hcs := ECS.out
          have hm := EM.out
          rw [hm] at o9
          refine ⟨⟨r + 1, by omega, by simp, by rw [hcs]; exact o9.below k13, by rw [hcs, hm]; exact H9.below k13, hb9.trans (k13.mono hb9.size), Nat.le_trans hz9 k13.size⟩, ?_⟩
          simp [intOf]
          omega
    · have ern : r = n := by omega
      have hri : ¬ (r : Int) < n := by omega
      have hle : (cat B r).length ≤ 1048576 := by rw [ern]; exact HC.out
      have hbnd := HBB.out r (by omega)
      obtain ⟨cs, ecs⟩ : ∃ cs, cat B r = cs := ⟨_, rfl⟩
      rw [ecs] at O H hle hbnd
      obtain ⟨xa, xc, hxv, X⟩ := O.ag hbnd
      obtain ⟨m, em⟩ : ∃ m, cs.length = m := ⟨_, rfl⟩
      rw [em] at X H hle hxv
      rw [hxv]
      clear hxv O ecs em ern hbnd HBB HC HA HR
      have q1 : ∀ x, (Op.equalIn 10000 24 (.agg (B8 (dref cs))) (.agg (B8 (dref cs)))).run Try.prog x = .ok true x := fun x => by rw [eq24 _ _ (dref_len _) (dref_len _)]; simp
      go_wp2_with fail
      refine (hs_sum g _ _ _ H (by omega)).mono ?_
      rintro e v11 ⟨rfl, k11⟩
      go_wp2_with fail
      refine (of_any xa m xc cs v11 (X.at k11).i X.l.symm X.b (by omega)).mono ?_
      rintro e v12 ⟨rfl, k12⟩
      have k13 := k11.trans (k12.mono k11.size)
      clear k11 k12
      go_wp2_with fail
      go_ret
      exact ⟨rfl, hb.trans (k13.mono hb.size)⟩
end Go.Proofs.Ytcbjjndhecehcaa
