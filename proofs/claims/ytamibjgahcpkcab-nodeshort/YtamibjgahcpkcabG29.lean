/- What Key answers. -/
import Derived.Test.YtamibjgahcpkcabG24
import Derived.Test.YtamibjgahcpkcabG19
namespace Go.Proofs.Ytamibjgahcpkcab.Ni
open Go.RowKit
set_option linter.unusedVariables false
theorem kk_row (p : List Int) (m i : Nat) (hm : (kk p).length = m) (hi : i < m) : ((kk p).take i ++ List.replicate (m - i) (0 : Int)).set i ((kk p).getD i 0) = (kk p).take (i + 1) ++ List.replicate (m - (i + 1)) (0 : Int) := by
  rw [take_snoc (by omega), List.append_assoc]
  have e : ((kk p).take i).length = i := by rw [List.length_take]; omega
  rw [List.set_append_right _ _ (by omega), e, Nat.sub_self, show m - i = (m - (i + 1)) + 1 from by omega, List.replicate_succ]
  rfl
set_option maxHeartbeats 2000000 in
theorem key_any (a : Option Addr) (n c : Nat) (p : List Int) (w : World) (h : Ag w a n c p) (hn : n ≤ 140737488355328) :
    Calls Try.prog 41 #[.slice a n c] w fun e w' => (∃ a' m, e = .returned (.tuple #[.slice a' m m, .bool (keyP p).2]) ∧ Ag w' a' m m (keyP p).1) ∧ Below w.heap.size w w' := by
  have hl := h.l
  by_cases he : n % 2 = 0
  case neg =>
    rw [keyP_no (fun hh => he (by rw [← hl]; exact hh.2))]
    simp only
    have hei : (n : Int) % 2 = 1 := by omega
    clear h hl he
    go_enter Try.func41, Try.ntmps41
    go_wp2_with fail
    go_ret2
    exact ⟨⟨none, 0, rfl, ag_nil _⟩, Below.refl _ _⟩
  have hei : (n : Int) % 2 = 0 := by omega
  have hr := right_any a n c p w h hn
  by_cases hrt : rightP p = true
  case neg =>
    rw [keyP_no (fun hh => hrt hh.1)]
    simp only
    rw [show rightP p = false from by simpa using hrt] at hr
    clear h hl he hrt
    go_enter Try.func41, Try.ntmps41
    go_wp2_with fail
    refine hr.mono ?_
    rintro e w1 ⟨rfl, rfl⟩
    clear hr
    go_wp2_with fail
    go_ret2
    exact ⟨⟨none, 0, rfl, ag_nil _⟩, Below.refl _ _⟩
  rw [keyP_yes hrt (by omega)]
  simp only
  rw [hrt] at hr
  obtain ⟨m, hm⟩ : ∃ m, n / 2 = m := ⟨_, rfl⟩
  have hmn : n = 2 * m := by omega
  subst hmn
  clear hm he hei
  have HKL : Hid ((kk p).length = m) := Hid.mk (by rw [kk_len]; omega)
  have HKB := Hid.mk (kk_isB p h.b hrt)
  have HL := Hid.mk hl
  have HB := Hid.mk h.b
  have HRT := Hid.mk hrt
  have HC := Hid.mk (fun h0 => ag_head h h0)
  have hmk := run_make_row' (P := Try.prog) 22 5 (.int .u8 0) 1 Try.underlying22 info5b rfl .i64 .i64 m (by omega) (by omega)
  have hrow : Row w.heap.size (w.alloc (.cells (madeCells #[.int .u8 0] m) 5)) (List.replicate m 0) := by
    unfold Row; rw [heap_alloc_new, made_bytes]
  have hbw : Below w.heap.size w (w.alloc (.cells (madeCells #[.int .u8 0] m) 5)) := (Below.refl _ _).alloc (Nat.le_refl _) _
  have HR := Hid.mk hrow
  have HBW := Hid.mk hbw
  have hm2 : (2 * m : Nat) % 2 = 0 := by omega
  have hm3 : ((2 * m : Nat) : Int) % 2 = 0 := by omega
  have hm4 : ((2 * m : Nat) : Int) / 2 = m := by omega
  clear hrow hbw h hl hrt
  go_enter Try.func41, Try.ntmps41
  go_wp2_with fail
  refine hr.mono ?_
  rintro e w1 ⟨rfl, rfl⟩
  clear hr
  go_wp2_with fail
  go_loopw [21] (fun i v => ∃ k : Nat, k ≤ m ∧ i = .int .i64 k ∧ Row w1.heap.size v ((kk p).take k ++ List.replicate (m - k) 0) ∧ Below w1.heap.size w1 v) (fun i _ => m - (intOf i).toNat)
  case atStart => exact ⟨0, by omega, rfl, by rw [List.take_zero, List.nil_append, Nat.sub_zero]; exact HR.out, HBW.out⟩
  case round =>
    clear HR HBW
    obtain ⟨k, hk, rfl, hrow, hb⟩ := hrel
    by_cases hlt : k < m
    · have hki : (k : Int) < m := by omega
      have hlen : ((kk p).take k ++ List.replicate (m - k) (0 : Int)).length = m := by rw [List.length_append, List.length_replicate, List.length_take, HKL.out]; omega
      have hcell := hrow.cell (i := k) (by omega)
      have hfz := hrow.frozen k
      have hset := hrow.set k ((kk p).getD k 0)
      rw [kk_row p m k HKL.out hlt] at hset
      have hget := kk_get p k (by have := HL.out; omega)
      obtain ⟨g, off, rfl, hnc, hcm, hcs⟩ := HC.out (by omega)
      unfold maxLen at hcm
      have hc1 := (hb.cell (p := ⟨g, off + (2 * k), none⟩) (block_lt_of_cell (hcs (2 * k) (by omega)))).trans (hcs (2 * k) (by omega))
      have hc2 := (hb.cell (p := ⟨g, off + (2 * k + 1), none⟩) (block_lt_of_cell (hcs (2 * k + 1) (by omega)))).trans (hcs (2 * k + 1) (by omega))
      have hx0 := (HB.out _ (getD_mem (l := p) (i := 2 * k) (by have := HL.out; omega))).1
      have hy0 := (HB.out _ (getD_mem (l := p) (i := 2 * k + 1) (by have := HL.out; omega))).1
      have hx1 := right_at HRT.out (i := 2 * k) (by have := HL.out; omega)
      have hy1 := right_at HRT.out (i := 2 * k + 1) (by have := HL.out; omega)
      generalize ((kk p).take k ++ List.replicate (m - k) (0 : Int)).getD k 0 = z at hcell
      generalize p.getD (2 * k) 0 = x at *
      generalize p.getD (2 * k + 1) 0 = y at *
      rw [hget] at hset
      have hor := or16 hx0 hx1 hy0 hy1
      have hkm : 2 * k + 1 < 2 * m := by omega
      have hk1 : (2 * (k : Int)) < ((2 * m : Nat) : Int) := by omega
      have hk2 : (2 * (k : Int) + 1) < ((2 * m : Nat) : Int) := by omega
      have ht1 : (2 * (k : Int)).toNat = 2 * k := by omega
      have ht2 : (2 * (k : Int) + 1).toNat = 2 * k + 1 := by omega
      have HS := Hid.mk hset
      have HBB := Hid.mk hb
      clear hset hb hrow hlen hget hcs
      go_wp2_with fail
      go_region
      all_goals
        go_wp2_with fail
        exact ⟨⟨k + 1, by omega, by simp, HS.out, (HBB.out.setCell (Nat.le_refl _) _).drew⟩, by simp [intOf]; omega⟩
    · have hki : ¬ (k : Int) < m := by omega
      have e : k = m := by omega
      subst e
      rw [Nat.sub_self, List.replicate_zero, List.append_nil, List.take_of_length_le (by rw [HKL.out]; exact Nat.le_refl _)] at hrow
      have HS := Hid.mk hrow
      have HBB := Hid.mk hb
      clear hrow hb
      go_wp2_with fail
      go_ret2
      exact ⟨⟨_, _, rfl, row_ag HS.out HKL.out HKB.out (by omega)⟩, HBB.out⟩
end Go.Proofs.Ytamibjgahcpkcab.Ni
/- What head and Pack answer. -/
namespace Go.Proofs.Ytamibjgahcpkcab.Ni
open Go.RowKit
set_option linter.unusedVariables false
theorem ownB_one (w : World) (z : Int) : OwnB (w.alloc (.cells #[.int .u8 z] 5)) w.heap.size (.slice (some ⟨w.heap.size, 0, none⟩) 1 1) [z] :=
  ⟨rfl, .inr ⟨w.heap.size, 1, #[.int .u8 z], rfl, Nat.le_refl _, heap_alloc_new _ _, Nat.le_refl _, by unfold maxLen; omega, rfl, rfl⟩⟩
theorem ownB_two (w : World) (y z : Int) : OwnB (w.alloc (.cells #[.int .u8 y, .int .u8 z] 5)) w.heap.size (.slice (some ⟨w.heap.size, 0, none⟩) 2 2) [y, z] :=
  ⟨rfl, .inr ⟨w.heap.size, 2, #[.int .u8 y, .int .u8 z], rfl, Nat.le_refl _, heap_alloc_new _ _, Nat.le_refl _, by unfold maxLen; omega, rfl, rfl⟩⟩
theorem or_b1 : bits BinOp.or IntKind.u8 2 1 = 3 := by decide +kernel
theorem or_b0 : bits BinOp.or IntKind.u8 0 1 = 1 := by decide +kernel
set_option maxHeartbeats 400000 in
theorem head_any (n : Nat) (leaf : Bool) (w : World) (hn : n ≤ 140737488355328) :
    Calls Try.prog 42 #[.int .i64 n, .bool leaf] w fun e w' => (∃ v, e = .returned v ∧ OwnB w' w.heap.size v (hdP n leaf)) ∧ Below w.heap.size w w' := by
  have h1 := or_b1
  have h0 := or_b0
  unfold hdP
  by_cases he : n % 2 = 0
  · rw [if_pos he]
    have hei : (n : Int) % 2 = 0 := by omega
    clear he
    cases leaf with
    | true =>
      go_enter Try.func42, Try.ntmps42
      go_wp2_with fail
      go_ret
      exact ⟨⟨_, rfl, ownB_two _ _ _⟩, below_new _ _⟩
    | false =>
      go_enter Try.func42, Try.ntmps42
      go_wp2_with fail
      go_ret
      exact ⟨⟨_, rfl, ownB_two _ _ _⟩, below_new _ _⟩
  · rw [if_neg he]
    have hei : (n : Int) % 2 = 1 := by omega
    clear he
    cases leaf with
    | true =>
      go_enter Try.func42, Try.ntmps42
      go_wp2_with fail
      go_ret
      exact ⟨⟨_, rfl, ownB_one _ _⟩, below_new _ _⟩
    | false =>
      go_enter Try.func42, Try.ntmps42
      go_wp2_with fail
      go_ret
      exact ⟨⟨_, rfl, ownB_one _ _⟩, below_new _ _⟩
set_option maxHeartbeats 1000000 in
theorem pack_any (a : Option Addr) (n c : Nat) (p : List Int) (leaf : Bool) (w : World) (h : Ag w a n c p) (hn : n + 2 ≤ 140737488355328) :
    Calls Try.prog 24 #[.slice a n c, .bool leaf] w fun e w' => (∃ a' m, e = .returned (.tuple #[.slice a' m m, .int .i64 ((packP p leaf).2 : Nat)]) ∧ Ag w' a' m m (packP p leaf).1) ∧ Below w.heap.size w w' := by
  have hl := h.l
  have hhd := head_any n leaf w (by omega)
  have hpk := pack_key (p := p) (leaf := leaf)
  have hlen := hd_len n leaf
  have hfb := full_isB (p := p) (leaf := leaf) h.b
  rw [hl] at hpk hfb
  have hpp : packP p leaf = if rightP p = true then (kk (hdP n leaf ++ p), 0) else ([], 40) := by unfold packP; rw [hl]
  rw [hpp]
  clear hpp
  generalize hdP n leaf = hd at *
  obtain ⟨⟨r1, r2⟩, hr⟩ : ∃ r, (if rightP p = true then (kk (hd ++ p), 0) else (([] : List Int), 40)) = r := ⟨_, rfl⟩
  obtain ⟨⟨k1, k2⟩, hk⟩ : ∃ r, (if rightP p = true then (kk (hd ++ p), true) else (([] : List Int), false)) = r := ⟨_, rfl⟩
  rw [hr]
  rw [hk] at hpk
  simp only
  have HT : Hid (k2 = true → r1 = k1 ∧ r2 = 0) := Hid.mk (fun h => by
    by_cases hq : rightP p = true
    · rw [if_pos hq] at hr hk
      injection hr with e1 e2
      injection hk with e3 e4
      exact ⟨e1.symm.trans e3, e2.symm⟩
    · rw [if_neg hq] at hk
      injection hk with e3 e4
      rw [← e4] at h
      cases h)
  have HF : Hid (k2 = false → r1 = [] ∧ r2 = 40) := Hid.mk (fun h => by
    by_cases hq : rightP p = true
    · rw [if_pos hq] at hk
      injection hk with e3 e4
      rw [← e4] at h
      cases h
    · rw [if_neg hq] at hr
      injection hr with e1 e2
      exact ⟨e1.symm, e2.symm⟩)
  clear hr hk
  have HPK := Hid.mk hpk
  have HFB := Hid.mk hfb
  have HHD := Hid.mk hhd
  have HAG := Hid.mk h
  have HLEN : Hid (hd.length ≤ 2) := Hid.mk (by omega)
  have HL := Hid.mk hl
  clear hpk hfb hhd h hlen hl
  go_enter Try.func24, Try.ntmps24
  go_wp2_with fail
  refine HHD.out.mono ?_
  rintro e w1 ⟨⟨v, rfl, hown⟩, hb1⟩
  have HO := Hid.mk hown
  have HB1 := Hid.mk hb1
  clear hown hb1
  go_wp2_with (first | (at_builtin; refine app_any rfl (.tmp 12) (.tmp 13) rfl w.heap.size _ hd rfl HO.out a n c p rfl (HAG.out.at HB1.out).i HAG.out.nil HAG.out.l (by have := HLEN.out; omega) HB1.out.size ?_; intro v2 w2 o2 hb2; obtain ⟨a2, c2, rfl, hag2⟩ := OwnB.ag o2 HFB.out; have HB2 := Hid.mk (HB1.out.trans hb2); have HA2 := Hid.mk hag2; clear o2 hb2 hag2; generalize hgl : (hd ++ p).length = len2 at HA2 ⊢; have HGL := Hid.mk hgl; clear hgl))
  have hk := key_any a2 len2 c2 (hd ++ p) w2 HA2.out (by have h1 := HGL.out; rw [List.length_append, HL.out] at h1; have := HLEN.out; omega)
  rw [HPK.out] at hk
  simp only at hk
  have HK := Hid.mk hk
  clear hk
  cases k2 with
  | true =>
    obtain ⟨rfl, rfl⟩ := HT.out rfl
    refine HK.out.mono ?_
    rintro e w3 ⟨⟨a3, m3, rfl, hag3⟩, hb3⟩
    have HA3 := Hid.mk hag3
    have HB3 := Hid.mk (HB2.out.trans (hb3.mono HB2.out.size))
    clear hag3 hb3
    go_wp2_with fail
    go_ret2
    exact ⟨⟨a3, m3, rfl, HA3.out⟩, HB3.out⟩
  | false =>
    obtain ⟨rfl, rfl⟩ := HF.out rfl
    refine HK.out.mono ?_
    rintro e w3 ⟨⟨a3, m3, rfl, hag3⟩, hb3⟩
    have HB3 := Hid.mk (HB2.out.trans (hb3.mono HB2.out.size))
    clear hag3 hb3
    go_wp2_with fail
    go_ret2
    exact ⟨⟨none, 0, rfl, ag_nil _⟩, HB3.out⟩
end Go.Proofs.Ytamibjgahcpkcab.Ni
