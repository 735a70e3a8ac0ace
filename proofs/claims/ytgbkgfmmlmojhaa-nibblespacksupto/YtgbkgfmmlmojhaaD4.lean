/- What the document's Key answers. -/
import Derived.Test.YtgbkgfmmlmojhaaD1
import Derived.Test.YtgbkgfmmlmojhaaC4
import Derived.Test.YtgbkgfmmlmojhaaC3
import Derived.Deep.RegionLaw
namespace Go.Proofs.Ytgbkgfmmlmojhaa
open Go.RowKit
set_option linter.unusedVariables false
theorem step_app {ops : Array Oper} {o : Oper} {a : Act} {w : World} {K : Act → World → Prop} {Q : Exit → Act → World → Prop} {E : Prop} (hgd : o.guard = none) (s x : Operand)
    (ho : o.op = .call { callee := .builtin .append, args := #[s, x], argTypes := #[22, 22] }) (base : Nat) (v : Value) (bs : List Int) (hs : a.eval s = v) (hown : OwnB w base v bs)
    (ad : Addr) (m c : Nat) (news : List Int) (hx : a.eval x = .slice (some ad) m c) (hl : news.length = m) (hnews : ∀ j u, (news.map (Value.int .u8))[j]? = some u → w.cell? (ad.add j) = some u)
    (hbytes : bs.length + m ≤ 140737488355328) (hbase : base ≤ w.heap.size)
    (h : ∀ v' w', OwnB w' base v' (bs ++ news) → Below base w w' → K (a.put o.dst v') w') : if Region.wanted o (yielded ops a.tmps) = true then Oper.wp Try.prog o a w K Q else E := by
  have hw : Region.wanted o (yielded ops a.tmps) = true := by simp [Region.wanted, hgd]
  rw [if_pos hw]
  obtain ⟨i, hi, hz, hsz, hby⟩ := info5
  refine wp_append_own w s x 22 ho base 5 i (.int .u8 0) 1 1 Try.underlying22 hi hz hsz hby rfl (by decide) v bs.length (bs.map (Value.int .u8)) hs hown ad m c (news.map (Value.int .u8)) hx (by simpa using hl) hnews (B8_one2 _) (by unfold maxLen; omega) (by omega) hbase ?_
  intro v' w' h1 h2 h3
  refine h v' w' ?_ ((Below.refl _ _).grown h2 hbase hown.lt)
  unfold OwnB
  rw [List.length_append, hl, List.map_append]
  exact h1
theorem OwnB.drew {w : World} {base : Nat} {v : Value} {bs : List Int} (h : OwnB w base v bs) : OwnB w.drew base v bs := h.far fun i _ _ => rfl
set_option maxHeartbeats 2000000 in
theorem rkey_any (a : Option Addr) (n c : Nat) (p : List Int) (w : World) (h : Ag w a n c p) (hn : n ≤ 140737488355328) :
    Calls Try.prog 10 #[.slice a n c] w fun e w' => (∃ a' m' c', e = .returned (.tuple #[.slice a' m' c', .bool (keyP p).2]) ∧ Ag w' a' m' c' (keyP p).1) ∧ Below w.heap.size w w' := by
  have hl := h.l
  have hr := rright_any a n c p w h hn
  by_cases hrt : rightP p = true
  case neg =>
    rw [keyP_no (fun hh => hrt hh.1)]
    simp only
    rw [show rightP p = false from by simpa using hrt] at hr
    clear h hl hrt
    go_enter Try.func10, Try.ntmps10
    go_wp2_with fail
    refine hr.mono ?_
    rintro e w1 ⟨rfl, rfl⟩
    clear hr
    go_wp2_with fail
    go_ret2
    exact ⟨⟨none, 0, 0, rfl, ag_nil _⟩, Below.refl _ _⟩
  rw [hrt] at hr
  by_cases he : n % 2 = 0
  case neg =>
    rw [keyP_no (fun hh => he (by rw [← hl]; exact hh.2))]
    simp only
    have hei : (n : Int) % 2 = 1 := by omega
    clear h hl he
    go_enter Try.func10, Try.ntmps10
    go_wp2_with fail
    refine hr.mono ?_
    rintro e w1 ⟨rfl, rfl⟩
    clear hr
    go_wp2_with fail
    go_ret2
    exact ⟨⟨none, 0, 0, rfl, ag_nil _⟩, Below.refl _ _⟩
  rw [keyP_yes hrt (by omega)]
  simp only
  obtain ⟨m, hm⟩ : ∃ m, n / 2 = m := ⟨_, rfl⟩
  have HM : Hid (n = 2 * m) := Hid.mk (by omega)
  have HKL : Hid ((kk p).length = m) := Hid.mk (by rw [kk_len]; omega)
  have HKB := Hid.mk (kk_isB p h.b hrt)
  have HL := Hid.mk hl
  have HB := Hid.mk h.b
  have HRT := Hid.mk hrt
  have HC := Hid.mk (fun h0 => ag_head h h0)
  have hm3 : (n : Int) % 2 = 0 := by omega
  clear h hl hrt hm he
  go_enter Try.func10, Try.ntmps10
  go_wp2_with fail
  refine hr.mono ?_
  rintro e w1 ⟨rfl, rfl⟩
  clear hr
  go_wp2_with fail
  clear hm3
  go_loopw [4, 5] (fun q i v => ∃ j k : Nat, j = 2 * k ∧ j ≤ n ∧ i = .int .i64 j ∧ OwnB v w1.heap.size q ((kk p).take k) ∧ Below w1.heap.size w1 v) (fun _ i _ => n - (intOf i).toNat)
  case atStart => exact ⟨0, 0, rfl, by omega, rfl, ownB_nil _ _, Below.refl _ _⟩
  case round =>
    obtain ⟨j, k, hjk, hjn, rfl, hown, hb⟩ := hrel
    have HJ := Hid.mk hjk
    by_cases hlt : j < n
    · have hki : ((j : Int) + 1) < n := by have := HM.out; omega
      have hki0 : (j : Int) < n := by omega
      have hget := kk_get p k (by have := HL.out; have := HM.out; omega)
      have hts := take_snoc (b := kk p) (i := k) (by have := HKL.out; have := HM.out; omega)
      rw [hget] at hts
      obtain ⟨g, off, rfl, hnc, hcm, hcs⟩ := HC.out (by omega)
      unfold maxLen at hcm
      have hc1 := (hb.cell (p := ⟨g, off + (2 * k), none⟩) (block_lt_of_cell (hcs (2 * k) (by omega)))).trans (hcs (2 * k) (by omega))
      have hc2 := (hb.cell (p := ⟨g, off + (2 * k + 1), none⟩) (block_lt_of_cell (hcs (2 * k + 1) (by omega)))).trans (hcs (2 * k + 1) (by omega))
      have hx0 := (HB.out _ (getD_mem (l := p) (i := 2 * k) (by have := HL.out; omega))).1
      have hy0 := (HB.out _ (getD_mem (l := p) (i := 2 * k + 1) (by have := HL.out; omega))).1
      have hx1 := right_at HRT.out (i := 2 * k) (by have := HL.out; omega)
      have hy1 := right_at HRT.out (i := 2 * k + 1) (by have := HL.out; omega)
      generalize p.getD (2 * k) 0 = x at *
      generalize p.getD (2 * k + 1) 0 = y at *
      rw [← hjk] at hc1 hc2
      have ht2 : ((j : Int) + 1).toNat = j + 1 := by omega
      have ht3 : (0 : Int) ≤ (j : Int) + 1 := by omega
      have hw1 : IntKind.i64.wrap ((j : Int) + 1) = (j : Int) + 1 := by rw [IntKind.wrap_i64]; omega
      have hw2 : IntKind.u8.wrap (16 * x) = 16 * x := by rw [IntKind.wrap_u8]; omega
      have hw3 : IntKind.u8.wrap (16 * x + y) = 16 * x + y := by rw [IntKind.wrap_u8]; omega
      have HTS := Hid.mk hts
      have HTL : Hid (((kk p).take k).length = k) := Hid.mk (by rw [List.length_take, HKL.out]; have := HM.out; omega)
      have HO2 : Hid (∀ o : Obj, OwnB (wr.drew.alloc o) w1.heap.size u4 ((kk p).take k)) := Hid.mk fun o => OwnB.alloc hown.drew o
      have HBB := Hid.mk hb
      have HSZ := Hid.mk hb.size
      clear hts hown hb hget hcs hjk
      go_wp2_with fail
      go_region_law (refine step_app rfl (.tmp 22) (.tmp 34) rfl w1.heap.size _ ((kk p).take k) rfl (HO2.out _) ⟨wr.heap.size, 0, none⟩ 1 1 [16 * x + y] rfl rfl (one_new wr.drew _) (by have := HTL.out; have := HJ.out; omega) (by have := HSZ.out; simp; omega) ?_; intro v1 w2 o1 hb1; rw [← HTS.out] at o1; have HO3 := Hid.mk o1; have HB3 := Hid.mk hb1; clear o1 hb1)
      all_goals
        go_wp2_with fail
        refine ⟨⟨j + 2, k + 1, by have := HJ.out; omega, by omega, by simp, HO3.out, ?_⟩, by simp [intOf]; omega⟩
        exact (HBB.out.drew.alloc HSZ.out _).trans HB3.out
    · have hki : ¬ ((j : Int) + 1) < n := by omega
      have e : k = m := by have := HM.out; omega
      subst e
      rw [List.take_of_length_le (by rw [HKL.out]; exact Nat.le_refl _)] at hown
      obtain ⟨a', c', rfl, hag⟩ := OwnB.ag hown HKB.out
      have HA := Hid.mk hag
      have HBB := Hid.mk hb
      clear hown hag hb hjk
      go_wp2_with fail
      go_ret2
      exact ⟨⟨a', _, c', rfl, HA.out⟩, HBB.out⟩
end Go.Proofs.Ytgbkgfmmlmojhaa
