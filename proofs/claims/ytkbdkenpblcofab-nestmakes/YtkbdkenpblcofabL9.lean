/- That NestMakes answers true. -/
import Derived.Test.YtkbdkenpblcofabK2
namespace Go.Proofs.Ytkbdkenpblcofab
open Go.RowKit
set_option linter.unusedVariables false
theorem ownB_nil4 (w : World) (base : Nat) : OwnB w base (.slice none 0 0) [] := ⟨rfl, .inl ⟨rfl, rfl⟩⟩
/-- A row of bytes, whatever they are. -/
def Soft (g n : Nat) (v : World) : Prop := ∃ cur : Array Value, v.heap[g]? = some (.cells cur 5) ∧ ∀ j, j < n → ∃ z : Int, (0 ≤ z ∧ z < 256) ∧ cur[j]? = some (.int .u8 z)
theorem Soft.write {g n : Nat} {v : World} (h : Soft g n v) {o : Nat} {z : Int} (hz : 0 ≤ z ∧ z < 256) : Soft g n (v.setCell ⟨g, o, none⟩ (.int .u8 z)) := by
  obtain ⟨cur, h1, h2⟩ := h
  refine ⟨_, heap_setCell_same v g o cur 5 _ h1, fun j hj => ?_⟩
  obtain ⟨y, hy, hc⟩ := h2 j hj
  by_cases e : o = j
  · subst e
    exact ⟨z, hz, by rw [Array.getElem?_setIfInBounds_self_of_lt (lt_of_get hc)]⟩
  · exact ⟨y, hy, by rw [Array.getElem?_setIfInBounds_ne e]; exact hc⟩
theorem own_soft {w : World} {base : Nat} {a : Option Addr} {n c : Nat} {bs : List Int} (h : OwnB w base (.slice a n c) bs) (hb : ∀ x ∈ bs, 0 ≤ x ∧ x < 256) (hl : bs.length = n) (hn : 0 < n) : ∃ g, a = some ⟨g, 0, none⟩ ∧ base ≤ g ∧ g < w.heap.size ∧ n ≤ c ∧ c ≤ maxLen ∧ Soft g n w := by
  obtain ⟨_, h2⟩ := h
  rcases h2 with ⟨_, h2⟩ | ⟨g, cap, cur, hv, hg, hh, hn2, hcap, hsz, ht⟩
  · omega
  · injection hv with e1 e2 e3
    subst e1 e3
    refine ⟨g, rfl, hg, lt_of_get hh, by omega, hcap, cur, hh, fun j hj => ⟨bs.getD j 0, hb _ (by rw [List.getD, List.getElem?_eq_getElem (by omega)]; exact List.getElem_mem _), ?_⟩⟩
    have e : (cur.toList.take (bs.length * 1))[j]? = (bs.map (Value.int .u8))[j]? := by rw [ht]
    rw [List.getElem?_take_of_lt (by omega)] at e
    simp at e
    rw [e]
    simp [List.getElem?_eq_getElem (show j < bs.length by omega)]
theorem row_item {v : World} {g : Nat} {ys : List V} {ty : TypeId} (h : v.heap[g]? = some (.cells (ys.flatMap V.cells).toArray ty)) {k : Nat} {y : V} (hy : ys[k]? = some y) :
    v.cell? ⟨g, 0 + k * 3, none⟩ = some (.bool y.l) ∧ v.cell? ⟨g, 0 + k * 3 + 1, none⟩ = some (.slice y.ba y.bn y.bc) ∧ v.cell? ⟨g, 0 + k * 3 + 2, none⟩ = some (.slice y.ia y.m y.ic) := by
  have hs := split_get hy
  have hk := (List.getElem?_eq_some_iff.1 hy).1
  have hl : (ys.take k).length = k := by rw [List.length_take]; omega
  have hg : ∀ j u, (V.cells y)[j]? = some u → (ys.flatMap V.cells)[k * 3 + j]? = some u := fun j u hu => by
    have := flat_get (ys.take k) y (ys.drop (k + 1)) j u hu
    rw [← hs, hl] at this
    exact this
  refine ⟨?_, ?_, ?_⟩
  · rw [cell_of_row _ _ _ _ _ _ h, List.getElem?_toArray, show 0 + k * 3 = k * 3 + 0 from by omega]; exact hg 0 _ rfl
  · rw [cell_of_row _ _ _ _ _ _ h, List.getElem?_toArray, show 0 + k * 3 + 1 = k * 3 + 1 from by omega]; exact hg 1 _ rfl
  · rw [cell_of_row _ _ _ _ _ _ h, List.getElem?_toArray, show 0 + k * 3 + 2 = k * 3 + 2 from by omega]; exact hg 2 _ rfl
theorem bne_self (p : Bool) : (p != p) = false := by cases p <;> rfl
theorem bne_selfi (n : Nat) : ((n : Int) != (n : Int)) = false := by simp
theorem rd_neb {a : Act} {w : World} {p q : Bool} {r : TypeId} {x y : Operand} {b : Bool} {o : Oper} (ho : o.op = .binOp .neq 4 x y r) (hx : a.eval x = .bool p) (hy : a.eval y = .bool q) (hb : (p != q) = b) : (execOp a.eval o).run Try.prog w = .ok (.value (.bool b)) w := by
  subst hb
  unfold execOp
  rw [ho]
  simp only [hx, hy]
  go_simp
  cases p <;> cases q <;> rfl
theorem rd_nei {a : Act} {w : World} {p q : Int} {r : TypeId} {x y : Operand} {b : Bool} {o : Oper} (ho : o.op = .binOp .neq 3 x y r) (hx : a.eval x = .int .i64 p) (hy : a.eval y = .int .i64 q) (hb : (p != q) = b) : (execOp a.eval o).run Try.prog w = .ok (.value (.bool b)) w := by
  subst hb
  unfold execOp
  rw [ho]
  simp only [hx, hy]
  go_simp
/-- While own's bytes are written over. -/
structure Mk (w w1 w2 : World) (a1 : Option Addr) (n c1 : Nat) (b : List Int) (v : World) : Prop where
  bel : Below w.heap.size w v
  row : Row (w1.heap.size + 1) v b
  box : B1 w2.heap.size v ⟨false, some ⟨w1.heap.size + 1, 0, none⟩, n, n, none, 0, 0⟩
  soft : 0 < n → ∃ g, a1 = some ⟨g, 0, none⟩ ∧ (w.heap.size ≤ g ∧ g < w1.heap.size ∧ n ≤ c1 ∧ c1 ≤ maxLen) ∧ Soft g n v
theorem Mk.write {w w1 w2 : World} {g n c1 : Nat} {b : List Int} {v : World} (h : Mk w w1 w2 (some ⟨g, 0, none⟩) n c1 b v) (hn : 0 < n) (h2 : w1.heap.size + 1 < w2.heap.size) {o : Nat} {z : Int} (hz : 0 ≤ z ∧ z < 256) : Mk w w1 w2 (some ⟨g, 0, none⟩) n c1 b (v.setCell ⟨g, o, none⟩ (.int .u8 z)) := by
  obtain ⟨g', e, ⟨q1, q2, q3⟩, hs⟩ := h.soft hn
  cases e
  have hne : ∀ o', (⟨g, o, none⟩ : Addr) ≠ ⟨w2.heap.size, o', none⟩ := fun o' e => by injection e with e1 _; omega
  refine ⟨h.bel.setCell q1 _, (heap_setCell_other _ _ _ _ (show w1.heap.size + 1 ≠ g by omega)).trans h.row, ⟨?_, ?_, ?_⟩, fun _ => ⟨g, rfl, ⟨q1, q2, q3⟩, hs.write hz⟩⟩
  · rw [World.cell?_setCell_other _ _ _ _ (hne _)]; exact h.box.c0
  · rw [World.cell?_setCell_other _ _ _ _ (hne _)]; exact h.box.c1
  · rw [World.cell?_setCell_other _ _ _ _ (hne _)]; exact h.box.c2
set_option maxRecDepth 20000 in
set_option maxHeartbeats 4000000 in
theorem makes_law (ab : Option Addr) (nb' cb : Nat) (b : List Int) (a : Option Addr) (m c : Nat) (ts : List T) (hn : nb' ≤ 140737488351232) (hm : m = ts.length ∧ m ≤ c ∧ c ≤ maxLen ∧ m ≤ 140737488351232) (hb56 : 56 * m ≤ 281474976710656) (hnil : a = none → c = 0) (w : World) (hag : Ag w ab nb' cb b) (hall : LiesAll w ts a 0) :
    Calls Try.prog 5 #[.slice ab nb' cb, .slice a m c] w fun e w' => e = .returned (.bool true) ∧ Below w.heap.size w w' := by
  have HAG := Hid.mk hag
  have HM := Hid.mk hm
  have HL := Hid.mk (lies_eq.2 ⟨rfl, ag_nil w, hm.1, hm.2.1, hm.2.2.1, ⟨Nat.zero_le _, hm.2.2.2⟩, hall⟩ : Lies w (.mk true [] ts) ⟨true, none, 0, 0, a, m, c⟩)
  have HNIL := Hid.mk hnil
  clear hag hall hm hnil
  go_enter Try.func5, Try.ntmps5
  go_wp2_with (first | (at_builtin; refine app_any rfl (.const (.slice none 0 0)) (.tmp 10) rfl w.heap.size _ [] rfl (ownB_nil4 w _) ab nb' cb b rfl HAG.out.i HAG.out.nil HAG.out.l (by simp; omega) (Nat.le_refl _) ?_; intro v1 w1 o1 hb1; rw [List.nil_append] at o1; obtain ⟨a1, c1, rfl, hag1⟩ := OwnB.ag o1 HAG.out.b; rw [HAG.out.l] at hag1 o1 ⊢; have HO1 := Hid.mk o1; have HB1 := Hid.mk hb1; have HA1 := Hid.mk hag1; clear o1 hb1 hag1))
  refine (text_any a1 nb' c1 b w1 HA1.out hn).mono ?_
  rintro e w2 ⟨rfl, hrow2, hb2⟩
  have HROW2 := Hid.mk ((Below.heap_alloc w2 (.cells #[.bool false, .slice (some ⟨w1.heap.size + 1, 0, none⟩) nb' nb', .slice none 0 0] 25) _ (lt_of_get hrow2)).trans hrow2)
  have hbx := b1_new w2 ⟨false, some ⟨w1.heap.size + 1, 0, none⟩, nb', nb', none, 0, 0⟩
  have hb3 := below_go hb2 (below_new w2 (.cells #[.bool false, .slice (some ⟨w1.heap.size + 1, 0, none⟩) nb' nb', .slice none 0 0] 25))
  have hlt2 := lt_of_get hrow2
  obtain ⟨W, hW⟩ : ∃ W, w2.alloc (.cells #[.bool false, .slice (some ⟨w1.heap.size + 1, 0, none⟩) nb' nb', .slice none 0 0] 25) = W := ⟨_, rfl⟩
  rw [hW] at hb3 HROW2
  simp only at hbx
  rw [hW] at hbx
  have hWs : W.heap.size = w2.heap.size + 1 := by rw [← hW]; simp
  have HW := Hid.mk hW
  have HBX := Hid.mk hbx
  have HB3 := Hid.mk hb3
  have HSZ : Hid (w1.heap.size + 1 < w2.heap.size ∧ W.heap.size = w2.heap.size + 1) := Hid.mk ⟨hlt2, hWs⟩
  clear hrow2 hb2 hbx hb3 hlt2 hW hWs
  go_wp2_with fail
  rw [HW.out]
  have HMK : Hid (Mk w w1 w2 a1 nb' c1 b W) := Hid.mk ⟨HB1.out.trans (HB3.out.mono HB1.out.size), HROW2.out, HBX.out, fun hp => by
    obtain ⟨g, e1, e2, e3, e4, e5, cur, e6, e7⟩ := own_soft HO1.out HAG.out.b HAG.out.l hp
    exact ⟨g, e1, ⟨e2, e3, e4, e5⟩, cur, Below.row HB3.out e6, e7⟩⟩
  clear HROW2 HBX HO1 HA1
  go_loopw [16] (fun i v => ∃ j : Nat, j ≤ nb' ∧ i = .int .i64 j ∧ Mk w w1 w2 a1 nb' c1 b v) (fun i _ => nb' - (intOf i).toNat)
  case atStart => exact ⟨0, by omega, rfl, HMK.out⟩
  case round =>
    clear HMK
    obtain ⟨j, hj, rfl, K0⟩ := hrel
    have HK := Hid.mk K0
    clear K0
    by_cases hlt : j < nb'
    · have hji : (j : Int) < nb' := by omega
      obtain ⟨g, rfl, ⟨q1, q2, q3, q4⟩, cur, hcur, hcell0⟩ := HK.out.soft (by omega)
      obtain ⟨z, ⟨hz0, hz1⟩, hcj⟩ := hcell0 j hlt
      unfold maxLen at q4
      have hcell : wr.cell? ⟨g, j, none⟩ = some (.int .u8 z) := by rw [cell_of_row _ _ _ _ _ _ hcur]; exact hcj
      have hfz : wr.frozen? ⟨g, j, none⟩ = false := frozen_of_row _ _ _ _ _ hcur
      have HN := Hid.mk (fun z' (h : 0 ≤ z' ∧ z' < 256) => HK.out.write (o := j) (z := z') (by omega) HSZ.out.1 h)
      clear hcur hcell0 hcj
      go_wp2_with fail
      exact ⟨⟨j + 1, by omega, by simp, HN.out _ (by omega)⟩, by simp [intOf]; omega⟩
    · obtain ⟨v1, rfl⟩ : ∃ v1, v1 = wr := ⟨wr, rfl⟩
      have hji : ¬ (j : Int) < nb' := by omega
      obtain ⟨c0, c1x, c2⟩ := HK.out.box
      simp only at c0 c1x c2
      have hlist := list_any a m c ts HM.out v1 (lies_eq.1 (lies_mono HK.out.bel _ _ HL.out)).2.2.2.2.2.2 hb56 HNIL.out
      have HLI := Hid.mk hlist
      clear hlist
      go_wp2_with fail
      refine HLI.out.mono ?_
      rintro e w3 ⟨ys, hyl, rfl, hrowy, hys, hb4⟩
      have hb5 := below_go hb4 (below_new w3 (.cells #[.bool true, .slice none 0 0, .slice (some ⟨v1.heap.size + 1, 0, none⟩) m m] 25))
      obtain ⟨x0, x1, x2⟩ := HK.out.box.go hb5
      obtain ⟨q0, q1, q2⟩ := b1_new w3 ⟨true, none, 0, 0, some ⟨v1.heap.size + 1, 0, none⟩, m, m⟩
      simp only at x0 x1 x2 q0 q1 q2
      have HBF := Hid.mk hb5
      have HBW := Hid.mk (HK.out.bel.trans (hb5.mono HK.out.bel.size))
      have HAB := Hid.mk (HAG.out.at HBW.out)
      have HXB := Hid.mk (row_ag (Below.row hb5 HK.out.row) HAG.out.l HAG.out.b (by omega))
      have HRY := Hid.mk ((Below.heap_alloc w3 (.cells #[.bool true, .slice none 0 0, .slice (some ⟨v1.heap.size + 1, 0, none⟩) m m] 25) _ (lt_of_get hrowy)).trans hrowy)
      have HYS := Hid.mk hys
      have HYL := Hid.mk hyl
      clear hb4 hb5 hrowy hys hyl c0 c1x c2
      go_wp2_with fail
      have hsame := same_any _ _ _ _ _ _ b b _ HXB.out HAB.out
      rw [decide_eq_true (rfl : b = b)] at hsame
      obtain ⟨W4, hW4⟩ : ∃ W4, w3.alloc (.cells #[.bool true, .slice none 0 0, .slice (some ⟨v1.heap.size + 1, 0, none⟩) m m] 25) = W4 := ⟨_, rfl⟩
      rw [hW4] at x0 x1 x2 q0 q1 q2 HBF HBW HAB HXB HRY hsame ⊢
      clear hW4 HK HLI HAB HXB HB3 HW HB1 HSZ
      refine hsame.mono ?_
      rintro e w4 ⟨rfl, rfl⟩
      clear hsame
      go_wp2_with fail
      refine (alive_any _).mono ?_
      rintro e w5 ⟨rfl, hb6⟩
      have HQ2 := Hid.mk (below_cell hb6 q2)
      have HRY5 := Hid.mk (Below.row hb6 HRY.out)
      have HBF5 := Hid.mk (below_go HBF.out hb6)
      have HBW5 := Hid.mk (below_go HBW.out hb6)
      clear hb6 q0 q1 q2 x0 x1 x2 HRY HBF HBW
      go_wp2_with fail
      go_loopw [68] (fun i v => ∃ k : Nat, k ≤ m ∧ i = .int .i64 k ∧ Below w5.heap.size w5 v) (fun i _ => m - (intOf i).toNat)
      case atStart => exact ⟨0, by omega, rfl, Below.refl _ _⟩
      case round =>
        obtain ⟨k, hk, rfl, hbv⟩ := hrel
        have HBV := Hid.mk hbv
        clear hbv
        by_cases hlt2 : k < m
        · have hki : (k : Int) < m := by omega
          obtain ⟨y, hy⟩ : ∃ y, ys[k]? = some y := ⟨ys[k]'(by have := HYL.out; omega), List.getElem?_eq_getElem _⟩
          obtain ⟨g, off, t, A⟩ := HYS.out k y hy
          have ha : a = some ⟨g, off, none⟩ := A.ha
          subst ha
          have HA := Hid.mk A
          have HY := Hid.mk hy
          clear A hy
          -- WALK
          have HRC : Hid (∀ v, Below w5.heap.size w5 v → v.cell? ⟨v1.heap.size + 1, 0 + k * 3, none⟩ = some (.bool y.l) ∧ v.cell? ⟨v1.heap.size + 1, 0 + k * 3 + 1, none⟩ = some (.slice y.ba y.bn y.bc) ∧ v.cell? ⟨v1.heap.size + 1, 0 + k * 3 + 2, none⟩ = some (.slice y.ia y.m y.ic)) := Hid.mk fun v hv => row_item (Below.row hv HRY5.out) HY.out
          have HAC : Hid (w5.cell? ⟨g, off + k * 3, none⟩ = some (.bool y.l) ∧ w5.cell? ⟨g, off + k * 3 + 1, none⟩ = some (.slice y.ba y.bn y.bc) ∧ w5.cell? ⟨g, off + k * 3 + 2, none⟩ = some (.slice y.ia y.m y.ic)) := Hid.mk ⟨below_cell HBF5.out HA.out.c0, below_cell HBF5.out HA.out.c1, below_cell HBF5.out HA.out.c2⟩
          have HSM : Hid (∀ v, Below w5.heap.size w5 v → Calls Try.prog 9 #[.slice y.ba y.bn y.bc, .slice y.ba y.bn y.bc] v fun e w' => e = .returned (.bool true) ∧ w' = v) := Hid.mk fun v hv => by
            have hli := lies_mono (below_go HBF5.out hv) t y HA.out.li
            obtain ⟨tl, tb, ti⟩ := t
            have hag := (lies_eq.1 hli).2.1
            have h := same_any _ _ _ _ _ _ _ _ _ hag hag
            rw [decide_eq_true rfl] at h
            exact h
          go_wp2_with fail
          rename_i KK hkk
          refine wp_region_held_drew (S := fun v => Below w5.heap.size w5 v) (by kernel_rfl) HBV.out.drew (fun hS => ?_)
          refine rd_take 0 71 (.pointer (some ⟨w3.heap.size, 2, none⟩)) rfl rfl (by kernel_rfl) (by kernel_rfl) (by kernel_rfl) (fun _ _ _ h => h) (by kernel_rfl) (fun v _ => by kernel_rfl) hS ?_
          refine rd_take 1 72 (.slice (some ⟨(v1.heap.size + 1), 0, none⟩) m m) rfl rfl (by kernel_rfl) (by kernel_rfl) (by kernel_rfl) (fun _ _ _ h => h) (by kernel_rfl) (fun v hv => rd_loadL rfl (by kernel_rfl) (below_cell hv HQ2.out)) hS ?_
          refine rd_take 2 73 (.int .i64 k) rfl rfl (by kernel_rfl) (by kernel_rfl) (by kernel_rfl) (fun _ _ _ h => h) (by kernel_rfl) (fun v _ => by kernel_rfl) hS ?_
          refine rd_take 3 74 (.pointer (some ⟨(v1.heap.size + 1), 0 + k * 3, none⟩)) rfl rfl (by kernel_rfl) (by kernel_rfl) (by kernel_rfl) (fun _ _ _ h => h) (by kernel_rfl) (fun v _ => rd_index (m := m) (c := m) rfl (by kernel_rfl) (by kernel_rfl) hlt2) hS ?_
          refine rd_take 4 75 (.pointer (some ⟨(v1.heap.size + 1), 0 + k * 3, none⟩)) rfl rfl (by kernel_rfl) (by kernel_rfl) (by kernel_rfl) (fun _ _ _ h => h) (by kernel_rfl) (fun v _ => by kernel_rfl) hS ?_
          refine rd_take 5 76 (.bool y.l) rfl rfl (by kernel_rfl) (by kernel_rfl) (by kernel_rfl) (fun _ _ _ h => h) (by kernel_rfl) (fun v hv => rd_loadb rfl (by kernel_rfl) (HRC.out v hv).1) hS ?_
          refine rd_take 6 77 (.slice (some ⟨g, off, none⟩) m c) rfl rfl (by kernel_rfl) (by kernel_rfl) (by kernel_rfl) (fun _ _ _ h => h) (by kernel_rfl) (fun v _ => by kernel_rfl) hS ?_
          refine rd_take 7 78 (.int .i64 k) rfl rfl (by kernel_rfl) (by kernel_rfl) (by kernel_rfl) (fun _ _ _ h => h) (by kernel_rfl) (fun v _ => by kernel_rfl) hS ?_
          refine rd_take 8 79 (.pointer (some ⟨g, off + k * 3, none⟩)) rfl rfl (by kernel_rfl) (by kernel_rfl) (by kernel_rfl) (fun _ _ _ h => h) (by kernel_rfl) (fun v _ => rd_index (m := m) (c := c) rfl (by kernel_rfl) (by kernel_rfl) hlt2) hS ?_
          refine rd_take 9 80 (.pointer (some ⟨g, off + k * 3, none⟩)) rfl rfl (by kernel_rfl) (by kernel_rfl) (by kernel_rfl) (fun _ _ _ h => h) (by kernel_rfl) (fun v _ => by kernel_rfl) hS ?_
          refine rd_take 10 81 (.bool y.l) rfl rfl (by kernel_rfl) (by kernel_rfl) (by kernel_rfl) (fun _ _ _ h => h) (by kernel_rfl) (fun v hv => rd_loadb rfl (by kernel_rfl) (below_cell hv HAC.out.1)) hS ?_
          refine rd_take 11 82 (.bool false) rfl rfl (by kernel_rfl) (by kernel_rfl) (by kernel_rfl) (fun _ _ _ h => h) (by kernel_rfl) (fun v _ => rd_neb rfl (by kernel_rfl) (by kernel_rfl) (bne_self y.l)) hS ?_
          refine rd_take 12 83 (.bool false) rfl rfl (by kernel_rfl) (by kernel_rfl) (by kernel_rfl) (fun _ _ _ h => h) (by kernel_rfl) (fun v _ => by kernel_rfl) hS ?_
          refine rd_take 13 84 (.pointer (some ⟨w3.heap.size, 2, none⟩)) rfl rfl (by kernel_rfl) (by kernel_rfl) (by kernel_rfl) (fun _ _ _ h => h) (by kernel_rfl) (fun v _ => by kernel_rfl) hS ?_
          refine rd_take 14 85 (.slice (some ⟨(v1.heap.size + 1), 0, none⟩) m m) rfl rfl (by kernel_rfl) (by kernel_rfl) (by kernel_rfl) (fun _ _ _ h => h) (by kernel_rfl) (fun v hv => rd_loadL rfl (by kernel_rfl) (below_cell hv HQ2.out)) hS ?_
          refine rd_take 15 86 (.int .i64 k) rfl rfl (by kernel_rfl) (by kernel_rfl) (by kernel_rfl) (fun _ _ _ h => h) (by kernel_rfl) (fun v _ => by kernel_rfl) hS ?_
          refine rd_take 16 87 (.pointer (some ⟨(v1.heap.size + 1), 0 + k * 3, none⟩)) rfl rfl (by kernel_rfl) (by kernel_rfl) (by kernel_rfl) (fun _ _ _ h => h) (by kernel_rfl) (fun v _ => rd_index (m := m) (c := m) rfl (by kernel_rfl) (by kernel_rfl) hlt2) hS ?_
          refine rd_take 17 88 (.pointer (some ⟨(v1.heap.size + 1), 0 + k * 3 + 1, none⟩)) rfl rfl (by kernel_rfl) (by kernel_rfl) (by kernel_rfl) (fun _ _ _ h => h) (by kernel_rfl) (fun v _ => by kernel_rfl) hS ?_
          refine rd_take 18 89 (.slice y.ba y.bn y.bc) rfl rfl (by kernel_rfl) (by kernel_rfl) (by kernel_rfl) (fun _ _ _ h => h) (by kernel_rfl) (fun v hv => rd_loadB rfl (by kernel_rfl) (HRC.out v hv).2.1) hS ?_
          refine rd_take 19 90 (.slice (some ⟨g, off, none⟩) m c) rfl rfl (by kernel_rfl) (by kernel_rfl) (by kernel_rfl) (fun _ _ _ h => h) (by kernel_rfl) (fun v _ => by kernel_rfl) hS ?_
          refine rd_take 20 91 (.int .i64 k) rfl rfl (by kernel_rfl) (by kernel_rfl) (by kernel_rfl) (fun _ _ _ h => h) (by kernel_rfl) (fun v _ => by kernel_rfl) hS ?_
          refine rd_take 21 92 (.pointer (some ⟨g, off + k * 3, none⟩)) rfl rfl (by kernel_rfl) (by kernel_rfl) (by kernel_rfl) (fun _ _ _ h => h) (by kernel_rfl) (fun v _ => rd_index (m := m) (c := c) rfl (by kernel_rfl) (by kernel_rfl) hlt2) hS ?_
          refine rd_take 22 93 (.pointer (some ⟨g, off + k * 3 + 1, none⟩)) rfl rfl (by kernel_rfl) (by kernel_rfl) (by kernel_rfl) (fun _ _ _ h => h) (by kernel_rfl) (fun v _ => by kernel_rfl) hS ?_
          refine rd_take 23 94 (.slice y.ba y.bn y.bc) rfl rfl (by kernel_rfl) (by kernel_rfl) (by kernel_rfl) (fun _ _ _ h => h) (by kernel_rfl) (fun v hv => rd_loadB rfl (by kernel_rfl) (below_cell hv HAC.out.2.1)) hS ?_
          refine wpAnyH_ready (rs := [24]) (by kernel_rfl) (by simp) ?_
          refine rd_call 24 95 rfl rfl (by kernel_rfl) 9 #[.slice y.ba y.bn y.bc, .slice y.ba y.bn y.bc] (by kernel_rfl) (R := fun v w' => v = .bool true ∧ w' = wr.drew) ((HSM.out _ hS).mono fun e w' h => ⟨_, h.1, rfl, h.2⟩) (fun v w' h => by rw [h.2]; exact hS) ?_ AllReadyH.nil
          rintro v w6 ⟨rfl, rfl⟩
          refine rd_take 25 96 (.bool false) rfl rfl (by kernel_rfl) (by kernel_rfl) (by kernel_rfl) (fun _ _ _ h => h) (by kernel_rfl) (fun v _ => by kernel_rfl) hS ?_
          refine rd_take 26 97 (.bool false) rfl rfl (by kernel_rfl) (by kernel_rfl) (by kernel_rfl) (fun _ _ _ h => h) (by kernel_rfl) (fun v _ => by kernel_rfl) hS ?_
          refine rd_take 27 98 (.bool false) rfl rfl (by kernel_rfl) (by kernel_rfl) (by kernel_rfl) (fun _ _ _ h => h) (by kernel_rfl) (fun v _ => by kernel_rfl) hS ?_
          refine rd_take 28 99 (.pointer (some ⟨w3.heap.size, 2, none⟩)) rfl rfl (by kernel_rfl) (by kernel_rfl) (by kernel_rfl) (fun _ _ _ h => h) (by kernel_rfl) (fun v _ => by kernel_rfl) hS ?_
          refine rd_take 29 100 (.slice (some ⟨(v1.heap.size + 1), 0, none⟩) m m) rfl rfl (by kernel_rfl) (by kernel_rfl) (by kernel_rfl) (fun _ _ _ h => h) (by kernel_rfl) (fun v hv => rd_loadL rfl (by kernel_rfl) (below_cell hv HQ2.out)) hS ?_
          refine rd_take 30 101 (.int .i64 k) rfl rfl (by kernel_rfl) (by kernel_rfl) (by kernel_rfl) (fun _ _ _ h => h) (by kernel_rfl) (fun v _ => by kernel_rfl) hS ?_
          refine rd_take 31 102 (.pointer (some ⟨(v1.heap.size + 1), 0 + k * 3, none⟩)) rfl rfl (by kernel_rfl) (by kernel_rfl) (by kernel_rfl) (fun _ _ _ h => h) (by kernel_rfl) (fun v _ => rd_index (m := m) (c := m) rfl (by kernel_rfl) (by kernel_rfl) hlt2) hS ?_
          refine rd_take 32 103 (.pointer (some ⟨(v1.heap.size + 1), 0 + k * 3 + 2, none⟩)) rfl rfl (by kernel_rfl) (by kernel_rfl) (by kernel_rfl) (fun _ _ _ h => h) (by kernel_rfl) (fun v _ => by kernel_rfl) hS ?_
          refine rd_take 33 104 (.slice y.ia y.m y.ic) rfl rfl (by kernel_rfl) (by kernel_rfl) (by kernel_rfl) (fun _ _ _ h => h) (by kernel_rfl) (fun v hv => rd_loadL rfl (by kernel_rfl) (HRC.out v hv).2.2) hS ?_
          refine rd_take 34 105 (.int .i64 y.m) rfl rfl (by kernel_rfl) (by kernel_rfl) (by kernel_rfl) (fun _ _ _ h => h) (by kernel_rfl) (fun v _ => by kernel_rfl) hS ?_
          refine rd_take 35 106 (.slice (some ⟨g, off, none⟩) m c) rfl rfl (by kernel_rfl) (by kernel_rfl) (by kernel_rfl) (fun _ _ _ h => h) (by kernel_rfl) (fun v _ => by kernel_rfl) hS ?_
          refine rd_take 36 107 (.int .i64 k) rfl rfl (by kernel_rfl) (by kernel_rfl) (by kernel_rfl) (fun _ _ _ h => h) (by kernel_rfl) (fun v _ => by kernel_rfl) hS ?_
          refine rd_take 37 108 (.pointer (some ⟨g, off + k * 3, none⟩)) rfl rfl (by kernel_rfl) (by kernel_rfl) (by kernel_rfl) (fun _ _ _ h => h) (by kernel_rfl) (fun v _ => rd_index (m := m) (c := c) rfl (by kernel_rfl) (by kernel_rfl) hlt2) hS ?_
          refine rd_take 38 109 (.pointer (some ⟨g, off + k * 3 + 2, none⟩)) rfl rfl (by kernel_rfl) (by kernel_rfl) (by kernel_rfl) (fun _ _ _ h => h) (by kernel_rfl) (fun v _ => by kernel_rfl) hS ?_
          refine rd_take 39 110 (.slice y.ia y.m y.ic) rfl rfl (by kernel_rfl) (by kernel_rfl) (by kernel_rfl) (fun _ _ _ h => h) (by kernel_rfl) (fun v hv => rd_loadL rfl (by kernel_rfl) (below_cell hv HAC.out.2.2)) hS ?_
          refine rd_take 40 111 (.int .i64 y.m) rfl rfl (by kernel_rfl) (by kernel_rfl) (by kernel_rfl) (fun _ _ _ h => h) (by kernel_rfl) (fun v _ => by kernel_rfl) hS ?_
          refine rd_take 41 112 (.bool false) rfl rfl (by kernel_rfl) (by kernel_rfl) (by kernel_rfl) (fun _ _ _ h => h) (by kernel_rfl) (fun v _ => rd_nei rfl (by kernel_rfl) (by kernel_rfl) (bne_selfi y.m)) hS ?_
          refine rd_take 42 113 (.bool false) rfl rfl (by kernel_rfl) (by kernel_rfl) (by kernel_rfl) (fun _ _ _ h => h) (by kernel_rfl) (fun v _ => by kernel_rfl) hS ?_
          refine wpAnyH_done (by kernel_rfl) ?_ _
          have HS2 := Hid.mk hS
          clear hS
          refine cut_at (F := ⟨#[.slice ab nb' cb, .slice (some ⟨g, off, none⟩) m c, undef, undef, u4, .slice a1 nb' c1, .pointer (some ⟨w2.heap.size, 0, none⟩), u7, .pointer (some ⟨w3.heap.size, 0, none⟩), .int .i64 k, .slice ab nb' cb, .slice a1 nb' c1, .slice a1 nb' c1, .agg #[.bool false, .slice (some ⟨w1.heap.size + 1, 0, none⟩) nb' nb', .slice none 0 0], .slice a1 nb' c1, .int .i64 nb', .int .i64 j, .bool false, u18, u19, u20, u21, u22, u23, u24, u25, .slice (some ⟨g, off, none⟩) m c, .agg #[.bool true, .slice none 0 0, .slice (some ⟨(v1.heap.size + 1), 0, none⟩) m m], .pointer (some ⟨w2.heap.size, 0, none⟩), .bool false, .bool false, .pointer (some ⟨w2.heap.size, 2, none⟩), .slice none 0 0, .int .i64 0, .bool false, .bool false, .bool false, .pointer (some ⟨w2.heap.size, 1, none⟩), .slice (some ⟨w1.heap.size + 1, 0, none⟩) nb' nb', .slice ab nb' cb, .bool true, .bool false, .bool false, .bool false, .pointer (some ⟨w3.heap.size, 0, none⟩), .bool true, .bool false, .bool false, .bool false, .pointer (some ⟨w3.heap.size, 1, none⟩), .slice none 0 0, .int .i64 0, .bool false, .bool false, .bool false, .pointer (some ⟨w3.heap.size, 2, none⟩), .slice (some ⟨(v1.heap.size + 1), 0, none⟩) m m, .int .i64 m, .slice (some ⟨g, off, none⟩) m c, .int .i64 m, .bool false, .bool false, .bool false, .bool true, .bool false, .bool false, .slice (some ⟨g, off, none⟩) m c, .int .i64 m, .int .i64 k, .bool true, .int .i64 k, .pointer (some ⟨w3.heap.size, 2, none⟩), .slice (some ⟨(v1.heap.size + 1), 0, none⟩) m m, .int .i64 k, .pointer (some ⟨(v1.heap.size + 1), 0 + k * 3, none⟩), .pointer (some ⟨(v1.heap.size + 1), 0 + k * 3, none⟩), .bool y.l, .slice (some ⟨g, off, none⟩) m c, .int .i64 k, .pointer (some ⟨g, off + k * 3, none⟩), .pointer (some ⟨g, off + k * 3, none⟩), .bool y.l, .bool false, .bool false, .pointer (some ⟨w3.heap.size, 2, none⟩), .slice (some ⟨(v1.heap.size + 1), 0, none⟩) m m, .int .i64 k, .pointer (some ⟨(v1.heap.size + 1), 0 + k * 3, none⟩), .pointer (some ⟨(v1.heap.size + 1), 0 + k * 3 + 1, none⟩), .slice y.ba y.bn y.bc, .slice (some ⟨g, off, none⟩) m c, .int .i64 k, .pointer (some ⟨g, off + k * 3, none⟩), .pointer (some ⟨g, off + k * 3 + 1, none⟩), .slice y.ba y.bn y.bc, .bool true, .bool false, .bool false, .bool false, .pointer (some ⟨w3.heap.size, 2, none⟩), .slice (some ⟨(v1.heap.size + 1), 0, none⟩) m m, .int .i64 k, .pointer (some ⟨(v1.heap.size + 1), 0 + k * 3, none⟩), .pointer (some ⟨(v1.heap.size + 1), 0 + k * 3 + 2, none⟩), .slice y.ia y.m y.ic, .int .i64 y.m, .slice (some ⟨g, off, none⟩) m c, .int .i64 k, .pointer (some ⟨g, off + k * 3, none⟩), .pointer (some ⟨g, off + k * 3 + 2, none⟩), .slice y.ia y.m y.ic, .int .i64 y.m, .bool false, .bool false, u114], []⟩) (by kernel_rfl) ?_
          refine hkk _ _ ?_
          clear hkk HRC HAC HSM HA HY
          go_wp2_with fail
          exact ⟨⟨k + 1, by omega, by simp, HS2.out⟩, by simp [intOf]; omega⟩
          -- END
        · have hki : ¬ (k : Int) < m := by omega
          go_wp2_with fail
          go_ret
          exact ⟨rfl, below_go HBW5.out HBV.out⟩
end Go.Proofs.Ytkbdkenpblcofab
