/- That NestMemory answers true. -/
import Derived.Test.YtkbdkenpblcofabK3
import Derived.Test.YtkbdkenpblcofabG6
namespace Go.Proofs.Ytkbdkenpblcofab
open Go.RowKit
set_option linter.unusedVariables false
theorem ownB_nil5 (w : World) (base : Nat) : OwnB w base (.slice none 0 0) [] := ⟨rfl, .inl ⟨rfl, rfl⟩⟩
/-- A row of bytes, whatever they are. -/
def SoftM (g n : Nat) (v : World) : Prop := ∃ cur : Array Value, v.heap[g]? = some (.cells cur 5) ∧ ∀ j, j < n → ∃ z : Int, (0 ≤ z ∧ z < 256) ∧ cur[j]? = some (.int .u8 z)
theorem SoftM.write {g n : Nat} {v : World} (h : SoftM g n v) {o : Nat} {z : Int} (hz : 0 ≤ z ∧ z < 256) : SoftM g n (v.setCell ⟨g, o, none⟩ (.int .u8 z)) := by
  obtain ⟨cur, h1, h2⟩ := h
  refine ⟨_, heap_setCell_same v g o cur 5 _ h1, fun j hj => ?_⟩
  obtain ⟨y, hy, hc⟩ := h2 j hj
  by_cases e : o = j
  · subst e
    exact ⟨z, hz, by rw [Array.getElem?_setIfInBounds_self_of_lt (lt_of_get hc)]⟩
  · exact ⟨y, hy, by rw [Array.getElem?_setIfInBounds_ne e]; exact hc⟩
theorem own_softM {w : World} {base : Nat} {a : Option Addr} {n c : Nat} {bs : List Int} (h : OwnB w base (.slice a n c) bs) (hb : ∀ x ∈ bs, 0 ≤ x ∧ x < 256) (hl : bs.length = n) (hn : 0 < n) : ∃ g, a = some ⟨g, 0, none⟩ ∧ base ≤ g ∧ g < w.heap.size ∧ n ≤ c ∧ c ≤ maxLen ∧ SoftM g n w := by
  obtain ⟨_, h2⟩ := h
  rcases h2 with ⟨_, h2⟩ | ⟨g, cap, cur, hv, hg, hh, hn2, hcap, hsz, ht⟩
  · omega
  · injection hv with e1 e2 e3
    subst e1 e3
    refine ⟨g, rfl, hg, lt_of_get hh, by omega, hcap, cur, hh, fun j hj => ⟨bs.getD j 0, hb _ (by rw [List.getD, List.getElem?_eq_getElem (by omega)]; exact List.getElem_mem _), ?_⟩⟩
    have e : (cur.toList.take (bs.length * 1))[j]? = (bs.map (Value.int .u8))[j]? := by rw [ht]
    rw [List.getElem?_take_of_lt (by omega)] at e
    simp at e
    rw [e]
    simp [List.getElem?_eq_getElem (show j < bs.length by omega)]
/-- While own's bytes are written over: nothing else is touched. -/
structure Me (w w1 W3 : World) (a1 : Option Addr) (n c1 : Nat) (v : World) : Prop where
  bel : Below w.heap.size w v
  size : W3.heap.size ≤ v.heap.size
  keep : ∀ k, w1.heap.size ≤ k → k < W3.heap.size → v.heap[k]? = W3.heap[k]?
  soft : 0 < n → ∃ g, a1 = some ⟨g, 0, none⟩ ∧ (w.heap.size ≤ g ∧ g < w1.heap.size ∧ n ≤ c1 ∧ c1 ≤ maxLen) ∧ SoftM g n v
theorem Me.write {w w1 W3 : World} {g n c1 : Nat} {v : World} (h : Me w w1 W3 (some ⟨g, 0, none⟩) n c1 v) (hn : 0 < n) {o : Nat} {z : Int} (hz : 0 ≤ z ∧ z < 256) : Me w w1 W3 (some ⟨g, 0, none⟩) n c1 (v.setCell ⟨g, o, none⟩ (.int .u8 z)) := by
  obtain ⟨g', e, ⟨q1, q2, q3⟩, hs⟩ := h.soft hn
  cases e
  exact ⟨h.bel.setCell q1 _, by simpa using h.size, fun k hk hk2 => (heap_setCell_other _ _ _ _ (show k ≠ g by omega)).trans (h.keep k hk hk2), fun _ => ⟨g, rfl, ⟨q1, q2, q3⟩, hs.write hz⟩⟩
def decT : RT → T
  | .bad _ => .mk false [] []
  | .ok t => t
def decE : RT → Int
  | .bad er => (er : Nat)
  | .ok _ => 0
theorem dec_out {w : World} {r : RT} {e : Ending} {w' : World} (h : DecPost w r e w') : ∃ y : V, e = .returned (.tuple #[.agg #[.bool y.l, .slice y.ba y.bn y.bc, .slice y.ia y.m y.ic], .int .i64 (decE r)]) ∧ LiesP (fun b => w.heap.size ≤ b) w' (decT r) y ∧ Below w.heap.size w w' := by
  obtain ⟨hb, h⟩ := h
  cases r with
  | bad er => exact ⟨⟨false, none, 0, 0, none, 0, 0⟩, h.1, liesP_eq.2 ⟨⟨rfl, ag_nil _, rfl, Nat.le_refl _, by show 0 ≤ maxLen; unfold maxLen; omega, ⟨by show 0 ≤ 140737488351232; omega, by show 0 ≤ 140737488351232; omega⟩, fun g off e => by cases e⟩, liesPAll_nil⟩, hb⟩
  | ok t =>
    obtain ⟨y, h1, h2⟩ := h
    exact ⟨y, h1, h2, hb⟩
set_option maxRecDepth 20000 in
set_option maxHeartbeats 4000000 in
theorem memory_law (ab : Option Addr) (nb' cb : Nat) (b : List Int) (hn : nb' ≤ 140737488351232) (w : World) (hag : Ag w ab nb' cb b) :
    Calls Try.prog 6 #[.slice ab nb' cb] w fun e w' => e = .returned (.bool true) ∧ Below w.heap.size w w' := by
  have HAG := Hid.mk hag
  clear hag
  have HDEC : Hid (∀ a c v, Ag v a nb' c b → Calls Try.prog 14 #[.slice a nb' c] v (DecPost v (decP b))) := Hid.mk fun a c v h => decode_any a nb' c b v h hn
  have HREF : Hid (∀ a c v, Ag v a nb' c b → Calls Try.prog 15 #[.slice a nb' c] v (DecPost v (decP b))) := Hid.mk fun a c v h => rDecode_any a nb' c b v h hn
  generalize decP b = R at HDEC HREF
  go_enter Try.func6, Try.ntmps6
  go_wp2_with (first | (at_builtin; refine app_any rfl (.const (.slice none 0 0)) (.tmp 11) rfl w.heap.size _ [] rfl (ownB_nil5 w _) ab nb' cb b rfl HAG.out.i HAG.out.nil HAG.out.l (by simp; omega) (Nat.le_refl _) ?_; intro v1 w1 o1 hb1; rw [List.nil_append] at o1; obtain ⟨a1, c1, rfl, hag1⟩ := OwnB.ag o1 HAG.out.b; rw [HAG.out.l] at hag1 o1 ⊢; have HO1 := Hid.mk o1; have HB1 := Hid.mk hb1; have HA1 := Hid.mk hag1; clear o1 hb1 hag1))
  refine (HDEC.out a1 c1 w1 HA1.out).mono ?_
  intro e w2 hd2
  obtain ⟨y1, rfl, hl1, hb2⟩ := dec_out hd2
  obtain ⟨E, hE⟩ : ∃ E, decE R = E := ⟨_, rfl⟩
  rw [hE]
  have HE := Hid.mk hE
  clear hd2 hE
  have HL1 := Hid.mk hl1
  have HB2 := Hid.mk hb2
  have HBA := Hid.mk (below_go HB1.out (below_go hb2 (below_new w2 (.cells #[.bool y1.l, .slice y1.ba y1.bn y1.bc, .slice y1.ia y1.m y1.ic] 25))))
  have HBX := Hid.mk (b1_new w2 y1)
  clear hl1 hb2
  go_wp2_with fail
  refine (HREF.out ab cb _ (HAG.out.at HBA.out)).mono ?_
  intro e w3 hd3
  obtain ⟨y2, rfl, hl2, hb3⟩ := dec_out hd3
  rw [HE.out]
  obtain ⟨W2, hW2⟩ : ∃ W2, w2.alloc (.cells #[.bool y1.l, .slice y1.ba y1.bn y1.bc, .slice y1.ia y1.m y1.ic] 25) = W2 := ⟨_, rfl⟩
  have hs2 : W2.heap.size = w2.heap.size + 1 := by rw [← hW2]; simp
  have hn2 : Below w2.heap.size w2 W2 := by rw [← hW2]; exact below_new _ _
  rw [hW2] at HBA HBX hl2 hb3
  clear hW2 hd3
  have HL2 := Hid.mk hl2
  have HB3 := Hid.mk hb3
  have HS2 := Hid.mk hs2
  have HN2 := Hid.mk hn2
  have HBY := Hid.mk (b1_new w3 y2)
  have HN3 := Hid.mk (below_new w3 (.cells #[.bool y2.l, .slice y2.ba y2.bn y2.bc, .slice y2.ia y2.m y2.ic] 25))
  clear hl2 hb3 hs2 hn2
  go_wp2_with fail
  obtain ⟨W3, hW3⟩ : ∃ W3, w3.alloc (.cells #[.bool y2.l, .slice y2.ba y2.bn y2.bc, .slice y2.ia y2.m y2.ic] 25) = W3 := ⟨_, rfl⟩
  have hs3 : W3.heap.size = w3.heap.size + 1 := by rw [← hW3]; simp
  rw [hW3] at HBY HN3 ⊢
  clear hW3
  have HS3 := Hid.mk hs3
  clear hs3
  have HME : Hid (Me w w1 W3 a1 nb' c1 W3) := Hid.mk ⟨below_go (below_go HBA.out HB3.out) HN3.out, Nat.le_refl _, fun _ _ _ => rfl, fun hp => by
    obtain ⟨g, e1, e2, e3, e4, e5, cur, e6, e7⟩ := own_softM HO1.out HAG.out.b HAG.out.l hp
    exact ⟨g, e1, ⟨e2, e3, e4, e5⟩, cur, Below.row (below_go (below_go (below_go HB2.out HN2.out) HB3.out) HN3.out) e6, e7⟩⟩
  clear HO1 HA1
  go_loopw [25] (fun i v => ∃ j : Nat, j ≤ nb' ∧ i = .int .i64 j ∧ Me w w1 W3 a1 nb' c1 v) (fun i _ => nb' - (intOf i).toNat)
  case atStart => exact ⟨0, by omega, rfl, HME.out⟩
  case round =>
    clear HME
    obtain ⟨j, hj, rfl, K0⟩ := hrel
    have HK := Hid.mk K0
    clear K0
    by_cases hlt : j < nb'
    · have hji : (j : Int) < nb' := by omega
      obtain ⟨g, rfl, ⟨q1, q2, q3, q4⟩, cur, hcur, hcell0⟩ := HK.out.soft (by omega)
      obtain ⟨z, ⟨hz0, hz1⟩, hcj⟩ := hcell0 j hlt
      unfold maxLen at q4
      have hcell : wr.cell? ⟨g, j, none⟩ = some (.int .u8 z) := by rw [cell_of_row _ _ _ _ _ _ hcur]; exact hcj
      have hfz : wr.frozen? ⟨g, j, none⟩ = false := frozen_of_row _ _ _ _ _ hcur
      have HN := Hid.mk (fun z' (h : 0 ≤ z' ∧ z' < 256) => HK.out.write (o := j) (z := z') (by omega) h)
      clear hcur hcell0 hcj
      go_wp2_with fail
      exact ⟨⟨j + 1, by omega, by simp, HN.out _ (by omega)⟩, by simp [intOf]; omega⟩
    · have hji : ¬ (j : Int) < nb' := by omega
      obtain ⟨v1, rfl⟩ : ∃ v1, v1 = wr := ⟨wr, rfl⟩
      have z1 := HB2.out.size
      have z2 := HS2.out
      have z3 := HB3.out.size
      have z4 := HS3.out
      have z5 := HK.out.size
      have hx : ∀ k, w1.heap.size ≤ k → k < W2.heap.size → v1.heap[k]? = W2.heap[k]? := fun k h1 h2 => (HK.out.keep k h1 (by omega)).trans ((HN3.out.block k (by omega)).trans (HB3.out.block k h2))
      have lx : LiesP (fun b => w1.heap.size ≤ b ∧ b < w2.heap.size) v1 (decT R) y1 := liesP_mono (fun b hp hb => ⟨(hx b hp (by omega)).trans (HN2.out.block b hb), hp, hb⟩) _ _ HL1.out
      have ly : LiesP (fun b => W2.heap.size ≤ b) v1 (decT R) y2 := liesP_mono (fun b hp hb => ⟨(HK.out.keep b (by omega) (by omega)).trans (HN3.out.block b hb), hp⟩) _ _ HL2.out
      have bx : B1 w2.heap.size v1 y1 := by
        have e := hx w2.heap.size z1 (by omega)
        exact ⟨(World.cell?_of_block (w := W2) e).trans HBX.out.c0, (World.cell?_of_block (w := W2) e).trans HBX.out.c1, (World.cell?_of_block (w := W2) e).trans HBX.out.c2⟩
      have byy : B1 w3.heap.size v1 y2 := by
        have e := HK.out.keep w3.heap.size (by omega) (by omega)
        exact ⟨(World.cell?_of_block (w := W3) e).trans HBY.out.c0, (World.cell?_of_block (w := W3) e).trans HBY.out.c1, (World.cell?_of_block (w := W3) e).trans HBY.out.c2⟩
      have hsm : ∀ v x y, Lies v (decT R) x → Lies v (decT R) y → Calls Try.prog 11 #[.agg #[.bool x.l, .slice x.ba x.bn x.bc, .slice x.ia x.m x.ic], .agg #[.bool y.l, .slice y.ba y.bn y.bc, .slice y.ia y.m y.ic]] v fun e w' => e = .returned (.bool true) ∧ Below v.heap.size v w' := fun v x y h1 h2 => by
        have h := rsame_any (decT R) (decT R) x y v h1 h2
        rw [teq_true rfl] at h
        exact h
      have HSM := Hid.mk hsm
      have HLX := Hid.mk lx
      have HLY := Hid.mk ly
      have HPX := Hid.mk bx
      have HPY := Hid.mk byy
      have HBV := Hid.mk HK.out.bel
      have HZ : Hid (w.heap.size ≤ w1.heap.size ∧ w1.heap.size ≤ w2.heap.size ∧ w2.heap.size < W2.heap.size ∧ W2.heap.size ≤ w3.heap.size ∧ w3.heap.size < v1.heap.size) := Hid.mk ⟨HB1.out.size, z1, by omega, z3, by omega⟩
      clear z1 z2 z3 z4 z5 hx lx ly bx byy hsm HK HL1 HL2 HBX HBY HN3 HN2 HB3 HB2 HS3 HS2 HBA HB1
      obtain ⟨p0, p1, p2⟩ := HPX.out
      obtain ⟨q0, q1, q2⟩ := HPY.out
      go_wp2_with fail
      refine (HSM.out v1 y1 y2 (liesP_lies _ _ HLX.out) (liesP_lies _ _ HLY.out)).mono ?_
      rintro e w5 ⟨rfl, hb5⟩
      clear p0 p1 p2 q0 q1 q2
      obtain ⟨p0, p1, p2⟩ := HPX.out.go hb5
      have HPY5 := Hid.mk (HPY.out.go hb5)
      have HLX5 := Hid.mk (liesP_mono (Q := fun b => w1.heap.size ≤ b ∧ b < w2.heap.size) (fun b hp hb => ⟨hb5.block b hb, hp⟩) _ _ HLX.out)
      have HLY5 := Hid.mk (liesP_mono (Q := fun b => W2.heap.size ≤ b) (fun b hp hb => ⟨hb5.block b hb, hp⟩) _ _ HLY.out)
      have HB5 := Hid.mk (below_go HBV.out hb5)
      have HV5 := Hid.mk hb5.size
      clear hb5 HPX HPY HLX HLY HBV
      go_wp2_with fail
      refine (spoil_any _ _ _ y1 w5 (Nat.le_refl _) HLX5.out).mono ?_
      rintro e w6 ⟨rfl, hs6⟩
      clear p0 p1 p2
      have HZZ := HZ.out
      have hv5 := HV5.out
      have HB6 := Hid.mk (HB5.out.trans (⟨hs6.os, hs6.tape, hs6.output, hs6.size, fun k hk => hs6.frame k (by omega) (by omega)⟩ : Below w.heap.size w5 w6))
      have HPY6 : Hid (B1 w3.heap.size w6 y2) := Hid.mk ⟨hs6.cells _ _ _ HPY5.out.c0 (fun n e => by cases e), hs6.cells _ _ _ HPY5.out.c1 (fun n e => by cases e), hs6.cells _ _ _ HPY5.out.c2 (fun n e => by cases e)⟩
      have HLY6 := Hid.mk (liesP_mono (Q := fun b => W2.heap.size ≤ b) (fun b hp hb => ⟨hs6.frame b (by omega) hb, hp⟩) _ _ HLY5.out)
      clear hs6 HZZ hv5 HPY5 HLX5 HLY5 HB5 HV5
      go_wp2_with fail
      refine (HDEC.out ab cb w6 (HAG.out.at HB6.out)).mono ?_
      intro e w7 hd7
      obtain ⟨y3, rfl, hl3, hb7⟩ := dec_out hd7
      rw [HE.out]
      clear hd7
      have hn7 := below_new w7 (.cells #[.bool y3.l, .slice y3.ba y3.bn y3.bc, .slice y3.ia y3.m y3.ic] 25)
      have HPZ := Hid.mk (b1_new w7 y3)
      have HPY7 := Hid.mk (HPY6.out.go (below_go hb7 hn7))
      have HLY7 := Hid.mk (lies_mono (below_go hb7 hn7) _ _ (liesP_lies _ _ HLY6.out))
      have HLZ7 := Hid.mk (lies_mono hn7 _ _ (liesP_lies _ _ hl3))
      have HB7 := Hid.mk (below_go (below_go HB6.out hb7) hn7)
      clear hn7 hl3 hb7 HPY6 HLY6 HB6
      go_wp2_with fail
      refine (alive_any _).mono ?_
      rintro e w8 ⟨rfl, hb8⟩
      obtain ⟨p0, p1, p2⟩ := HPZ.out.go hb8
      obtain ⟨q0, q1, q2⟩ := HPY7.out.go hb8
      have HLY8 := Hid.mk (lies_mono hb8 _ _ HLY7.out)
      have HLZ8 := Hid.mk (lies_mono hb8 _ _ HLZ7.out)
      have HB8 := Hid.mk (below_go HB7.out hb8)
      clear hb8 HPZ HPY7 HLY7 HLZ7 HB7
      go_wp2_with fail
      refine (HSM.out w8 y3 y2 HLZ8.out HLY8.out).mono ?_
      rintro e w9 ⟨rfl, hb9⟩
      have HB9 := Hid.mk (below_go HB8.out hb9)
      clear hb9
      go_wp2_with fail
      go_ret
      exact ⟨rfl, HB9.out⟩
end Go.Proofs.Ytkbdkenpblcofab
