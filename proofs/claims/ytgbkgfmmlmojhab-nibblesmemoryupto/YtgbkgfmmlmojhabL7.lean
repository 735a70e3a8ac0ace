/- That NibblesMemory answers true. -/
import Derived.Test.YtgbkgfmmlmojhabV1
import Derived.Test.YtgbkgfmmlmojhabD3
import Derived.ArgAppend
namespace Go.Proofs.Ytgbkgfmmlmojhab
open Go.RowKit
set_option linter.unusedVariables false
/-- Bytes that may be written over: n of them in block g, from a place on. -/
def Soft (g off n : Nat) (v : World) : Prop := ∃ (cur : Array Value) (bs : List Int), v.heap[g]? = some (.cells cur 5) ∧ bs.length = n ∧ ∀ j, j < n → cur[off + j]? = some (.int .u8 (bs.getD j 0))
theorem Soft.cell {g off n : Nat} {v : World} (h : Soft g off n v) {j : Nat} (hj : j < n) : ∃ z, v.cell? ⟨g, off + j, none⟩ = some (.int .u8 z) := by
  obtain ⟨cur, bs, h1, h2, h3⟩ := h
  exact ⟨_, by rw [cell_of_row _ _ _ _ _ _ h1]; exact h3 j hj⟩
theorem Soft.frozen {g off n : Nat} {v : World} (h : Soft g off n v) (o : Nat) : v.frozen? ⟨g, o, none⟩ = false := by
  obtain ⟨cur, bs, h1, _⟩ := h
  exact frozen_of_row _ _ _ _ _ h1
theorem getD_set {bs : List Int} {i j : Nat} {z : Int} (hi : i < bs.length) : (bs.set i z).getD j 0 = if i = j then z else bs.getD j 0 := by
  rw [List.getD, List.getD, List.getElem?_set]
  by_cases h : i = j
  · subst h
    rw [if_pos rfl, if_pos rfl, if_pos hi]
    rfl
  · rw [if_neg h, if_neg h]
theorem Soft.write {g off n : Nat} {v : World} (h : Soft g off n v) {j : Nat} (hj : j < n) (z : Int) : Soft g off n (v.setCell ⟨g, off + j, none⟩ (.int .u8 z)) := by
  obtain ⟨cur, bs, h1, h2, h3⟩ := h
  refine ⟨cur.setIfInBounds (off + j) (.int .u8 z), bs.set j z, heap_setCell_same _ _ _ _ _ _ h1, by rw [List.length_set]; exact h2, fun i hi => ?_⟩
  have hlt : off + j < cur.size := (Array.getElem?_eq_some_iff.1 (h3 j hj)).1
  rw [getD_set (by omega), Array.getElem?_setIfInBounds]
  by_cases e : j = i
  · subst e
    rw [if_pos rfl, if_pos hlt, if_pos rfl]
  · rw [if_neg (by omega), if_neg e]
    exact h3 i hi
theorem Soft.other {g off n : Nat} {v : World} (h : Soft g off n v) {g' o : Nat} (hg : g ≠ g') (x : Value) : Soft g off n (v.setCell ⟨g', o, none⟩ x) := by
  obtain ⟨cur, bs, h1, h2, h3⟩ := h
  exact ⟨cur, bs, (heap_setCell_other _ _ _ _ hg).trans h1, h2, h3⟩
theorem Soft.below {g off n : Nat} {v v' : World} (h : Soft g off n v) (hb : Below v.heap.size v v') : Soft g off n v' := by
  obtain ⟨cur, bs, h1, h2, h3⟩ := h
  exact ⟨cur, bs, Below.row hb h1, h2, h3⟩
theorem Soft.lt {g off n : Nat} {v : World} (h : Soft g off n v) : g < v.heap.size := by
  obtain ⟨cur, bs, h1, _⟩ := h
  exact lt_of_get h1
theorem Cut.soft {w : World} {base : Nat} {a : Option Addr} {n : Nat} {bs : List Int} (h : Cut w base a n bs) (hn : 0 < n) : ∃ g off, a = some ⟨g, off, none⟩ ∧ base ≤ g ∧ Soft g off n w := by
  obtain ⟨g, off, cur, h1, h2, h3⟩ := h.own hn
  obtain ⟨g', off', e1, _, _, hc⟩ := ag_head h.ag hn
  rw [h1] at e1
  injection e1 with e1
  injection e1 with e2 e3
  subst e2 e3
  refine ⟨g, off, h1, h2, cur, bs, h3, h.ag.l, fun j hj => ?_⟩
  have := hc j hj
  rwa [cell_of_row _ _ _ _ _ _ h3] at this
/-- What is left as it is, and what may be written over. -/
structure Mem (w1 w2 : World) (a1 a2 : Option Addr) (n m : Nat) (v : World) : Prop where
  bel : Below w1.heap.size w1 v
  le : w1.heap.size ≤ w2.heap.size
  p1 : 0 < n → ∃ g off, a1 = some ⟨g, off, none⟩ ∧ (w1.heap.size ≤ g ∧ g < w2.heap.size) ∧ Soft g off n v
  p2 : 0 < m → ∃ g off, a2 = some ⟨g, off, none⟩ ∧ w2.heap.size ≤ g ∧ Soft g off m v
theorem Mem.write1 {w1 w2 : World} {g off : Nat} {a2 : Option Addr} {n m : Nat} {v : World} (h : Mem w1 w2 (some ⟨g, off, none⟩) a2 n m v) {j : Nat} (hj : j < n) (z : Int) : Mem w1 w2 (some ⟨g, off, none⟩) a2 n m (v.setCell ⟨g, off + j, none⟩ (.int .u8 z)) := by
  obtain ⟨g', off', e, ⟨q1, q2⟩, hs⟩ := h.p1 (by omega)
  cases e
  refine ⟨h.bel.setCell q1 _, h.le, fun _ => ⟨g, off, rfl, ⟨q1, q2⟩, hs.write hj z⟩, fun hm => ?_⟩
  obtain ⟨g2, off2, e2, q3, hs2⟩ := h.p2 hm
  exact ⟨g2, off2, e2, q3, hs2.other (by omega) _⟩
theorem Mem.write2 {w1 w2 : World} {g off : Nat} {a1 : Option Addr} {n m : Nat} {v : World} (h : Mem w1 w2 a1 (some ⟨g, off, none⟩) n m v) {j : Nat} (hj : j < m) (z : Int) : Mem w1 w2 a1 (some ⟨g, off, none⟩) n m (v.setCell ⟨g, off + j, none⟩ (.int .u8 z)) := by
  obtain ⟨g', off', e, q1, hs⟩ := h.p2 (by omega)
  cases e
  refine ⟨h.bel.setCell (Nat.le_trans h.le q1) _, h.le, fun hn => ?_, fun _ => ⟨g, off, rfl, q1, hs.write hj z⟩⟩
  obtain ⟨g2, off2, e2, q3, hs2⟩ := h.p1 hn
  exact ⟨g2, off2, e2, q3, hs2.other (by omega) _⟩
theorem app_full {w : World} {ops : Array Oper} {rest : List Oper} {o : Oper} {a : Act} {Q : Exit → Act → World → Prop} (hgd : o.guard = none) (s x : Operand)
    (ho : o.op = .call { callee := .builtin .append, args := #[s, x], argTypes := #[22, 22] }) (a2 : Option Addr) (m : Nat) (hs : a.eval s = .slice a2 m m) (hnil : a2 = none → m = 0)
    (hsoft : 0 < m → ∃ g off, a2 = some ⟨g, off, none⟩ ∧ Soft g off m w) (ad : Addr) (z : Int) (hx : a.eval x = .slice (some ad) 1 1) (hc : w.cell? ad = some (.int .u8 z)) (hm : m ≤ 4194304)
    (h : ∀ a' c' w', Below w.heap.size w w' → wpList Try.prog ops Q rest (a.put o.dst (.slice a' (m + 1) c')) w') : wpList Try.prog ops Q (o :: rest) a w := by
  obtain ⟨i, hi, hz, hsz, hby⟩ := info5
  obtain ⟨bs, hl, hb⟩ : ∃ bs : List Int, bs.length = m ∧ ∀ b, a2 = some b → ∀ j u, (bs.map (Value.int .u8))[j]? = some u → w.cell? (b.add j) = some u := by
    by_cases hp : 0 < m
    · obtain ⟨g, off, rfl, cur, bs, h1, h2, h3⟩ := hsoft hp
      refine ⟨bs, h2, fun b e j u hu => ?_⟩
      injection e with e
      subst e
      have hj : j < bs.length := by have := (List.getElem?_eq_some_iff.1 hu).1; simpa using this
      rw [addr_add, cell_of_row _ _ _ _ _ _ h1, h3 j (by omega), ← hu]
      simp [List.getElem?_eq_getElem hj]
    · exact ⟨[], by simp; omega, fun b _ j u hu => by simp at hu⟩
  refine wpList_append_grows w hgd s x 22 ho 5 i (.int .u8 0) 1 1 Try.underlying22 hi hz hsz hby rfl (by decide) a2 m m (bs.map (Value.int .u8)) hs (fun e => ⟨hnil e, hnil e⟩) (by simpa using hl) hb ad 1 1 [.int .u8 z] hx rfl ?_ ?_ (by omega) (by unfold maxLen; omega) (by omega) ?_
  · intro j u hu
    cases j with
    | zero =>
      simp at hu
      subst hu
      have : ad.add 0 = ad := by obtain ⟨b, o, sp⟩ := ad; have := World.cell?_spot hc; simp at this; subst this; rfl
      rw [this]
      exact hc
    | succ j => simp at hu
  · intro u hu
    have : u = .int .u8 z := by simpa using hu
    subst this
    rfl
  · intro v' w' h1 h2
    have ho : OwnB w' w.heap.size v' (bs ++ [z]) := by
      unfold OwnB
      rw [List.length_append, hl, List.map_append]
      exact h1
    obtain ⟨a', c', hv, _⟩ := ho.in0
    rw [List.length_append, hl] at hv
    subst hv
    exact h a' c' w' ((Below.refl _ _).grown h2 (Nat.le_refl _) (fun k hk => by cases hk))
theorem unpackL (a : Option Addr) (n c : Nat) (b : List Int) (w : World) (h : Ag w a n c b) (hn : 2 * n ≤ 140737488355328) :
    Calls Try.prog 5 #[.slice a n c] w fun e w' => (∃ a', e = .returned (.tuple #[.slice a' (unpP b).1.length (unpP b).1.length, .bool (unpP b).2.1, .int .i64 ((unpP b).2.2 : Nat)]) ∧ Cut w' w.heap.size a' (unpP b).1.length (unpP b).1) ∧ Below w.heap.size w w' := by
  refine (unpack_any a n c b w h hn).mono ?_
  rintro e w' ⟨⟨a', m, rfl, hc⟩, hb⟩
  have := hc.ag.l
  subst this
  exact ⟨⟨a', rfl, hc⟩, hb⟩
theorem runpackL (a : Option Addr) (n c : Nat) (b : List Int) (w : World) (h : Ag w a n c b) (hn : 2 * n ≤ 140737488355328) :
    Calls Try.prog 6 #[.slice a n c] w fun e w' => (∃ a' c', e = .returned (.tuple #[.slice a' (unpP b).1.length c', .bool (unpP b).2.1, .int .i64 ((unpP b).2.2 : Nat)]) ∧ Ag w' a' (unpP b).1.length c' (unpP b).1) ∧ Below w.heap.size w w' := by
  refine (runpack_any a n c b w h hn).mono ?_
  rintro e w' ⟨⟨a', m, c', rfl, hc⟩, hb⟩
  have := hc.l
  subst this
  exact ⟨⟨a', c', rfl, hc⟩, hb⟩
set_option maxRecDepth 20000 in
set_option maxHeartbeats 4000000 in
theorem memory_law (a : Option Addr) (n c : Nat) (b : List Int) (hn : n ≤ 1048576) (w : World) (h : Ag w a n c b) :
    Calls Try.prog 3 #[.slice a n c] w fun e w' => e = .returned (.bool true) ∧ Below w.heap.size w w' := by
  have HAG := Hid.mk h
  clear h
  go_enter Try.func3, Try.ntmps3
  go_wp2_with (first | (at_builtin; refine app_any rfl (.const (.slice none 0 0)) (.tmp 16) rfl w.heap.size _ [] rfl (ownB_nil w _) a n c b rfl HAG.out.i HAG.out.nil HAG.out.l (by simp; omega) (Nat.le_refl _) ?_; intro v1 w1 o1 hb1; rw [List.nil_append] at o1; obtain ⟨a1, c1, rfl, hag1⟩ := OwnB.ag o1 HAG.out.b; rw [HAG.out.l] at hag1; rw [HAG.out.l]; have HA1 := Hid.mk hag1; have HB1 := Hid.mk hb1; clear o1 hb1 hag1))
  obtain ⟨N, hN⟩ : ∃ N, 2 * n = N := ⟨_, rfl⟩
  obtain ⟨⟨ub, ul, ue⟩, hU⟩ : ∃ u, unpP b = u := ⟨_, rfl⟩
  obtain ⟨M, hM⟩ : ∃ M, ub.length = M := ⟨_, rfl⟩
  have hNb : N ≤ 2097152 := by omega
  have hMb : M ≤ 2097152 := by have h1 := unp_le b; rw [hU] at h1; simp only at h1; have := HAG.out.l; omega
  have hO := fun v (hb : Below w1.heap.size w1 v) => of_any a1 n c1 b v (HA1.out.at hb) (by omega)
  have hP := fun v (hb : Below w1.heap.size w1 v) => unpackL a1 n c1 b v (HA1.out.at hb) (by omega)
  have hRP := fun v (hb : Below w.heap.size w v) => runpackL a n c b v (HAG.out.at hb) (by omega)
  have hRO := fun v (hb : Below w.heap.size w v) => rof_any a n c b v (HAG.out.at hb) (by omega)
  rw [hN] at hO hRO
  rw [hU] at hP hRP
  simp only at hP hRP
  rw [hM] at hP hRP
  generalize ((ue : Nat) : Int) = ei at hP hRP
  have HO := Hid.mk hO
  have HP := Hid.mk hP
  have HRP := Hid.mk hRP
  have HRO := Hid.mk hRO
  clear hN hU hM hO hP hRP hRO
  refine (HO.out _ (Below.refl _ _)).mono ?_
  rintro e w2 ⟨⟨p1, rfl, hcut1⟩, hb2⟩
  have HC1 := Hid.mk hcut1
  have HB2 := Hid.mk hb2
  clear hcut1 hb2
  go_wp2_with fail
  refine (HP.out _ HB2.out).mono ?_
  rintro e w3 ⟨⟨q1, rfl, hcut2⟩, hb3⟩
  have hmem : Mem w1 w2 p1 q1 N M w3 := by
    refine ⟨below_go HB2.out hb3, HB2.out.size, fun hp => ?_, fun hp => ?_⟩
    · obtain ⟨g, off, e1, e2, e3⟩ := HC1.out.soft hp
      exact ⟨g, off, e1, ⟨e2, e3.lt⟩, e3.below hb3⟩
    · exact hcut2.soft hp
  have HMEM := Hid.mk hmem
  have HQN : Hid (q1 = none → M = 0) := Hid.mk fun h => (hcut2.ag.nil h).1
  clear hmem hcut2 hb3 HC1
  go_wp2_with fail
  go_loopw [28] (fun i v => ∃ j : Nat, j ≤ N ∧ i = .int .i64 j ∧ Mem w1 w2 p1 q1 N M v) (fun i _ => N - (intOf i).toNat)
  case atStart => exact ⟨0, by omega, rfl, HMEM.out⟩
  case round =>
    clear HMEM
    obtain ⟨j, hj, rfl, K0⟩ := hrel
    have HK := Hid.mk K0
    clear K0
    by_cases hlt : j < N
    · have hji : (j : Int) < N := by omega
      obtain ⟨g, off, rfl, _, hs⟩ := HK.out.p1 (by omega)
      obtain ⟨z, hcell⟩ := hs.cell hlt
      have hfz := hs.frozen (off + j)
      have HN := Hid.mk (HK.out.write1 hlt 99)
      clear hs HK
      go_wp2_with fail
      exact ⟨⟨j + 1, by omega, by simp, HN.out⟩, by simp [intOf]; omega⟩
    · obtain ⟨v1, rfl⟩ : ∃ v1, v1 = wr := ⟨wr, rfl⟩
      have hji : ¬ (j : Int) < N := by omega
      go_wp2_with fail
      go_loopw [37] (fun i v => ∃ k : Nat, k ≤ M ∧ i = .int .i64 k ∧ Mem w1 w2 p1 q1 N M v) (fun i _ => M - (intOf i).toNat)
      case atStart => exact ⟨0, by omega, rfl, HK.out⟩
      case round =>
        clear HK
        obtain ⟨k, hk, rfl, K0⟩ := hrel
        have HK := Hid.mk K0
        clear K0
        by_cases hlt2 : k < M
        · have hki : (k : Int) < M := by omega
          obtain ⟨g, off, rfl, _, hs⟩ := HK.out.p2 (by omega)
          obtain ⟨z, hcell⟩ := hs.cell hlt2
          have hfz := hs.frozen (off + k)
          have HN := Hid.mk (HK.out.write2 hlt2 98)
          clear hs HK
          go_wp2_with fail
          exact ⟨⟨k + 1, by omega, by simp, HN.out⟩, by simp [intOf]; omega⟩
        · obtain ⟨v2, rfl⟩ : ∃ v2, v2 = wr := ⟨wr, rfl⟩
          have hki : ¬ (k : Int) < M := by omega
          have HSO : Hid (0 < M → ∃ g off, q1 = some ⟨g, off, none⟩ ∧ Soft g off M (v2.alloc (.cells #[.int .u8 97] 5))) := Hid.mk fun hp => by
            obtain ⟨g, off, e1, _, e3⟩ := HK.out.p2 hp
            exact ⟨g, off, e1, e3.below (below_new _ _)⟩
          have HCE : Hid ((v2.alloc (.cells #[.int .u8 97] 5)).cell? ⟨v2.heap.size, 0, none⟩ = some (.int .u8 97)) := Hid.mk (by rw [cell_of_row _ _ _ _ _ _ (heap_alloc_new _ _)]; rfl)
          have HBV := Hid.mk (below_go HK.out.bel (below_new v2 (.cells #[.int .u8 97] 5)))
          clear HK
          go_wp2_with (first | (at_builtin; refine app_full rfl (.tmp 44) (.tmp 45) rfl q1 M rfl HQN.out HSO.out ⟨v2.heap.size, 0, none⟩ 97 rfl HCE.out (by omega) ?_; intro a5 c5 w5 hb5; have HB5 := Hid.mk (below_go HBV.out hb5); clear hb5))
          refine (HP.out _ HB5.out).mono ?_
          rintro e w6 ⟨⟨r1, rfl, hcut⟩, hb⟩
          have HR1 := Hid.mk hcut.ag
          have HB6 := Hid.mk (below_go HB5.out hb)
          have HW6 := Hid.mk (HB1.out.trans (HB6.out.mono HB1.out.size))
          clear hcut hb HB5 HCE HSO HBV
          go_wp2_with fail
          refine (HRP.out _ HW6.out).mono ?_
          rintro e w7 ⟨⟨t1, d1, rfl, hag⟩, hb⟩
          have HT1 := Hid.mk hag
          have HR1 := Hid.mk (HR1.out.at hb)
          have HB7 := Hid.mk (below_go HB6.out hb)
          clear hag hb
          go_wp2_with fail
          refine (alive_any _).mono ?_
          rintro e w8 ⟨rfl, hb⟩
          have HT1 := Hid.mk (HT1.out.at hb)
          have HR1 := Hid.mk (HR1.out.at hb)
          have HB8 := Hid.mk (below_go HB7.out hb)
          have HW8 := Hid.mk (HB1.out.trans (HB8.out.mono HB1.out.size))
          clear hb
          have hs := same_any _ _ _ _ _ _ _ _ _ (HA1.out.at HB8.out) (HAG.out.at HW8.out)
          rw [decide_eq_true rfl] at hs
          have HS := Hid.mk hs
          clear hs
          go_wp2_with fail
          refine HS.out.mono ?_
          rintro e w9 ⟨rfl, rfl⟩
          clear HS
          go_wp2_with fail
          refine (HO.out _ HB8.out).mono ?_
          rintro e w10 ⟨⟨x1, rfl, hcut⟩, hb⟩
          have HX1 := Hid.mk hcut.ag
          have HT1 := Hid.mk (HT1.out.at hb)
          have HR1 := Hid.mk (HR1.out.at hb)
          have HB10 := Hid.mk (below_go HB8.out hb)
          have HW10 := Hid.mk (HB1.out.trans (HB10.out.mono HB1.out.size))
          clear hcut hb
          go_wp2_with fail
          refine (HRO.out _ HW10.out).mono ?_
          rintro e w11 ⟨⟨y1, d2, rfl, _, _, hag⟩, hb⟩
          have hs := same_any _ _ _ _ _ _ _ _ _ (HX1.out.at hb) hag
          rw [decide_eq_true rfl] at hs
          have HS := Hid.mk hs
          have hs2 := same_any _ _ _ _ _ _ _ _ _ (HR1.out.at hb) (HT1.out.at hb)
          rw [decide_eq_true rfl] at hs2
          have HS2 := Hid.mk hs2
          have HW11 := Hid.mk (below_go HW10.out hb)
          clear hs hs2 hag hb
          go_wp2_with fail
          refine HS.out.mono ?_
          rintro e w12 ⟨rfl, rfl⟩
          go_wp2_with fail
          refine HS2.out.mono ?_
          rintro e w13 ⟨rfl, rfl⟩
          go_wp2_with fail
          go_ret
          exact ⟨rfl, HW11.out⟩
end Go.Proofs.Ytgbkgfmmlmojhab
