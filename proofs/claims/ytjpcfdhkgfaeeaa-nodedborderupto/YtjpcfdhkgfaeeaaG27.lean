/- In which order things are laid in is not seen: what stands of the lists of things. -/
import Derived.Test.YtjpcfdhkgfaeeaaG25
import Derived.Test.YtjpcfdhkgfaeeaaG26
namespace Go.Proofs.Ytjpcfdhkgfaeeaa
open Go.RowKit
open Di (dref dref_len)
set_option linter.unusedVariables false
set_option maxRecDepth 100000
def dg (t : ByteArray) : List Int := dref (nums t)
/-- How many of some texts have a digest. -/
def cnt (ts : List ByteArray) (d : List Int) : Nat := (ts.filter fun t => decide (dg t = d)).length
theorem cnt_app (ts : List ByteArray) (t : ByteArray) (d : List Int) : cnt (ts ++ [t]) d = cnt ts d + if dg t = d then 1 else 0 := by
  unfold cnt
  rw [List.filter_append, List.length_append]
  by_cases h : dg t = d <;> simp [h]
theorem cnt_rev (ts : List ByteArray) (d : List Int) : cnt ts.reverse d = cnt ts d := by
  unfold cnt
  rw [List.filter_reverse, List.length_reverse]
theorem cnt_le (ts : List ByteArray) (d : List Int) : cnt ts d ≤ ts.length := List.length_filter_le _ _
/-- Two unlike texts of one digest. -/
def Clash (ts : List ByteArray) : Prop := ∃ t ∈ ts, ∃ u ∈ ts, t ≠ u ∧ dg t = dg u
/-- What a list of things is, behind so many texts that were all taken. -/
structure Cn (L : List Th) (ts : List ByteArray) : Prop where
  iv : Iv L
  mem : ∀ y ∈ L, y.s ∈ ts ∧ dg y.s = y.d ∧ y.r = cnt ts y.d
  all : ∀ t ∈ ts, ∃ y ∈ L, y.d = dg t
  nc : ¬ Clash ts
theorem cn_nil : Cn [] [] := ⟨iv_nil, (fun y hy => by cases hy), (fun t ht => by cases ht), fun ⟨t, ht, _⟩ => by cases ht⟩
/-- Bounds that hold whatever is taken. -/
structure Bd (L : List Th) (k : Nat) : Prop where
  iv : Iv L
  len : L.length ≤ k
  refs : ∀ y ∈ L, y.r ≤ k
theorem bd_nil : Bd [] 0 := ⟨iv_nil, Nat.le_refl _, fun y hy => by cases hy⟩
theorem put_cases {L : List Th} {k : Nat} (h : Bd L k) {most : Int} (hm : (k : Int) < most) (hk : k < 4294967295) (t : ByteArray) :
    (findT (dg t) L = none ∧ putP most t L = (L ++ [⟨dg t, t, 1⟩], dg t, 0)) ∨
    (∃ j y, findT (dg t) L = some (j, y) ∧ y.s = t ∧ putP most t L = (L.set j ⟨dg t, t, y.r + 1⟩, dg t, 0)) ∨
    (∃ j y, findT (dg t) L = some (j, y) ∧ y.s ≠ t ∧ putP most t L = (L, z32, 60)) := by
  unfold dg
  cases hf : findT (dref (nums t)) L with
  | none =>
    left
    refine ⟨rfl, ?_⟩
    have hl := h.len
    unfold putP putT
    rw [hf]
    simp only
    rw [if_neg (by omega)]
  | some p =>
    obtain ⟨j, y⟩ := p
    right
    by_cases hs : y.s = t
    · left
      have hr := h.refs y (List.mem_of_getElem? (findT_some hf).1)
      refine ⟨j, y, rfl, hs, ?_⟩
      unfold putP putT
      rw [hf]
      simp only
      rw [if_neg (by simp [hs]), if_neg (by omega), hf]
    · right
      refine ⟨j, y, rfl, hs, ?_⟩
      unfold putP
      rw [hf]
      simp [hs]
theorem put_code {L : List Th} {k : Nat} (h : Bd L k) {most : Int} (hm : (k : Int) < most) (hk : k < 4294967295) (t : ByteArray) : (putP most t L).2.2 = 0 ∨ (putP most t L).2.2 = 60 := by
  rcases put_cases h hm hk t with ⟨_, e⟩ | ⟨j, y, _, _, e⟩ | ⟨j, y, _, _, e⟩ <;> rw [e] <;> simp
theorem put_bd {L : List Th} {k : Nat} (h : Bd L k) {most : Int} (hm : (k : Int) < most) (hk : k < 4294967295) {t : ByteArray} (ht : t.size ≤ 140737488351232) : Bd (putP most t L).1 (k + 1) := by
  refine ⟨h.iv.putP most ht, ?_, ?_⟩
  · have := putP_length most t L
    have := h.len
    omega
  · rcases put_cases h hm hk t with ⟨_, e⟩ | ⟨j, y, hf, _, e⟩ | ⟨j, y, _, _, e⟩ <;> rw [e] <;> intro z hz
    · rcases List.mem_append.1 hz with hz | hz
      · have := h.refs z hz; omega
      · simp at hz; subst hz; show (1 : Int) ≤ _; omega
    · rcases List.mem_or_eq_of_mem_set hz with hz | rfl
      · have := h.refs z hz; omega
      · have := h.refs y (List.mem_of_getElem? (findT_some hf).1)
        show y.r + 1 ≤ _
        omega
    · have := h.refs z hz; omega
theorem mem_set_other {L : List Th} {j : Nat} {y x z : Th} (hn : (L.map Th.d).Nodup) (hj : L[j]? = some y) (hx : x.d = y.d) (hz : z ∈ L.set j x) : z = x ∨ (z ∈ L ∧ z.d ≠ y.d) := by
  obtain ⟨i, hi⟩ := List.mem_iff_getElem?.1 hz
  by_cases hij : j = i
  · subst hij
    rw [List.getElem?_set_self (List.getElem?_eq_some_iff.1 hj).1] at hi
    cases hi
    exact .inl rfl
  · rw [List.getElem?_set_ne hij] at hi
    refine .inr ⟨List.mem_of_getElem? hi, fun e => hij ?_⟩
    have h1 := find_self hn hj
    have h2 := find_self hn hi
    rw [e, h1] at h2
    cases h2
    rfl
theorem put_cn {L : List Th} {ts : List ByteArray} {k : Nat} (h : Cn L ts) (hb : Bd L k) {most : Int} (hm : (k : Int) < most) (hk : k < 4294967295) {t : ByteArray} (ht : t.size ≤ 140737488351232) (h0 : (putP most t L).2.2 = 0) : Cn (putP most t L).1 (ts ++ [t]) := by
  have hiv := h.iv.putP most ht
  rcases put_cases hb hm hk t with ⟨hf, e⟩ | ⟨j, y, hf, hys, e⟩ | ⟨j, y, _, _, e⟩
  · rw [e] at hiv ⊢
    have hno : ∀ u ∈ ts, dg u ≠ dg t := fun u hu q => by
      obtain ⟨z, hz, hzd⟩ := h.all u hu
      exact findT_none hf z hz (by rw [hzd, q])
    refine ⟨hiv, fun z hz => ?_, fun u hu => ?_, ?_⟩
    · rcases List.mem_append.1 hz with hz | hz
      · obtain ⟨h1, h2, h3⟩ := h.mem z hz
        have hne : dg t ≠ z.d := fun q => hno z.s h1 (by rw [h2, q])
        refine ⟨List.mem_append_left _ h1, h2, ?_⟩
        rw [cnt_app, if_neg hne, h3]
        rfl
      · simp at hz
        subst hz
        refine ⟨by simp, rfl, ?_⟩
        rw [cnt_app, if_pos rfl]
        have : cnt ts (dg t) = 0 := by
          unfold cnt
          rw [List.length_eq_zero_iff, List.filter_eq_nil_iff]
          intro u hu
          simpa using hno u hu
        rw [this]
        rfl
    · rcases List.mem_append.1 hu with hu | hu
      · obtain ⟨z, hz, hzd⟩ := h.all u hu
        exact ⟨z, List.mem_append_left _ hz, hzd⟩
      · rw [List.mem_singleton] at hu
        rw [hu]
        exact ⟨⟨dg t, t, 1⟩, List.mem_append_right _ (by simp), rfl⟩
    · rintro ⟨u, hu, v, hv, hne, hd⟩
      rcases List.mem_append.1 hu with hu1 | hu1 <;> rcases List.mem_append.1 hv with hv1 | hv1
      · exact h.nc ⟨u, hu1, v, hv1, hne, hd⟩
      · rw [List.mem_singleton] at hv1
        exact hno u hu1 (by rw [hd, hv1])
      · rw [List.mem_singleton] at hu1
        exact hno v hv1 (by rw [← hd, hu1])
      · rw [List.mem_singleton] at hu1 hv1
        exact hne (by rw [hu1, hv1])
  · rw [e] at hiv ⊢
    obtain ⟨hj, hyd⟩ := findT_some hf
    have hy := h.mem y (List.mem_of_getElem? hj)
    have hall : ∀ u ∈ ts, dg u = dg t → u = t := fun u hu q => Classical.byContradiction fun hne => h.nc ⟨u, hu, t, by rw [← hys]; exact hy.1, hne, q⟩
    refine ⟨hiv, fun z hz => ?_, fun u hu => ?_, ?_⟩
    · rcases mem_set_other h.iv.nd hj (show (⟨dg t, t, y.r + 1⟩ : Th).d = y.d from hyd.symm) hz with rfl | ⟨hz, hne⟩
      · refine ⟨by simp, rfl, ?_⟩
        show y.r + 1 = _
        rw [cnt_app, if_pos rfl, hy.2.2, hyd]
        rfl
      · obtain ⟨h1, h2, h3⟩ := h.mem z hz
        refine ⟨List.mem_append_left _ h1, h2, ?_⟩
        rw [cnt_app, if_neg (fun q => hne (by rw [← q, hyd])), h3]
        rfl
    · have hjl := (List.getElem?_eq_some_iff.1 hj).1
      by_cases hu2 : dg u = dg t
      · exact ⟨_, List.mem_iff_getElem?.2 ⟨j, List.getElem?_set_self hjl⟩, hu2.symm⟩
      · rcases List.mem_append.1 hu with hu | hu
        · obtain ⟨z, hz, hzd⟩ := h.all u hu
          obtain ⟨i, hi⟩ := List.mem_iff_getElem?.1 hz
          have hij : j ≠ i := fun q => by
            subst q
            rw [hj] at hi
            cases hi
            exact hu2 (by rw [← hzd, hyd])
          exact ⟨z, List.mem_iff_getElem?.2 ⟨i, by rw [List.getElem?_set_ne hij]; exact hi⟩, hzd⟩
        · simp at hu
          subst hu
          exact absurd rfl hu2
    · rintro ⟨u, hu, v, hv, hne, hd⟩
      have hu' : u ∈ ts := by
        rcases List.mem_append.1 hu with hu | hu
        · exact hu
        · simp at hu; rw [hu, ← hys]; exact hy.1
      have hv' : v ∈ ts := by
        rcases List.mem_append.1 hv with hv | hv
        · exact hv
        · simp at hv; rw [hv, ← hys]; exact hy.1
      exact h.nc ⟨u, hu', v, hv', hne, hd⟩
  · rw [e] at h0
    simp at h0
theorem put_clash {L : List Th} {ts : List ByteArray} {k : Nat} (h : Cn L ts) (hb : Bd L k) {most : Int} (hm : (k : Int) < most) (hk : k < 4294967295) {t : ByteArray} (h0 : (putP most t L).2.2 = 60) : Clash (ts ++ [t]) := by
  rcases put_cases hb hm hk t with ⟨_, e⟩ | ⟨j, y, _, _, e⟩ | ⟨j, y, hf, hys, e⟩
  · rw [e] at h0; simp at h0
  · rw [e] at h0; simp at h0
  · obtain ⟨hj, hyd⟩ := findT_some hf
    have hy := h.mem y (List.mem_of_getElem? hj)
    exact ⟨y.s, List.mem_append_left _ hy.1, t, by simp, hys, by rw [hy.2.1, hyd]⟩
theorem Clash.mono {ts us : List ByteArray} (h : Clash ts) (hs : ∀ t ∈ ts, t ∈ us) : Clash us := by
  obtain ⟨t, ht, u, hu, h⟩ := h
  exact ⟨t, hs t ht, u, hs u hu, h⟩
theorem cn_keys {L M : List Th} {ts us : List ByteArray} (h : Cn L ts) (k : Cn M us) (hs : ∀ t, t ∈ ts ↔ t ∈ us) : (L.map Th.d).Perm (M.map Th.d) := by
  refine (List.perm_ext_iff_of_nodup h.iv.nd k.iv.nd).2 fun d => ?_
  constructor
  · intro hd
    obtain ⟨y, hy, rfl⟩ := List.mem_map.1 hd
    obtain ⟨h1, h2, _⟩ := h.mem y hy
    obtain ⟨z, hz, hzd⟩ := k.all y.s ((hs _).1 h1)
    exact List.mem_map.2 ⟨z, hz, by rw [hzd, h2]⟩
  · intro hd
    obtain ⟨y, hy, rfl⟩ := List.mem_map.1 hd
    obtain ⟨h1, h2, _⟩ := k.mem y hy
    obtain ⟨z, hz, hzd⟩ := h.all y.s ((hs _).2 h1)
    exact List.mem_map.2 ⟨z, hz, by rw [hzd, h2]⟩
theorem cn_get {L M : List Th} {ts us : List ByteArray} (h : Cn L ts) (k : Cn M us) (hs : ∀ t, t ∈ ts ↔ t ∈ us) (hc : ∀ d, cnt ts d = cnt us d) {d : List Int} (hd : d ∈ L.map Th.d) : ∃ s r, getT d L = (s, r, true) ∧ getT d M = (s, r, true) ∧ 1 ≤ r := by
  obtain ⟨y, hy, rfl⟩ := List.mem_map.1 hd
  obtain ⟨h1, h2, h3⟩ := h.mem y hy
  obtain ⟨z, hz, hzd⟩ := k.all y.s ((hs _).1 h1)
  obtain ⟨k1, k2, k3⟩ := k.mem z hz
  have hsz : z.s = y.s := Classical.byContradiction fun hne => h.nc ⟨z.s, (hs _).2 k1, y.s, h1, hne, by rw [k2, hzd]⟩
  have hdz : z.d = y.d := by rw [hzd, h2]
  obtain ⟨i, hi⟩ := List.mem_iff_getElem?.1 hy
  obtain ⟨j, hj⟩ := List.mem_iff_getElem?.1 hz
  refine ⟨y.s, y.r, get_self h.iv.nd hi, ?_, (h.iv.rng y hy).1⟩
  rw [← hdz, get_self k.iv.nd hj, hsz, k3, h3, hc, hdz]
end Go.Proofs.Ytjpcfdhkgfaeeaa
/- In which order things are laid in is not seen: the law NodedbOrder. -/
namespace Go.Proofs.Ytjpcfdhkgfaeeaa
open Go.RowKit
set_option linter.unusedVariables false
set_option maxRecDepth 100000
/-- Two stores, and the reference's own in its box. -/
structure Oz (W v : World) (g m g2 m2 gr : Nat) (most : Int) (L M Lr : List Th) (a : Option Addr) (n c : Nat) : Prop where
  st : Sto v g m most L
  s2 : Sto v g2 m2 most M
  rb : SBx gr v most a n c
  ls : Ls v a n c Lr
  bel : Below W.heap.size W v
section
variable {W v v' : World} {g m g2 m2 gr k : Nat} {most : Int} {L L' M M' Lr : List Th} {a : Option Addr} {n c : Nat}
/-- Five blocks, no two of them one. -/
structure Sep (W : World) (g m g2 m2 gr : Nat) : Prop where
  a : W.heap.size ≤ g ∧ W.heap.size ≤ m ∧ W.heap.size ≤ g2 ∧ W.heap.size ≤ m2 ∧ W.heap.size ≤ gr
  b : m ≠ g2 ∧ m ≠ m2 ∧ m ≠ gr ∧ m2 ≠ g ∧ m2 ≠ gr ∧ gr ≠ g ∧ gr ≠ g2
theorem Oz.go (h : Oz W v g m g2 m2 gr most L M Lr a n c) (hb : Below v.heap.size v v') : Oz W v' g m g2 m2 gr most L M Lr a n c := ⟨h.st.go hb, h.s2.go hb, h.rb.go hb, h.ls.go hb, below_go h.bel hb⟩
theorem Oz.drew (h : Oz W v g m g2 m2 gr most L M Lr a n c) : Oz W v.drew g m g2 m2 gr most L M Lr a n c := h.go (Below.refl _ _).drew
theorem Oz.put1 (h : Oz W v g m g2 m2 gr most L M Lr a n c) (s : Sep W g m g2 m2 gr) (hs : Sto v' g m most L') (t : Touch m v v') : Oz W v' g m g2 m2 gr most L' M Lr a n c :=
  ⟨hs, ⟨t.row h.s2.row (by have := s.b; omega), h.s2.mp.keep (fun hl => t.block m2 hl (by have := s.b; omega)), h.s2.ne⟩, t.row h.rb (by have := s.b; omega), h.ls.touch h.st.mp t, touch_below h.bel t s.a.2.1⟩
theorem Oz.put2 (h : Oz W v g m g2 m2 gr most L M Lr a n c) (s : Sep W g m g2 m2 gr) (hs : Sto v' g2 m2 most M') (t : Touch m2 v v') : Oz W v' g m g2 m2 gr most L M' Lr a n c :=
  ⟨⟨t.row h.st.row (by have := s.b; omega), h.st.mp.keep (fun hl => t.block m hl (by have := s.b; omega)), h.st.ne⟩, hs, t.row h.rb (by have := s.b; omega), h.ls.touch h.s2.mp t, touch_below h.bel t s.a.2.2.2.1⟩
/-- A block of its own is written. -/
theorem Oz.box (h : Oz W v g m g2 m2 gr most L M Lr a n c) {C0 C : Array Value} {T : TypeId} (hk : v.heap[k]? = some (.cells C0 T (0, 0))) (hC : C0.size ≤ 33) (hW : W.heap.size ≤ k) (hne : k ≠ g ∧ k ≠ m ∧ k ≠ g2 ∧ k ≠ m2 ∧ k ≠ gr) (hp : Put v v' k C) : Oz W v' g m g2 m2 gr most L M Lr a n c := by
  have hb := hp.below h.bel hW h.bel.size
  obtain ⟨rfl⟩ := hp
  exact ⟨h.st.res hne.1 hne.2.1, h.s2.res hne.2.2.1 hne.2.2.2.1, (setRow_other _ _ _ _ (by omega)).trans h.rb, h.ls.one (h.ls.nbox hk hC), hb⟩
theorem Oz.setr (h : Oz W v g m g2 m2 gr most L M Lr a n c) (s : Sep W g m g2 m2 gr) {a' : Option Addr} {n' c' : Nat} {Lz : List Th} (hl : Ls v a' n' c' Lz) (hp : Put v v' gr #[.int .i64 most, .slice a' n' c']) : Oz W v' g m g2 m2 gr most L M Lz a' n' c' := by
  have hb := hp.below h.bel s.a.2.2.2.2 h.bel.size
  have hr := hp.row h.rb
  obtain ⟨rfl⟩ := hp
  have := s.b
  exact ⟨h.st.res (by omega) (by omega), h.s2.res (by omega) (by omega), hr, hl.one (hl.nbox h.rb (by simp)), hb⟩
end
theorem sbx_set0 {g : Nat} {v : World} {m m' : Int} {a : Option Addr} {n c : Nat} (h : SBx g v m a n c) : SBx g (v.setCell ⟨g, 0, none⟩ (.int .i64 m')) m' a n c := by
  obtain ⟨hlt, hk⟩ := Array.getElem?_eq_some_iff.1 h
  show (v.heap.modify g _)[g]? = _
  rw [Array.getElem?_eq_getElem (by rw [Array.size_modify]; exact hlt), Array.getElem_modify_self, hk]
  rfl
theorem ol_set0 {ρ : Operand → Value} {w : World} {o : Oper} (x y : Operand) {g : Nat} {m m' : Int} {a : Option Addr} {n c : Nat} (h : SBx g w m a n c) (ho : o.op = .store 3 x y) (hx : ρ x = .pointer (some ⟨g, 0, none⟩)) (hy : ρ y = .int .i64 m') : (execOp ρ o).run Try.prog w = .ok .skip (w.setCell ⟨g, 0, none⟩ (.int .i64 m')) := by
  have hc := h.c0
  have hf := h.fz 0
  unfold execOp
  rw [ho]
  simp only [hx, hy]
  go_simp
theorem Ds.rng {w : World} {g off n c : Nat} {M : List (List Int)} (h : Ds w (some ⟨g, off, none⟩) n c M) {j : Nat} {d : List Int} (hj : M[j]? = some d) : w.rangeAt g (off + j * 32) (d.map (Value.int .u8)) := by
  obtain ⟨g', off', e, hr⟩ := h.rows j d hj
  cases e
  exact hr
theorem take_rev {ts : List ByteArray} {k : Nat} {t : ByteArray} (hk : k < ts.length) (ht : ts[ts.length - 1 - k]? = some t) : ts.reverse.take (k + 1) = ts.reverse.take k ++ [t] := by
  rw [List.take_succ_eq_append_getElem (by simpa using hk), List.getElem_reverse]
  have := (List.getElem?_eq_some_iff.1 ht).2
  simp only [this]
theorem take_fwd {ts : List ByteArray} {k : Nat} {t : ByteArray} (ht : ts[k]? = some t) : ts.take (k + 1) = ts.take k ++ [t] := by
  obtain ⟨h1, h2⟩ := List.getElem?_eq_some_iff.1 ht
  rw [List.take_succ_eq_append_getElem h1, h2]
set_option maxHeartbeats 16000000 in
theorem order_law (a : Option Addr) (n c : Nat) (ts : List ByteArray) (W : World) (hC : Tx W a n c ts) :
    Calls Try.prog 4 #[.slice a n c] W fun e W' => e = .returned (.bool true) ∧ Below W.heap.size W W' := by
  have hnl := hC.le
  refine cw_enter Try.func4 rfl 144 rfl ?_
  show CW _ _ _ _ _ _ _ [(0, .slice a n c)] _
  refine cw_seq ?_
  refine cw_region ?_
  refine rw_p 2 (.bool false) (fun _ => by kernel_rfl) (fun _ => by kernel_rfl) ?_
  refine rw_nil ?_
  refine nw_then ?_
  refine cw_seq ?_
  refine cw_region ?_
  refine rw_p 24 (.slice a n c) (fun _ => by kernel_rfl) (fun _ => by kernel_rfl) ?_
  refine rw_p 25 (.int .i64 n) (fun _ => by kernel_rfl) (fun _ => by kernel_rfl) ?_
  refine rw_call 26 9 #[.int .i64 n] (fun _ => by kernel_rfl) (fun _ => by kernel_rfl) (R := fun val w' => ∃ g m, val = .tuple #[.pointer (some ⟨g, 0, none⟩), .bool true] ∧ Sto w' g m ((n : Nat) : Int) [] ∧ W.heap.size ≤ g ∧ W.heap.size ≤ m ∧ Below W.heap.size W w') ((begun_any ((n : Nat) : Int) W).mono (fun e w' h => by obtain ⟨⟨g, m, rfl, h1, h2, h3⟩, hb⟩ := h; exact ⟨_, rfl, g, m, rfl, h1, h2, h3, hb⟩)) ?_
  rintro val u0 ⟨g, m, rfl, hst0, hg0, hm0, hb0⟩
  refine rw_p 23 (.tuple #[.pointer (some ⟨g, 0, none⟩), .bool true]) (fun _ => by kernel_rfl) (fun _ => by kernel_rfl) ?_
  refine rw_p 27 (.pointer (some ⟨g, 0, none⟩)) (fun _ => by kernel_rfl) (fun _ => by kernel_rfl) ?_
  refine rw_p 28 (.bool true) (fun _ => by kernel_rfl) (fun _ => by kernel_rfl) ?_
  refine rw_p 3 (.pointer (some ⟨g, 0, none⟩)) (fun _ => by kernel_rfl) (fun _ => by kernel_rfl) ?_
  refine rw_p 4 (.bool true) (fun _ => by kernel_rfl) (fun _ => by kernel_rfl) ?_
  refine rw_nil ?_
  refine nw_then ?_
  refine cw_seq ?_
  refine cw_region ?_
  refine rw_p 29 (.slice a n c) (fun _ => by kernel_rfl) (fun _ => by kernel_rfl) ?_
  refine rw_p 30 (.int .i64 n) (fun _ => by kernel_rfl) (fun _ => by kernel_rfl) ?_
  refine rw_call 31 16 #[.int .i64 n] (fun _ => by kernel_rfl) (fun _ => by kernel_rfl) (R := fun val w' => ∃ g m, val = .pointer (some ⟨g, 0, none⟩) ∧ Sto w' g m ((n : Nat) : Int) [] ∧ u0.heap.size ≤ g ∧ u0.heap.size ≤ m ∧ Below u0.heap.size u0 w') ((new_any ((n : Nat) : Int) u0).mono (fun e w' h => by obtain ⟨⟨g, m, rfl, h1, h2, h3⟩, hb⟩ := h; exact ⟨_, rfl, g, m, rfl, h1, h2, h3, hb⟩)) ?_
  rintro val u1 ⟨g2, m2, rfl, hst1, hg2, hm2, hb1⟩
  refine rw_p 5 (.pointer (some ⟨g2, 0, none⟩)) (fun _ => by kernel_rfl) (fun _ => by kernel_rfl) ?_
  refine rw_nil ?_
  refine nw_then ?_
  refine cw_seq ?_
  refine cw_seq ?_
  refine cw_region ?_
  refine rw_p 32 (.bool true) (fun _ => by kernel_rfl) (fun _ => by kernel_rfl) ?_
  refine rw_p 33 (.bool false) (fun _ => by kernel_rfl) (fun _ => by kernel_rfl) ?_
  refine rw_p 34 (.bool false) (fun _ => by kernel_rfl) (fun _ => by kernel_rfl) ?_
  refine rw_p 35 (.pointer (some ⟨g2, 0, none⟩)) (fun _ => by kernel_rfl) (fun _ => by kernel_rfl) ?_
  refine rw_p 36 (.bool false) (fun _ => by kernel_rfl) (fun _ => by kernel_rfl) ?_
  refine rw_p 37 (.bool false) (fun _ => by kernel_rfl) (fun _ => by kernel_rfl) ?_
  refine rw_nil ?_
  refine nw_then ?_
  refine cw_cond_f (fun _ => by kernel_rfl) ?_
  refine cw_skip ?_
  refine nw_then ?_
  refine cw_seq ?_
  refine cw_region ?_
  refine rw_new 6 #[.int .i64 0, .slice none 0 0] 28 (fun _ => by kernel_rfl) (fun _ => by kernel_rfl) ?_
  intro u2 gr hn2
  refine rw_nil ?_
  refine nw_then ?_
  refine cw_seq ?_
  refine cw_region ?_
  refine rw_p 38 (.slice a n c) (fun _ => by kernel_rfl) (fun _ => by kernel_rfl) ?_
  refine rw_p 39 (.int .i64 n) (fun _ => by kernel_rfl) (fun _ => by kernel_rfl) ?_
  refine rw_p 40 (.pointer (some ⟨gr, 0, none⟩)) (fun _ => by kernel_rfl) (fun _ => by kernel_rfl) ?_
  have hrb0 : SBx gr u2 0 none 0 0 := hn2.row
  refine rw_set1 gr 0 (.int .i64 ((n : Nat) : Int)) (fun _ => by kernel_rfl) (fun _ => ol_set0 _ _ hrb0 rfl (by kernel_rfl) (by kernel_rfl)) ?_
  intro u3 hs3
  have hl0 := hst0.lts
  have hl1 := hst1.lts
  have hz0 := hb0.size
  have hz1 := hb1.size
  have hz2 := hn2.hg
  have hsep : Sep W g m g2 m2 gr := ⟨by omega, by omega⟩
  have hbl : Below W.heap.size W u3 := hs3.touch.below (below_go (below_go hb0 hb1) hn2.below) (by omega) (by have := hn2.size; omega)
  have hZ0 : Oz W u3 g m g2 m2 gr ((n : Nat) : Int) [] [] [] none 0 0 := by
    have h1 : Sto u2 g m ((n : Nat) : Int) [] := (hst0.go hb1).go hn2.below
    have h2 : Sto u2 g2 m2 ((n : Nat) : Int) [] := hst1.go hn2.below
    refine ⟨?_, ?_, ?_, ⟨rfl, ⟨Nat.le_refl _, by unfold maxLen; omega⟩, fun _ => ⟨rfl, rfl⟩, fun j x h => by simp at h, fun x hx => by cases hx⟩, hbl⟩
    · obtain ⟨rfl⟩ := hs3; exact h1.other (by omega) (by omega)
    · obtain ⟨rfl⟩ := hs3; exact h2.other (by omega) (by omega)
    · obtain ⟨rfl⟩ := hs3; exact sbx_set0 hrb0
  refine rw_nil ?_
  refine nw_then ?_
  refine cw_seq ?_
  refine cw_seq ?_
  refine cw_region ?_
  refine rw_p 41 (.slice a n c) (fun _ => by kernel_rfl) (fun _ => by kernel_rfl) ?_
  refine rw_p 42 (.int .i64 n) (fun _ => by kernel_rfl) (fun _ => by kernel_rfl) ?_
  refine rw_p 43 (.int .i64 0) (fun _ => by kernel_rfl) (fun _ => by kernel_rfl) ?_
  refine rw_nil ?_
  refine nw_then ?_
  refine cw_block ?_
  refine cw_loop (X := (Nat × (List Th × List Th) × Option Addr × Nat × Nat)) (fun x : (Nat × (List Th × List Th) × Option Addr × Nat × Nat) => [(0, .slice a n c), (3, .pointer (some ⟨g, 0, none⟩)), (5, .pointer (some ⟨g2, 0, none⟩)), (6, .pointer (some ⟨gr, 0, none⟩)), (42, .int .i64 ((n : Nat) : Int)), (43, .int .i64 ((x.1 : Nat) : Int))]) (fun (x : (Nat × (List Th × List Th) × Option Addr × Nat × Nat)) v => Oz W v g m g2 m2 gr ((n : Nat) : Int) x.2.1.1 x.2.1.2 x.2.1.1 x.2.2.1 x.2.2.2.1 x.2.2.2.2 ∧ Cn x.2.1.1 (ts.take x.1) ∧ Bd x.2.1.1 x.1 ∧ Bd x.2.1.2 x.1 ∧ (Cn x.2.1.2 (ts.reverse.take x.1) ∨ Clash ts) ∧ x.1 ≤ n) (fun x => n - x.1) (0, ([], []), none, 0, 0) (by exact ⟨fun _ => by kernel_rfl, ⟨fun _ => by kernel_rfl, ⟨fun _ => by kernel_rfl, ⟨fun _ => by kernel_rfl, ⟨fun _ => by kernel_rfl, ⟨fun _ => by kernel_rfl, trivial⟩⟩⟩⟩⟩⟩) ⟨hZ0, by simpa using cn_nil, bd_nil, bd_nil, .inl (by simpa using cn_nil), Nat.zero_le _⟩ ?_
  clear hst0 hst1 hZ0
  rintro ⟨k, ⟨L, M⟩, a', n', c'⟩ v ⟨hZ, hcL, hbL, hbM, hcM, hkn⟩
  simp only at hZ hcL hbL hbM hcM hkn ⊢
  by_cases hlt : k < n
  · skip
    obtain ⟨t, ht⟩ : ∃ t, ts[k]? = some t := ⟨_, List.getElem?_eq_getElem (by rw [← hC.l]; exact hlt)⟩
    obtain ⟨t2, ht2⟩ : ∃ t, ts[n - 1 - k]? = some t := ⟨_, List.getElem?_eq_getElem (by rw [← hC.l]; omega)⟩
    obtain ⟨gx, off, rfl, _⟩ := hC.rows k t ht
    have hto := hC.ok t (List.mem_of_getElem? ht)
    have hto2 := hC.ok t2 (List.mem_of_getElem? ht2)
    have hkm : (k : Int) < ((n : Nat) : Int) := by omega
    have hkb : k < 4294967295 := by omega
    obtain ⟨⟨L2, d2, e2⟩, hpp⟩ : ∃ y, putP ((n : Nat) : Int) t L = y := ⟨_, rfl⟩
    obtain ⟨⟨M2, d3, e3⟩, hpq⟩ : ∃ y, putP ((n : Nat) : Int) t2 M = y := ⟨_, rfl⟩
    have hd2 : d2.length = 32 := by have := putP_len ((n : Nat) : Int) t L; rw [hpp] at this; exact this
    have hd3 : d3.length = 32 := by have := putP_len ((n : Nat) : Int) t2 M; rw [hpq] at this; exact this
    have hce := put_code hbL hkm hkb t
    have hcf := put_code hbM hkm hkb t2
    have hbL2 := put_bd hbL hkm hkb hto
    have hbM2 := put_bd hbM hkm hkb hto2
    have hcn := fun h0 => put_cn hcL hbL hkm hkb hto h0
    have hput := fun v (h : Sto v g m ((n : Nat) : Int) L) => put_any h hbL.iv.rng hbL.iv.szs t hto
    have hput2 := fun v (h : Sto v g2 m2 ((n : Nat) : Int) M) => put_any h hbM.iv.rng hbM.iv.szs t2 hto2
    have hrput := fun v (h : Ls v a' n' c' L) => rput_any ((n : Nat) : Int) a' n' c' L t v h hbL.iv.rng (by have h1 := h.l; have h2 := hbL.len; omega) hto
    have hcm2 : (Cn M (ts.reverse.take k) ∧ e3 = 0 → Cn M2 (ts.reverse.take (k + 1))) ∧ (Cn M (ts.reverse.take k) ∧ e3 = 60 → Clash ts) := by
      have hr := take_rev (ts := ts) (k := k) (t := t2) (by rw [← hC.l]; exact hlt) (by rw [← hC.l]; exact ht2)
      refine ⟨fun h => ?_, fun h => ?_⟩
      · have := put_cn h.1 hbM hkm hkb hto2 (by rw [hpq]; exact h.2); rw [hpq] at this; rw [hr]; exact this
      · have := put_clash h.1 hbM hkm hkb (t := t2) (by rw [hpq]; exact h.2); rw [← hr] at this; exact this.mono fun u hu => List.mem_reverse.1 (List.mem_of_mem_take hu)
    rw [hpp] at hce hbL2 hcn hput hrput
    rw [hpq] at hcf hbM2 hput2
    simp only at hce hbL2 hcn hput hcf hbM2 hput2 hrput
    refine cw_seq ?_
    refine cw_region ?_
    refine rw_p 44 (.bool true) (fun _ => by kernel_rfl) (fun _ => ol_conv (v := .bool (decide (((k : Nat) : Int) < ((n : Nat) : Int)))) (by kernel_rfl) (congrArg Value.bool (decide_eq_true (by omega)))) ?_
    refine rw_nil ?_
    refine nw_then ?_
    refine cw_seq ?_
    refine cw_cond_t (fun _ => by kernel_rfl) ?_
    refine cw_skip ?_
    refine nw_then ?_
    refine cw_seq ?_
    refine cw_block ?_
    refine cw_seq ?_
    refine cw_region ?_
    refine rw_p 45 (.int .i64 ((k : Nat) : Int)) (fun _ => by kernel_rfl) (fun _ => by kernel_rfl) ?_
    refine rw_p 7 (.int .i64 ((k : Nat) : Int)) (fun _ => by kernel_rfl) (fun _ => by kernel_rfl) ?_
    refine rw_nil ?_
    refine nw_then ?_
    refine cw_seq ?_
    refine cw_region ?_
    refine rw_p 47 (.pointer (some ⟨g, 0, none⟩)) (fun _ => by kernel_rfl) (fun _ => by kernel_rfl) ?_
    refine rw_p 48 (.slice (some ⟨gx, off, none⟩) n c) (fun _ => by kernel_rfl) (fun _ => by kernel_rfl) ?_
    refine rw_p 49 (.int .i64 ((k : Nat) : Int)) (fun _ => by kernel_rfl) (fun _ => by kernel_rfl) ?_
    refine rw_p 50 (.pointer (some ⟨gx, off + k * 1, none⟩)) (fun _ => by kernel_rfl) (fun _ => ol_index 43 _ _ gx off k n c 1 9 rfl (by kernel_rfl) (by kernel_rfl) hlt Try.underlying43 (by kernel_rfl)) ?_
    refine rw_p 51 (.string t) (fun _ => by kernel_rfl) (fun _ => ol_cell 9 _ _ _ _ rfl (by kernel_rfl) ((hC.go hZ.bel).at ht) Try.underlying9 rfl) ?_
    refine rw_call 52 17 #[.pointer (some ⟨g, 0, none⟩), .string t] (fun _ => by kernel_rfl) (fun _ => by kernel_rfl) (R := fun val w' => val = .tuple #[.agg (B8 d2), .int .i64 e2] ∧ Sto w' g m ((n : Nat) : Int) L2 ∧ Touch m v w') ((hput v hZ.st).mono (fun e w' h => ⟨_, h.1, rfl, h.2⟩)) ?_
    rintro val p1 ⟨rfl, hsA, htA⟩
    have hZ1 := hZ.put1 hsep hsA htA
    refine rw_p 46 (.tuple #[.agg (B8 d2), .int .i64 e2]) (fun _ => by kernel_rfl) (fun _ => by kernel_rfl) ?_
    refine rw_p 53 (.agg (B8 d2)) (fun _ => by kernel_rfl) (fun _ => by kernel_rfl) ?_
    refine rw_p 54 (.int .i64 e2) (fun _ => by kernel_rfl) (fun _ => by kernel_rfl) ?_
    refine rw_new 8 (B8 z32) 30 (fun _ => by kernel_rfl) (fun _ => by kernel_rfl) ?_
    intro p2 gd1 hnp2
    refine rw_put gd1 (B8 d2) (fun _ => by kernel_rfl) (fun _ => ol_store 30 _ _ _ _ _ _ rfl (by kernel_rfl) (by kernel_rfl) hnp2.row (infoD d2 hd2) (z8_size hd2) (B8_ones _)) ?_
    intro p3 hpp3
    have hZ2 := hZ1.go (hnp2.put hpp3).below
    refine rw_p 9 (.int .i64 e2) (fun _ => by kernel_rfl) (fun _ => by kernel_rfl) ?_
    refine rw_nil ?_
    refine nw_then ?_
    refine cw_seq ?_
    refine cw_region ?_
    refine rw_p 56 (.pointer (some ⟨g2, 0, none⟩)) (fun _ => by kernel_rfl) (fun _ => by kernel_rfl) ?_
    refine rw_p 57 (.slice (some ⟨gx, off, none⟩) n c) (fun _ => by kernel_rfl) (fun _ => by kernel_rfl) ?_
    refine rw_p 58 (.slice (some ⟨gx, off, none⟩) n c) (fun _ => by kernel_rfl) (fun _ => by kernel_rfl) ?_
    refine rw_p 59 (.int .i64 n) (fun _ => by kernel_rfl) (fun _ => by kernel_rfl) ?_
    refine rw_p 60 (.int .i64 (((n : Nat) : Int) - 1)) (fun _ => by kernel_rfl) (fun _ => ol_conv (v := .int .i64 (IntKind.i64.wrap (((n : Nat) : Int) - 1))) (by kernel_rfl) (congrArg (Value.int .i64) (wrap64 (by omega) (by omega)))) ?_
    refine rw_p 61 (.int .i64 ((k : Nat) : Int)) (fun _ => by kernel_rfl) (fun _ => by kernel_rfl) ?_
    refine rw_p 62 (.int .i64 ((n - 1 - k : Nat) : Int)) (fun _ => by kernel_rfl) (fun _ => ol_conv (v := .int .i64 (IntKind.i64.wrap ((((n : Nat) : Int) - 1) - ((k : Nat) : Int)))) (by kernel_rfl) (congrArg (Value.int .i64) (by rw [wrap64 (by omega) (by omega)]; omega))) ?_
    refine rw_p 63 (.pointer (some ⟨gx, off + (n - 1 - k) * 1, none⟩)) (fun _ => by kernel_rfl) (fun _ => ol_index 43 _ _ gx off (n - 1 - k) n c 1 9 rfl (by kernel_rfl) (by kernel_rfl) (by omega) Try.underlying43 (by kernel_rfl)) ?_
    refine rw_p 64 (.string t2) (fun _ => by kernel_rfl) (fun _ => ol_cell 9 _ _ _ _ rfl (by kernel_rfl) ((hC.go hZ2.bel).at ht2) Try.underlying9 rfl) ?_
    refine rw_call 65 17 #[.pointer (some ⟨g2, 0, none⟩), .string t2] (fun _ => by kernel_rfl) (fun _ => by kernel_rfl) (R := fun val w' => val = .tuple #[.agg (B8 d3), .int .i64 e3] ∧ Sto w' g2 m2 ((n : Nat) : Int) M2 ∧ Touch m2 p3 w') ((hput2 p3 hZ2.s2).mono (fun e w' h => ⟨_, h.1, rfl, h.2⟩)) ?_
    rintro val p4 ⟨rfl, hsB, htB⟩
    have hZ3 := hZ2.put2 hsep hsB htB
    refine rw_p 55 (.tuple #[.agg (B8 d3), .int .i64 e3]) (fun _ => by kernel_rfl) (fun _ => by kernel_rfl) ?_
    refine rw_p 66 (.agg (B8 d3)) (fun _ => by kernel_rfl) (fun _ => by kernel_rfl) ?_
    refine rw_p 67 (.int .i64 e3) (fun _ => by kernel_rfl) (fun _ => by kernel_rfl) ?_
    refine rw_new 10 (B8 z32) 30 (fun _ => by kernel_rfl) (fun _ => by kernel_rfl) ?_
    intro p5 gd2 hnp5
    refine rw_put gd2 (B8 d3) (fun _ => by kernel_rfl) (fun _ => ol_store 30 _ _ _ _ _ _ rfl (by kernel_rfl) (by kernel_rfl) hnp5.row (infoD d3 hd3) (z8_size hd3) (B8_ones _)) ?_
    intro p6 hpp6
    have hZ4 := hZ3.go (hnp5.put hpp6).below
    refine rw_p 11 (.int .i64 e3) (fun _ => by kernel_rfl) (fun _ => by kernel_rfl) ?_
    refine rw_nil ?_
    refine nw_then ?_
    refine cw_seq ?_
    refine cw_cut (fun e w' => ∃ gT az nz cz, e = [(9, .int .i64 e2), (11, .int .i64 e3), (12, .pointer (some ⟨gT, 0, none⟩)), (14, .int .i64 e2), (0, .slice (some ⟨gx, off, none⟩) n c), (3, .pointer (some ⟨g, 0, none⟩)), (5, .pointer (some ⟨g2, 0, none⟩)), (6, .pointer (some ⟨gr, 0, none⟩)), (42, .int .i64 ((n : Nat) : Int)), (43, .int .i64 ((k : Nat) : Int))] ∧ Oz W w' g m g2 m2 gr ((n : Nat) : Int) L2 M2 L a' n' c' ∧ SBx gT w' ((n : Nat) : Int) az nz cz ∧ Ls w' az nz cz L2) ?_ ?_
    · skip
      refine cw_draw (fun v => Oz W v g m g2 m2 gr ((n : Nat) : Int) L2 M2 L a' n' c') (by kernel_rfl) (hZ4.drew) ?_
      refine dw_take 0 69 (.agg #[.int .i64 ((n : Nat) : Int), .slice a' n' c']) rfl (by kernel_rfl) (fun _ _ _ h => h) (fun _ => by kernel_rfl) (fun v hv _ => ol_row 28 _ _ _ _ _ _ rfl (by kernel_rfl) hv.rb Try.underlying28 rfl (by kernel_rfl)) hZ4.drew ?_
      refine dw_take 1 70 (.slice (some ⟨gx, off, none⟩) n c) rfl (by kernel_rfl) (fun _ _ _ h => h) (fun _ => by kernel_rfl) (fun v hv _ => by kernel_rfl) hZ4.drew ?_
      refine dw_take 2 71 (.int .i64 ((k : Nat) : Int)) rfl (by kernel_rfl) (fun _ _ _ h => h) (fun _ => by kernel_rfl) (fun v hv _ => by kernel_rfl) hZ4.drew ?_
      refine dw_take 3 72 (.pointer (some ⟨gx, off + k * 1, none⟩)) rfl (by kernel_rfl) (fun _ _ _ h => h) (fun _ => by kernel_rfl) (fun v hv _ => ol_index 43 _ _ gx off k n c 1 9 rfl (by kernel_rfl) (by kernel_rfl) hlt Try.underlying43 (by kernel_rfl)) hZ4.drew ?_
      refine dw_take 4 73 (.string t) rfl (by kernel_rfl) (fun _ _ _ h => h) (fun _ => by kernel_rfl) (fun v hv _ => ol_cell 9 _ _ _ _ rfl (by kernel_rfl) ((hC.go hv.bel).at ht) Try.underlying9 rfl) hZ4.drew ?_
      refine dw_ready [5, 10, 11] (by kernel_rfl) (by simp) ?_
      refine ar_call 5 74 18 #[.agg #[.int .i64 ((n : Nat) : Int), .slice a' n' c'], .string t] rfl (fun _ => by kernel_rfl) (fun _ => by kernel_rfl) (R := fun val w' => (∃ az nz cz, val = .tuple #[.agg #[.int .i64 ((n : Nat) : Int), .slice az nz cz], .agg (B8 d2), .int .i64 e2] ∧ Ls w' az nz cz L2) ∧ Below (p6.drew).heap.size (p6.drew) w') ((hrput (p6.drew) hZ4.drew.ls).mono (fun e w' h => by obtain ⟨⟨a2, n2, c2, rfl, h1⟩, h2⟩ := h; exact ⟨_, rfl, ⟨a2, n2, c2, rfl, h1⟩, h2⟩)) (fun val w' h => hZ4.drew.go h.2) ?_ ?_
      · skip
        rintro val u1 ⟨⟨az, nz, cz, rfl, hlz⟩, hb2⟩
        have Su1 := hZ4.drew.go hb2
        refine dw_take 6 68 (.tuple #[.agg #[.int .i64 ((n : Nat) : Int), .slice az nz cz], .agg (B8 d2), .int .i64 e2]) rfl (by kernel_rfl) (fun _ _ _ h => h) (fun _ => by kernel_rfl) (fun v hv _ => by kernel_rfl) Su1 ?_
        refine dw_take 7 75 (.agg #[.int .i64 ((n : Nat) : Int), .slice az nz cz]) rfl (by kernel_rfl) (fun _ _ _ h => h) (fun _ => by kernel_rfl) (fun v hv _ => by kernel_rfl) Su1 ?_
        refine dw_take 8 76 (.agg (B8 d2)) rfl (by kernel_rfl) (fun _ _ _ h => h) (fun _ => by kernel_rfl) (fun v hv _ => by kernel_rfl) Su1 ?_
        refine dw_take 9 77 (.int .i64 e2) rfl (by kernel_rfl) (fun _ _ _ h => h) (fun _ => by kernel_rfl) (fun v hv _ => by kernel_rfl) Su1 ?_
        refine dw_ready [10, 11] (by kernel_rfl) (by simp) ?_
        refine ar_new 10 12 (#[.int .i64 0, .slice none 0 0]) 28 rfl (fun _ => by kernel_rfl) (fun _ => by kernel_rfl) (fun w' g h => Su1.go h.below) ?_ ?_
        · skip
          intro w3 g4 hn5
          have Sw3 := Su1.go hn5.below
          have H28 := hn5.row
          have N28 : g4 ≠ g ∧ g4 ≠ m ∧ g4 ≠ g2 ∧ g4 ≠ m2 ∧ g4 ≠ gr ∧ W.heap.size ≤ g4 := by have h1 := Su1.st.lts; have h2 := Su1.s2.lts; have h3 := lt_of_get Su1.rb; have h4 := Su1.bel.size; have h5 := hn5.hg; omega
          replace hlz := hlz.go hn5.below
          have B28 : g4 = u1.heap.size := hn5.hg
          refine dw_ready [11] (by kernel_rfl) (by simp) ?_
          refine ar_new 11 13 (B8 z32) 30 rfl (fun _ => by kernel_rfl) (fun _ => by kernel_rfl) (fun w' g h => Sw3.go h.below) ?_ ar_nil
          intro w6 g7 hn8
          have Sw6 := Sw3.go hn8.below
          have H30 := hn8.row
          have N30 : g7 ≠ g ∧ g7 ≠ m ∧ g7 ≠ g2 ∧ g7 ≠ m2 ∧ g7 ≠ gr ∧ W.heap.size ≤ g7 := by have h1 := Sw3.st.lts; have h2 := Sw3.s2.lts; have h3 := lt_of_get Sw3.rb; have h4 := Sw3.bel.size; have h5 := hn8.hg; omega
          replace hlz := hlz.go hn8.below
          replace H28 := Below.row hn8.below H28
          have B30 : g7 = w3.heap.size := hn8.hg
          refine dw_ready [12] (by kernel_rfl) (by simp) ?_
          refine ar_put 12 g4 (#[.int .i64 ((n : Nat) : Int), .slice az nz cz]) rfl (fun _ => by kernel_rfl) (fun _ => ol_store 28 _ _ _ _ _ _ rfl (by kernel_rfl) (by kernel_rfl) H28 (by kernel_rfl) rfl (s_one _ _ _ _)) (fun w' h => Sw6.box H28 (by simp) N28.2.2.2.2.2 ⟨N28.1, N28.2.1, N28.2.2.1, N28.2.2.2.1, N28.2.2.2.2.1⟩ h) ?_ ar_nil
          intro w9 hp10
          have Sw9 := Sw6.box H28 (by simp) N28.2.2.2.2.2 ⟨N28.1, N28.2.1, N28.2.2.1, N28.2.2.2.1, N28.2.2.2.2.1⟩ hp10
          replace hlz : Ls w9 az nz cz L2 := by obtain ⟨rfl⟩ := hp10; exact hlz.one (hlz.nbox H28 (by simp))
          replace H30 := (hp10.other (k := g7) (fun q => by rw [q, H28] at H30; cases H30)).trans H30
          replace H28 := hp10.row H28
          refine dw_ready [13] (by kernel_rfl) (by simp) ?_
          refine ar_put 13 g7 (B8 d2) rfl (fun _ => by kernel_rfl) (fun _ => ol_store 30 _ _ _ _ _ _ rfl (by kernel_rfl) (by kernel_rfl) H30 (infoD d2 hd2) (z8_size hd2) (B8_ones _)) (fun w' h => Sw9.box H30 (by rw [B8_size, z32_len]; omega) N30.2.2.2.2.2 ⟨N30.1, N30.2.1, N30.2.2.1, N30.2.2.2.1, N30.2.2.2.2.1⟩ h) ?_ ar_nil
          intro w11 hp12
          have Sw11 := Sw9.box H30 (by rw [B8_size, z32_len]; omega) N30.2.2.2.2.2 ⟨N30.1, N30.2.1, N30.2.2.1, N30.2.2.2.1, N30.2.2.2.2.1⟩ hp12
          replace hlz : Ls w11 az nz cz L2 := by obtain ⟨rfl⟩ := hp12; exact hlz.one (hlz.nbox H30 (by rw [B8_size, z32_len]; omega))
          replace H28 := (hp12.other (k := g4) (fun q => by rw [q, H30] at H28; cases H28)).trans H28
          refine dw_take 14 14 (.int .i64 e2) rfl (by kernel_rfl) (fun _ _ _ h => h) (fun _ => by kernel_rfl) (fun v hv _ => by kernel_rfl) Sw11 ?_
          refine dw_done (by kernel_rfl) ?_
          exact nw_cut [(9, .int .i64 e2), (11, .int .i64 e3), (12, .pointer (some ⟨g4, 0, none⟩)), (14, .int .i64 e2), (0, .slice (some ⟨gx, off, none⟩) n c), (3, .pointer (some ⟨g, 0, none⟩)), (5, .pointer (some ⟨g2, 0, none⟩)), (6, .pointer (some ⟨gr, 0, none⟩)), (42, .int .i64 ((n : Nat) : Int)), (43, .int .i64 ((k : Nat) : Int))] (by exact ⟨fun _ => by kernel_rfl, ⟨fun _ => by kernel_rfl, ⟨fun _ => by kernel_rfl, ⟨fun _ => by kernel_rfl, ⟨fun _ => by kernel_rfl, ⟨fun _ => by kernel_rfl, ⟨fun _ => by kernel_rfl, ⟨fun _ => by kernel_rfl, ⟨fun _ => by kernel_rfl, ⟨fun _ => by kernel_rfl, trivial⟩⟩⟩⟩⟩⟩⟩⟩⟩⟩) ⟨g4, az, nz, cz, rfl, Sw11, H28, hlz⟩
        refine ar_new 11 13 (B8 z32) 30 rfl (fun _ => by kernel_rfl) (fun _ => by kernel_rfl) (fun w' g h => Su1.go h.below) ?_ ar_nil
        intro w13 g14 hn15
        have Sw13 := Su1.go hn15.below
        have H30 := hn15.row
        have N30 : g14 ≠ g ∧ g14 ≠ m ∧ g14 ≠ g2 ∧ g14 ≠ m2 ∧ g14 ≠ gr ∧ W.heap.size ≤ g14 := by have h1 := Su1.st.lts; have h2 := Su1.s2.lts; have h3 := lt_of_get Su1.rb; have h4 := Su1.bel.size; have h5 := hn15.hg; omega
        replace hlz := hlz.go hn15.below
        have B30 : g14 = u1.heap.size := hn15.hg
        refine dw_ready [10] (by kernel_rfl) (by simp) ?_
        refine ar_new 10 12 (#[.int .i64 0, .slice none 0 0]) 28 rfl (fun _ => by kernel_rfl) (fun _ => by kernel_rfl) (fun w' g h => Sw13.go h.below) ?_ ar_nil
        intro w16 g17 hn18
        have Sw16 := Sw13.go hn18.below
        have H28 := hn18.row
        have N28 : g17 ≠ g ∧ g17 ≠ m ∧ g17 ≠ g2 ∧ g17 ≠ m2 ∧ g17 ≠ gr ∧ W.heap.size ≤ g17 := by have h1 := Sw13.st.lts; have h2 := Sw13.s2.lts; have h3 := lt_of_get Sw13.rb; have h4 := Sw13.bel.size; have h5 := hn18.hg; omega
        replace hlz := hlz.go hn18.below
        replace H30 := Below.row hn18.below H30
        have B28 : g17 = w13.heap.size := hn18.hg
        refine dw_ready [12] (by kernel_rfl) (by simp) ?_
        refine ar_put 12 g17 (#[.int .i64 ((n : Nat) : Int), .slice az nz cz]) rfl (fun _ => by kernel_rfl) (fun _ => ol_store 28 _ _ _ _ _ _ rfl (by kernel_rfl) (by kernel_rfl) H28 (by kernel_rfl) rfl (s_one _ _ _ _)) (fun w' h => Sw16.box H28 (by simp) N28.2.2.2.2.2 ⟨N28.1, N28.2.1, N28.2.2.1, N28.2.2.2.1, N28.2.2.2.2.1⟩ h) ?_ ar_nil
        intro w19 hp20
        have Sw19 := Sw16.box H28 (by simp) N28.2.2.2.2.2 ⟨N28.1, N28.2.1, N28.2.2.1, N28.2.2.2.1, N28.2.2.2.2.1⟩ hp20
        replace hlz : Ls w19 az nz cz L2 := by obtain ⟨rfl⟩ := hp20; exact hlz.one (hlz.nbox H28 (by simp))
        replace H30 := (hp20.other (k := g14) (fun q => by rw [q, H28] at H30; cases H30)).trans H30
        replace H28 := hp20.row H28
        refine dw_ready [13] (by kernel_rfl) (by simp) ?_
        refine ar_put 13 g14 (B8 d2) rfl (fun _ => by kernel_rfl) (fun _ => ol_store 30 _ _ _ _ _ _ rfl (by kernel_rfl) (by kernel_rfl) H30 (infoD d2 hd2) (z8_size hd2) (B8_ones _)) (fun w' h => Sw19.box H30 (by rw [B8_size, z32_len]; omega) N30.2.2.2.2.2 ⟨N30.1, N30.2.1, N30.2.2.1, N30.2.2.2.1, N30.2.2.2.2.1⟩ h) ?_ ar_nil
        intro w21 hp22
        have Sw21 := Sw19.box H30 (by rw [B8_size, z32_len]; omega) N30.2.2.2.2.2 ⟨N30.1, N30.2.1, N30.2.2.1, N30.2.2.2.1, N30.2.2.2.2.1⟩ hp22
        replace hlz : Ls w21 az nz cz L2 := by obtain ⟨rfl⟩ := hp22; exact hlz.one (hlz.nbox H30 (by rw [B8_size, z32_len]; omega))
        replace H28 := (hp22.other (k := g17) (fun q => by rw [q, H30] at H28; cases H28)).trans H28
        refine dw_take 14 14 (.int .i64 e2) rfl (by kernel_rfl) (fun _ _ _ h => h) (fun _ => by kernel_rfl) (fun v hv _ => by kernel_rfl) Sw21 ?_
        refine dw_done (by kernel_rfl) ?_
        exact nw_cut [(9, .int .i64 e2), (11, .int .i64 e3), (12, .pointer (some ⟨g17, 0, none⟩)), (14, .int .i64 e2), (0, .slice (some ⟨gx, off, none⟩) n c), (3, .pointer (some ⟨g, 0, none⟩)), (5, .pointer (some ⟨g2, 0, none⟩)), (6, .pointer (some ⟨gr, 0, none⟩)), (42, .int .i64 ((n : Nat) : Int)), (43, .int .i64 ((k : Nat) : Int))] (by exact ⟨fun _ => by kernel_rfl, ⟨fun _ => by kernel_rfl, ⟨fun _ => by kernel_rfl, ⟨fun _ => by kernel_rfl, ⟨fun _ => by kernel_rfl, ⟨fun _ => by kernel_rfl, ⟨fun _ => by kernel_rfl, ⟨fun _ => by kernel_rfl, ⟨fun _ => by kernel_rfl, ⟨fun _ => by kernel_rfl, trivial⟩⟩⟩⟩⟩⟩⟩⟩⟩⟩) ⟨g17, az, nz, cz, rfl, Sw21, H28, hlz⟩
      refine ar_new 10 12 (#[.int .i64 0, .slice none 0 0]) 28 rfl (fun _ => by kernel_rfl) (fun _ => by kernel_rfl) (fun w' g h => hZ4.drew.go h.below) ?_ ?_
      · skip
        intro w23 g24 hn25
        have Sw23 := hZ4.drew.go hn25.below
        have H28 := hn25.row
        have N28 : g24 ≠ g ∧ g24 ≠ m ∧ g24 ≠ g2 ∧ g24 ≠ m2 ∧ g24 ≠ gr ∧ W.heap.size ≤ g24 := by have h1 := hZ4.drew.st.lts; have h2 := hZ4.drew.s2.lts; have h3 := lt_of_get hZ4.drew.rb; have h4 := hZ4.drew.bel.size; have h5 := hn25.hg; omega
        have B28 : g24 = p6.drew.heap.size := hn25.hg
        refine dw_ready [5, 11] (by kernel_rfl) (by simp) ?_
        refine ar_call 5 74 18 #[.agg #[.int .i64 ((n : Nat) : Int), .slice a' n' c'], .string t] rfl (fun _ => by kernel_rfl) (fun _ => by kernel_rfl) (R := fun val w' => (∃ az nz cz, val = .tuple #[.agg #[.int .i64 ((n : Nat) : Int), .slice az nz cz], .agg (B8 d2), .int .i64 e2] ∧ Ls w' az nz cz L2) ∧ Below (w23).heap.size (w23) w') ((hrput (w23) Sw23.ls).mono (fun e w' h => by obtain ⟨⟨a2, n2, c2, rfl, h1⟩, h2⟩ := h; exact ⟨_, rfl, ⟨a2, n2, c2, rfl, h1⟩, h2⟩)) (fun val w' h => Sw23.go h.2) ?_ ?_
        · skip
          rintro val u26 ⟨⟨az, nz, cz, rfl, hlz⟩, hb27⟩
          have Su26 := Sw23.go hb27
          replace H28 := Below.row hb27 H28
          refine dw_take 6 68 (.tuple #[.agg #[.int .i64 ((n : Nat) : Int), .slice az nz cz], .agg (B8 d2), .int .i64 e2]) rfl (by kernel_rfl) (fun _ _ _ h => h) (fun _ => by kernel_rfl) (fun v hv _ => by kernel_rfl) Su26 ?_
          refine dw_take 7 75 (.agg #[.int .i64 ((n : Nat) : Int), .slice az nz cz]) rfl (by kernel_rfl) (fun _ _ _ h => h) (fun _ => by kernel_rfl) (fun v hv _ => by kernel_rfl) Su26 ?_
          refine dw_take 8 76 (.agg (B8 d2)) rfl (by kernel_rfl) (fun _ _ _ h => h) (fun _ => by kernel_rfl) (fun v hv _ => by kernel_rfl) Su26 ?_
          refine dw_take 9 77 (.int .i64 e2) rfl (by kernel_rfl) (fun _ _ _ h => h) (fun _ => by kernel_rfl) (fun v hv _ => by kernel_rfl) Su26 ?_
          refine dw_ready [11] (by kernel_rfl) (by simp) ?_
          refine ar_new 11 13 (B8 z32) 30 rfl (fun _ => by kernel_rfl) (fun _ => by kernel_rfl) (fun w' g h => Su26.go h.below) ?_ ar_nil
          intro w28 g29 hn30
          have Sw28 := Su26.go hn30.below
          have H30 := hn30.row
          have N30 : g29 ≠ g ∧ g29 ≠ m ∧ g29 ≠ g2 ∧ g29 ≠ m2 ∧ g29 ≠ gr ∧ W.heap.size ≤ g29 := by have h1 := Su26.st.lts; have h2 := Su26.s2.lts; have h3 := lt_of_get Su26.rb; have h4 := Su26.bel.size; have h5 := hn30.hg; omega
          replace hlz := hlz.go hn30.below
          replace H28 := Below.row hn30.below H28
          have B30 : g29 = u26.heap.size := hn30.hg
          refine dw_ready [12] (by kernel_rfl) (by simp) ?_
          refine ar_put 12 g24 (#[.int .i64 ((n : Nat) : Int), .slice az nz cz]) rfl (fun _ => by kernel_rfl) (fun _ => ol_store 28 _ _ _ _ _ _ rfl (by kernel_rfl) (by kernel_rfl) H28 (by kernel_rfl) rfl (s_one _ _ _ _)) (fun w' h => Sw28.box H28 (by simp) N28.2.2.2.2.2 ⟨N28.1, N28.2.1, N28.2.2.1, N28.2.2.2.1, N28.2.2.2.2.1⟩ h) ?_ ar_nil
          intro w31 hp32
          have Sw31 := Sw28.box H28 (by simp) N28.2.2.2.2.2 ⟨N28.1, N28.2.1, N28.2.2.1, N28.2.2.2.1, N28.2.2.2.2.1⟩ hp32
          replace hlz : Ls w31 az nz cz L2 := by obtain ⟨rfl⟩ := hp32; exact hlz.one (hlz.nbox H28 (by simp))
          replace H30 := (hp32.other (k := g29) (fun q => by rw [q, H28] at H30; cases H30)).trans H30
          replace H28 := hp32.row H28
          refine dw_ready [13] (by kernel_rfl) (by simp) ?_
          refine ar_put 13 g29 (B8 d2) rfl (fun _ => by kernel_rfl) (fun _ => ol_store 30 _ _ _ _ _ _ rfl (by kernel_rfl) (by kernel_rfl) H30 (infoD d2 hd2) (z8_size hd2) (B8_ones _)) (fun w' h => Sw31.box H30 (by rw [B8_size, z32_len]; omega) N30.2.2.2.2.2 ⟨N30.1, N30.2.1, N30.2.2.1, N30.2.2.2.1, N30.2.2.2.2.1⟩ h) ?_ ar_nil
          intro w33 hp34
          have Sw33 := Sw31.box H30 (by rw [B8_size, z32_len]; omega) N30.2.2.2.2.2 ⟨N30.1, N30.2.1, N30.2.2.1, N30.2.2.2.1, N30.2.2.2.2.1⟩ hp34
          replace hlz : Ls w33 az nz cz L2 := by obtain ⟨rfl⟩ := hp34; exact hlz.one (hlz.nbox H30 (by rw [B8_size, z32_len]; omega))
          replace H28 := (hp34.other (k := g24) (fun q => by rw [q, H30] at H28; cases H28)).trans H28
          refine dw_take 14 14 (.int .i64 e2) rfl (by kernel_rfl) (fun _ _ _ h => h) (fun _ => by kernel_rfl) (fun v hv _ => by kernel_rfl) Sw33 ?_
          refine dw_done (by kernel_rfl) ?_
          exact nw_cut [(9, .int .i64 e2), (11, .int .i64 e3), (12, .pointer (some ⟨g24, 0, none⟩)), (14, .int .i64 e2), (0, .slice (some ⟨gx, off, none⟩) n c), (3, .pointer (some ⟨g, 0, none⟩)), (5, .pointer (some ⟨g2, 0, none⟩)), (6, .pointer (some ⟨gr, 0, none⟩)), (42, .int .i64 ((n : Nat) : Int)), (43, .int .i64 ((k : Nat) : Int))] (by exact ⟨fun _ => by kernel_rfl, ⟨fun _ => by kernel_rfl, ⟨fun _ => by kernel_rfl, ⟨fun _ => by kernel_rfl, ⟨fun _ => by kernel_rfl, ⟨fun _ => by kernel_rfl, ⟨fun _ => by kernel_rfl, ⟨fun _ => by kernel_rfl, ⟨fun _ => by kernel_rfl, ⟨fun _ => by kernel_rfl, trivial⟩⟩⟩⟩⟩⟩⟩⟩⟩⟩) ⟨g24, az, nz, cz, rfl, Sw33, H28, hlz⟩
        refine ar_new 11 13 (B8 z32) 30 rfl (fun _ => by kernel_rfl) (fun _ => by kernel_rfl) (fun w' g h => Sw23.go h.below) ?_ ar_nil
        intro w35 g36 hn37
        have Sw35 := Sw23.go hn37.below
        have H30 := hn37.row
        have N30 : g36 ≠ g ∧ g36 ≠ m ∧ g36 ≠ g2 ∧ g36 ≠ m2 ∧ g36 ≠ gr ∧ W.heap.size ≤ g36 := by have h1 := Sw23.st.lts; have h2 := Sw23.s2.lts; have h3 := lt_of_get Sw23.rb; have h4 := Sw23.bel.size; have h5 := hn37.hg; omega
        replace H28 := Below.row hn37.below H28
        have B30 : g36 = w23.heap.size := hn37.hg
        refine dw_ready [5] (by kernel_rfl) (by simp) ?_
        refine ar_call 5 74 18 #[.agg #[.int .i64 ((n : Nat) : Int), .slice a' n' c'], .string t] rfl (fun _ => by kernel_rfl) (fun _ => by kernel_rfl) (R := fun val w' => (∃ az nz cz, val = .tuple #[.agg #[.int .i64 ((n : Nat) : Int), .slice az nz cz], .agg (B8 d2), .int .i64 e2] ∧ Ls w' az nz cz L2) ∧ Below (w35).heap.size (w35) w') ((hrput (w35) Sw35.ls).mono (fun e w' h => by obtain ⟨⟨a2, n2, c2, rfl, h1⟩, h2⟩ := h; exact ⟨_, rfl, ⟨a2, n2, c2, rfl, h1⟩, h2⟩)) (fun val w' h => Sw35.go h.2) ?_ ar_nil
        rintro val u38 ⟨⟨az, nz, cz, rfl, hlz⟩, hb39⟩
        have Su38 := Sw35.go hb39
        replace H28 := Below.row hb39 H28
        replace H30 := Below.row hb39 H30
        refine dw_take 6 68 (.tuple #[.agg #[.int .i64 ((n : Nat) : Int), .slice az nz cz], .agg (B8 d2), .int .i64 e2]) rfl (by kernel_rfl) (fun _ _ _ h => h) (fun _ => by kernel_rfl) (fun v hv _ => by kernel_rfl) Su38 ?_
        refine dw_take 7 75 (.agg #[.int .i64 ((n : Nat) : Int), .slice az nz cz]) rfl (by kernel_rfl) (fun _ _ _ h => h) (fun _ => by kernel_rfl) (fun v hv _ => by kernel_rfl) Su38 ?_
        refine dw_take 8 76 (.agg (B8 d2)) rfl (by kernel_rfl) (fun _ _ _ h => h) (fun _ => by kernel_rfl) (fun v hv _ => by kernel_rfl) Su38 ?_
        refine dw_take 9 77 (.int .i64 e2) rfl (by kernel_rfl) (fun _ _ _ h => h) (fun _ => by kernel_rfl) (fun v hv _ => by kernel_rfl) Su38 ?_
        refine dw_ready [12] (by kernel_rfl) (by simp) ?_
        refine ar_put 12 g24 (#[.int .i64 ((n : Nat) : Int), .slice az nz cz]) rfl (fun _ => by kernel_rfl) (fun _ => ol_store 28 _ _ _ _ _ _ rfl (by kernel_rfl) (by kernel_rfl) H28 (by kernel_rfl) rfl (s_one _ _ _ _)) (fun w' h => Su38.box H28 (by simp) N28.2.2.2.2.2 ⟨N28.1, N28.2.1, N28.2.2.1, N28.2.2.2.1, N28.2.2.2.2.1⟩ h) ?_ ar_nil
        intro w40 hp41
        have Sw40 := Su38.box H28 (by simp) N28.2.2.2.2.2 ⟨N28.1, N28.2.1, N28.2.2.1, N28.2.2.2.1, N28.2.2.2.2.1⟩ hp41
        replace hlz : Ls w40 az nz cz L2 := by obtain ⟨rfl⟩ := hp41; exact hlz.one (hlz.nbox H28 (by simp))
        replace H30 := (hp41.other (k := g36) (fun q => by rw [q, H28] at H30; cases H30)).trans H30
        replace H28 := hp41.row H28
        refine dw_ready [13] (by kernel_rfl) (by simp) ?_
        refine ar_put 13 g36 (B8 d2) rfl (fun _ => by kernel_rfl) (fun _ => ol_store 30 _ _ _ _ _ _ rfl (by kernel_rfl) (by kernel_rfl) H30 (infoD d2 hd2) (z8_size hd2) (B8_ones _)) (fun w' h => Sw40.box H30 (by rw [B8_size, z32_len]; omega) N30.2.2.2.2.2 ⟨N30.1, N30.2.1, N30.2.2.1, N30.2.2.2.1, N30.2.2.2.2.1⟩ h) ?_ ar_nil
        intro w42 hp43
        have Sw42 := Sw40.box H30 (by rw [B8_size, z32_len]; omega) N30.2.2.2.2.2 ⟨N30.1, N30.2.1, N30.2.2.1, N30.2.2.2.1, N30.2.2.2.2.1⟩ hp43
        replace hlz : Ls w42 az nz cz L2 := by obtain ⟨rfl⟩ := hp43; exact hlz.one (hlz.nbox H30 (by rw [B8_size, z32_len]; omega))
        replace H28 := (hp43.other (k := g24) (fun q => by rw [q, H30] at H28; cases H28)).trans H28
        refine dw_take 14 14 (.int .i64 e2) rfl (by kernel_rfl) (fun _ _ _ h => h) (fun _ => by kernel_rfl) (fun v hv _ => by kernel_rfl) Sw42 ?_
        refine dw_done (by kernel_rfl) ?_
        exact nw_cut [(9, .int .i64 e2), (11, .int .i64 e3), (12, .pointer (some ⟨g24, 0, none⟩)), (14, .int .i64 e2), (0, .slice (some ⟨gx, off, none⟩) n c), (3, .pointer (some ⟨g, 0, none⟩)), (5, .pointer (some ⟨g2, 0, none⟩)), (6, .pointer (some ⟨gr, 0, none⟩)), (42, .int .i64 ((n : Nat) : Int)), (43, .int .i64 ((k : Nat) : Int))] (by exact ⟨fun _ => by kernel_rfl, ⟨fun _ => by kernel_rfl, ⟨fun _ => by kernel_rfl, ⟨fun _ => by kernel_rfl, ⟨fun _ => by kernel_rfl, ⟨fun _ => by kernel_rfl, ⟨fun _ => by kernel_rfl, ⟨fun _ => by kernel_rfl, ⟨fun _ => by kernel_rfl, ⟨fun _ => by kernel_rfl, trivial⟩⟩⟩⟩⟩⟩⟩⟩⟩⟩) ⟨g24, az, nz, cz, rfl, Sw42, H28, hlz⟩
      refine ar_new 11 13 (B8 z32) 30 rfl (fun _ => by kernel_rfl) (fun _ => by kernel_rfl) (fun w' g h => hZ4.drew.go h.below) ?_ ar_nil
      intro w44 g45 hn46
      have Sw44 := hZ4.drew.go hn46.below
      have H30 := hn46.row
      have N30 : g45 ≠ g ∧ g45 ≠ m ∧ g45 ≠ g2 ∧ g45 ≠ m2 ∧ g45 ≠ gr ∧ W.heap.size ≤ g45 := by have h1 := hZ4.drew.st.lts; have h2 := hZ4.drew.s2.lts; have h3 := lt_of_get hZ4.drew.rb; have h4 := hZ4.drew.bel.size; have h5 := hn46.hg; omega
      have B30 : g45 = p6.drew.heap.size := hn46.hg
      refine dw_ready [5, 10] (by kernel_rfl) (by simp) ?_
      refine ar_call 5 74 18 #[.agg #[.int .i64 ((n : Nat) : Int), .slice a' n' c'], .string t] rfl (fun _ => by kernel_rfl) (fun _ => by kernel_rfl) (R := fun val w' => (∃ az nz cz, val = .tuple #[.agg #[.int .i64 ((n : Nat) : Int), .slice az nz cz], .agg (B8 d2), .int .i64 e2] ∧ Ls w' az nz cz L2) ∧ Below (w44).heap.size (w44) w') ((hrput (w44) Sw44.ls).mono (fun e w' h => by obtain ⟨⟨a2, n2, c2, rfl, h1⟩, h2⟩ := h; exact ⟨_, rfl, ⟨a2, n2, c2, rfl, h1⟩, h2⟩)) (fun val w' h => Sw44.go h.2) ?_ ?_
      · skip
        rintro val u47 ⟨⟨az, nz, cz, rfl, hlz⟩, hb48⟩
        have Su47 := Sw44.go hb48
        replace H30 := Below.row hb48 H30
        refine dw_take 6 68 (.tuple #[.agg #[.int .i64 ((n : Nat) : Int), .slice az nz cz], .agg (B8 d2), .int .i64 e2]) rfl (by kernel_rfl) (fun _ _ _ h => h) (fun _ => by kernel_rfl) (fun v hv _ => by kernel_rfl) Su47 ?_
        refine dw_take 7 75 (.agg #[.int .i64 ((n : Nat) : Int), .slice az nz cz]) rfl (by kernel_rfl) (fun _ _ _ h => h) (fun _ => by kernel_rfl) (fun v hv _ => by kernel_rfl) Su47 ?_
        refine dw_take 8 76 (.agg (B8 d2)) rfl (by kernel_rfl) (fun _ _ _ h => h) (fun _ => by kernel_rfl) (fun v hv _ => by kernel_rfl) Su47 ?_
        refine dw_take 9 77 (.int .i64 e2) rfl (by kernel_rfl) (fun _ _ _ h => h) (fun _ => by kernel_rfl) (fun v hv _ => by kernel_rfl) Su47 ?_
        refine dw_ready [10] (by kernel_rfl) (by simp) ?_
        refine ar_new 10 12 (#[.int .i64 0, .slice none 0 0]) 28 rfl (fun _ => by kernel_rfl) (fun _ => by kernel_rfl) (fun w' g h => Su47.go h.below) ?_ ar_nil
        intro w49 g50 hn51
        have Sw49 := Su47.go hn51.below
        have H28 := hn51.row
        have N28 : g50 ≠ g ∧ g50 ≠ m ∧ g50 ≠ g2 ∧ g50 ≠ m2 ∧ g50 ≠ gr ∧ W.heap.size ≤ g50 := by have h1 := Su47.st.lts; have h2 := Su47.s2.lts; have h3 := lt_of_get Su47.rb; have h4 := Su47.bel.size; have h5 := hn51.hg; omega
        replace hlz := hlz.go hn51.below
        replace H30 := Below.row hn51.below H30
        have B28 : g50 = u47.heap.size := hn51.hg
        refine dw_ready [12] (by kernel_rfl) (by simp) ?_
        refine ar_put 12 g50 (#[.int .i64 ((n : Nat) : Int), .slice az nz cz]) rfl (fun _ => by kernel_rfl) (fun _ => ol_store 28 _ _ _ _ _ _ rfl (by kernel_rfl) (by kernel_rfl) H28 (by kernel_rfl) rfl (s_one _ _ _ _)) (fun w' h => Sw49.box H28 (by simp) N28.2.2.2.2.2 ⟨N28.1, N28.2.1, N28.2.2.1, N28.2.2.2.1, N28.2.2.2.2.1⟩ h) ?_ ar_nil
        intro w52 hp53
        have Sw52 := Sw49.box H28 (by simp) N28.2.2.2.2.2 ⟨N28.1, N28.2.1, N28.2.2.1, N28.2.2.2.1, N28.2.2.2.2.1⟩ hp53
        replace hlz : Ls w52 az nz cz L2 := by obtain ⟨rfl⟩ := hp53; exact hlz.one (hlz.nbox H28 (by simp))
        replace H30 := (hp53.other (k := g45) (fun q => by rw [q, H28] at H30; cases H30)).trans H30
        replace H28 := hp53.row H28
        refine dw_ready [13] (by kernel_rfl) (by simp) ?_
        refine ar_put 13 g45 (B8 d2) rfl (fun _ => by kernel_rfl) (fun _ => ol_store 30 _ _ _ _ _ _ rfl (by kernel_rfl) (by kernel_rfl) H30 (infoD d2 hd2) (z8_size hd2) (B8_ones _)) (fun w' h => Sw52.box H30 (by rw [B8_size, z32_len]; omega) N30.2.2.2.2.2 ⟨N30.1, N30.2.1, N30.2.2.1, N30.2.2.2.1, N30.2.2.2.2.1⟩ h) ?_ ar_nil
        intro w54 hp55
        have Sw54 := Sw52.box H30 (by rw [B8_size, z32_len]; omega) N30.2.2.2.2.2 ⟨N30.1, N30.2.1, N30.2.2.1, N30.2.2.2.1, N30.2.2.2.2.1⟩ hp55
        replace hlz : Ls w54 az nz cz L2 := by obtain ⟨rfl⟩ := hp55; exact hlz.one (hlz.nbox H30 (by rw [B8_size, z32_len]; omega))
        replace H28 := (hp55.other (k := g50) (fun q => by rw [q, H30] at H28; cases H28)).trans H28
        refine dw_take 14 14 (.int .i64 e2) rfl (by kernel_rfl) (fun _ _ _ h => h) (fun _ => by kernel_rfl) (fun v hv _ => by kernel_rfl) Sw54 ?_
        refine dw_done (by kernel_rfl) ?_
        exact nw_cut [(9, .int .i64 e2), (11, .int .i64 e3), (12, .pointer (some ⟨g50, 0, none⟩)), (14, .int .i64 e2), (0, .slice (some ⟨gx, off, none⟩) n c), (3, .pointer (some ⟨g, 0, none⟩)), (5, .pointer (some ⟨g2, 0, none⟩)), (6, .pointer (some ⟨gr, 0, none⟩)), (42, .int .i64 ((n : Nat) : Int)), (43, .int .i64 ((k : Nat) : Int))] (by exact ⟨fun _ => by kernel_rfl, ⟨fun _ => by kernel_rfl, ⟨fun _ => by kernel_rfl, ⟨fun _ => by kernel_rfl, ⟨fun _ => by kernel_rfl, ⟨fun _ => by kernel_rfl, ⟨fun _ => by kernel_rfl, ⟨fun _ => by kernel_rfl, ⟨fun _ => by kernel_rfl, ⟨fun _ => by kernel_rfl, trivial⟩⟩⟩⟩⟩⟩⟩⟩⟩⟩) ⟨g50, az, nz, cz, rfl, Sw54, H28, hlz⟩
      refine ar_new 10 12 (#[.int .i64 0, .slice none 0 0]) 28 rfl (fun _ => by kernel_rfl) (fun _ => by kernel_rfl) (fun w' g h => Sw44.go h.below) ?_ ar_nil
      intro w56 g57 hn58
      have Sw56 := Sw44.go hn58.below
      have H28 := hn58.row
      have N28 : g57 ≠ g ∧ g57 ≠ m ∧ g57 ≠ g2 ∧ g57 ≠ m2 ∧ g57 ≠ gr ∧ W.heap.size ≤ g57 := by have h1 := Sw44.st.lts; have h2 := Sw44.s2.lts; have h3 := lt_of_get Sw44.rb; have h4 := Sw44.bel.size; have h5 := hn58.hg; omega
      replace H30 := Below.row hn58.below H30
      have B28 : g57 = w44.heap.size := hn58.hg
      refine dw_ready [5] (by kernel_rfl) (by simp) ?_
      refine ar_call 5 74 18 #[.agg #[.int .i64 ((n : Nat) : Int), .slice a' n' c'], .string t] rfl (fun _ => by kernel_rfl) (fun _ => by kernel_rfl) (R := fun val w' => (∃ az nz cz, val = .tuple #[.agg #[.int .i64 ((n : Nat) : Int), .slice az nz cz], .agg (B8 d2), .int .i64 e2] ∧ Ls w' az nz cz L2) ∧ Below (w56).heap.size (w56) w') ((hrput (w56) Sw56.ls).mono (fun e w' h => by obtain ⟨⟨a2, n2, c2, rfl, h1⟩, h2⟩ := h; exact ⟨_, rfl, ⟨a2, n2, c2, rfl, h1⟩, h2⟩)) (fun val w' h => Sw56.go h.2) ?_ ar_nil
      rintro val u59 ⟨⟨az, nz, cz, rfl, hlz⟩, hb60⟩
      have Su59 := Sw56.go hb60
      replace H28 := Below.row hb60 H28
      replace H30 := Below.row hb60 H30
      refine dw_take 6 68 (.tuple #[.agg #[.int .i64 ((n : Nat) : Int), .slice az nz cz], .agg (B8 d2), .int .i64 e2]) rfl (by kernel_rfl) (fun _ _ _ h => h) (fun _ => by kernel_rfl) (fun v hv _ => by kernel_rfl) Su59 ?_
      refine dw_take 7 75 (.agg #[.int .i64 ((n : Nat) : Int), .slice az nz cz]) rfl (by kernel_rfl) (fun _ _ _ h => h) (fun _ => by kernel_rfl) (fun v hv _ => by kernel_rfl) Su59 ?_
      refine dw_take 8 76 (.agg (B8 d2)) rfl (by kernel_rfl) (fun _ _ _ h => h) (fun _ => by kernel_rfl) (fun v hv _ => by kernel_rfl) Su59 ?_
      refine dw_take 9 77 (.int .i64 e2) rfl (by kernel_rfl) (fun _ _ _ h => h) (fun _ => by kernel_rfl) (fun v hv _ => by kernel_rfl) Su59 ?_
      refine dw_ready [12] (by kernel_rfl) (by simp) ?_
      refine ar_put 12 g57 (#[.int .i64 ((n : Nat) : Int), .slice az nz cz]) rfl (fun _ => by kernel_rfl) (fun _ => ol_store 28 _ _ _ _ _ _ rfl (by kernel_rfl) (by kernel_rfl) H28 (by kernel_rfl) rfl (s_one _ _ _ _)) (fun w' h => Su59.box H28 (by simp) N28.2.2.2.2.2 ⟨N28.1, N28.2.1, N28.2.2.1, N28.2.2.2.1, N28.2.2.2.2.1⟩ h) ?_ ar_nil
      intro w61 hp62
      have Sw61 := Su59.box H28 (by simp) N28.2.2.2.2.2 ⟨N28.1, N28.2.1, N28.2.2.1, N28.2.2.2.1, N28.2.2.2.2.1⟩ hp62
      replace hlz : Ls w61 az nz cz L2 := by obtain ⟨rfl⟩ := hp62; exact hlz.one (hlz.nbox H28 (by simp))
      replace H30 := (hp62.other (k := g45) (fun q => by rw [q, H28] at H30; cases H30)).trans H30
      replace H28 := hp62.row H28
      refine dw_ready [13] (by kernel_rfl) (by simp) ?_
      refine ar_put 13 g45 (B8 d2) rfl (fun _ => by kernel_rfl) (fun _ => ol_store 30 _ _ _ _ _ _ rfl (by kernel_rfl) (by kernel_rfl) H30 (infoD d2 hd2) (z8_size hd2) (B8_ones _)) (fun w' h => Sw61.box H30 (by rw [B8_size, z32_len]; omega) N30.2.2.2.2.2 ⟨N30.1, N30.2.1, N30.2.2.1, N30.2.2.2.1, N30.2.2.2.2.1⟩ h) ?_ ar_nil
      intro w63 hp64
      have Sw63 := Sw61.box H30 (by rw [B8_size, z32_len]; omega) N30.2.2.2.2.2 ⟨N30.1, N30.2.1, N30.2.2.1, N30.2.2.2.1, N30.2.2.2.2.1⟩ hp64
      replace hlz : Ls w63 az nz cz L2 := by obtain ⟨rfl⟩ := hp64; exact hlz.one (hlz.nbox H30 (by rw [B8_size, z32_len]; omega))
      replace H28 := (hp64.other (k := g57) (fun q => by rw [q, H30] at H28; cases H28)).trans H28
      refine dw_take 14 14 (.int .i64 e2) rfl (by kernel_rfl) (fun _ _ _ h => h) (fun _ => by kernel_rfl) (fun v hv _ => by kernel_rfl) Sw63 ?_
      refine dw_done (by kernel_rfl) ?_
      exact nw_cut [(9, .int .i64 e2), (11, .int .i64 e3), (12, .pointer (some ⟨g57, 0, none⟩)), (14, .int .i64 e2), (0, .slice (some ⟨gx, off, none⟩) n c), (3, .pointer (some ⟨g, 0, none⟩)), (5, .pointer (some ⟨g2, 0, none⟩)), (6, .pointer (some ⟨gr, 0, none⟩)), (42, .int .i64 ((n : Nat) : Int)), (43, .int .i64 ((k : Nat) : Int))] (by exact ⟨fun _ => by kernel_rfl, ⟨fun _ => by kernel_rfl, ⟨fun _ => by kernel_rfl, ⟨fun _ => by kernel_rfl, ⟨fun _ => by kernel_rfl, ⟨fun _ => by kernel_rfl, ⟨fun _ => by kernel_rfl, ⟨fun _ => by kernel_rfl, ⟨fun _ => by kernel_rfl, ⟨fun _ => by kernel_rfl, trivial⟩⟩⟩⟩⟩⟩⟩⟩⟩⟩) ⟨g57, az, nz, cz, rfl, Sw63, H28, hlz⟩
    rintro e p7 ⟨gT, az, nz, cz, rfl, hZ5, hT, hlz⟩
    refine nw_then ?_
    refine cw_seq ?_
    refine cw_region ?_
    refine rw_p 78 (.agg #[.int .i64 ((n : Nat) : Int), .slice az nz cz]) (fun _ => by kernel_rfl) (fun _ => ol_row 28 _ _ _ _ _ _ rfl (by kernel_rfl) hT Try.underlying28 rfl (by kernel_rfl)) ?_
    refine rw_put gr #[.int .i64 ((n : Nat) : Int), .slice az nz cz] (fun _ => by kernel_rfl) (fun _ => ol_store 28 _ _ _ _ _ _ rfl (by kernel_rfl) (by kernel_rfl) hZ5.rb (by kernel_rfl) rfl (s_one _ _ _ _)) ?_
    intro p8 hp8
    have hZ6 := hZ5.setr hsep hlz hp8
    refine rw_nil ?_
    refine nw_then ?_
    rcases hce with rfl | rfl
    · skip
      rcases hcf with rfl | rfl
      · skip
        refine cw_seq ?_
        refine cw_seq ?_
        refine cw_region ?_
        refine rw_p 79 (.int .i64 0) (fun _ => by kernel_rfl) (fun _ => by kernel_rfl) ?_
        refine rw_p 80 (.bool false) (fun _ => by kernel_rfl) (fun _ => by kernel_rfl) ?_
        refine rw_nil ?_
        refine nw_then ?_
        refine cw_cond_f (fun _ => by kernel_rfl) ?_
        refine cw_skip ?_
        refine nw_then ?_
        refine cw_seq ?_
        refine cw_region ?_
        refine rw_p 81 (.int .i64 0) (fun _ => by kernel_rfl) (fun _ => by kernel_rfl) ?_
        refine rw_p 82 (.int .i64 0) (fun _ => by kernel_rfl) (fun _ => by kernel_rfl) ?_
        refine rw_p 83 (.bool false) (fun _ => by kernel_rfl) (fun _ => by kernel_rfl) ?_
        refine rw_p 84 (.bool false) (fun _ => by kernel_rfl) (fun _ => by kernel_rfl) ?_
        refine rw_p 85 (.int .i64 0) (fun _ => by kernel_rfl) (fun _ => by kernel_rfl) ?_
        refine rw_p 86 (.bool false) (fun _ => by kernel_rfl) (fun _ => by kernel_rfl) ?_
        refine rw_p 87 (.bool false) (fun _ => by kernel_rfl) (fun _ => by kernel_rfl) ?_
        refine rw_off 88 (fun _ => by kernel_rfl) ?_
        refine rw_off 89 (fun _ => by kernel_rfl) ?_
        refine rw_p 90 (.bool false) (fun _ => by kernel_rfl) (fun _ => by kernel_rfl) ?_
        refine rw_p 91 (.bool false) (fun _ => by kernel_rfl) (fun _ => by kernel_rfl) ?_
        refine rw_nil ?_
        refine nw_then ?_
        refine cw_cond_f (fun _ => by kernel_rfl) ?_
        refine cw_skip ?_
        refine nw_block ?_
        refine nw_then ?_
        refine cw_region ?_
        refine rw_p 92 (.int .i64 (((k : Nat) : Int) + 1)) (fun _ => by kernel_rfl) (fun _ => ol_conv (v := .int .i64 (IntKind.i64.wrap (((k : Nat) : Int) + 1))) (by kernel_rfl) (congrArg (Value.int .i64) (wrap64 (by omega) (by omega)))) ?_
        refine rw_p 43 (.int .i64 (((k : Nat) : Int) + 1)) (fun _ => by kernel_rfl) (fun _ => by kernel_rfl) ?_
        refine rw_nil ?_
        exact nw_round (E := fun x : (Nat × (List Th × List Th) × Option Addr × Nat × Nat) => [(0, .slice (some ⟨gx, off, none⟩) n c), (3, .pointer (some ⟨g, 0, none⟩)), (5, .pointer (some ⟨g2, 0, none⟩)), (6, .pointer (some ⟨gr, 0, none⟩)), (42, .int .i64 ((n : Nat) : Int)), (43, .int .i64 ((x.1 : Nat) : Int))]) (R := fun (x : (Nat × (List Th × List Th) × Option Addr × Nat × Nat)) v => Oz W v g m g2 m2 gr ((n : Nat) : Int) x.2.1.1 x.2.1.2 x.2.1.1 x.2.2.1 x.2.2.2.1 x.2.2.2.2 ∧ Cn x.2.1.1 (ts.take x.1) ∧ Bd x.2.1.1 x.1 ∧ Bd x.2.1.2 x.1 ∧ (Cn x.2.1.2 (ts.reverse.take x.1) ∨ Clash ts) ∧ x.1 ≤ n) (μ := fun x => n - x.1) (x := (k, (L, M), a', n', c')) (k + 1, (L2, M2), az, nz, cz) (by exact ⟨fun _ => by kernel_rfl, ⟨fun _ => by kernel_rfl, ⟨fun _ => by kernel_rfl, ⟨fun _ => by kernel_rfl, ⟨fun _ => by kernel_rfl, ⟨fun _ => by kernel_rfl, trivial⟩⟩⟩⟩⟩⟩) ⟨hZ6, by simp only; rw [take_fwd ht]; exact hcn rfl, hbL2, hbM2, hcM.imp (fun h => hcm2.1 ⟨h, rfl⟩) id, by simp only; omega⟩ (by simp only; omega)
      refine cw_seq ?_
      refine cw_seq ?_
      refine cw_region ?_
      refine rw_p 79 (.int .i64 0) (fun _ => by kernel_rfl) (fun _ => by kernel_rfl) ?_
      refine rw_p 80 (.bool false) (fun _ => by kernel_rfl) (fun _ => by kernel_rfl) ?_
      refine rw_nil ?_
      refine nw_then ?_
      refine cw_cond_f (fun _ => by kernel_rfl) ?_
      refine cw_skip ?_
      refine nw_then ?_
      refine cw_seq ?_
      refine cw_region ?_
      refine rw_p 81 (.int .i64 0) (fun _ => by kernel_rfl) (fun _ => by kernel_rfl) ?_
      refine rw_p 82 (.int .i64 0) (fun _ => by kernel_rfl) (fun _ => by kernel_rfl) ?_
      refine rw_p 83 (.bool false) (fun _ => by kernel_rfl) (fun _ => by kernel_rfl) ?_
      refine rw_p 84 (.bool false) (fun _ => by kernel_rfl) (fun _ => by kernel_rfl) ?_
      refine rw_p 85 (.int .i64 60) (fun _ => by kernel_rfl) (fun _ => by kernel_rfl) ?_
      refine rw_p 86 (.bool true) (fun _ => by kernel_rfl) (fun _ => by kernel_rfl) ?_
      refine rw_p 87 (.bool true) (fun _ => by kernel_rfl) (fun _ => by kernel_rfl) ?_
      refine rw_p 88 (.int .i64 60) (fun _ => by kernel_rfl) (fun _ => by kernel_rfl) ?_
      refine rw_p 89 (.bool false) (fun _ => by kernel_rfl) (fun _ => by kernel_rfl) ?_
      refine rw_p 90 (.bool false) (fun _ => by kernel_rfl) (fun _ => by kernel_rfl) ?_
      refine rw_p 91 (.bool false) (fun _ => by kernel_rfl) (fun _ => by kernel_rfl) ?_
      refine rw_nil ?_
      refine nw_then ?_
      refine cw_cond_f (fun _ => by kernel_rfl) ?_
      refine cw_skip ?_
      refine nw_block ?_
      refine nw_then ?_
      refine cw_region ?_
      refine rw_p 92 (.int .i64 (((k : Nat) : Int) + 1)) (fun _ => by kernel_rfl) (fun _ => ol_conv (v := .int .i64 (IntKind.i64.wrap (((k : Nat) : Int) + 1))) (by kernel_rfl) (congrArg (Value.int .i64) (wrap64 (by omega) (by omega)))) ?_
      refine rw_p 43 (.int .i64 (((k : Nat) : Int) + 1)) (fun _ => by kernel_rfl) (fun _ => by kernel_rfl) ?_
      refine rw_nil ?_
      exact nw_round (E := fun x : (Nat × (List Th × List Th) × Option Addr × Nat × Nat) => [(0, .slice (some ⟨gx, off, none⟩) n c), (3, .pointer (some ⟨g, 0, none⟩)), (5, .pointer (some ⟨g2, 0, none⟩)), (6, .pointer (some ⟨gr, 0, none⟩)), (42, .int .i64 ((n : Nat) : Int)), (43, .int .i64 ((x.1 : Nat) : Int))]) (R := fun (x : (Nat × (List Th × List Th) × Option Addr × Nat × Nat)) v => Oz W v g m g2 m2 gr ((n : Nat) : Int) x.2.1.1 x.2.1.2 x.2.1.1 x.2.2.1 x.2.2.2.1 x.2.2.2.2 ∧ Cn x.2.1.1 (ts.take x.1) ∧ Bd x.2.1.1 x.1 ∧ Bd x.2.1.2 x.1 ∧ (Cn x.2.1.2 (ts.reverse.take x.1) ∨ Clash ts) ∧ x.1 ≤ n) (μ := fun x => n - x.1) (x := (k, (L, M), a', n', c')) (k + 1, (L2, M2), az, nz, cz) (by exact ⟨fun _ => by kernel_rfl, ⟨fun _ => by kernel_rfl, ⟨fun _ => by kernel_rfl, ⟨fun _ => by kernel_rfl, ⟨fun _ => by kernel_rfl, ⟨fun _ => by kernel_rfl, trivial⟩⟩⟩⟩⟩⟩) ⟨hZ6, by simp only; rw [take_fwd ht]; exact hcn rfl, hbL2, hbM2, .inr (hcM.elim (fun h => hcm2.2 ⟨h, rfl⟩) id), by simp only; omega⟩ (by simp only; omega)
    refine cw_seq ?_
    refine cw_seq ?_
    refine cw_region ?_
    refine rw_p 79 (.int .i64 60) (fun _ => by kernel_rfl) (fun _ => by kernel_rfl) ?_
    refine rw_p 80 (.bool true) (fun _ => by kernel_rfl) (fun _ => by kernel_rfl) ?_
    refine rw_nil ?_
    refine nw_then ?_
    refine cw_cond_t (fun _ => by kernel_rfl) ?_
    refine cw_seq ?_
    refine cw_region ?_
    refine rw_p 2 (.bool true) (fun _ => by kernel_rfl) (fun _ => by kernel_rfl) ?_
    refine rw_nil ?_
    refine nw_then ?_
    refine cw_ret ?_
    refine nw_ret_then ?_
    refine nw_ret_block ?_
    refine nw_ret_then ?_
    refine nw_ret_then ?_
    refine nw_ret_block ?_
    refine nw_ret_then ?_
    exact nw_ret_body (.bool true) (fun _ => by kernel_rfl) ⟨rfl, hZ6.bel⟩
  obtain rfl : n = k := by omega
  have hfull : ts.take n = ts := by rw [hC.l]; exact List.take_of_length_le (Nat.le_refl _)
  have hfull2 : ts.reverse.take n = ts.reverse := by rw [hC.l]; exact List.take_of_length_le (by simp)
  rw [hfull] at hcL
  rw [hfull2] at hcM
  replace hcM : Cn M ts.reverse := hcM.resolve_right hcL.nc
  have hkeys := cn_keys hcL hcM (fun t => by simp)
  refine cw_seq ?_
  refine cw_region ?_
  refine rw_p 44 (.bool false) (fun _ => by kernel_rfl) (fun _ => ol_conv (v := .bool (decide (((n : Nat) : Int) < ((n : Nat) : Int)))) (by kernel_rfl) (congrArg Value.bool (decide_eq_false (by omega)))) ?_
  refine rw_nil ?_
  refine nw_then ?_
  refine cw_seq ?_
  refine cw_cond_f (fun _ => by kernel_rfl) ?_
  refine cw_exit ?_
  refine nw_exit_then ?_
  refine nw_exit_then ?_
  refine nw_exit_here ?_
  refine nw_then ?_
  refine cw_seq ?_
  refine cw_seq ?_
  refine cw_region ?_
  refine rw_p 93 (.pointer (some ⟨g, 0, none⟩)) (fun _ => by kernel_rfl) (fun _ => by kernel_rfl) ?_
  refine rw_call 94 13 #[.pointer (some ⟨g, 0, none⟩)] (fun _ => by kernel_rfl) (fun _ => by kernel_rfl) (R := fun val w' => (∃ aa nn cc MM, val = .slice aa nn cc ∧ Ds w' aa nn cc MM ∧ Srt MM ∧ MM.Perm (L.map Th.d)) ∧ Below (v).heap.size (v) w') ((list_any hZ.st hbL.iv (by have := hbL.len; omega)).mono (fun e w' h => by obtain ⟨⟨a1, n1, c1, M1, rfl, h⟩, hb⟩ := h; exact ⟨_, rfl, ⟨a1, n1, c1, M1, rfl, h⟩, hb⟩)) ?_
  rintro val u66 ⟨⟨ay65, ny65, cy65, My65, rfl, hdy65, hsy65, hpy65⟩, hb67⟩
  replace hZ := hZ.go hb67
  refine rw_p 95 (.pointer (some ⟨g2, 0, none⟩)) (fun _ => by kernel_rfl) (fun _ => by kernel_rfl) ?_
  refine rw_call 96 13 #[.pointer (some ⟨g2, 0, none⟩)] (fun _ => by kernel_rfl) (fun _ => by kernel_rfl) (R := fun val w' => (∃ aa nn cc MM, val = .slice aa nn cc ∧ Ds w' aa nn cc MM ∧ Srt MM ∧ MM.Perm (M.map Th.d)) ∧ Below (u66).heap.size (u66) w') ((list_any hZ.s2 hbM.iv (by have := hbM.len; omega)).mono (fun e w' h => by obtain ⟨⟨a1, n1, c1, M1, rfl, h⟩, hb⟩ := h; exact ⟨_, rfl, ⟨a1, n1, c1, M1, rfl, h⟩, hb⟩)) ?_
  rintro val u69 ⟨⟨ay68, ny68, cy68, My68, rfl, hdy68, hsy68, hpy68⟩, hb70⟩
  replace hZ := hZ.go hb70
  replace hdy65 := hdy65.go hb70
  obtain rfl : My65 = My68 := srt_eq hsy65 hsy68 ((hpy65.trans hkeys).trans hpy68.symm)
  refine rw_call 97 12 #[.slice ay65 ny65 cy65, .slice ay68 ny68 cy68] (fun _ => by kernel_rfl) (fun _ => by kernel_rfl) (R := fun val w' => val = .bool true ∧ Below (u69).heap.size (u69) w') ((same_any hdy65 hdy68).mono (fun e w' h => ⟨_, h.1, by simp, h.2⟩)) ?_
  rintro val u71 ⟨rfl, hb72⟩
  replace hZ := hZ.go hb72
  refine rw_p 98 (.bool false) (fun _ => by kernel_rfl) (fun _ => by kernel_rfl) ?_
  refine rw_p 99 (.bool false) (fun _ => by kernel_rfl) (fun _ => by kernel_rfl) ?_
  refine rw_p 100 (.pointer (some ⟨g, 0, none⟩)) (fun _ => by kernel_rfl) (fun _ => by kernel_rfl) ?_
  refine rw_call 101 15 #[.pointer (some ⟨g, 0, none⟩)] (fun _ => by kernel_rfl) (fun _ => by kernel_rfl) (R := fun val w' => val = .int .i64 ((L.length : Nat) : Int) ∧ w' = u71) ((len_any hZ.st).mono (fun e w' h => ⟨_, h.1, rfl, h.2⟩)) ?_
  rintro val u73 ⟨rfl, rfl⟩
  refine rw_p 102 (.pointer (some ⟨g2, 0, none⟩)) (fun _ => by kernel_rfl) (fun _ => by kernel_rfl) ?_
  refine rw_call 103 15 #[.pointer (some ⟨g2, 0, none⟩)] (fun _ => by kernel_rfl) (fun _ => by kernel_rfl) (R := fun val w' => val = .int .i64 ((M.length : Nat) : Int) ∧ w' = u73) ((len_any hZ.s2).mono (fun e w' h => ⟨_, h.1, rfl, h.2⟩)) ?_
  rintro val u74 ⟨rfl, rfl⟩
  refine rw_p 104 (.bool false) (fun _ => by kernel_rfl) (fun _ => ol_conv (v := .bool (!(((L.length : Nat) : Int) == ((M.length : Nat) : Int)))) (by kernel_rfl) (congrArg Value.bool (by have := hkeys.length_eq; rw [List.length_map, List.length_map] at this; rw [this]; simp))) ?_
  refine rw_p 105 (.bool false) (fun _ => by kernel_rfl) (fun _ => by kernel_rfl) ?_
  refine rw_nil ?_
  refine nw_then ?_
  refine cw_cond_f (fun _ => by kernel_rfl) ?_
  refine cw_skip ?_
  refine nw_then ?_
  refine cw_seq ?_
  refine cw_seq ?_
  refine cw_region ?_
  refine rw_p 106 (.pointer (some ⟨g, 0, none⟩)) (fun _ => by kernel_rfl) (fun _ => by kernel_rfl) ?_
  refine rw_call 107 13 #[.pointer (some ⟨g, 0, none⟩)] (fun _ => by kernel_rfl) (fun _ => by kernel_rfl) (R := fun val w' => (∃ aa nn cc MM, val = .slice aa nn cc ∧ Ds w' aa nn cc MM ∧ Srt MM ∧ MM.Perm (L.map Th.d)) ∧ Below (u74).heap.size (u74) w') ((list_any hZ.st hbL.iv (by have := hbL.len; omega)).mono (fun e w' h => by obtain ⟨⟨a1, n1, c1, M1, rfl, h⟩, hb⟩ := h; exact ⟨_, rfl, ⟨a1, n1, c1, M1, rfl, h⟩, hb⟩)) ?_
  rintro val u76 ⟨⟨ay75, ny75, cy75, My75, rfl, hdy75, hsy75, hpy75⟩, hb77⟩
  replace hZ := hZ.go hb77
  refine rw_p 108 (.int .i64 ny75) (fun _ => by kernel_rfl) (fun _ => by kernel_rfl) ?_
  refine rw_p 109 (.int .i64 0) (fun _ => by kernel_rfl) (fun _ => by kernel_rfl) ?_
  refine rw_nil ?_
  refine nw_then ?_
  refine cw_block ?_
  have hZz := hZ
  clear hZ
  have hny : ny75 ≤ 1048576 := by have h1 := hdy75.l; have h2 := hpy75.length_eq; rw [List.length_map] at h2; have h3 := hbL.len; omega
  refine cw_loop (X := Nat) (fun k : Nat => [(3, .pointer (some ⟨g, 0, none⟩)), (5, .pointer (some ⟨g2, 0, none⟩)), (107, .slice ay75 ny75 cy75), (108, .int .i64 ((ny75 : Nat) : Int)), (109, .int .i64 ((k : Nat) : Int))]) (fun (k : Nat) v => Oz W v g m g2 m2 gr ((n : Nat) : Int) L M L a' n' c' ∧ Ds v ay75 ny75 cy75 My75 ∧ k ≤ ny75) (fun k => ny75 - k) 0 (by exact ⟨fun _ => by kernel_rfl, ⟨fun _ => by kernel_rfl, ⟨fun _ => by kernel_rfl, ⟨fun _ => by kernel_rfl, ⟨fun _ => by kernel_rfl, trivial⟩⟩⟩⟩⟩) ⟨hZz, hdy75, Nat.zero_le _⟩ ?_
  clear hZz hdy75
  rintro k v2 ⟨hZ, hdm, hkn2⟩
  by_cases hlt2 : k < ny75
  · skip
    obtain ⟨d, hd⟩ : ∃ d, My75[k]? = some d := ⟨_, List.getElem?_eq_getElem (by rw [← hdm.l]; exact hlt2)⟩
    obtain ⟨gx, off, rfl, _⟩ := hdm.rows k d hd
    have hdl := hdm.lens d (List.mem_of_getElem? hd)
    obtain ⟨sx, rx, hga, hgb, hr1⟩ := cn_get hcL hcM (fun t => by simp) (fun d => (cnt_rev ts d).symm) (hpy75.mem_iff.1 (List.mem_of_getElem? hd))
    refine cw_seq ?_
    refine cw_region ?_
    refine rw_p 110 (.bool true) (fun _ => by kernel_rfl) (fun _ => ol_conv (v := .bool (decide (((k : Nat) : Int) < ((ny75 : Nat) : Int)))) (by kernel_rfl) (congrArg Value.bool (decide_eq_true (by omega)))) ?_
    refine rw_nil ?_
    refine nw_then ?_
    refine cw_seq ?_
    refine cw_cond_t (fun _ => by kernel_rfl) ?_
    refine cw_skip ?_
    refine nw_then ?_
    refine cw_seq ?_
    refine cw_block ?_
    refine cw_seq ?_
    refine cw_region ?_
    refine rw_p 111 (.pointer (some ⟨gx, off + k * 32, none⟩)) (fun _ => by kernel_rfl) (fun _ => ol_index 38 _ _ gx off k ny75 cy75 32 30 rfl (by kernel_rfl) (by kernel_rfl) hlt2 Try.underlying38 (by kernel_rfl)) ?_
    refine rw_p 112 (.agg (B8 d)) (fun _ => by kernel_rfl) (fun _ => ol_mid 30 _ _ _ _ _ rfl (by kernel_rfl) (hdm.rng hd) Try.underlying30 rfl (by rw [List.length_map, hdl]; kernel_rfl)) ?_
    refine rw_new 16 (B8 z32) 30 (fun _ => by kernel_rfl) (fun _ => by kernel_rfl) ?_
    intro q1 gd hnq
    refine rw_put gd (B8 d) (fun _ => by kernel_rfl) (fun _ => ol_store 30 _ _ _ _ _ _ rfl (by kernel_rfl) (by kernel_rfl) hnq.row (infoD d hdl) (z8_size hdl) (B8_ones _)) ?_
    intro q2 hpq2
    have hnd2 := hnq.put hpq2
    replace hZ := hZ.go hnd2.below
    replace hdm := hdm.go hnd2.below
    have hO : q2.heap[gd]? = some (.cells (B8 d) 30 (0, 0)) := hnd2.row
    refine rw_nil ?_
    refine nw_then ?_
    refine cw_seq ?_
    refine cw_region ?_
    refine rw_p 114 (.pointer (some ⟨g, 0, none⟩)) (fun _ => by kernel_rfl) (fun _ => by kernel_rfl) ?_
    refine rw_p 115 (.agg (B8 d)) (fun _ => by kernel_rfl) (fun _ => ol_row 30 _ _ _ _ _ _ rfl (by kernel_rfl) hO Try.underlying30 rfl (infoD d hdl)) ?_
    refine rw_call 116 19 #[.pointer (some ⟨g, 0, none⟩), .agg (B8 d)] (fun _ => by kernel_rfl) (fun _ => by kernel_rfl) (R := fun val w' => val = .tuple #[.string sx, .int .i64 rx, .bool true] ∧ Below q2.heap.size q2 w') ((get_any hZ.st d hdl).mono (fun e w' h => ⟨_, by rw [h.1, hga], rfl, h.2⟩)) ?_
    rintro val u78 ⟨rfl, hb79⟩
    replace hZ := hZ.go hb79
    replace hdm := hdm.go hb79
    replace hO := Below.row hb79 hO
    refine rw_p 113 (.tuple #[.string sx, .int .i64 rx, .bool true]) (fun _ => by kernel_rfl) (fun _ => by kernel_rfl) ?_
    refine rw_p 117 (.string sx) (fun _ => by kernel_rfl) (fun _ => by kernel_rfl) ?_
    refine rw_p 118 (.int .i64 rx) (fun _ => by kernel_rfl) (fun _ => by kernel_rfl) ?_
    refine rw_p 119 (.bool true) (fun _ => by kernel_rfl) (fun _ => by kernel_rfl) ?_
    refine rw_p 17 (.string sx) (fun _ => by kernel_rfl) (fun _ => by kernel_rfl) ?_
    refine rw_p 18 (.int .i64 rx) (fun _ => by kernel_rfl) (fun _ => by kernel_rfl) ?_
    refine rw_p 19 (.bool true) (fun _ => by kernel_rfl) (fun _ => by kernel_rfl) ?_
    refine rw_nil ?_
    refine nw_then ?_
    refine cw_seq ?_
    refine cw_region ?_
    refine rw_p 121 (.pointer (some ⟨g2, 0, none⟩)) (fun _ => by kernel_rfl) (fun _ => by kernel_rfl) ?_
    refine rw_p 122 (.agg (B8 d)) (fun _ => by kernel_rfl) (fun _ => ol_row 30 _ _ _ _ _ _ rfl (by kernel_rfl) hO Try.underlying30 rfl (infoD d hdl)) ?_
    refine rw_call 123 19 #[.pointer (some ⟨g2, 0, none⟩), .agg (B8 d)] (fun _ => by kernel_rfl) (fun _ => by kernel_rfl) (R := fun val w' => val = .tuple #[.string sx, .int .i64 rx, .bool true] ∧ Below u78.heap.size u78 w') ((get_any hZ.s2 d hdl).mono (fun e w' h => ⟨_, by rw [h.1, hgb], rfl, h.2⟩)) ?_
    rintro val u80 ⟨rfl, hb81⟩
    replace hZ := hZ.go hb81
    replace hdm := hdm.go hb81
    replace hO := Below.row hb81 hO
    refine rw_p 120 (.tuple #[.string sx, .int .i64 rx, .bool true]) (fun _ => by kernel_rfl) (fun _ => by kernel_rfl) ?_
    refine rw_p 124 (.string sx) (fun _ => by kernel_rfl) (fun _ => by kernel_rfl) ?_
    refine rw_p 125 (.int .i64 rx) (fun _ => by kernel_rfl) (fun _ => by kernel_rfl) ?_
    refine rw_p 126 (.bool true) (fun _ => by kernel_rfl) (fun _ => by kernel_rfl) ?_
    refine rw_p 20 (.string sx) (fun _ => by kernel_rfl) (fun _ => by kernel_rfl) ?_
    refine rw_p 21 (.int .i64 rx) (fun _ => by kernel_rfl) (fun _ => by kernel_rfl) ?_
    refine rw_p 22 (.bool true) (fun _ => by kernel_rfl) (fun _ => by kernel_rfl) ?_
    refine rw_nil ?_
    refine nw_then ?_
    refine cw_seq ?_
    refine cw_region ?_
    refine rw_p 127 (.string sx) (fun _ => by kernel_rfl) (fun _ => by kernel_rfl) ?_
    refine rw_p 128 (.string sx) (fun _ => by kernel_rfl) (fun _ => by kernel_rfl) ?_
    refine rw_p 129 (.bool false) (fun _ => by kernel_rfl) (fun _ => ol_nes 34 _ _ _ sx sx rfl (by kernel_rfl) (by kernel_rfl) (by simp)) ?_
    refine rw_p 130 (.bool false) (fun _ => by kernel_rfl) (fun _ => by kernel_rfl) ?_
    refine rw_p 131 (.int .i64 rx) (fun _ => by kernel_rfl) (fun _ => by kernel_rfl) ?_
    refine rw_p 132 (.int .i64 rx) (fun _ => by kernel_rfl) (fun _ => by kernel_rfl) ?_
    refine rw_p 133 (.bool false) (fun _ => by kernel_rfl) (fun _ => ol_conv (v := .bool (!((rx : Int) == (rx : Int)))) (by kernel_rfl) (congrArg Value.bool (by simp))) ?_
    refine rw_p 134 (.bool false) (fun _ => by kernel_rfl) (fun _ => by kernel_rfl) ?_
    refine rw_p 135 (.bool false) (fun _ => by kernel_rfl) (fun _ => by kernel_rfl) ?_
    refine rw_p 136 (.bool true) (fun _ => by kernel_rfl) (fun _ => by kernel_rfl) ?_
    refine rw_p 137 (.bool false) (fun _ => by kernel_rfl) (fun _ => by kernel_rfl) ?_
    refine rw_p 138 (.bool false) (fun _ => by kernel_rfl) (fun _ => by kernel_rfl) ?_
    refine rw_p 139 (.bool false) (fun _ => by kernel_rfl) (fun _ => by kernel_rfl) ?_
    refine rw_p 140 (.int .i64 rx) (fun _ => by kernel_rfl) (fun _ => by kernel_rfl) ?_
    refine rw_p 141 (.bool false) (fun _ => by kernel_rfl) (fun _ => ol_conv (v := .bool (decide ((rx : Int) < (1 : Int)))) (by kernel_rfl) (congrArg Value.bool (decide_eq_false (by omega)))) ?_
    refine rw_p 142 (.bool false) (fun _ => by kernel_rfl) (fun _ => by kernel_rfl) ?_
    refine rw_nil ?_
    refine nw_then ?_
    refine cw_cond_f (fun _ => by kernel_rfl) ?_
    refine cw_skip ?_
    refine nw_block ?_
    refine nw_then ?_
    refine cw_region ?_
    refine rw_p 143 (.int .i64 (((k : Nat) : Int) + 1)) (fun _ => by kernel_rfl) (fun _ => ol_conv (v := .int .i64 (IntKind.i64.wrap (((k : Nat) : Int) + 1))) (by kernel_rfl) (congrArg (Value.int .i64) (wrap64 (by omega) (by omega)))) ?_
    refine rw_p 109 (.int .i64 (((k : Nat) : Int) + 1)) (fun _ => by kernel_rfl) (fun _ => by kernel_rfl) ?_
    refine rw_nil ?_
    exact nw_round (E := fun k : Nat => [(3, .pointer (some ⟨g, 0, none⟩)), (5, .pointer (some ⟨g2, 0, none⟩)), (107, .slice (some ⟨gx, off, none⟩) ny75 cy75), (108, .int .i64 ((ny75 : Nat) : Int)), (109, .int .i64 ((k : Nat) : Int))]) (R := fun (k : Nat) v => Oz W v g m g2 m2 gr ((n : Nat) : Int) L M L a' n' c' ∧ Ds v (some ⟨gx, off, none⟩) ny75 cy75 My75 ∧ k ≤ ny75) (μ := fun k => ny75 - k) (x := k) (k + 1) (by exact ⟨fun _ => by kernel_rfl, ⟨fun _ => by kernel_rfl, ⟨fun _ => by kernel_rfl, ⟨fun _ => by kernel_rfl, ⟨fun _ => by kernel_rfl, trivial⟩⟩⟩⟩⟩) ⟨hZ, hdm, by omega⟩ (by show ny75 - (k + 1) < ny75 - k; omega)
  refine cw_seq ?_
  refine cw_region ?_
  refine rw_p 110 (.bool false) (fun _ => by kernel_rfl) (fun _ => ol_conv (v := .bool (decide (((k : Nat) : Int) < ((ny75 : Nat) : Int)))) (by kernel_rfl) (congrArg Value.bool (decide_eq_false (by omega)))) ?_
  refine rw_nil ?_
  refine nw_then ?_
  refine cw_seq ?_
  refine cw_cond_f (fun _ => by kernel_rfl) ?_
  refine cw_exit ?_
  refine nw_exit_then ?_
  refine nw_exit_then ?_
  refine nw_exit_here ?_
  refine nw_then ?_
  refine cw_seq ?_
  refine cw_region ?_
  refine rw_p 2 (.bool true) (fun _ => by kernel_rfl) (fun _ => by kernel_rfl) ?_
  refine rw_nil ?_
  refine nw_then ?_
  refine cw_ret ?_
  exact nw_ret_body (.bool true) (fun _ => by kernel_rfl) ⟨rfl, hZ.bel⟩
end Go.Proofs.Ytjpcfdhkgfaeeaa
