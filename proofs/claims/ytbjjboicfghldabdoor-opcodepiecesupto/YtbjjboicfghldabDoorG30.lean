/- A code that was written is read as it was: plain. -/
import Derived.Test.YtbjjboicfghldabDoorG28
namespace Go.Proofs.YtbjjboicfghldabDoor
open Go.RowKit
open Wo
set_option linter.unusedVariables false
set_option maxRecDepth 100000
/-- Bytes none of which is a blank. -/
def NoB (l : List Int) : Prop := ∀ x ∈ l, bl x = false
/-- What may stand behind a word. -/
def Bh (l : List Int) : Prop := l = [] ∨ ∃ r, l = 32 :: r
theorem rn_word : ∀ {w rest : List Int}, NoB w → Bh rest → rn (w ++ rest) false = w.length
  | [], rest, _, h => by
    rcases h with rfl | ⟨r, rfl⟩
    · rfl
    · rw [List.nil_append, rn_cons]; rfl
  | x :: w, rest, hw, h => by
    rw [List.cons_append, rn_cons, if_pos (hw x List.mem_cons_self), rn_word (fun y hy => hw y (List.mem_cons_of_mem _ hy)) h]
    rfl
theorem rn_none {w rest : List Int} (hw : NoB w) (hne : w ≠ []) : rn (w ++ rest) true = 0 := by
  cases w with
  | nil => exact absurd rfl hne
  | cons x w =>
    rw [List.cons_append, rn_cons, if_neg]
    rw [hw x List.mem_cons_self]
    decide
theorem nx_word {w rest : List Int} (hw : NoB w) (hne : w ≠ []) (h : Bh rest) : nxW (w ++ rest) = w ∧ nxR (w ++ rest) = rest := by
  have h1 := rn_none (rest := rest) hw hne
  have h2 := rn_word hw h
  unfold nxW nxR nx1
  rw [h1, List.drop_zero, h2]
  exact ⟨List.take_left' rfl, List.drop_left' rfl⟩
theorem nx_blank {w rest : List Int} (hw : NoB w) (hne : w ≠ []) (h : Bh rest) : nxW (32 :: (w ++ rest)) = w ∧ nxR (32 :: (w ++ rest)) = rest := by
  have h1 : rn (32 :: (w ++ rest)) true = 1 := by rw [rn_cons, rn_none hw hne]; rfl
  have h2 := rn_word hw h
  unfold nxW nxR nx1
  rw [h1, List.drop_succ_cons, List.drop_zero, h2]
  exact ⟨List.take_left' rfl, List.drop_left' rfl⟩
theorem nob_pr (n : Nat) : NoB (pr n) := fun x hx => by
  have := pr_digits n x hx
  unfold bl
  rw [beq_eq_false_iff_ne.2 (by omega), beq_eq_false_iff_ne.2 (by omega)]
  rfl
theorem pr_ne (n : Nat) : pr n ≠ [] := (pr_good n).1
theorem nob_app {a b : List Int} (ha : NoB a) (hb : NoB b) : NoB (a ++ b) := fun x hx => by
  rcases List.mem_append.1 hx with h | h
  · exact ha x h
  · exact hb x h
theorem nob_lit {l : List Int} (h : (l.all fun x => !bl x) = true) : NoB l := fun x hx => by
  have := List.all_eq_true.1 h x hx
  simpa using this
/-- A piece. -/
def Pc (b : List Int) : Prop := ∃ x r, b = x :: r ∧ Byt b ∧ ((ofP x = none ∧ r = []) ∨ ∃ o, ofP x = some o ∧ ((r = [] ∧ 0 < o.bh) ∨ r.length = o.bh))
/-- What bytes say that are read as a statement. -/
def Sts (t b rest : List Int) : Prop := ∀ p, nxW t ≠ [] ∧ (s1 t p).1 = (b, 0, 0) ∧ (s1 t p).2.1 = rest
theorem sts_of {t w t' b rest : List Int} (hw : nxW t = w) (hr : nxR t = t') (hne : w ≠ []) (h : ∀ p pl, (stP w t' p pl).1 = (b, 0, 0) ∧ (stP w t' p pl).2.1 = rest) : Sts t b rest := fun p => by
  refine ⟨by rw [hw]; exact hne, ?_⟩
  unfold s1
  rw [hw, hr]
  exact h _ _
theorem st_one {w b rest : List Int} (hb : bgP w = some (b, 0)) : ∀ p pl, (stP w rest p pl).1 = (b, 0, 0) ∧ (stP w rest p pl).2.1 = rest := fun p pl => by
  rw [st_0 hb rfl]
  exact ⟨rfl, rfl⟩
theorem st_num {w hd rest : List Int} {sz m : Nat} (hb : bgP w = some (hd, sz)) (h0 : sz ≠ 0) (hp : w ≠ pushW) (hm : m < W64) (hs : szo m ≤ sz) (h : Bh rest) : ∀ p pl, (stP w (32 :: (pr m ++ rest)) p pl).1 = (hd ++ bek sz m, 0, 0) ∧ (stP w (32 :: (pr m ++ rest)) p pl).2.1 = rest := fun p pl => by
  obtain ⟨h1, h2⟩ := nx_blank (nob_pr m) (pr_ne m) h
  rw [st_ok hb h0 (by rw [h1]; exact ps_pr hm) (by omega) hp]
  exact ⟨rfl, h2⟩
theorem st_psh {rest : List Int} {m : Nat} (hm : m < W64) (h : Bh rest) : ∀ p pl, (stP pushW (32 :: (pr m ++ rest)) p pl).1 = (((31 + szo m : Nat) : Int) :: bek (szo m) m, 0, 0) ∧ (stP pushW (32 :: (pr m ++ rest)) p pl).2.1 = rest := fun p pl => by
  obtain ⟨h1, h2⟩ := nx_blank (nob_pr m) (pr_ne m) h
  have := szo_bd hm
  rw [st_push bg_push (by omega) (by rw [h1]; exact ps_pr hm) (by omega) rfl]
  exact ⟨rfl, h2⟩
theorem bek_1 {x : Int} (hx : 0 ≤ x ∧ x < 256) : bek 1 x.toNat = [x] := by
  show [] ++ [((x.toNat % 256 : Nat) : Int)] = [x]
  rw [Nat.mod_eq_of_lt (by omega), List.nil_append]
  congr 1
  omega
theorem szo_le {m k : Nat} (h1 : 1 ≤ k) (h : m < 256 ^ k) : szo m ≤ k := by
  have := (nb_le_iff m k).2 h
  unfold szo
  omega
/-- What a piece's words are, and what they say. -/
theorem wr_sts {b : List Int} (hb : Pc b) : ∃ w t, wr b = w ++ t ∧ NoB w ∧ w ≠ [] ∧ ∀ rest, Bh rest → Bh (t ++ rest) ∧ ∀ p pl, (stP w (t ++ rest) p pl).1 = (b, 0, 0) ∧ (stP w (t ++ rest) p pl).2.1 = rest := by
  obtain ⟨x, r, rfl, hby, hc⟩ := hb
  have hx := hby x List.mem_cons_self
  have hbr : Byt r := fun y hy => hby y (List.mem_cons_of_mem _ hy)
  have hbyte : r = [] → ∃ w t, byteW ++ 32 :: pr x.toNat = w ++ t ∧ NoB w ∧ w ≠ [] ∧ ∀ rest, Bh rest → Bh (t ++ rest) ∧ ∀ p pl, (stP w (t ++ rest) p pl).1 = (x :: r, 0, 0) ∧ (stP w (t ++ rest) p pl).2.1 = rest := by
    rintro rfl
    refine ⟨byteW, 32 :: pr x.toNat, rfl, nob_lit (by decide), by decide, fun rest hrest => ⟨.inr ⟨_, rfl⟩, fun p pl => ?_⟩⟩
    have h9 := st_num (rest := rest) (m := x.toNat) bg_byte (by omega) (by decide) (by unfold W64; omega) (szo_le (by omega) (by show _ < 256; omega)) hrest p pl
    rw [bek_1 hx] at h9
    exact h9
  rcases hc with ⟨hof, hr⟩ | ⟨o, hof, hc⟩
  · rw [wr_no hof]; exact hbyte hr
  · by_cases hlt : r.length < o.bh
    · rw [wr_lt hof hlt]
      exact hbyte (hc.elim (fun h => h.1) fun h => by omega)
    · have hrl : r.length = o.bh := hc.elim (fun h => by have := h.2; rw [h.1] at hlt; simp at hlt; omega) id
      have hbh8 := (nf_small hof).1
      have hv := vl_lt8 hbr (by omega)
      have hv2 := vl_lt r hbr
      have hbk := bek_vl r hbr
      rw [hrl] at hv2 hbk
      by_cases hpu : 32 ≤ x ∧ x < 40
      · have ho := of_push hpu
        rw [hof] at ho
        obtain rfl := Option.some.inj ho
        simp only at hrl hv2 hbk hlt hbh8
        have h0 : (x - 31).toNat ≠ 0 := by omega
        by_cases hs : (x - 31).toNat = szo (vl r)
        · rw [wr_w hof hlt h0 hs]
          refine ⟨pushW, 32 :: pr (vl r), rfl, nob_lit (by decide), by decide, fun rest hrest => ⟨.inr ⟨_, rfl⟩, fun p pl => ?_⟩⟩
          have h9 := st_psh (rest := rest) (m := vl r) hv hrest p pl
          rw [← hs, hbk, show ((31 + (x - 31).toNat : Nat) : Int) = x by omega] at h9
          exact h9
        · rw [wr_p hof hlt h0 hs]
          have hbg := bg_sized (l := pushW ++ pr (x - 31).toNat) (i := (x - 31).toNat) (by omega) hbh8 rfl
          have hnp : pushW ++ pr (x - 31).toNat ≠ pushW := fun e => pr_ne _ (List.append_right_eq_self.1 e)
          refine ⟨pushW ++ pr (x - 31).toNat, 32 :: pr (vl r), rfl, nob_app (nob_lit (by decide)) (nob_pr _), by simp [pushW], fun rest hrest => ⟨.inr ⟨_, rfl⟩, fun p pl => ?_⟩⟩
          have h9 := st_num (rest := rest) (m := vl r) hbg h0 hnp hv (szo_le (by omega) hv2) hrest p pl
          rw [hbk, show ((31 + (x - 31).toNat : Nat) : Int) = x by omega] at h9
          exact h9
      · have ho := of_not hpu
        rw [hof] at ho
        cases hf : fdP x with
        | none => rw [hf] at ho; cases ho
        | some q =>
          rw [hf] at ho
          have hq := Option.some.inj ho
          have hmem : q ∈ tbl := List.mem_of_find?_eq_some hf
          have hop : (q.op : Int) = x := by have := List.find?_some hf; simpa using this
          have key : ∀ q ∈ tbl, q.op = 32 ∨ ((q.bh = 0 ∨ q.bh = 1) ∧ bgP q.wd = some ([(q.op : Int)], q.bh) ∧ q.wd ≠ pushW ∧ (q.wd.all fun x => !bl x) = true ∧ q.wd ≠ []) := by decide +kernel
          rcases key q hmem with h32 | ⟨hbh, hbg, hnp, hnb, hne⟩
          · omega
          · rw [hop] at hbg
            subst hq
            simp only at hrl hv2 hbk hlt hbh8
            by_cases h0 : q.bh = 0
            · rw [wr_0 hof h0]
              have hr0 : r = [] := List.eq_nil_of_length_eq_zero (by omega)
              subst hr0
              rw [h0] at hbg
              refine ⟨q.wd, [], (List.append_nil _).symm, nob_lit hnb, hne, fun rest hrest => ⟨hrest, fun p pl => ?_⟩⟩
              exact st_one hbg p pl
            · have h1 : q.bh = 1 := by omega
              have hso := szo_le (k := q.bh) (by omega) hv2
              have hs1 := (szo_bd hv).1
              rw [wr_w hof hlt h0 (by show q.bh = _; omega)]
              refine ⟨q.wd, 32 :: pr (vl r), rfl, nob_lit hnb, hne, fun rest hrest => ⟨.inr ⟨_, rfl⟩, fun p pl => ?_⟩⟩
              have h9 := st_num (rest := rest) (m := vl r) hbg h0 hnp hv hso hrest p pl
              rw [hbk] at h9
              exact h9
theorem wr_read {b rest : List Int} (hb : Pc b) (h : Bh rest) : Sts (wr b ++ rest) b rest ∧ Sts (32 :: (wr b ++ rest)) b rest := by
  obtain ⟨w, t, e, hw, hne, hs⟩ := wr_sts hb
  obtain ⟨h1, h2⟩ := hs rest h
  rw [e, List.append_assoc]
  obtain ⟨a1, a2⟩ := nx_word hw hne h1
  obtain ⟨b1, b2⟩ := nx_blank hw hne h1
  exact ⟨sts_of a1 a2 hne h2, sts_of b1 b2 hne h2⟩
def jn2 (L : List (List Int)) : List Int := (L.map (32 :: ·)).flatten
theorem jn2_bh (L : List (List Int)) : Bh (jn2 L) := by
  cases L with
  | nil => exact .inl rfl
  | cons x r => exact .inr ⟨_, rfl⟩
theorem as_step {t b rest code : List Int} {p : Nat} (h : Sts t b rest) (hl : code.length + b.length ≤ 256) : ∃ p', asF code t p = asF (code ++ b) rest p' := by
  obtain ⟨h0, h1, h2⟩ := h p
  refine ⟨(s1 t p).2.2, ?_⟩
  rw [as_go h0 (by rw [h1]) (by rw [h1]; simp only; omega), h1, h2]
theorem as_jn : ∀ (L : List (List Int)) (code : List Int) (p : Nat), (∀ b ∈ L, Pc b) → code.length + L.flatten.length ≤ 256 → asF code (jn2 (L.map wr)) p = (code ++ L.flatten, 0, 0)
  | [], code, p, _, _ => by
    rw [List.map_nil, List.flatten_nil, List.append_nil]
    exact as_end rfl
  | b :: L, code, p, hb, hl => by
    rw [List.flatten_cons, List.length_append] at hl
    have hr := (wr_read (hb b List.mem_cons_self) (jn2_bh (L.map wr))).2
    have e : jn2 ((b :: L).map wr) = 32 :: (wr b ++ jn2 (L.map wr)) := rfl
    obtain ⟨p', hp⟩ := as_step (code := code) (p := p) hr (by omega)
    rw [e, hp, as_jn L (code ++ b) p' (fun c hc => hb c (List.mem_cons_of_mem _ hc)) (by rw [List.length_append]; omega), List.flatten_cons, List.append_assoc]
theorem pc_all : ∀ (n : Nat) (l : List Int), l.length ≤ n → Byt l → (pcF l).flatten = l ∧ ∀ b ∈ pcF l, Pc b
  | _, [], _, _ => ⟨rfl, fun b hb => absurd hb List.not_mem_nil⟩
  | 0, x :: r, h, _ => by simp at h
  | n + 1, x :: r, h, hb => by
    have hd := drop_lt (x := x) (r := r)
    rw [List.length_cons] at h
    obtain ⟨h1, h2⟩ := pc_all n ((x :: r).drop (szP (x :: r))) (by omega) (byt_drop hb _)
    rw [pcF_cons]
    refine ⟨by rw [List.flatten_cons, h1, List.take_append_drop], fun b hbm => ?_⟩
    rcases List.mem_cons.1 hbm with rfl | hbm
    · cases hof : ofP x with
      | none => rw [szP_no hof]; exact ⟨x, [], rfl, byt_take hb 1, .inl ⟨hof, rfl⟩⟩
      | some o =>
        by_cases hlt : r.length < o.bh
        · rw [szP_lt hof hlt]; exact ⟨x, [], rfl, byt_take hb 1, .inr ⟨o, hof, .inl ⟨rfl, by omega⟩⟩⟩
        · rw [szP_ge hof hlt, Nat.add_comm]
          exact ⟨x, r.take o.bh, rfl, byt_take hb _, .inr ⟨o, hof, .inr (by rw [List.length_take]; omega)⟩⟩
    · exact h2 b hbm
/-- A code that was written is read as it was. -/
theorem as_pr {l : List Int} (hb : Byt l) (hl : l.length ≤ 256) : asF [] (prP l).1 0 = (l, 0, 0) := by
  rw [pr_of (by omega)]
  obtain ⟨h1, h2⟩ := pc_all l.length l (Nat.le_refl _) hb
  show asF [] (jnP ((pcF l).map wr)) 0 = _
  cases hp : pcF l with
  | nil =>
    rw [hp] at h1
    rw [← h1]
    exact as_end rfl
  | cons b L =>
    rw [hp] at h1 h2
    have hlen : b.length + L.flatten.length ≤ 256 := by rw [← h1, List.flatten_cons, List.length_append] at hl; exact hl
    have hr := (wr_read (h2 b List.mem_cons_self) (jn2_bh (L.map wr))).1
    have e : jnP ((b :: L).map wr) = wr b ++ jn2 (L.map wr) := rfl
    obtain ⟨p', hq⟩ := as_step (code := []) (p := 0) hr (by simp; omega)
    rw [e, hq, as_jn L ([] ++ b) p' (fun c hc => h2 c (List.mem_cons_of_mem _ hc)) (by rw [List.nil_append]; exact hlen), List.nil_append, ← List.flatten_cons, h1]
theorem pr_byt {l : List Int} (hb : Byt l) : Byt (prP l).1 ∧ (prP l).1.length ≤ 20000 ∧ ((prP l).2 = 0 ↔ l.length ≤ 256) := by
  by_cases h : 256 < l.length
  · rw [pr_long h]
    exact ⟨(fun x hx => absurd hx List.not_mem_nil), by simp, ⟨fun e => by simp at e, fun e => by omega⟩⟩
  · rw [pr_of h]
    obtain ⟨h1, h2⟩ := pc_all l.length l (Nat.le_refl _) hb
    have h3 : ∀ b ∈ pcF l, Byt b ∧ b.length ≤ 9 := fun b hb => by
      obtain ⟨x, r, rfl, hby, hc⟩ := h2 b hb
      refine ⟨hby, ?_⟩
      rw [List.length_cons]
      rcases hc with ⟨_, rfl⟩ | ⟨o, hof, ⟨rfl, _⟩ | hr⟩
      · simp
      · simp
      · have := (nf_small hof).1; omega
    have hjb : ∀ L : List (List Int), (∀ b ∈ L, Byt b) → Byt (jnP L) := by
      intro L hL
      cases L with
      | nil => exact fun x hx => absurd hx List.not_mem_nil
      | cons y L =>
        refine byt_app (hL y List.mem_cons_self) fun x hx => ?_
        obtain ⟨z, hz, hx⟩ := List.mem_flatten.1 hx
        obtain ⟨q, hq, rfl⟩ := List.mem_map.1 hz
        rcases List.mem_cons.1 hx with rfl | hx
        · omega
        · exact hL q (List.mem_cons_of_mem _ hq) x hx
    have hcnt : (pcF l).length ≤ l.length := by
      have key : ∀ L : List (List Int), (∀ b ∈ L, Pc b) → L.length ≤ L.flatten.length := by
        intro L
        induction L with
        | nil => intro _; simp
        | cons b L ih =>
          intro hb
          obtain ⟨x, r, rfl, _⟩ := hb b List.mem_cons_self
          have := ih fun c hc => hb c (List.mem_cons_of_mem _ hc)
          rw [List.flatten_cons, List.length_append, List.length_cons, List.length_cons]
          omega
      have := key (pcF l) h2
      rwa [h1] at this
    refine ⟨hjb _ fun b hb => ?_, ?_, ⟨fun _ => by omega, fun _ => rfl⟩⟩
    · obtain ⟨q, hq, rfl⟩ := List.mem_map.1 hb
      exact (wr_good (h3 q hq).1 (h3 q hq).2).1
    · have := jn_len ((pcF l).map wr) fun b hb => by
        obtain ⟨q, hq, rfl⟩ := List.mem_map.1 hb
        exact (wr_good (h3 q hq).1 (h3 q hq).2).2
      rw [List.length_map] at this
      show (jnP _).length ≤ _
      omega
/-- What is read of a text is a code. -/
theorem as_ok : ∀ (n : Nat) (code rest : List Int) (p : Nat), rest.length ≤ n → Byt code → code.length ≤ 256 → Byt (asF code rest p).1 ∧ (asF code rest p).1.length ≤ 256 ∧ ((asF code rest p).2.2 ≠ 0 → (asF code rest p).1 = [])
  | n, code, rest, p, hn, hb, hl => by
    by_cases h0 : nxW rest = []
    · rw [as_end h0]; exact ⟨hb, hl, fun h => absurd rfl h⟩
    · have hs := s1_len (p := p) h0
      have hnil : Byt ([] : List Int) := fun x hx => absurd hx List.not_mem_nil
      by_cases he : (s1 rest p).1.2.2 = 0
      · by_cases hlg : 256 < code.length + (s1 rest p).1.1.length
        · rw [as_long h0 he hlg]; exact ⟨hnil, Nat.zero_le _, fun _ => rfl⟩
        · rw [as_go h0 he hlg]
          match n, hn with
          | 0, hn => omega
          | n + 1, hn => exact as_ok n _ _ _ (by omega) (byt_app hb st_byt1) (by rw [List.length_append]; omega)
      · rw [as_err h0 he]; exact ⟨hnil, Nat.zero_le _, fun _ => rfl⟩
end Go.Proofs.YtbjjboicfghldabDoor
