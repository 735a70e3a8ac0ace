/- Marks and pieces without a bound on their steps; texts joined; rows of numbers and of texts. -/
import Derived.Test.YtbjjboicfghldabDoorG18
import Derived.Test.YtbjjboicfghldabDoorG19
import Derived.Lib.Join
namespace Go.Proofs.YtbjjboicfghldabDoor
open Go.RowKit
open Wo
set_option linter.unusedVariables false
set_option maxRecDepth 100000
theorem mkP_nil : ∀ (n p : Nat), mkP n p [] = []
  | 0, _ => rfl
  | _ + 1, _ => rfl
theorem pcs_nil : ∀ n : Nat, pcs n [] = []
  | 0 => rfl
  | _ + 1 => rfl
theorem drop_lt {x : Int} {r : List Int} : ((x :: r).drop (szP (x :: r))).length ≤ r.length := by
  have := szP_pos (x :: r)
  rw [List.length_drop, List.length_cons]
  omega
theorem mk_fuel : ∀ (n m p : Nat) (l : List Int), l.length ≤ n → l.length ≤ m → mkP n p l = mkP m p l
  | _, _, _, [], _, _ => by rw [mkP_nil, mkP_nil]
  | 0, _, _, x :: r, h, _ => by simp at h
  | _, 0, _, x :: r, _, h => by simp at h
  | n + 1, m + 1, p, x :: r, h1, h2 => by
    have hd := drop_lt (x := x) (r := r)
    simp only [List.length_cons] at h1 h2
    simp only [mkP]
    rw [mk_fuel n m _ _ (by omega) (by omega)]
theorem pcs_fuel : ∀ (n m : Nat) (l : List Int), l.length ≤ n → l.length ≤ m → pcs n l = pcs m l
  | _, _, [], _, _ => by rw [pcs_nil, pcs_nil]
  | 0, _, x :: r, h, _ => by simp at h
  | _, 0, x :: r, _, h => by simp at h
  | n + 1, m + 1, x :: r, h1, h2 => by
    have hd := drop_lt (x := x) (r := r)
    simp only [List.length_cons] at h1 h2
    simp only [pcs]
    rw [pcs_fuel n m _ (by omega) (by omega)]
def mkF (p : Nat) (l : List Int) : List Nat := mkP l.length p l
def pcF (l : List Int) : List (List Int) := pcs l.length l
theorem mkF_nil (p : Nat) : mkF p [] = [] := rfl
theorem pcF_nil : pcF [] = [] := rfl
theorem mkF_cons (p : Nat) (x : Int) (r : List Int) : mkF p (x :: r) = (if x = 66 then [p] else []) ++ mkF (p + szP (x :: r)) ((x :: r).drop (szP (x :: r))) := by
  unfold mkF
  rw [List.length_cons, mkP, mk_fuel r.length _ _ _ drop_lt (Nat.le_refl _)]
theorem pcF_cons (x : Int) (r : List Int) : pcF (x :: r) = (x :: r).take (szP (x :: r)) :: pcF ((x :: r).drop (szP (x :: r))) := by
  unfold pcF
  rw [List.length_cons, pcs, pcs_fuel r.length _ _ drop_lt (Nat.le_refl _)]
theorem pr_of {l : List Int} (h : ¬ 256 < l.length) : prP l = (jnP ((pcF l).map wr), 0) := by unfold prP; rw [if_neg h]; rfl
theorem pr_long {l : List Int} (h : 256 < l.length) : prP l = ([], 142) := by unfold prP; rw [if_pos h]
theorem szP_9 (l : List Int) : szP l ≤ 9 := by
  cases l with
  | nil => show 1 ≤ 9; omega
  | cons x r =>
    cases h : ofP x with
    | none => rw [szP_no h]; omega
    | some o =>
      have := (nf_small h).1
      by_cases hl : r.length < o.bh
      · rw [szP_lt h hl]; omega
      · rw [szP_ge h hl]; omega
theorem wr_good {b : List Int} (hb : Byt b) (hl : b.length ≤ 9) : Byt (wr b) ∧ (wr b).length ≤ 60 := by
  cases b with
  | nil => exact ⟨(fun x hx => absurd hx (List.not_mem_nil)), Nat.zero_le _⟩
  | cons x r =>
    have hx := hb x List.mem_cons_self
    have hbr : Byt r := fun y hy => hb y (List.mem_cons_of_mem _ hy)
    simp only [List.length_cons] at hl
    have hv := vl_lt8 hbr (by omega)
    have hz : x.toNat < W64 := by unfold W64; omega
    have p1 := pr_len (n := x.toNat) hz
    have p2 := pr_len (n := vl r) hv
    have hbw : Byt byteW := byt_lit (by decide)
    have hpw : Byt pushW := byt_lit (by decide)
    have hlb : byteW.length = 4 := rfl
    have hlp : pushW.length = 4 := rfl
    have hsp : ∀ {l : List Int}, Byt l → Byt (32 :: l) := fun h y hy => by
      rcases List.mem_cons.1 hy with rfl | hy
      · omega
      · exact h y hy
    cases h : ofP x with
    | none => rw [wr_no h]; exact ⟨byt_app hbw (hsp (byt_pr _)), by simp; omega⟩
    | some o =>
      obtain ⟨h1, _, _, _, h2, h3, _⟩ := nf_small h
      have p3 := pr_len (n := o.bh) (by omega)
      by_cases hlt : r.length < o.bh
      · rw [wr_lt h hlt]; exact ⟨byt_app hbw (hsp (byt_pr _)), by simp; omega⟩
      · by_cases h0 : o.bh = 0
        · rw [wr_0 h h0]; exact ⟨h2, by omega⟩
        · by_cases hs : o.bh = szo (vl r)
          · rw [wr_w h hlt h0 hs]; exact ⟨byt_app h2 (hsp (byt_pr _)), by simp; omega⟩
          · rw [wr_p h hlt h0 hs]; exact ⟨byt_app (byt_app hpw (byt_pr _)) (hsp (byt_pr _)), by simp; omega⟩
/-- Texts, joined. -/
def strV (l : List Int) : Value := .string (strOfNums l)
def intV (n : Nat) : Value := .int .i64 ((n : Nat) : Int)
theorem str_nil : strOfNums [] = ⟨#[]⟩ := rfl
theorem jt_str (r : List (List Int)) : Lib.joinTail (strOfNums [32]).data.toList ((r.map strOfNums).map (·.data.toList)) = ((r.map (32 :: ·)).flatten).map fun n => UInt8.ofNat n.toNat := by
  induction r with
  | nil => rfl
  | cons y r ih =>
    have e : ∀ s a l, Lib.joinTail s (a :: l) = (s ++ a) ++ Lib.joinTail s l := fun _ _ _ => rfl
    have e2 : ((y :: r).map (32 :: ·)).flatten = (32 :: y) ++ (r.map (32 :: ·)).flatten := rfl
    rw [List.map_cons, List.map_cons, e, ih, e2, List.map_append, str_data, str_data]
    rfl
theorem join_str (L : List (List Int)) : (⟨(Lib.join ((L.map strOfNums).map (·.data.toList)) (strOfNums [32]).data.toList).toArray⟩ : ByteArray) = strOfNums (jnP L) := by
  apply ba_ext
  cases L with
  | nil => rfl
  | cons x r =>
    rw [List.map_cons, List.map_cons, Lib.join_cons, jt_str, str_data, str_data]
    simp only [jnP, List.map_append]
theorem jn_len (L : List (List Int)) (h : ∀ x ∈ L, x.length ≤ 60) : (jnP L).length ≤ 61 * L.length := by
  have key : ∀ r : List (List Int), (∀ x ∈ r, x.length ≤ 60) → ((r.map (32 :: ·)).flatten).length ≤ 61 * r.length := by
    intro r
    induction r with
    | nil => intro _; simp
    | cons y r ih =>
      intro h
      have h1 := h y List.mem_cons_self
      have h2 := ih fun x hx => h x (List.mem_cons_of_mem _ hx)
      simp only [List.map_cons, List.flatten_cons, List.length_append, List.length_cons]
      omega
  cases L with
  | nil => simp [jnP]
  | cons x r =>
    have h1 := h x List.mem_cons_self
    have h2 := key r fun y hy => h y (List.mem_cons_of_mem _ hy)
    simp only [jnP, List.length_append, List.length_cons]
    omega
theorem join_len (L : List (List Int)) : (Lib.join ((L.map strOfNums).map (·.data.toList)) (strOfNums [32]).data.toList).length = (jnP L).length := by
  have := congrArg (fun b : ByteArray => b.data.toList.length) (join_str L)
  simpa [str_data] using this
/-- strings.Join of a row of one's own. -/
theorem wjoin {w : World} {base : Nat} {v : Value} {L : List (List Int)} (h : Own 9 w base v (L.map strV)) (hL : ∀ x ∈ L, x.length ≤ 60) (hl : L.length ≤ 100000) : Calls Tryd.prog 17 #[v, .string (strOfNums [32])] w fun e w' => ∃ u, e = .returned u ∧ RVl w (.string (strOfNums (jnP L))) u w' := by
  by_cases h0 : L = []
  · subst h0
    obtain ⟨a, c, rfl⟩ := h.form
    exact (strings_Join_none a c _ w).mono fun e w' ⟨h1, h2⟩ => ⟨_, h1, rfl, by rw [h2]; exact Bl.refl _⟩
  · have hp : 0 < (L.map strV).length := by rw [List.length_map]; exact List.length_pos_iff.2 h0
    obtain ⟨g, cap, rfl, hg, hc, hm, hcell⟩ := h.slice hp
    have hj := strings_Join g 0 cap (L.map strOfNums) (strOfNums [32]) w (fun j x hx => by
      rw [Nat.zero_add]
      refine hcell j _ ?_
      rw [List.getElem?_map] at hx ⊢
      cases hq : L[j]? with
      | none => rw [hq] at hx; cases hx
      | some y => rw [hq] at hx; cases hx; rfl) hg (by simp; omega) (by simpa using hc) (by rw [join_len]; have := jn_len L hL; omega)
    rw [join_str] at hj
    simp only [List.length_map] at hj ⊢
    exact hj.mono fun e w' ⟨h1, h2⟩ => ⟨_, h1, rfl, h2⟩
end Go.Proofs.YtbjjboicfghldabDoor
