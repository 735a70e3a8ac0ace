/- What Encode answers, of every item. -/
import Derived.Test.YtchgejomcgoaeaaGreatG02
import Derived.Test.YtchgejomcgoaeaaGreatG03
import Derived.Deep.OwnRows
import Derived.Laws.OwnMore
import Derived.Test.YtchgejomcgoaeaaGreatG00
import Derived.Test.YtchgejomcgoaeaaGreatG01
set_option linter.unusedVariables false
namespace Go.Proofs.YtchgejomcgoaeaaGreat
open Go.RowKit
variable {n : Nat}
def encP (t : T) : List Int × Nat := if (mP t).2 = 0 then (enc t, 0) else ([], (mP t).2)
theorem Zx4 {t : T} (h : (mP t).2 = 0) : (wk t 0 0).2 = 0 ∧ szb t ≤ 16777215 ∧ (mP t).1 = sz t := by
  unfold mP at *
  by_cases h1 : (wk t 0 0).2 = 0
  · rw [if_neg (by rw [h1]; simp)] at h ⊢
    by_cases h2 : 16777215 < szb t
    · rw [if_pos h2] at h; cases h
    · rw [if_neg h2]; exact ⟨h1, by omega, rfl⟩
  · rw [if_pos h1] at h; exact absurd h h1
theorem Zq4 (n : Nat) : ∀ x ∈ be n, 0 ≤ x ∧ x < 256 := by
  induction n using Nat.strongRecOn with
  | _ n ih =>
    by_cases h : n = 0
    · subst h; rw [Zek]; intro x hx; cases hx
    · rw [Zfr (by omega)]
      intro x hx
      rcases List.mem_append.1 hx with hx | hx
      · exact ih _ (Nat.div_lt_self (by omega) (by decide)) x hx
      · simp at hx; omega
theorem Zqj {l : Bool} (hn : n < 16777216) : ∀ x ∈ hd (baseOf l) n, 0 ≤ x ∧ x < 256 := by
  have hb : baseOf l ≤ 192 := by cases l <;> decide
  intro x hx
  unfold hd at hx
  split at hx
  · simp at hx; omega
  · rcases List.mem_cons.1 hx with rfl | hx
    · have := Zgq hn; omega
    · exact Zq4 n x hx
theorem Zk6 {its : List T} (ih : ∀ t ∈ its, byt t → (bodyOf t).length < 16777216 → ∀ x ∈ enc t, 0 ≤ x ∧ x < 256) : byts its → (encs its).length < 16777216 → ∀ x ∈ encs its, 0 ≤ x ∧ x < 256 := by
  induction its with
  | nil => intro _ _ x hx; rw [Za4] at hx; cases hx
  | cons t r ihr =>
    intro hb hl x hx
    obtain ⟨h1, h2⟩ := (Zkf t r).1 hb
    rw [Za9] at hx hl
    rw [List.length_append] at hl
    rcases List.mem_append.1 hx with hx | hx
    · exact ih t (List.mem_cons_self ..) h1 (by have := Zuc t; omega) x hx
    · exact ihr (fun u hu => ih u (List.mem_cons_of_mem _ hu)) h2 (by omega) x hx
theorem Znp : ∀ t, byt t → (bodyOf t).length < 16777216 → ∀ x ∈ enc t, 0 ≤ x ∧ x < 256 := by
  refine T.ind fun l bs its ih hb hl x hx => ?_
  obtain ⟨h1, h2⟩ := (Zuf l bs its).1 hb
  have hl2 : (bs ++ encs its).length < 16777216 := hl
  have hbody : ∀ x ∈ bs ++ encs its, 0 ≤ x ∧ x < 256 := Zp2 h1 (Zk6 ih h2 (by rw [List.length_append] at hl2; omega))
  rw [Zb9] at hx
  split at hx
  · exact hbody x hx
  · rcases List.mem_append.1 hx with hx | hx
    · exact Zqj hl2 x hx
    · exact hbody x hx
theorem Zg4 {t : T} (h : (mP t).2 = 0) : (mP t).1 = (enc t).length ∧ (bodyOf t).length < 16777216 ∧ form t = true := by
  obtain ⟨h1, h2, h3⟩ := Zx4 h
  have hf := Zn2 t 0 0 h1
  rw [h3, Zty t hf, ← Zid hf]
  exact ⟨rfl, by omega, hf⟩
theorem Zh3 {t : T} (hb : (bodyOf t).length < 16777216) : (enc t).length ≤ 16777220 := by
  obtain ⟨l, bs, its⟩ := t
  have hb2 : (bs ++ encs its).length < 16777216 := hb
  rw [Zb9]
  split
  · omega
  · rw [List.length_append, hd_len]
    have := Zgq hb2
    split <;> omega
theorem made_bytes (n : Nat) : madeCells #[Value.int .u8 0] n = ((List.replicate n (0 : Int)).map (Value.int .u8)).toArray := by
  apply Array.ext'
  rw [toList_madeCells_one]
  simp
theorem row_ag {w : World} {g : Nat} {bs : List Int} (h : Row g w bs) (hl : bs.length = n) (hb : ∀ x ∈ bs, 0 ≤ x ∧ x < 256) (hn : n ≤ 9223372036854775807) : Ag w (some ⟨g, 0, none⟩) n n bs := by
  refine ⟨?_, (fun h => by cases h), hl, hb⟩
  by_cases h0 : n = 0
  · exact .inl ⟨h0, List.eq_nil_of_length_eq_zero (by omega)⟩
  · exact .inr ⟨g, 0, rfl, hl, by omega, Nat.le_refl _, by unfold maxLen; omega, fun j hj => by rw [Nat.zero_add]; exact h.cell hj⟩
theorem info5b : (Tryz.prog.info? 5).map (fun i => (i.zero, i.size, i.bytes)) = some (some (.int .u8 0), 1, 1) := by kernel_rfl
end Go.Proofs.YtchgejomcgoaeaaGreat
namespace Go.Proofs.YtchgejomcgoaeaaGreat
variable {deep : Bool} {b : List Int} {d n : Nat}
theorem Zr1 {P : List Int → Prop} (h0 : P []) (h1 : ∀ r x, P r → P (r ++ [x])) (l : List Int) : P l := by
  have : ∀ m : List Int, P m.reverse := by
    intro m
    induction m with
    | nil => exact h0
    | cons x r ih => rw [List.reverse_cons]; exact h1 _ _ ih
  have := this l.reverse
  rwa [List.reverse_reverse] at this
theorem Zyp (s : List Int) : (∀ x ∈ s, 0 ≤ x ∧ x < 256) → s.headD 0 ≠ 0 → be (val s) = s := by
  induction s using Zr1 with
  | h0 => intro _ h; exact absurd rfl h
  | h1 r x ih =>
    intro h hh
    have hx := h x (by simp)
    rw [Zfu]
    cases r with
    | nil =>
      have hx2 : x ≠ 0 := hh
      rw [show val ([] : List Int) = 0 from rfl, Zfr (by omega), show (0 * 256 + x.toNat) / 256 = 0 from by omega, Zek]
      simp; omega
    | cons y r =>
      have h1 := ih (fun z hz => h z (List.mem_append_left _ hz)) hh
      have h2 : 0 < val (y :: r) := by
        rcases Nat.eq_zero_or_pos (val (y :: r)) with h0 | h0
        · rw [h0, Zek] at h1; cases h1
        · exact h0
      rw [Zfr (by omega), show (val (y :: r) * 256 + x.toNat) / 256 = val (y :: r) from by omega, h1, show (((val (y :: r) * 256 + x.toNat) % 256 : Nat) : Int) = x from by omega]
theorem Zqh {f t : Nat} (hb : ∀ x ∈ b, 0 ≤ x ∧ x < 256) (h : hdr deep b = .ok f t) :
    (b.headD 0 < 128 ∧ f = 0 ∧ t = 1 ∧ 0 < b.length) ∨ (128 ≤ b.headD 0 ∧ 1 ≤ f ∧ f ≤ t ∧ t ≤ b.length ∧ t - f ≤ 16777215 ∧ b.take f = hd (if 192 ≤ b.headD 0 then 192 else 128) (t - f) ∧ (192 ≤ b.headD 0 → deep = false) ∧ (f = 1 ↔ t - f ≤ 55)) := by
  have hok := Zj4 h
  unfold hdr at h
  split at h
  · cases h
  · rename_i c r
    have hc := hb c (by simp)
    split at h
    · cases h
    · rename_i hdeep
      have hd2 : 192 ≤ c → deep = false := fun h1 => by
        cases deep with
        | false => rfl
        | true => exact absurd ⟨h1, rfl⟩ hdeep
      split at h
      · rename_i h1
        cases h
        exact .inl ⟨h1, rfl, rfl, by simp⟩
      · rename_i h1
        have hbase : (if 192 ≤ c then 192 else 128 : Nat) + nOf c = c.toNat := by
          unfold nOf
          split <;> omega
        have hn63 : nOf c ≤ 63 := by
          unfold nOf
          split <;> omega
        right
        show 128 ≤ c ∧ _
        refine ⟨by omega, ?_⟩
        show 1 ≤ f ∧ f ≤ t ∧ t ≤ (c :: r).length ∧ t - f ≤ 16777215 ∧ (c :: r).take f = hd (if 192 ≤ c then 192 else 128) (t - f) ∧ (192 ≤ c → deep = false) ∧ _
        split at h
        · rename_i h55
          split at h
          · cases h
          · rename_i h4
            obtain ⟨l1, l2, l3, l4, l5⟩ := Zev (Decidable.not_not.1 h4)
            split at h
            · cases h
            · cases h
              rw [l5] at *
              have hk1 : 1 ≤ nOf c - 55 := by omega
              have hlt := Zda (b := r) (fun x hx => hb x (List.mem_cons_of_mem _ hx)) (j := nOf c - 55) l2 l1
              have hhead : (r.take (nOf c - 55)).headD 0 ≠ 0 := by
                cases r with
                | nil => simp at l2; omega
                | cons y r =>
                  obtain ⟨k, hk⟩ : ∃ k, nOf c - 55 = k + 1 := ⟨nOf c - 55 - 1, by omega⟩
                  rw [hk]
                  exact l3
              have hbe := Zyp (r.take (nOf c - 55)) (fun x hx => hb x (List.mem_cons_of_mem _ (List.mem_of_mem_take hx))) hhead
              have hnb : nb (val (r.take (nOf c - 55))) = nOf c - 55 := by
                rw [← Zh8, hbe, List.length_take]; omega
              refine ⟨by omega, by omega, by omega, by omega, ?_, hd2, by constructor <;> intro _ <;> omega⟩
              rw [show 1 + (nOf c - 55) + val (r.take (nOf c - 55)) - (1 + (nOf c - 55)) = val (r.take (nOf c - 55)) from by omega]
              unfold hd
              rw [if_neg (by omega), hnb, hbe, show 1 + (nOf c - 55) = (nOf c - 55) + 1 from by omega, List.take_succ_cons]
              congr 1
              omega
        · rename_i h55
          split at h
          · cases h
          · cases h
            refine ⟨by omega, by omega, by omega, by omega, ?_, hd2, by constructor <;> intro _ <;> omega⟩
            rw [show 1 + nOf c - 1 = nOf c from by omega]
            unfold hd
            rw [if_pos (by omega)]
            show [c] = _
            congr 1
            omega
def Good (d : Nat) (b : List Int) (t : T) (n : Nat) : Prop :=
  enc t = b.take n ∧ form t = true ∧ ∀ w, w + n ≤ 16777215 → (wk t d w).2 = 0 ∧ (wk t d w).1 ≤ w + n
theorem Zhw {d : Nat} {g : List Int → R} (hg : ∀ b t n, (∀ x ∈ b, 0 ≤ x ∧ x < 256) → g b = .ok t n → Good d b t n ∧ 1 ≤ n ∧ n ≤ b.length) :
    ∀ (n : Nat) (b : List Int) (ts : List T), (∀ x ∈ b, 0 ≤ x ∧ x < 256) → rdAll g n b = .ok ts → encs ts = b ∧ forms ts = true ∧ ∀ w, w + b.length ≤ 16777215 → (wks ts d w).2 = 0 ∧ (wks ts d w).1 ≤ w + b.length
  | n, [], ts, hb, h => by
    rw [Zc3] at h
    cases h
    exact ⟨Za4, Zcu, fun w hw => by rw [Zc0]; exact ⟨rfl, by simp⟩⟩
  | 0, x :: b, ts, hb, h => by cases h
  | n + 1, x :: b, ts, hb, h => by
    cases hx : g (x :: b) with
    | bad e => rw [Zds (by simp) hx] at h; cases h
    | ok t m =>
      rw [Zd0 (by simp) hx] at h
      obtain ⟨⟨g1, g2, g3⟩, m1, m2⟩ := hg _ _ _ hb hx
      cases hr : rdAll g n ((x :: b).drop m) with
      | bad e => rw [hr] at h; cases h
      | ok us =>
        rw [hr] at h
        cases h
        obtain ⟨r1, r2, r3⟩ := Zhw hg n _ us (fun y hy => hb y (List.mem_of_mem_drop hy)) hr
        refine ⟨by rw [Za9, g1, r1, List.take_append_drop], by rw [Zfd, g2, r2]; rfl, fun w hw => ?_⟩
        have e := List.length_drop (i := m) (l := x :: b)
        obtain ⟨a1, a2⟩ := g3 w (by omega)
        rw [Zcv, if_pos a1]
        obtain ⟨b1, b2⟩ := r3 _ (show (wk t d w).1 + ((x :: b).drop m).length ≤ 16777215 by omega)
        exact ⟨b1, by omega⟩
theorem Zud {f t : Nat} (h : f ≤ t) : b.take t = b.take f ++ (b.take t).drop f := by
  conv => lhs; rw [← List.take_append_drop f (b.take t)]
  rw [List.take_take, Nat.min_eq_left h]
theorem Zul {l : Bool} {bs : List Int} (h : bs.length ≤ n) (h1 : 1 ≤ n) : wt l bs d ≤ n := by
  unfold wt
  split <;> omega
theorem Zly {g : List Int → R} (hdd : deep = false → d < 8) (hg : ∀ b t n, (∀ x ∈ b, 0 ≤ x ∧ x < 256) → g b = .ok t n → Good (d + 1) b t n ∧ 1 ≤ n ∧ n ≤ b.length) {t : T} (hb : ∀ x ∈ b, 0 ≤ x ∧ x < 256) (h : rd1 g deep b = .ok t n) :
    Good d b t n ∧ (bodyOf t).length ≤ 16777215 ∧ ((wk t 0 0).2 = 0 ∨ d ≠ 0) := by
  have hn := Zva h
  unfold rd1 at h
  split at h
  · cases h
  · rename_i f t' hh
    have hp := Zqh hb hh
    have hok := Zj4 hh
    have hlb : ((b.take t').drop f).length = t' - f := by rw [List.length_drop, List.length_take]; omega
    split at h
    · rename_i h192
      split at h
      · cases h
      · rename_i hno
        cases h
        have hwk : ∀ d' w, w + wt false ((b.take n).drop f) d' ≤ 16777215 → wk (.mk false ((b.take n).drop f) []) d' w = (w + wt false ((b.take n).drop f) d', 0) := by
          intro d' w hw
          rw [Zi9, if_neg (by simp), if_neg (by simp [wrongForm]), if_neg (by omega), Zc0]
        have hwt : ∀ d', wt false ((b.take n).drop f) d' ≤ n := fun d' => Zul (by omega) hn.1
        have hlen : ((b.take n).drop f).length ≤ 16777215 := by
          rw [hlb]
          rcases hp with ⟨_, rfl, rfl, _⟩ | ⟨_, _, _, _, h5, _⟩
          · omega
          · exact h5
        refine ⟨⟨?_, ?_, ?_⟩, ?_, ?_⟩
        · rw [Zb9, Za4, List.append_nil]
          rcases hp with ⟨h1, rfl, rfl, h4⟩ | ⟨h1, h2, h3, h4, h5, h6, h7, h8⟩
          · cases b with
            | nil => simp at h4
            | cons c r =>
              have h1' : c < 128 := h1
              rw [if_pos (by simp [bare, h1'])]
              simp
          · have hnb : bare false ((b.take n).drop f) = false := by
              unfold bare
              by_cases hl1 : ((b.take n).drop f).length = 1
              · rw [hlb] at hl1
                have hf1 : f = 1 := h8.2 (by omega)
                subst hf1
                have hn2 : n = 2 := by omega
                subst hn2
                have hge : ¬ b.getD 1 0 < 128 := fun hlt => hno ⟨rfl, rfl, hlt⟩
                have hhd : ((b.take 2).drop 1).headD 0 = b.getD 1 0 := by
                  cases b with
                  | nil => rfl
                  | cons c r => cases r <;> rfl
                rw [hhd, decide_eq_false hge]
                simp
              · rw [decide_eq_false hl1]
                rfl
            rw [hnb, if_neg (by simp), hlb, baseOf, if_neg (by simp)]
            rw [if_neg (by omega)] at h6
            rw [← h6, ← Zud h3]
        · rw [Zdv, Zcu]; simp
        · intro w hw
          have := hwt d
          rw [hwk d w (by omega)]
          exact ⟨rfl, by show w + _ ≤ _; omega⟩
        · show ((b.take n).drop f ++ encs []).length ≤ 16777215
          rw [Za4, List.append_nil]; exact hlen
        · left
          have : wt false ((b.take n).drop f) 0 ≤ 16777215 := Zul hlen (by omega)
          rw [hwk 0 0 (by omega)]
    · rename_i h192
      split at h
      · cases h
      · rename_i ts hts
        cases h
        rcases hp with ⟨h1, _⟩ | ⟨h1, h2, h3, h4, h5, h6, h7, h8⟩
        · exact absurd h1 (by omega)
        · have h192' : 192 ≤ b.headD 0 := by omega
          have hdp := hdd (h7 h192')
          obtain ⟨r1, r2, r3⟩ := Zhw hg _ _ ts (fun y hy => hb y (List.mem_of_mem_take (List.mem_of_mem_drop hy))) hts
          have hbody : (encs ts).length = n - f := by rw [r1, hlb]
          have hwk : ∀ d' w, d' < 8 → w + wt true [] d' ≤ 16777215 → wk (.mk true [] ts) d' w = wks ts (d' + 1) (w + wt true [] d') := by
            intro d' w hd' hw
            rw [Zi9, if_neg (by simp; omega), if_neg (by simp [wrongForm]), if_neg (by omega)]
          rw [hlb] at r3
          refine ⟨⟨?_, ?_, ?_⟩, ?_, ?_⟩
          · rw [Zb9, List.nil_append, if_neg (by simp [bare]), hbody, baseOf, if_pos rfl]
            rw [if_pos h192'] at h6
            rw [← h6, r1, ← Zud h3]
          · rw [Zdv, r2]; rfl
          · intro w hw
            have hw1 : wt true [] d ≤ 1 := Zul (by simp) (by omega)
            rw [hwk d w hdp (by omega)]
            obtain ⟨a1, a2⟩ := r3 (w + wt true [] d) (by omega)
            exact ⟨a1, by omega⟩
          · show (([] : List Int) ++ encs ts).length ≤ 16777215
            rw [List.nil_append, hbody]; exact h5
          · by_cases hd0 : d = 0
            · subst hd0
              left
              have hw0 : wt true [] 0 = 0 := rfl
              rw [hwk 0 0 (by omega) (by omega), hw0]
              exact (r3 0 (by omega)).1
            · exact .inr hd0
theorem Zo5 : ∀ k d, d + k = 8 → ∀ b t n, (∀ x ∈ b, 0 ≤ x ∧ x < 256) → rd k b = .ok t n → Good d b t n ∧ (bodyOf t).length ≤ 16777215 ∧ ((wk t 0 0).2 = 0 ∨ d ≠ 0)
  | 0, d, hd, b, t, n, hb, h => Zly (deep := true) (fun h => by cases h) (fun b t n _ h => by cases h) hb h
  | k + 1, d, hd, b, t, n, hb, h => Zly (g := rd k) (deep := false) (fun _ => by omega) (fun b t n hb h => ⟨(Zo5 k (d + 1) (by omega) b t n hb h).1, rd_n h⟩) hb h
theorem Zwg {t : T} (hb : ∀ x ∈ b, 0 ≤ x ∧ x < 256) (h : rd 8 b = .ok t b.length) : encP t = (b, 0) ∧ (mP t).2 = 0 := by
  obtain ⟨⟨g1, g2, _⟩, g3, g4⟩ := Zo5 8 0 rfl b t b.length hb h
  have hw : (wk t 0 0).2 = 0 := g4.resolve_right (fun h => h rfl)
  have hm : (mP t).2 = 0 := by
    unfold mP
    rw [if_neg (by rw [hw]; simp), if_neg (by rw [Zid g2]; omega)]
  rw [List.take_length] at g1
  exact ⟨by unfold encP; rw [if_pos hm, g1], hm⟩
end Go.Proofs.YtchgejomcgoaeaaGreat
namespace Go.Proofs.YtchgejomcgoaeaaGreat
open Go.RowKit
set_option maxHeartbeats 1000000 in
theorem Zfo (a : Option Addr) (n c k : Nat) (b : List Int) (w : World) (h : Ag w a n c b) (hk : 1 ≤ k) (hk8 : k ≤ 8) (hn : n ≤ 4611686018427387904) :
    Calls Tryz.prog 125 #[.slice a n c, .int .i64 k] w fun e w' => e = .returned (.tuple #[.int .i64 ((lenIn b k).1 : Nat), .int .i64 ((lenIn b k).2 : Nat)]) ∧ Below w.heap.size w w' := by
  have hl := h.l
  obtain ⟨r, hr⟩ : ∃ r, lenIn b k = r := ⟨_, rfl⟩
  rw [hr]
  unfold lenIn at hr
  by_cases h3 : 3 < k
  · rw [if_pos h3] at hr
    subst hr
    have h3i : (3 : Int) < k := by omega
    clear h
    go_enter Tryz.func125, Tryz.ntmps125
    go_wp2_with fail
    go_ret2
    exact ⟨rfl, Below.refl _ _⟩
  rw [if_neg h3] at hr
  have h3i : ¬ (3 : Int) < k := by omega
  by_cases h4 : b.length < k
  · rw [if_pos h4] at hr
    subst hr
    have h4i : (n : Int) < k := by omega
    clear h
    go_enter Tryz.func125, Tryz.ntmps125
    go_wp2_with fail
    go_ret2
    exact ⟨rfl, Below.refl _ _⟩
  rw [if_neg h4] at hr
  have h4i : ¬ (n : Int) < k := by omega
  obtain ⟨g, off, rfl, hc1, hc2, hc⟩ := ag_head h (by omega)
  unfold maxLen at hc2
  have HR := Hid.mk hr
  have HC := Hid.mk hc
  have HB := Hid.mk h.b
  have HL := Hid.mk hl
  have hc0 := hc 0 (by omega)
  rw [Nat.add_zero] at hc0
  have hkc : k ≤ c := by omega
  clear h hr hc hl h4
  go_enter Tryz.func125, Tryz.ntmps125
  go_wp2_with fail
  go_loopw [6, 19] (fun q i v => ∃ j : Nat, j ≤ k ∧ i = .int .i64 j ∧ q = .int .i64 (val (b.take j) : Nat) ∧ v = w) (fun _ i _ => k - (intOf i).toNat)
  case atStart => exact ⟨0, by omega, rfl, rfl, rfl⟩
  case round =>
    obtain ⟨j, hj, rfl, rfl, rfl⟩ := hrel
    by_cases hlt : j < k
    · have hcell := HC.out j (by omega)
      have hb2 := HB.out
      have hl := HL.out
      obtain ⟨v1, v2⟩ := Zda hb2 (j := j) (by omega) (by omega)
      have v3 := Zda hb2 (j := j + 1) (by omega) (by omega)
      have hx := hb2 (b.getD j 0) (by rw [List.getD, List.getElem?_eq_getElem (by omega)]; exact List.getElem_mem _)
      have hvs := Zrn (b := b) (j := j) (by omega)
      obtain ⟨q, hq⟩ : ∃ q, val (b.take j) = q := ⟨_, rfl⟩
      obtain ⟨x, hxx⟩ : ∃ x, b.getD j 0 = x := ⟨_, rfl⟩
      rw [hq] at v1 hvs ⊢
      rw [hxx] at hcell hx hvs
      obtain ⟨hx0, hx1⟩ := hx
      rw [hvs] at v3
      have hq2 : q < 65536 := by omega
      have HV := Hid.mk hvs
      have hji : (j : Int) < k := by omega
      have hor : bits BinOp.or IntKind.i64 ((q : Int) * 256) x = (q : Int) * 256 + x := by
        refine bits_join .i64 40 (by decide) (fun n a b => by rw [IntKind.wrap_i64]; omega) 8 _ _ (by omega) (by omega) (by omega) hx0 (by omega) (by omega)
      clear hvs hb2 hl v1 v2 v3 hq hxx
      go_wp2_with fail
      refine ⟨⟨j + 1, by omega, by simp, ?_, trivial⟩, ?_⟩
      · rw [HV.out]
        simp
        omega
      · simp [intOf]; omega
    · have hjk : j = k := by omega
      subst hjk
      have hji : ¬ (j : Int) < j := by omega
      obtain ⟨v1, v2⟩ := Zda HB.out (j := j) (by have := HL.out; omega) (by omega)
      have hh : b.headD 0 = b.getD 0 0 := by cases b <;> rfl
      have hr := HR.out
      rw [hh] at hr
      have hx := HB.out (b.getD 0 0) (by rw [List.getD, List.getElem?_eq_getElem (by have := HL.out; omega)]; exact List.getElem_mem _)
      obtain ⟨q, hq⟩ : ∃ q, val (b.take j) = q := ⟨_, rfl⟩
      obtain ⟨x, hxx⟩ : ∃ x, b.getD 0 0 = x := ⟨_, rfl⟩
      rw [hq] at v1 hr ⊢
      rw [hxx] at hc0 hr hx
      clear hq hxx hh
      by_cases hx0 : x = 0
      · subst hx0
        rw [if_pos (.inl rfl)] at hr
        subst hr
        clear hx
        go_wp2_with fail
        go_ret2
        exact ⟨rfl, Below.refl _ _⟩
      · have hxb : (x == 0) = false := by simp [hx0]
        by_cases hq5 : q ≤ 55
        · rw [if_pos (.inr hq5)] at hr
          subst hr
          have hqi : (q : Int) ≤ 55 := by omega
          go_wp2_with fail
          go_ret2
          exact ⟨rfl, Below.refl _ _⟩
        · rw [if_neg (by intro h; rcases h with h | h; exact hx0 h; exact hq5 h)] at hr
          subst hr
          have hqi : ¬ (q : Int) ≤ 55 := by omega
          go_wp2_with fail
          go_ret2
          exact ⟨rfl, Below.refl _ _⟩
end Go.Proofs.YtchgejomcgoaeaaGreat
