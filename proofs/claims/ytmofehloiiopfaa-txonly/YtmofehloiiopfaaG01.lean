/- What bytes begin with: plain functions. -/
import Derived.Test.YtmofehloiiopfaaG00
namespace Go.Proofs.Ytmofehloiiopfaa
set_option linter.unusedVariables false
/-- The number that bytes tell, the highest first. -/
def val (b : List Int) : Nat := b.foldl (fun n x => n * 256 + x.toNat) 0
theorem val_snoc (b : List Int) (x : Int) : val (b ++ [x]) = val b * 256 + x.toNat := by simp [val]
theorem val_lt : ∀ (k : Nat) (b : List Int), b.length = k → (∀ x ∈ b, 0 ≤ x ∧ x < 256) → val b < 256 ^ k
  | 0, b, h, _ => by rw [List.eq_nil_of_length_eq_zero h]; decide
  | k + 1, b, h, hb => by
    obtain ⟨i, x, rfl⟩ : ∃ i x, b = i ++ [x] := ⟨b.dropLast, b.getLast (by intro hh; rw [hh] at h; simp at h), (List.dropLast_concat_getLast _).symm⟩
    rw [val_snoc]
    have h1 := val_lt k i (by simp at h; omega) (fun y hy => hb y (List.mem_append_left _ hy))
    have h2 := hb x (by simp)
    rw [Nat.pow_succ]
    omega
theorem val_take {b : List Int} (hb : ∀ x ∈ b, 0 ≤ x ∧ x < 256) {j : Nat} (hj : j ≤ b.length) (h3 : j ≤ 3) : val (b.take j) < 256 ^ j ∧ 256 ^ j ≤ 16777216 := by
  refine ⟨val_lt j _ (by rw [List.length_take]; omega) (fun x hx => hb x (List.mem_of_mem_take hx)), ?_⟩
  have : j = 0 ∨ j = 1 ∨ j = 2 ∨ j = 3 := by omega
  rcases this with rfl | rfl | rfl | rfl <;> decide
theorem val_succ {b : List Int} {j : Nat} (hj : j < b.length) : val (b.take (j + 1)) = val (b.take j) * 256 + (b.getD j 0).toNat := by
  rw [take_succ_get (List.getElem?_eq_getElem hj), val_snoc]
  simp [List.getElem?_eq_getElem hj]
/-- A length that stands in c bytes: it, and the error. -/
def lenIn (b : List Int) (c : Nat) : Nat × Nat :=
  if 3 < c then (0, 23) else if b.length < c then (0, 22) else if b.headD 0 = 0 ∨ val (b.take c) ≤ 55 then (0, 23) else (val (b.take c), 0)
inductive HR where
  | bad (e : Nat)
  | ok (f t : Nat)
def nOf (c : Int) : Nat := (c - (if 192 ≤ c then 192 else 128)).toNat
/-- From where to where the body stands of the item that bytes begin with; deep: a list may not stand here. -/
def hdr (deep : Bool) (b : List Int) : HR :=
  match b with
  | [] => .bad 22
  | c :: r =>
    if 192 ≤ c ∧ deep = true then .bad 21
    else if c < 128 then .ok 0 1
    else if 55 < nOf c then
      if (lenIn r (nOf c - 55)).2 ≠ 0 then .bad (lenIn r (nOf c - 55)).2
      else if b.length - (1 + (nOf c - 55)) < (lenIn r (nOf c - 55)).1 then .bad 22
      else .ok (1 + (nOf c - 55)) (1 + (nOf c - 55) + (lenIn r (nOf c - 55)).1)
    else if b.length - 1 < nOf c then .bad 22 else .ok 1 (1 + nOf c)
inductive R where
  | bad (e : Nat)
  | ok (t : T) (n : Nat)
inductive RL where
  | bad (e : Nat)
  | ok (ts : List T)
/-- All items of a body. -/
def rdAll (f : List Int → R) : Nat → List Int → RL
  | _, [] => .ok []
  | 0, _ :: _ => .bad 0
  | n + 1, x :: b => match f (x :: b) with
    | .bad e => .bad e
    | .ok t m => match rdAll f n ((x :: b).drop m) with
      | .bad e => .bad e
      | .ok ts => .ok (t :: ts)
/-- The item that bytes begin with. -/
def rd1 (g : List Int → R) (deep : Bool) (b : List Int) : R :=
  match hdr deep b with
  | .bad e => .bad e
  | .ok f t =>
    if b.headD 0 < 192 then (if f = 1 ∧ t = 2 ∧ b.getD 1 0 < 128 then .bad 23 else .ok (.mk false ((b.take t).drop f) []) t)
    else match rdAll g ((b.take t).drop f).length ((b.take t).drop f) with
      | .bad e => .bad e
      | .ok ts => .ok (.mk true [] ts) t
def rd : Nat → List Int → R
  | 0 => rd1 (fun _ => .bad 21) true
  | k + 1 => rd1 (rd k) false
theorem lenIn_ok {b : List Int} {c : Nat} (h : (lenIn b c).2 = 0) : c ≤ 3 ∧ c ≤ b.length ∧ b.headD 0 ≠ 0 ∧ 55 < val (b.take c) ∧ (lenIn b c).1 = val (b.take c) := by
  unfold lenIn at *
  by_cases h1 : 3 < c
  · rw [if_pos h1] at h; cases h
  · rw [if_neg h1] at h ⊢
    by_cases h2 : b.length < c
    · rw [if_pos h2] at h; cases h
    · rw [if_neg h2] at h ⊢
      by_cases h3 : b.headD 0 = 0 ∨ val (b.take c) ≤ 55
      · rw [if_pos h3] at h; cases h
      · rw [if_neg h3]
        exact ⟨by omega, by omega, fun h => h3 (.inl h), by omega, rfl⟩
theorem hdr_ok {deep : Bool} {b : List Int} {f t : Nat} (h : hdr deep b = .ok f t) : f ≤ t ∧ t ≤ b.length ∧ 1 ≤ t ∧ 0 < b.length := by
  unfold hdr at h
  split at h
  · cases h
  · rename_i c r
    split at h
    · cases h
    · split at h
      · cases h; simp
      · split at h
        · split at h
          · cases h
          · rename_i h3 h4
            have := lenIn_ok (Decidable.not_not.1 h4)
            split at h
            · cases h
            · cases h
              simp only [List.length_cons] at *
              omega
        · split at h
          · cases h
          · cases h
            simp only [List.length_cons] at *
            omega
theorem rd1_n {g : List Int → R} {deep : Bool} {b : List Int} {t : T} {n : Nat} (h : rd1 g deep b = .ok t n) : 1 ≤ n ∧ n ≤ b.length := by
  unfold rd1 at h
  split at h
  · cases h
  · rename_i f t' hh
    have := hdr_ok hh
    split at h
    · split at h
      · cases h
      · cases h; omega
    · split at h
      · cases h
      · cases h; omega
theorem rd_n {k : Nat} {b : List Int} {t : T} {n : Nat} (h : rd k b = .ok t n) : 1 ≤ n ∧ n ≤ b.length := by
  cases k with
  | zero => exact rd1_n h
  | succ k => exact rd1_n h
theorem rdAll_nil (f : List Int → R) (n : Nat) : rdAll f n [] = .ok [] := by cases n <;> rfl
theorem rdAll_bad {f : List Int → R} {n e : Nat} {b : List Int} (hb : b ≠ []) (h : f b = .bad e) : rdAll f (n + 1) b = .bad e := by
  cases b with
  | nil => exact absurd rfl hb
  | cons x b => rw [rdAll, h]
theorem rdAll_ok {f : List Int → R} {n m : Nat} {t : T} {b : List Int} (hb : b ≠ []) (h : f b = .ok t m) : rdAll f (n + 1) b = match rdAll f n (b.drop m) with | .bad e => .bad e | .ok ts => .ok (t :: ts) := by
  cases b with
  | nil => exact absurd rfl hb
  | cons x b => rw [rdAll, h]
/-- More fuel does not turn the answer. -/
theorem rdAll_fuel {f : List Int → R} (hf : ∀ b t m, f b = .ok t m → 1 ≤ m) : ∀ n m b, b.length ≤ n → b.length ≤ m → rdAll f n b = rdAll f m b
  | _, _, [], _, _ => by rw [rdAll_nil, rdAll_nil]
  | n + 1, m + 1, x :: b, h1, h2 => by
    cases h : f (x :: b) with
    | bad e => rw [rdAll_bad (by simp) h, rdAll_bad (by simp) h]
    | ok t k =>
      have hk := hf _ _ _ h
      rw [rdAll_ok (by simp) h, rdAll_ok (by simp) h, rdAll_fuel hf n m ((x :: b).drop k) (by simp at *; omega) (by simp at *; omega)]
end Go.Proofs.Ytmofehloiiopfaa
/- Items in memory; what bare, weightOf and sizeOf answer. -/
namespace Go.Proofs.Ytmofehloiiopfaa
open Go.RowKit
set_option linter.unusedVariables false
/-- The value of an item: its mark, its bytes, its things. -/
structure V where
  l : Bool
  ba : Option Addr
  bn : Nat
  bc : Nat
  ia : Option Addr
  m : Nat
  ic : Nat
def V.v (x : V) : Value := .agg #[.bool x.l, .slice x.ba x.bn x.bc, .slice x.ia x.m x.ic]
mutual
/-- An item lies in memory. -/
def Lies (w : World) : T → V → Prop
  | .mk l bs its, x => x.l = l ∧ Ag w x.ba x.bn x.bc bs ∧ x.m = its.length ∧ x.m ≤ x.ic ∧ x.ic ≤ maxLen ∧ (x.bn ≤ 140737488351232 ∧ x.m ≤ 140737488351232) ∧ LiesAll w its x.ia 0
def LiesAll (w : World) : List T → Option Addr → Nat → Prop
  | [], _, _ => True
  | t :: r, a, k => (∃ g off y, a = some ⟨g, off, none⟩ ∧ w.cell? ⟨g, off + k * 3, none⟩ = some (.bool y.l) ∧ w.cell? ⟨g, off + k * 3 + 1, none⟩ = some (.slice y.ba y.bn y.bc) ∧ w.cell? ⟨g, off + k * 3 + 2, none⟩ = some (.slice y.ia y.m y.ic) ∧ Lies w t y) ∧ LiesAll w r a (k + 1)
end
theorem lies_eq {w : World} {l : Bool} {bs : List Int} {its : List T} {x : V} : Lies w (.mk l bs its) x ↔ (x.l = l ∧ Ag w x.ba x.bn x.bc bs ∧ x.m = its.length ∧ x.m ≤ x.ic ∧ x.ic ≤ maxLen ∧ (x.bn ≤ 140737488351232 ∧ x.m ≤ 140737488351232) ∧ LiesAll w its x.ia 0) := by rw [Lies]
theorem liesAll_cons {w : World} {t : T} {r : List T} {a : Option Addr} {k : Nat} : LiesAll w (t :: r) a k ↔ ((∃ g off y, a = some ⟨g, off, none⟩ ∧ w.cell? ⟨g, off + k * 3, none⟩ = some (.bool y.l) ∧ w.cell? ⟨g, off + k * 3 + 1, none⟩ = some (.slice y.ba y.bn y.bc) ∧ w.cell? ⟨g, off + k * 3 + 2, none⟩ = some (.slice y.ia y.m y.ic) ∧ Lies w t y) ∧ LiesAll w r a (k + 1)) := by rw [LiesAll]
theorem liesAll_nil {w : World} {a : Option Addr} {k : Nat} : LiesAll w [] a k := by rw [LiesAll]; trivial
/-- One thing of a list that lies in memory. -/
structure At (w : World) (a : Option Addr) (k : Nat) (t : T) (g off : Nat) (y : V) : Prop where
  ha : a = some ⟨g, off, none⟩
  c0 : w.cell? ⟨g, off + k * 3, none⟩ = some (.bool y.l)
  c1 : w.cell? ⟨g, off + k * 3 + 1, none⟩ = some (.slice y.ba y.bn y.bc)
  c2 : w.cell? ⟨g, off + k * 3 + 2, none⟩ = some (.slice y.ia y.m y.ic)
  li : Lies w t y
theorem liesAll_at {w : World} {a : Option Addr} : ∀ {its : List T} {k : Nat}, LiesAll w its a k → ∀ i, ∀ t, its[i]? = some t → ∃ g off y, At w a (k + i) t g off y
  | [], k, _, i, t, h => by simp at h
  | t :: r, k, hl, i, u, h => by
    obtain ⟨⟨g, off, y, h1, h2, h3, h4, h5⟩, hr⟩ := liesAll_cons.1 hl
    cases i with
    | zero =>
      simp at h
      subst h
      exact ⟨g, off, y, h1, h2, h3, h4, h5⟩
    | succ i =>
      simp at h
      obtain ⟨g', off', y', h'⟩ := liesAll_at hr i u h
      rw [show k + 1 + i = k + (i + 1) from by omega] at h'
      exact ⟨g', off', y', h'⟩
theorem lies_mono {w w' : World} (hb : Below w.heap.size w w') : ∀ t, ∀ x, Lies w t x → Lies w' t x := by
  refine T.ind fun l bs its ih x h => ?_
  obtain ⟨h1, h2, h3, h4, h5, h7, h6⟩ := lies_eq.1 h
  refine lies_eq.2 ⟨h1, h2.at hb, h3, h4, h5, h7, ?_⟩
  clear h1 h2 h3 h4 h5 h7 h
  generalize x.ia = a at h6
  generalize 0 = k at h6
  induction its generalizing k with
  | nil => exact liesAll_nil
  | cons t r ihr =>
    obtain ⟨⟨g, off, y, h1, h2, h3, h4, h5⟩, hr⟩ := liesAll_cons.1 h6
    refine liesAll_cons.2 ⟨⟨g, off, y, h1, ?_, ?_, ?_, ih t (List.mem_cons_self ..) y h5⟩, ihr (fun u hu => ih u (List.mem_cons_of_mem _ hu)) _ hr⟩
    · exact (hb.cell (p := ⟨g, off + k * 3, none⟩) (block_lt_of_cell h2)).trans h2
    · exact (hb.cell (p := ⟨g, off + k * 3 + 1, none⟩) (block_lt_of_cell h3)).trans h3
    · exact (hb.cell (p := ⟨g, off + k * 3 + 2, none⟩) (block_lt_of_cell h4)).trans h4
theorem lies_byt {w : World} : ∀ t, ∀ x, Lies w t x → byt t := by
  refine T.ind fun l bs its ih x h => ?_
  obtain ⟨h1, h2, h3, h4, h5, h7, h6⟩ := lies_eq.1 h
  refine (byt_eq l bs its).2 ⟨h2.b, ?_⟩
  clear h1 h2 h3 h4 h5 h7 h
  generalize x.ia = a at h6
  generalize 0 = k at h6
  induction its generalizing k with
  | nil => rw [byts]; trivial
  | cons t r ihr =>
    obtain ⟨⟨g, off, y, h1, h2, h3, h4, h5⟩, hr⟩ := liesAll_cons.1 h6
    exact (byts_cons t r).2 ⟨ih t (List.mem_cons_self ..) y h5, ihr (fun u hu => ih u (List.mem_cons_of_mem _ hu)) _ hr⟩
theorem ag_head {w : World} {a : Option Addr} {n c : Nat} {bs : List Int} (h : Ag w a n c bs) (h1 : 0 < n) : ∃ g off, a = some ⟨g, off, none⟩ ∧ n ≤ c ∧ c ≤ maxLen ∧ ∀ j, j < n → w.cell? ⟨g, off + j, none⟩ = some (.int .u8 (bs.getD j 0)) := by
  rcases h.i with ⟨h0, _⟩ | ⟨g, off, h2, h3, h4, h5, h6, h7⟩
  · omega
  · exact ⟨g, off, h2, h5, h6, fun j hj => h7 j (by omega)⟩
theorem cell_alloc {w : World} {g off : Nat} {v : Value} (h : w.cell? ⟨g, off, none⟩ = some v) : ∀ o, (w.alloc o).cell? ⟨g, off, none⟩ = some v := fun o => (World.cell?_of_block (w := w) (Below.heap_alloc w _ _ (block_lt_of_cell h))).trans h
set_option maxHeartbeats 400000 in
theorem bare_any (l : Bool) (ba : Option Addr) (bn bc : Nat) (ia : Option Addr) (m ic : Nat) (bs : List Int) (w : World) (h : Ag w ba bn bc bs) :
    Calls Try.prog 63 #[.agg #[.bool l, .slice ba bn bc, .slice ia m ic]] w fun e w' => e = .returned (.bool (bare l bs)) ∧ Below w.heap.size w w' := by
  cases l with
  | true =>
    go_enter Try.func63, Try.ntmps63
    go_wp2_with fail
    go_ret
    exact ⟨by simp [bare], (Below.refl _ _).alloc (Nat.le_refl _) _⟩
  | false =>
    by_cases h1 : bn = 1
    · subst h1
      obtain ⟨g, off, rfl, hc1, hc2, hc⟩ := ag_head h (by omega)
      have hc := hc 0 (by omega)
      have hl := h.l
      match bs, hl with
      | [x], _ =>
        simp at hc
        have hx := h.b x (by simp)
        have hc2 := cell_alloc hc
        clear h
        go_enter Try.func63, Try.ntmps63
        go_wp2_with fail
        go_ret
        exact ⟨by simp [bare], (Below.refl _ _).alloc (Nat.le_refl _) _⟩
    · have hl := h.l
      have hb : (bn == 1) = false := by simp [h1]
      have hbi : ((bn : Int) == 1) = false := by simp; omega
      clear h
      go_enter Try.func63, Try.ntmps63
      go_wp2_with fail
      go_ret
      exact ⟨by simp [bare, hl, h1], (Below.refl _ _).alloc (Nat.le_refl _) _⟩
end Go.Proofs.Ytmofehloiiopfaa
/- What weightOf and sizeOf answer. -/
namespace Go.Proofs.Ytmofehloiiopfaa
open Go.RowKit
set_option linter.unusedVariables false
set_option maxHeartbeats 400000 in
theorem weightOf_any (l : Bool) (ba : Option Addr) (bn bc : Nat) (ia : Option Addr) (m ic : Nat) (bs : List Int) (d : Nat) (w : World) (hl : bs.length = bn) (hn : bn ≤ maxLen) :
    Calls Try.prog 74 #[.agg #[.bool l, .slice ba bn bc, .slice ia m ic], .int .i64 d] w fun e w' => e = .returned (.int .i64 (wt l bs d : Nat)) ∧ Below w.heap.size w w' := by
  unfold maxLen at hn
  cases l with
  | true =>
    by_cases hd : d = 0
    · subst hd
      go_enter Try.func74, Try.ntmps74
      go_wp2_with fail
      go_ret
      exact ⟨by simp [wt], (Below.refl _ _).alloc (Nat.le_refl _) _⟩
    · have hd2 : ((d : Int) == 0) = false := by simp; omega
      go_enter Try.func74, Try.ntmps74
      go_wp2_with fail
      all_goals
        go_ret
        refine ⟨?_, (Below.refl _ _).alloc (Nat.le_refl _) _⟩
        simp [wt, hd, hl]
        omega
  | false =>
    go_enter Try.func74, Try.ntmps74
    go_wp2_with fail
    all_goals
      go_ret
      refine ⟨?_, (Below.refl _ _).alloc (Nat.le_refl _) _⟩
      simp [wt, hl]
      omega
set_option maxHeartbeats 400000 in
theorem sizeOf_any (l : Bool) (ba : Option Addr) (bn bc : Nat) (ia : Option Addr) (m ic : Nat) (bs : List Int) (n : Nat) (w : World) (h : Ag w ba bn bc bs) (hn : n < 1000000000) :
    Calls Try.prog 62 #[.agg #[.bool l, .slice ba bn bc, .slice ia m ic], .int .i64 n] w fun e w' => e = .returned (.int .i64 (szOf l bs n : Nat)) ∧ Below w.heap.size w w' := by
  have HS : Hid (szOf l bs n = if bare l bs then n else 1 + n + (if 55 < n then nb n else 0)) := rfl
  generalize szOf l bs n = r at HS ⊢
  go_enter Try.func62, Try.ntmps62
  go_wp2_with fail
  refine (bare_any l ba bn bc ia m ic bs _ (h.at ((Below.refl _ _).alloc (Nat.le_refl _) _))).mono ?_
  rintro e w1 ⟨rfl, hb⟩
  have hb2 := ((Below.refl w.heap.size w).alloc (Nat.le_refl _) (.cells #[.bool l, .slice ba bn bc, .slice ia m ic] 45)).trans (hb.mono (by simp))
  clear hb h
  by_cases hbr : bare l bs = true
  · have HR := HS.out
    rw [if_pos hbr] at HR
    rw [hbr]
    subst HR
    go_wp2_with fail
    go_ret
    exact ⟨rfl, hb2⟩
  · have HR := HS.out
    have hbr2 : bare l bs = false := by simpa using hbr
    rw [if_neg hbr] at HR
    rw [hbr2]
    by_cases hn5 : 55 < n
    · rw [if_pos hn5] at HR
      have hn6 : (55 : Int) < n := by omega
      have HH := Hid.mk HR
      clear HR HS
      go_wp2_with fail
      go_loop [5, 6] (fun s q => ∃ sn qn : Nat, s = .int .i64 sn ∧ q = .int .i64 qn ∧ sn + nb qn = r ∧ qn < 1000000000 ∧ r < 1000000010) (fun s q => (intOf q).toNat)
      case atStart => exact ⟨1 + n, n, by simp, rfl, by rw [HH.out], hn, by rw [HH.out]; have := nb_le (n := n) (by omega); omega⟩
      case round =>
        obtain ⟨sn, qn, rfl, rfl, hs, hq, hr⟩ := hrel
        have HS := Hid.mk hs
        clear hs
        by_cases h0 : qn = 0
        · subst h0
          go_wp2_with fail
          go_ret
          have := HS.out
          rw [nb_zero] at this
          exact ⟨by rw [← this]; rfl, hb2⟩
        · have hq0 : (0 : Int) < qn := by omega
          have hsn : sn < 1000000010 := by have := HS.out; omega
          go_wp2_with fail
          go_round
          case rel => exact ⟨sn + 1, qn / 256, by simp, by simp, by have := HS.out; rw [nb_pos (by omega)] at this; omega, by omega, hr⟩
          case measure => simp [intOf]; omega
    · rw [if_neg hn5] at HR
      have hn6 : ¬ (55 : Int) < n := by omega
      subst HR
      go_wp2_with fail
      go_ret
      exact ⟨by simp, hb2⟩
end Go.Proofs.Ytmofehloiiopfaa
