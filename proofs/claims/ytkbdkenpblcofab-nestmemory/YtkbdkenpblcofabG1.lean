/- What the document's reader answers: copied, and first for bytes that are no list. -/
import Derived.Test.YtkbdkenpblcofabX1
import Derived.Deep.CutRange
namespace Go.Proofs.Ytkbdkenpblcofab
open Go.RowKit
set_option linter.unusedVariables false
theorem ownB_nil (w : World) (base : Nat) : OwnB w base (.slice none 0 0) [] := ⟨rfl, .inl ⟨rfl, rfl⟩⟩
theorem ownB_block {w : World} {base : Nat} {a : Option Addr} {n c : Nat} {bs : List Int} (h : OwnB w base (.slice a n c) bs) : ∀ g off, a = some ⟨g, off, none⟩ → base ≤ g ∧ ∀ o, w.frozen? ⟨g, o, none⟩ = false := by
  intro g off e
  subst e
  refine ⟨h.lt g rfl, fun o => ?_⟩
  rcases h.2 with ⟨h2, _⟩ | ⟨g', cap, cur, hv, _, hh, _⟩
  · cases h2
  · injection hv with e1 _ _
    cases e1
    exact frozen_of_row _ _ _ _ _ hh
theorem copied_any (a : Option Addr) (n c : Nat) (b : List Int) (w : World) (h : Ag w a n c b) (hn : n ≤ 140737488351232) :
    Calls Try.prog 30 #[.slice a n c] w fun e w' => (∃ a' c', e = .returned (.slice a' n c') ∧ Ag w' a' n c' b ∧ ∀ g off, a' = some ⟨g, off, none⟩ → w.heap.size ≤ g ∧ ∀ o, w'.frozen? ⟨g, o, none⟩ = false) ∧ Below w.heap.size w w' := by
  have HA := Hid.mk h
  clear h
  go_enter Try.func30, Try.ntmps30
  go_wp2_with (first | (at_builtin; refine app_any rfl (.tmp 4) (.tmp 5) rfl w.heap.size _ [] rfl (ownB_nil w _) a n c b rfl HA.out.i HA.out.nil HA.out.l (by simp; omega) (Nat.le_refl _) ?_; intro v1 w1 o1 hb1; rw [List.nil_append] at o1; obtain ⟨a1, c1, rfl, hag1⟩ := OwnB.ag o1 HA.out.b; rw [HA.out.l] at hag1 ⊢; have HB1 := Hid.mk hb1; have HA1 := Hid.mk hag1; have HO1 := Hid.mk (ownB_block o1); clear o1 hb1 hag1))
  go_ret
  exact ⟨⟨a1, c1, rfl, HA1.out, HO1.out⟩, HB1.out⟩
/-- A piece of bytes. -/
def pc (b : List Int) (i j : Nat) : List Int := (b.take j).drop i
theorem pc_len {b : List Int} {i j : Nat} (h : j ≤ b.length) : (pc b i j).length = j - i := by unfold pc; rw [List.length_drop, List.length_take]; omega
theorem pc_nil {b : List Int} {i j : Nat} (h : j ≤ i) : pc b i j = [] := by unfold pc; rw [List.drop_of_length_le]; rw [List.length_take]; omega
theorem pc_cons {b : List Int} {i j : Nat} (h : i < j) (hj : j ≤ b.length) : pc b i j = b.getD i 0 :: pc b (i + 1) j := by
  unfold pc
  rw [List.drop_eq_getElem_cons (by rw [List.length_take]; omega), List.getElem_take, List.getD, List.getElem?_eq_getElem (by omega)]
  rfl
theorem pc_sub {b : List Int} {i j f t : Nat} (h : i + t ≤ j) : ((pc b i j).take t).drop f = pc b (i + f) (i + t) := by
  unfold pc
  rw [List.take_drop, List.drop_drop, List.take_take, Nat.min_eq_left h]
theorem pc_get {b : List Int} {i j k : Nat} (h : i + k < j) (hj : j ≤ b.length) : (pc b i j).getD k 0 = b.getD (i + k) 0 := by
  unfold pc
  rw [List.getD, List.getElem?_drop, List.getElem?_take_of_lt h]
  rfl
theorem pc_mem {b : List Int} {i j : Nat} {x : Int} (h : x ∈ pc b i j) : x ∈ b := List.mem_of_mem_take (List.mem_of_mem_drop h)
def zeroV : Value := .agg #[.bool false, .slice none 0 0, .slice none 0 0]
/-- What first leaves. -/
def FPost (w : World) (i : Nat) (r : R) : Ending → World → Prop := fun e w' => Below w.heap.size w w' ∧
  match r with
  | .bad er => e = .returned (.tuple #[.agg #[.bool false, .slice none 0 0, .slice none 0 0], .int .i64 0, .int .i64 (er : Nat)]) ∧ er ≠ 0
  | .ok t m => ∃ y : V, e = .returned (.tuple #[.agg #[.bool y.l, .slice y.ba y.bn y.bc, .slice y.ia y.m y.ic], .int .i64 (i + m : Nat), .int .i64 0]) ∧ LiesP (fun b => w.heap.size ≤ b) w' t y
def FSaid (k : Nat) : Prop := ∀ (a : Option Addr) (n c : Nat) (b : List Int) (w : World), Ag w a n c b → n ≤ 140737488351232 → ∀ i j d : Nat, i ≤ j → j ≤ n → d + k = 8 →
  Calls Try.prog 27 #[.slice a n c, .int .i64 i, .int .i64 j, .int .i64 d] w (FPost w i (rd k (pc b i j)))
/-- What items leaves. -/
def IPost (w : World) (j : Nat) (r : RL) : Ending → World → Prop := fun e w' => Below w.heap.size w w' ∧
  match r with
  | .bad er => e = .returned (.tuple #[.agg #[.bool false, .slice none 0 0, .slice none 0 0], .int .i64 0, .int .i64 (er : Nat)]) ∧ er ≠ 0
  | .ok ts => ∃ ia ic, e = .returned (.tuple #[.agg #[.bool true, .slice none 0 0, .slice ia ts.length ic], .int .i64 j, .int .i64 0]) ∧ ts.length ≤ ic ∧ ic ≤ maxLen ∧ LiesPAll (fun b => w.heap.size ≤ b) w' ts ia 0
/-- The end of a bad way. -/
theorem rb_bad {w v : World} (h : Rb w v) {i er : Nat} (her : er ≠ 0) : FPost w i (.bad er) (.returned (.tuple #[.agg #[.bool false, .slice none 0 0, .slice none 0 0], .int .i64 0, .int .i64 (er : Nat)])) v := ⟨h.bel, rfl, her⟩
theorem lenIn_long {r : List Int} {c : Nat} (h : 3 < c) : lenIn r c = (0, 23) := by unfold lenIn; rw [if_pos h]
theorem lenIn_short {r : List Int} {c : Nat} (h : ¬ 3 < c) (h2 : r.length < c) : lenIn r c = (0, 22) := by unfold lenIn; rw [if_neg h, if_pos h2]
theorem lenIn_form {r : List Int} {c : Nat} (h : ¬ 3 < c) (h2 : ¬ r.length < c) (h3 : r.headD 0 = 0 ∨ val (r.take c) ≤ 55) : lenIn r c = (0, 23) := by unfold lenIn; rw [if_neg h, if_neg h2, if_pos h3]
theorem lenIn_good {r : List Int} {c : Nat} (h : ¬ 3 < c) (h2 : ¬ r.length < c) (h3 : ¬ (r.headD 0 = 0 ∨ val (r.take c) ≤ 55)) : lenIn r c = (val (r.take c), 0) := by unfold lenIn; rw [if_neg h, if_neg h2, if_neg h3]
theorem hdr_mid {deep : Bool} {x : Int} {r : List Int} (h1 : ¬ (192 ≤ x ∧ deep = true)) (h2 : ¬ x < 128) : hdr deep (x :: r) = if 55 < nOf x then (if (lenIn r (nOf x - 55)).2 ≠ 0 then .bad (lenIn r (nOf x - 55)).2 else if (x :: r).length - (1 + (nOf x - 55)) < (lenIn r (nOf x - 55)).1 then .bad 22 else .ok (1 + (nOf x - 55)) (1 + (nOf x - 55) + (lenIn r (nOf x - 55)).1)) else if (x :: r).length - 1 < nOf x then .bad 22 else .ok 1 (1 + nOf x) := by
  unfold hdr
  simp only
  rw [if_neg h1, if_neg h2]
/-- What is known of the head. -/
structure Hd (deep : Bool) (x : Int) (r : List Int) (f L : Nat) : Prop where
  f1 : 1 ≤ f
  f4 : f ≤ 4
  L24 : L < 16777216
  iff : f = 1 ↔ L ≤ 55
  fle : f ≤ r.length + 1
  eq : hdr deep (x :: r) = if (r.length + 1) - f < L then .bad 22 else .ok f (f + L)
theorem hd_one {deep : Bool} {x : Int} {r : List Int} (h1 : ¬ (192 ≤ x ∧ deep = true)) (h2 : ¬ x < 128) (h3 : ¬ 55 < nOf x) : Hd deep x r 1 (nOf x) :=
  ⟨Nat.le_refl _, by omega, by omega, by omega, by omega, by rw [hdr_mid h1 h2, if_neg h3]; rfl⟩
theorem hd_more {deep : Bool} {x : Int} {r : List Int} (hb : ∀ y ∈ r, 0 ≤ y ∧ y < 256) (h1 : ¬ (192 ≤ x ∧ deep = true)) (h2 : ¬ x < 128) (h3 : 55 < nOf x) (h4 : ¬ 3 < nOf x - 55) (h5 : ¬ r.length < nOf x - 55) (h6 : ¬ (r.headD 0 = 0 ∨ val (r.take (nOf x - 55)) ≤ 55)) : Hd deep x r (1 + (nOf x - 55)) (val (r.take (nOf x - 55))) := by
  have hv := val_take hb (j := nOf x - 55) (by omega) (by omega)
  refine ⟨by omega, by omega, by omega, by omega, by omega, ?_⟩
  rw [hdr_mid h1 h2, if_pos h3, lenIn_good h4 h5 h6]
  simp only [ne_eq, not_true, if_false]
  rfl
theorem hd_bad {deep : Bool} {x : Int} {r : List Int} {er : Nat} (h1 : ¬ (192 ≤ x ∧ deep = true)) (h2 : ¬ x < 128) (h3 : 55 < nOf x) (h4 : lenIn r (nOf x - 55) = (0, er)) (her : er ≠ 0) : hdr deep (x :: r) = .bad er := by
  rw [hdr_mid h1 h2, if_pos h3, h4]
  simp only
  rw [if_pos her]
theorem rd1_bad {g : List Int → R} {deep : Bool} {b : List Int} {e : Nat} (h : hdr deep b = .bad e) : rd1 g deep b = .bad e := by unfold rd1; rw [h]
end Go.Proofs.Ytkbdkenpblcofab
