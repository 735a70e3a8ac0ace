/- The keys and values alone say the tree. -/
import Derived.Test.YtalhnnjpjaeakaaGreatG00
import Derived.Test.YtalhnnjpjaeakaaGreatG03
import Derived.Lib.Bytealg
import Derived.Laws.Externs
import Derived.Lib.Bytes
import Derived.Test.YtalhnnjpjaeakaaGreatG01
namespace Go.Proofs.YtalhnnjpjaeakaaGreat
set_option linter.unusedVariables false
namespace Tr
theorem Ok.kid {B : Nat} {k : Nat → Tr} {x : List Int} (h : Ok B (br k x)) {i : Nat} (hi : k i ≠ no) : ∃ q, Nb (((i : Nat) : Int) :: q) ∧ get (br k x) (((i : Nat) : Int) :: q) ≠ [] := by
  rcases h.1 i with h0 | ⟨h1, _, h3⟩
  · exact absurd h0 hi
  · obtain ⟨q, k1, _, k3⟩ := h3.some
    refine ⟨q, fun j hj => ?_, k3⟩
    rcases List.mem_cons.1 hj with rfl | hj
    · omega
    · exact k1 j hj
/-- Not all keys of a branch begin alike. -/
theorem Ok.spread {B : Nat} {k : Nat → Tr} {x : List Int} (h : Ok B (br k x)) (i : Int) : ∃ q, Nb q ∧ get (br k x) q ≠ [] ∧ ∀ r, q ≠ i :: r := by
  rcases h.2 with ⟨a, b, hab, ha, hb⟩ | ⟨hx, _⟩
  · by_cases e : ((a : Nat) : Int) = i
    · obtain ⟨q, h1, h2⟩ := h.kid hb
      exact ⟨_, h1, h2, fun r er => by injection er with er _; omega⟩
    · obtain ⟨q, h1, h2⟩ := h.kid ha
      exact ⟨_, h1, h2, fun r er => by injection er with er _; exact e er⟩
  · exact ⟨[], (fun j hj => by cases hj), hx, (fun r er => by cases er)⟩
/-- A branch has another key. -/
theorem Ok.another {B : Nat} {k : Nat → Tr} {x : List Int} (h : Ok B (br k x)) (p : List Int) : ∃ q, Nb q ∧ q ≠ p ∧ get (br k x) q ≠ [] := by
  cases p with
  | nil =>
    have : ∃ i, k i ≠ no := by
      rcases h.2 with ⟨i, _, _, h, _⟩ | ⟨_, i, h⟩ <;> exact ⟨i, h⟩
    obtain ⟨i, hi⟩ := this
    obtain ⟨q, h1, h2⟩ := h.kid hi
    exact ⟨_, h1, by simp, h2⟩
  | cons i r =>
    obtain ⟨q, h1, h2, h3⟩ := h.spread i
    exact ⟨q, h1, h3 r, h2⟩
theorem isBr_iff {t : Tr} (h : t.isBr = true) : ∃ k x, t = br k x := by
  cases t with
  | br k x => exact ⟨k, x, rfl⟩
  | no => simp [isBr] at h
  | leaf p v => simp [isBr] at h
  | ext p c => simp [isBr] at h
/-- Two extensions of the same keys have the same path: the shorter one is no proper beginning. -/
theorem ext_path {B C : Nat} {p p' : List Int} {k k' : Nat → Tr} {x x' : List Int} (hp : Nb p) (hp' : Nb p') (h : Ok B (br k x)) (h' : Ok C (br k' x')) (hg : ∀ q, Nb q → get (ext p (br k x)) q = get (ext p' (br k' x')) q) (hl : p.length ≤ p'.length) : p = p' := by
  have key : ∀ q, Nb q → get (br k x) q ≠ [] → ∃ s, p ++ q = p' ++ s := by
    intro q hq hne
    have e := hg (p ++ q) (hp.app hq)
    rw [get_ext] at e
    by_cases hs : ∃ s, p ++ q = p' ++ s
    · exact hs
    · rw [get_ext_no p' _ _ hs] at e
      exact absurd e hne
  obtain ⟨q0, h1, h2⟩ : ∃ q, Nb q ∧ get (br k x) q ≠ [] := by obtain ⟨q, h1, _, h2⟩ := h.another []; exact ⟨q, h1, h2⟩
  obtain ⟨s0, e0⟩ := key q0 h1 h2
  have ep : p = p'.take p.length := by
    have := congrArg (List.take p.length) e0
    rw [List.take_left, List.take_append_of_le_length hl] at this
    exact this
  rcases Nat.lt_or_ge p.length p'.length with hlt | hge
  · exfalso
    obtain ⟨i, r, er⟩ : ∃ i r, p'.drop p.length = i :: r := by
      cases hd : p'.drop p.length with
      | nil => have := congrArg List.length hd; simp at this; omega
      | cons i r => exact ⟨i, r, rfl⟩
    have e' : p' = p ++ (i :: r) := by
      conv => lhs; rw [← List.take_append_drop p.length p', ← ep, er]
    obtain ⟨q, g1, g2, g3⟩ := h.spread i
    obtain ⟨s, es⟩ := key q g1 g2
    rw [e', List.append_assoc] at es
    have := List.append_cancel_left es
    exact g3 _ this
  · rw [ep, List.take_of_length_le hge]
theorem Ok.uniq : ∀ {t s : Tr} {B C : Nat}, Ok B t → Ok C s → (∀ q, Nb q → get t q = get s q) → t = s := by
  intro t
  induction t with
  | no => intro s B C h; exact h.elim
  | leaf p v =>
    intro s B C h h' hg
    cases s with
    | no => exact h'.elim
    | leaf p' v' =>
      have e := hg p h.1
      simp only [get] at e
      by_cases hp : p = p'
      · subst hp
        simp at e
        rw [e]
      · rw [if_neg hp] at e
        simp at e
        exact absurd e h.2.2
    | ext p' c =>
      exfalso
      obtain ⟨k, x, rfl⟩ := isBr_iff h'.2.2.2.1
      obtain ⟨q, h1, h2, h3⟩ := h'.2.2.2.2.another (p.drop p'.length)
      have e := hg (p' ++ q) (h'.1.app h1)
      rw [get_ext] at e
      simp only [get] at e
      by_cases hp : p' ++ q = p
      · exact h2 (by rw [← hp]; simp)
      · rw [if_neg hp] at e
        exact h3 e.symm
    | br k x =>
      exfalso
      obtain ⟨q, h1, h2, h3⟩ := Ok.another h' p
      have e := hg q h1
      simp only [get] at e
      rw [if_neg h2] at e
      exact h3 e.symm
  | ext p c ih =>
    intro s B C h h' hg
    obtain ⟨k, x, rfl⟩ := isBr_iff h.2.2.2.1
    cases s with
    | no => exact h'.elim
    | leaf p' v' =>
      exfalso
      obtain ⟨q, h1, h2, h3⟩ := h.2.2.2.2.another (p'.drop p.length)
      have e := hg (p ++ q) (h.1.app h1)
      rw [get_ext] at e
      simp only [get] at e
      by_cases hp : p ++ q = p'
      · exact h2 (by rw [← hp]; simp)
      · rw [if_neg hp] at e
        exact h3 e
    | ext p' c' =>
      obtain ⟨k', x', rfl⟩ := isBr_iff h'.2.2.2.1
      have ep : p = p' := by
        rcases Nat.le_total p.length p'.length with hl | hl
        · exact ext_path h.1 h'.1 h.2.2.2.2 h'.2.2.2.2 hg hl
        · exact (ext_path h'.1 h.1 h'.2.2.2.2 h.2.2.2.2 (fun q hq => (hg q hq).symm) hl).symm
      subst ep
      congr 1
      exact ih h.2.2.2.2 h'.2.2.2.2 (fun q hq => by
        have e := hg (p ++ q) (h.1.app hq)
        rw [get_ext, get_ext] at e
        exact e)
    | br k' x' =>
      exfalso
      cases p with
      | nil => exact h.2.1 rfl
      | cons i r =>
        obtain ⟨q, h1, h2, h3⟩ := Ok.spread h' i
        have e := hg q h1
        rw [get_ext_no _ _ _ (fun ⟨s, es⟩ => h3 _ es)] at e
        exact h2 e.symm
  | br k x ih =>
    intro s B C h h' hg
    cases s with
    | no => exact h'.elim
    | leaf p' v' =>
      exfalso
      obtain ⟨q, h1, h2, h3⟩ := Ok.another h p'
      have e := hg q h1
      rw [show get (leaf p' v') q = [] from by simp only [get]; rw [if_neg h2]] at e
      exact h3 e
    | ext p' c' =>
      exfalso
      cases p' with
      | nil => exact h'.2.1 rfl
      | cons i r =>
        obtain ⟨q, h1, h2, h3⟩ := Ok.spread h i
        have e := hg q h1
        rw [get_ext_no _ _ _ (fun ⟨s, es⟩ => h3 _ es)] at e
        exact h2 e
    | br k' x' =>
      have ex : x = x' := hg [] (fun j hj => by cases hj)
      have ek : k = k' := by
        funext i
        have hgi : i < 16 → ∀ r, Nb r → get (k i) r = get (k' i) r := fun hi r hr => hg (((i : Nat) : Int) :: r) (fun j hj => by
          rcases List.mem_cons.1 hj with rfl | hj
          · omega
          · exact hr j hj)
        rcases h.1 i with h0 | ⟨h1, _, h3⟩
        · rcases h'.1 i with g0 | ⟨g1, _, g3⟩
          · rw [h0, g0]
          · obtain ⟨q, q1, _, q3⟩ := g3.some
            have := hgi g1 q q1
            rw [h0] at this
            exact absurd this.symm q3
        · rcases h'.1 i with g0 | ⟨g1, _, g3⟩
          · obtain ⟨q, q1, _, q3⟩ := h3.some
            have := hgi h1 q q1
            rw [g0] at this
            exact absurd this q3
          · exact ih i h3 g3 (hgi h1)
      rw [ex, ek]
end Tr
end Go.Proofs.YtalhnnjpjaeakaaGreat
/- A Put and a Delete take each other back. -/
namespace Go.Proofs.YtalhnnjpjaeakaaGreat
set_option linter.unusedVariables false
namespace Tr
end Tr
end Go.Proofs.YtalhnnjpjaeakaaGreat
/- Byte strings in order: what is sorted and rid of its doubles is told by its members. -/
namespace Go.Proofs.YtalhnnjpjaeakaaGreat
set_option linter.unusedVariables false
open Ni (lessP less_one)
theorem less_irr : ∀ a : List Int, lessP a a = false
  | [] => rfl
  | x :: r => by simp [lessP, less_irr r]
theorem less_trans : ∀ a b c : List Int, lessP a b = true → lessP b c = true → lessP a c = true
  | [], [], _, h, _ => by simp [lessP] at h
  | [], _ :: _, [], _, h => by simp [lessP] at h
  | [], _ :: _, _ :: _, _, _ => rfl
  | _ :: _, [], _, h, _ => by simp [lessP] at h
  | _ :: _, _ :: _, [], _, h => by simp [lessP] at h
  | x :: a, y :: b, z :: c, h, k => by
    simp only [lessP] at h k ⊢
    by_cases h1 : x = y
    · subst h1
      rw [if_pos rfl] at h
      by_cases h2 : x = z
      · subst h2
        rw [if_pos rfl] at k ⊢
        exact less_trans a b c h k
      · rw [if_neg h2] at k ⊢
        exact k
    · rw [if_neg h1] at h
      by_cases h2 : y = z
      · subst h2
        rw [if_neg h1]
        exact h
      · rw [if_neg h2] at k
        have h3 := of_decide_eq_true h
        have h4 := of_decide_eq_true k
        rw [if_neg (by omega)]
        exact decide_eq_true (by omega)
theorem less_tot (a b : List Int) (h : a ≠ b) (k : lessP a b = false) : lessP b a = true := by
  have := less_one a b
  simpa [h, k] using this
def cmpP (a b : List Int) : Int := if a = b then 0 else if lessP a b then -1 else 1
theorem cmp_lt (a b : List Int) : decide (cmpP a b < 0) = lessP a b := by
  unfold cmpP
  by_cases h : a = b
  · subst h; simp [less_irr]
  · rw [if_neg h]
    cases lessP a b <;> simp
/-- Rising. -/
def SrtB (M : List (List Int)) : Prop := M.Pairwise fun a b => lessP a b = true
theorem srtB_uniq : ∀ A B : List (List Int), SrtB A → SrtB B → (∀ x, x ∈ A ↔ x ∈ B) → A = B
  | [], [], _, _, _ => rfl
  | [], b :: B, _, _, h => by have := (h b).2 (by simp); simp at this
  | a :: A, [], _, _, h => by have := (h a).1 (by simp); simp at this
  | a :: A, b :: B, hA, hB, h => by
    obtain ⟨ha, hA'⟩ := List.pairwise_cons.1 hA
    obtain ⟨hb, hB'⟩ := List.pairwise_cons.1 hB
    have e : a = b := by
      rcases List.mem_cons.1 ((h a).1 (by simp)) with q | q
      · exact q
      · rcases List.mem_cons.1 ((h b).2 (by simp)) with p | p
        · exact p.symm
        · have := less_trans _ _ _ (ha _ p) (hb _ q)
          rw [less_irr] at this; cases this
    subst e
    congr 1
    refine srtB_uniq A B hA' hB' fun x => ⟨fun hx => ?_, fun hx => ?_⟩
    · rcases List.mem_cons.1 ((h x).1 (List.mem_cons_of_mem _ hx)) with q | q
      · subst q
        have := ha _ hx
        rw [less_irr] at this; cases this
      · exact q
    · rcases List.mem_cons.1 ((h x).2 (List.mem_cons_of_mem _ hx)) with q | q
      · subst q
        have := hb _ hx
        rw [less_irr] at this; cases this
      · exact q
/-- Rid of doubles that stand beside each other. -/
def ddg (p : List Int) : List (List Int) → List (List Int)
  | [] => []
  | y :: r => if y = p then ddg p r else y :: ddg y r
def dd : List (List Int) → List (List Int)
  | [] => []
  | x :: r => x :: ddg x r
theorem ddg_snoc (b a : List Int) : ∀ (M : List (List Int)) (p : List Int), ddg p (M ++ [a, b]) = ddg p (M ++ [a]) ++ (if b = a then [] else [b])
  | [], p => by
    simp only [List.nil_append, ddg]
    by_cases h : a = p
    · subst h
      by_cases k : b = a <;> simp [k]
    · simp only [if_neg h]
      by_cases k : b = a <;> simp [k]
  | y :: M, p => by
    simp only [List.cons_append, ddg]
    by_cases h : y = p
    · rw [if_pos h, if_pos h]; exact ddg_snoc b a M p
    · rw [if_neg h, if_neg h, ddg_snoc b a M y, List.cons_append]
theorem dd_snoc (M : List (List Int)) (a b : List Int) : dd (M ++ [a, b]) = dd (M ++ [a]) ++ (if b = a then [] else [b]) := by
  cases M with
  | nil => simp only [List.nil_append, dd, ddg]; by_cases h : b = a <;> simp [h]
  | cons x M => simp only [List.cons_append, dd]; rw [ddg_snoc]
theorem mem_ddg (x : List Int) : ∀ (M : List (List Int)) (p : List Int), (x = p ∨ x ∈ ddg p M) ↔ (x = p ∨ x ∈ M)
  | [], p => by simp [ddg]
  | y :: M, p => by
    simp only [ddg]
    by_cases h : y = p
    · subst h
      rw [if_pos rfl, mem_ddg x M y]
      constructor
      · rintro (q | q)
        · exact .inl q
        · exact .inr (List.mem_cons_of_mem _ q)
      · rintro (q | q)
        · exact .inl q
        · rcases List.mem_cons.1 q with q | q
          · exact .inl q
          · exact .inr q
    · rw [if_neg h]
      have := mem_ddg x M y
      simp only [List.mem_cons]
      constructor
      · rintro (q | q)
        · exact .inl q
        · exact .inr (this.1 q)
      · rintro (q | q)
        · exact .inl q
        · exact .inr (this.2 q)
theorem mem_dd (x : List Int) (M : List (List Int)) : x ∈ dd M ↔ x ∈ M := by
  cases M with
  | nil => rfl
  | cons y M =>
    simp only [dd, List.mem_cons]
    exact mem_ddg x M y
theorem ddg_srt : ∀ (M : List (List Int)) (p : List Int), (p :: M).Pairwise (fun a b => lessP b a = false) → SrtB (p :: ddg p M)
  | [], p, _ => by simp [ddg, SrtB]
  | y :: M, p, h => by
    obtain ⟨h1, h2⟩ := List.pairwise_cons.1 h
    obtain ⟨h3, h4⟩ := List.pairwise_cons.1 h2
    simp only [ddg]
    by_cases e : y = p
    · subst e
      rw [if_pos rfl]
      exact ddg_srt M y h2
    · rw [if_neg e]
      have ih := ddg_srt M y h2
      refine List.pairwise_cons.2 ⟨fun z hz => ?_, ih⟩
      have hpy := less_tot y p e (h1 y (by simp))
      rcases List.mem_cons.1 hz with q | q
      · rw [q]; exact hpy
      · exact less_trans _ _ _ hpy ((List.pairwise_cons.1 ih).1 z q)
theorem dd_srt (M : List (List Int)) (h : M.Pairwise (fun a b => lessP b a = false)) : SrtB (dd M) := by
  cases M with
  | nil => simp [dd, SrtB]
  | cons y M => exact ddg_srt M y h
theorem dd_len : ∀ M : List (List Int), (dd M).length ≤ M.length := by
  have h : ∀ (M : List (List Int)) (p : List Int), (ddg p M).length ≤ M.length := by
    intro M
    induction M with
    | nil => intro p; simp [ddg]
    | cons y M ih => intro p; simp only [ddg]; split <;> simp <;> (have := ih p; have := ih y; omega)
  intro M
  cases M with
  | nil => simp [dd]
  | cons x M => simp only [dd, List.length_cons]; have := h M x; omega
end Go.Proofs.YtalhnnjpjaeakaaGreat
/- Byte strings compared. -/
namespace Go.Proofs.YtalhnnjpjaeakaaGreat
open Go.RowKit
set_option linter.unusedVariables false
set_option maxRecDepth 100000
open Ni (lessP less_one)
theorem loadBytes_run {P : Program} {w : World} {gb : Nat} : ∀ (bs : List Int) (off : Nat) (acc : ByteArray), (∀ j, j < bs.length → w.cell? ⟨gb, off + j, none⟩ = some (.int .u8 (bs.getD j 0))) → (Extern.Bytes.loadBytes ⟨gb, off, none⟩ bs.length acc).run P w = .ok ⟨acc.data ++ (Lib.bytesOf bs).toArray⟩ w
  | [], off, acc, h => by
    obtain ⟨d⟩ := acc
    simp [Extern.Bytes.loadBytes, Lib.bytesOf]
  | x :: r, off, acc, h => by
    have h0 := h 0 (by simp)
    rw [Nat.add_zero] at h0
    have e : (Extern.Bytes.loadBytes ⟨gb, off, none⟩ (x :: r).length acc).run P w = (Extern.Bytes.loadBytes ⟨gb, off + 1, none⟩ r.length (acc.push x.toNat.toUInt8)).run P w := by
      rw [List.length_cons, Extern.Bytes.loadBytes, Sem.run_bind, run_load, h0]
      simp only [List.getD_cons_zero, Result.andThen]
      rfl
    rw [e, loadBytes_run r (off + 1) (acc.push x.toNat.toUInt8) (fun j hj => by
      have := h (j + 1) (by simp; omega)
      rw [show off + 1 + j = off + (j + 1) from by omega, this]
      simp)]
    obtain ⟨d⟩ := acc
    simp [Lib.bytesOf, ByteArray.push, Nat.toUInt8]
theorem bytesOf_run {P : Program} {K : Nat → Prop} {w : World} {a : Option Addr} {n c : Nat} {p : List Int} (h : Sk K w a n c p) : (Extern.Bytes.bytesOf (.slice a n c)).run P w = .ok ⟨(Lib.bytesOf p).toArray⟩ w := by
  have hl := h.len
  rcases h.ag.i with ⟨h1, h2⟩ | ⟨gb, off, h1, h2, h3, h4, h5, h7⟩
  · subst h1; subst h2
    cases a with
    | none => rfl
    | some ad => rfl
  · subst h1
    have := loadBytes_run (P := P) p off ByteArray.empty (fun j hj => h7 j (by omega))
    rw [hl] at this
    show (Extern.Bytes.loadBytes ⟨gb, off, none⟩ n ByteArray.empty).run P w = _
    rw [this]
    show Result.ok (⟨(#[] : Array UInt8) ++ (Lib.bytesOf p).toArray⟩ : ByteArray) w = _
    rw [Array.empty_append]
theorem u8_lt {x y : Int} (hx : 0 ≤ x ∧ x < 256) (hy : 0 ≤ y ∧ y < 256) : (UInt8.ofNat x.toNat < UInt8.ofNat y.toNat) ↔ x < y := by
  rw [UInt8.lt_iff_toNat_lt, UInt8.toNat_ofNat', UInt8.toNat_ofNat']
  omega
theorem cmpB_eq : ∀ p q : List Int, (∀ x ∈ p, 0 ≤ x ∧ x < 256) → (∀ x ∈ q, 0 ≤ x ∧ x < 256) → Lib.compareBytes (Lib.bytesOf p) (Lib.bytesOf q) = cmpP p q
  | [], [], _, _ => rfl
  | [], y :: q, _, _ => by simp [Lib.bytesOf, Lib.compareBytes, cmpP, lessP]
  | x :: p, [], _, _ => by simp [Lib.bytesOf, Lib.compareBytes, cmpP, lessP]
  | x :: p, y :: q, hp, hq => by
    have hx := hp x (by simp)
    have hy := hq y (by simp)
    have ih := cmpB_eq p q (fun z hz => hp z (List.mem_cons_of_mem _ hz)) (fun z hz => hq z (List.mem_cons_of_mem _ hz))
    have e : Lib.compareBytes (Lib.bytesOf (x :: p)) (Lib.bytesOf (y :: q)) = if UInt8.ofNat x.toNat < UInt8.ofNat y.toNat then -1 else if UInt8.ofNat y.toNat < UInt8.ofNat x.toNat then 1 else Lib.compareBytes (Lib.bytesOf p) (Lib.bytesOf q) := rfl
    rw [e, ih]
    simp only [u8_lt hx hy, u8_lt hy hx]
    by_cases h : x = y
    · subst h
      have e2 : cmpP (x :: p) (x :: q) = cmpP p q := by
        unfold cmpP
        simp [lessP]
      rw [e2]
      simp
    · have e2 : cmpP (x :: p) (y :: q) = if x < y then -1 else 1 := by
        unfold cmpP
        simp [lessP, h]
      rw [e2]
      by_cases h1 : x < y
      · simp [h1]
      · rw [if_neg h1, if_neg h1, if_pos (by omega)]
theorem cmp_run {P : Program} {K K' : Nat → Prop} {w : World} {a a' : Option Addr} {n c n' c' : Nat} {p q : List Int} (h1 : Sk K w a n c p) (h2 : Sk K' w a' n' c' q) : (Extern.BytealgCompare.compare #[.slice a n c, .slice a' n' c']).run P w = .ok (.int .i64 (cmpP p q)) w := by
  change Sem.run P (do pure (goInt (Extern.BytealgCompare.cmp (← Extern.Bytes.bytesOf (.slice a n c)) (← Extern.Bytes.bytesOf (.slice a' n' c'))))) w = _
  simp only [Sem.run_bind, bytesOf_run h1, bytesOf_run h2, Sem.run_pure, Result.andThen]
  rw [Lib.cmp_eq]
  show Result.ok (goInt (Lib.compareBytes (Lib.bytesOf p) (Lib.bytesOf q))) w = _
  rw [cmpB_eq p q h1.ag.b h2.ag.b]
  rfl
theorem ol_cmp {w : World} {ρ : Operand → Value} {o : Oper} {u v r : Value} (x y : Operand) (tys : Array TypeId) (ho : o.op = .call { callee := .value (.func 62), args := #[x, y], argTypes := tys }) (hf : ρ (.func 62) = .func (.func 62) #[] #[]) (hx : ρ x = u) (hy : ρ y = v) (hr : (Extern.BytealgCompare.compare #[u, v]).run Tryz.prog w = .ok r w) : (execOp ρ o).run Tryz.prog w = .ok (.value r) w := by
  unfold execOp
  simp only [ho, resolve, hf, Deferred.ofValue, Sem.run_bind, Sem.run_pure, Result.andThen_ok, List.map_toArray, List.map_cons, List.map_nil, hx, hy, invoke, List.append_toArray, List.nil_append, List.append_nil]
  rw [run_callFunc_extern Tryz.func62 (by kernel_rfl) (by kernel_rfl) (by kernel_rfl) (e := Extern.BytealgCompare.compare) (by kernel_rfl), hr]
  rfl
theorem bcmp_any {K K' : Nat → Prop} {w : World} {a a' : Option Addr} {n c n' c' : Nat} {p q : List Int} (h1 : Sk K w a n c p) (h2 : Sk K' w a' n' c' q) :
    Calls Tryz.prog 42 #[.slice a n c, .slice a' n' c'] w fun e w' => e = .returned (.int .i64 (cmpP p q)) ∧ w' = w := by
  refine cw_enter Tryz.func42 rfl 8 rfl ?_
  show CW _ _ _ _ _ _ _ [(0, .slice a n c), (1, .slice a' n' c')] _
  refine cw_seq ?_
  refine cw_region ?_
  refine rp 4 (.int .i64 0) ?_
  refine rw_nil ?_
  refine nw_then ?_
  refine cw_seq ?_
  refine cw_region ?_
  refine rp 5 (.slice a n c) ?_
  refine rp 6 (.slice a' n' c') ?_
  refine rv 7 (.int .i64 (cmpP p q)) (fun _ => ol_cmp _ _ _ rfl rfl (by kernel_rfl) (by kernel_rfl) (cmp_run h1 h2)) ?_
  refine rp 4 (.int .i64 (cmpP p q)) ?_
  refine rw_nil ?_
  refine nw_then ?_
  refine cw_ret ?_
  exact nw_ret_body (.int .i64 (cmpP p q)) (fun _ => by kernel_rfl) ⟨rfl, rfl⟩
end Go.Proofs.YtalhnnjpjaeakaaGreat
