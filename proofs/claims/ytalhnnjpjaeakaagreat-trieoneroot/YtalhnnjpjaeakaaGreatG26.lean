/- Byte strings in order: what is sorted and rid of its doubles is told by its members. -/
import Derived.Test.YtalhnnjpjaeakaaGreatG25
import Derived.Test.YtalhnnjpjaeakaaGreatG03
import Derived.Lib.Bytealg
import Derived.Laws.Externs
import Derived.Lib.Bytes
import Derived.Test.YtalhnnjpjaeakaaGreatG01
import Derived.Test.YtalhnnjpjaeakaaGreatG19
import Derived.Lib.SliceRun
namespace Go.Proofs.YtalhnnjpjaeakaaGreat
set_option linter.unusedVariables false
open Ni (lessP less_one)
theorem less_irr : ∀ a : List Int, lessP a a = false
  | [] => rfl
  | x :: r => by simp [lessP, less_irr r]
theorem less_trans : ∀ a b c : List Int, lessP a b = true → lessP b c = true → lessP a c = true
  | [], [], _, h, _ => by simp [lessP] at h
  | [], _ :: _, [], _, h => by simp [lessP] at h
  | [], _ :: _, _ :: _, _, _ => rfl
  | _ :: _, [], _, h, _ => by simp [lessP] at h
  | _ :: _, _ :: _, [], _, h => by simp [lessP] at h
  | x :: a, y :: b, z :: c, h, k => by
    simp only [lessP] at h k ⊢
    by_cases h1 : x = y
    · subst h1
      rw [if_pos rfl] at h
      by_cases h2 : x = z
      · subst h2
        rw [if_pos rfl] at k ⊢
        exact less_trans a b c h k
      · rw [if_neg h2] at k ⊢
        exact k
    · rw [if_neg h1] at h
      by_cases h2 : y = z
      · subst h2
        rw [if_neg h1]
        exact h
      · rw [if_neg h2] at k
        have h3 := of_decide_eq_true h
        have h4 := of_decide_eq_true k
        rw [if_neg (by omega)]
        exact decide_eq_true (by omega)
theorem less_tot (a b : List Int) (h : a ≠ b) (k : lessP a b = false) : lessP b a = true := by
  have := less_one a b
  simpa [h, k] using this
def cmpP (a b : List Int) : Int := if a = b then 0 else if lessP a b then -1 else 1
theorem cmp_lt (a b : List Int) : decide (cmpP a b < 0) = lessP a b := by
  unfold cmpP
  by_cases h : a = b
  · subst h; simp [less_irr]
  · rw [if_neg h]
    cases lessP a b <;> simp
/-- Rising. -/
def SrtB (M : List (List Int)) : Prop := M.Pairwise fun a b => lessP a b = true
theorem srtB_uniq : ∀ A B : List (List Int), SrtB A → SrtB B → (∀ x, x ∈ A ↔ x ∈ B) → A = B
  | [], [], _, _, _ => rfl
  | [], b :: B, _, _, h => by have := (h b).2 (by simp); simp at this
  | a :: A, [], _, _, h => by have := (h a).1 (by simp); simp at this
  | a :: A, b :: B, hA, hB, h => by
    obtain ⟨ha, hA'⟩ := List.pairwise_cons.1 hA
    obtain ⟨hb, hB'⟩ := List.pairwise_cons.1 hB
    have e : a = b := by
      rcases List.mem_cons.1 ((h a).1 (by simp)) with q | q
      · exact q
      · rcases List.mem_cons.1 ((h b).2 (by simp)) with p | p
        · exact p.symm
        · have := less_trans _ _ _ (ha _ p) (hb _ q)
          rw [less_irr] at this; cases this
    subst e
    congr 1
    refine srtB_uniq A B hA' hB' fun x => ⟨fun hx => ?_, fun hx => ?_⟩
    · rcases List.mem_cons.1 ((h x).1 (List.mem_cons_of_mem _ hx)) with q | q
      · subst q
        have := ha _ hx
        rw [less_irr] at this; cases this
      · exact q
    · rcases List.mem_cons.1 ((h x).2 (List.mem_cons_of_mem _ hx)) with q | q
      · subst q
        have := hb _ hx
        rw [less_irr] at this; cases this
      · exact q
/-- Rid of doubles that stand beside each other. -/
def ddg (p : List Int) : List (List Int) → List (List Int)
  | [] => []
  | y :: r => if y = p then ddg p r else y :: ddg y r
def dd : List (List Int) → List (List Int)
  | [] => []
  | x :: r => x :: ddg x r
theorem ddg_snoc (b a : List Int) : ∀ (M : List (List Int)) (p : List Int), ddg p (M ++ [a, b]) = ddg p (M ++ [a]) ++ (if b = a then [] else [b])
  | [], p => by
    simp only [List.nil_append, ddg]
    by_cases h : a = p
    · subst h
      by_cases k : b = a <;> simp [k]
    · simp only [if_neg h]
      by_cases k : b = a <;> simp [k]
  | y :: M, p => by
    simp only [List.cons_append, ddg]
    by_cases h : y = p
    · rw [if_pos h, if_pos h]; exact ddg_snoc b a M p
    · rw [if_neg h, if_neg h, ddg_snoc b a M y, List.cons_append]
theorem dd_snoc (M : List (List Int)) (a b : List Int) : dd (M ++ [a, b]) = dd (M ++ [a]) ++ (if b = a then [] else [b]) := by
  cases M with
  | nil => simp only [List.nil_append, dd, ddg]; by_cases h : b = a <;> simp [h]
  | cons x M => simp only [List.cons_append, dd]; rw [ddg_snoc]
theorem mem_ddg (x : List Int) : ∀ (M : List (List Int)) (p : List Int), (x = p ∨ x ∈ ddg p M) ↔ (x = p ∨ x ∈ M)
  | [], p => by simp [ddg]
  | y :: M, p => by
    simp only [ddg]
    by_cases h : y = p
    · subst h
      rw [if_pos rfl, mem_ddg x M y]
      constructor
      · rintro (q | q)
        · exact .inl q
        · exact .inr (List.mem_cons_of_mem _ q)
      · rintro (q | q)
        · exact .inl q
        · rcases List.mem_cons.1 q with q | q
          · exact .inl q
          · exact .inr q
    · rw [if_neg h]
      have := mem_ddg x M y
      simp only [List.mem_cons]
      constructor
      · rintro (q | q)
        · exact .inl q
        · exact .inr (this.1 q)
      · rintro (q | q)
        · exact .inl q
        · exact .inr (this.2 q)
theorem mem_dd (x : List Int) (M : List (List Int)) : x ∈ dd M ↔ x ∈ M := by
  cases M with
  | nil => rfl
  | cons y M =>
    simp only [dd, List.mem_cons]
    exact mem_ddg x M y
theorem ddg_srt : ∀ (M : List (List Int)) (p : List Int), (p :: M).Pairwise (fun a b => lessP b a = false) → SrtB (p :: ddg p M)
  | [], p, _ => by simp [ddg, SrtB]
  | y :: M, p, h => by
    obtain ⟨h1, h2⟩ := List.pairwise_cons.1 h
    obtain ⟨h3, h4⟩ := List.pairwise_cons.1 h2
    simp only [ddg]
    by_cases e : y = p
    · subst e
      rw [if_pos rfl]
      exact ddg_srt M y h2
    · rw [if_neg e]
      have ih := ddg_srt M y h2
      refine List.pairwise_cons.2 ⟨fun z hz => ?_, ih⟩
      have hpy := less_tot y p e (h1 y (by simp))
      rcases List.mem_cons.1 hz with q | q
      · rw [q]; exact hpy
      · exact less_trans _ _ _ hpy ((List.pairwise_cons.1 ih).1 z q)
theorem dd_srt (M : List (List Int)) (h : M.Pairwise (fun a b => lessP b a = false)) : SrtB (dd M) := by
  cases M with
  | nil => simp [dd, SrtB]
  | cons y M => exact ddg_srt M y h
theorem dd_len : ∀ M : List (List Int), (dd M).length ≤ M.length := by
  have h : ∀ (M : List (List Int)) (p : List Int), (ddg p M).length ≤ M.length := by
    intro M
    induction M with
    | nil => intro p; simp [ddg]
    | cons y M ih => intro p; simp only [ddg]; split <;> simp <;> (have := ih p; have := ih y; omega)
  intro M
  cases M with
  | nil => simp [dd]
  | cons x M => simp only [dd, List.length_cons]; have := h M x; omega
end Go.Proofs.YtalhnnjpjaeakaaGreat
/- Byte strings compared. -/
namespace Go.Proofs.YtalhnnjpjaeakaaGreat
open Go.RowKit
set_option linter.unusedVariables false
set_option maxRecDepth 100000
open Ni (lessP less_one)
theorem loadBytes_run {P : Program} {w : World} {gb : Nat} : ∀ (bs : List Int) (off : Nat) (acc : ByteArray), (∀ j, j < bs.length → w.cell? ⟨gb, off + j, none⟩ = some (.int .u8 (bs.getD j 0))) → (Extern.Bytes.loadBytes ⟨gb, off, none⟩ bs.length acc).run P w = .ok ⟨acc.data ++ (Lib.bytesOf bs).toArray⟩ w
  | [], off, acc, h => by
    obtain ⟨d⟩ := acc
    simp [Extern.Bytes.loadBytes, Lib.bytesOf]
  | x :: r, off, acc, h => by
    have h0 := h 0 (by simp)
    rw [Nat.add_zero] at h0
    have e : (Extern.Bytes.loadBytes ⟨gb, off, none⟩ (x :: r).length acc).run P w = (Extern.Bytes.loadBytes ⟨gb, off + 1, none⟩ r.length (acc.push x.toNat.toUInt8)).run P w := by
      rw [List.length_cons, Extern.Bytes.loadBytes, Sem.run_bind, run_load, h0]
      simp only [List.getD_cons_zero, Result.andThen]
      rfl
    rw [e, loadBytes_run r (off + 1) (acc.push x.toNat.toUInt8) (fun j hj => by
      have := h (j + 1) (by simp; omega)
      rw [show off + 1 + j = off + (j + 1) from by omega, this]
      simp)]
    obtain ⟨d⟩ := acc
    simp [Lib.bytesOf, ByteArray.push, Nat.toUInt8]
theorem bytesOf_run {P : Program} {K : Nat → Prop} {w : World} {a : Option Addr} {n c : Nat} {p : List Int} (h : Sk K w a n c p) : (Extern.Bytes.bytesOf (.slice a n c)).run P w = .ok ⟨(Lib.bytesOf p).toArray⟩ w := by
  have hl := h.len
  rcases h.ag.i with ⟨h1, h2⟩ | ⟨gb, off, h1, h2, h3, h4, h5, h7⟩
  · subst h1; subst h2
    cases a with
    | none => rfl
    | some ad => rfl
  · subst h1
    have := loadBytes_run (P := P) p off ByteArray.empty (fun j hj => h7 j (by omega))
    rw [hl] at this
    show (Extern.Bytes.loadBytes ⟨gb, off, none⟩ n ByteArray.empty).run P w = _
    rw [this]
    show Result.ok (⟨(#[] : Array UInt8) ++ (Lib.bytesOf p).toArray⟩ : ByteArray) w = _
    rw [Array.empty_append]
theorem u8_lt {x y : Int} (hx : 0 ≤ x ∧ x < 256) (hy : 0 ≤ y ∧ y < 256) : (UInt8.ofNat x.toNat < UInt8.ofNat y.toNat) ↔ x < y := by
  rw [UInt8.lt_iff_toNat_lt, UInt8.toNat_ofNat', UInt8.toNat_ofNat']
  omega
theorem cmpB_eq : ∀ p q : List Int, (∀ x ∈ p, 0 ≤ x ∧ x < 256) → (∀ x ∈ q, 0 ≤ x ∧ x < 256) → Lib.compareBytes (Lib.bytesOf p) (Lib.bytesOf q) = cmpP p q
  | [], [], _, _ => rfl
  | [], y :: q, _, _ => by simp [Lib.bytesOf, Lib.compareBytes, cmpP, lessP]
  | x :: p, [], _, _ => by simp [Lib.bytesOf, Lib.compareBytes, cmpP, lessP]
  | x :: p, y :: q, hp, hq => by
    have hx := hp x (by simp)
    have hy := hq y (by simp)
    have ih := cmpB_eq p q (fun z hz => hp z (List.mem_cons_of_mem _ hz)) (fun z hz => hq z (List.mem_cons_of_mem _ hz))
    have e : Lib.compareBytes (Lib.bytesOf (x :: p)) (Lib.bytesOf (y :: q)) = if UInt8.ofNat x.toNat < UInt8.ofNat y.toNat then -1 else if UInt8.ofNat y.toNat < UInt8.ofNat x.toNat then 1 else Lib.compareBytes (Lib.bytesOf p) (Lib.bytesOf q) := rfl
    rw [e, ih]
    simp only [u8_lt hx hy, u8_lt hy hx]
    by_cases h : x = y
    · subst h
      have e2 : cmpP (x :: p) (x :: q) = cmpP p q := by
        unfold cmpP
        simp [lessP]
      rw [e2]
      simp
    · have e2 : cmpP (x :: p) (y :: q) = if x < y then -1 else 1 := by
        unfold cmpP
        simp [lessP, h]
      rw [e2]
      by_cases h1 : x < y
      · simp [h1]
      · rw [if_neg h1, if_neg h1, if_pos (by omega)]
theorem cmp_run {P : Program} {K K' : Nat → Prop} {w : World} {a a' : Option Addr} {n c n' c' : Nat} {p q : List Int} (h1 : Sk K w a n c p) (h2 : Sk K' w a' n' c' q) : (Extern.BytealgCompare.compare #[.slice a n c, .slice a' n' c']).run P w = .ok (.int .i64 (cmpP p q)) w := by
  change Sem.run P (do pure (goInt (Extern.BytealgCompare.cmp (← Extern.Bytes.bytesOf (.slice a n c)) (← Extern.Bytes.bytesOf (.slice a' n' c'))))) w = _
  simp only [Sem.run_bind, bytesOf_run h1, bytesOf_run h2, Sem.run_pure, Result.andThen]
  rw [Lib.cmp_eq]
  show Result.ok (goInt (Lib.compareBytes (Lib.bytesOf p) (Lib.bytesOf q))) w = _
  rw [cmpB_eq p q h1.ag.b h2.ag.b]
  rfl
theorem ol_cmp {w : World} {ρ : Operand → Value} {o : Oper} {u v r : Value} (x y : Operand) (tys : Array TypeId) (ho : o.op = .call { callee := .value (.func 62), args := #[x, y], argTypes := tys }) (hf : ρ (.func 62) = .func (.func 62) #[] #[]) (hx : ρ x = u) (hy : ρ y = v) (hr : (Extern.BytealgCompare.compare #[u, v]).run Tryz.prog w = .ok r w) : (execOp ρ o).run Tryz.prog w = .ok (.value r) w := by
  unfold execOp
  simp only [ho, resolve, hf, Deferred.ofValue, Sem.run_bind, Sem.run_pure, Result.andThen_ok, List.map_toArray, List.map_cons, List.map_nil, hx, hy, invoke, List.append_toArray, List.nil_append, List.append_nil]
  rw [run_callFunc_extern Tryz.func62 (by kernel_rfl) (by kernel_rfl) (by kernel_rfl) (e := Extern.BytealgCompare.compare) (by kernel_rfl), hr]
  rfl
theorem bcmp_any {K K' : Nat → Prop} {w : World} {a a' : Option Addr} {n c n' c' : Nat} {p q : List Int} (h1 : Sk K w a n c p) (h2 : Sk K' w a' n' c' q) :
    Calls Tryz.prog 42 #[.slice a n c, .slice a' n' c'] w fun e w' => e = .returned (.int .i64 (cmpP p q)) ∧ w' = w := by
  refine cw_enter Tryz.func42 rfl 8 rfl ?_
  show CW _ _ _ _ _ _ _ [(0, .slice a n c), (1, .slice a' n' c')] _
  refine cw_seq ?_
  refine cw_region ?_
  refine rp 4 (.int .i64 0) ?_
  refine rw_nil ?_
  refine nw_then ?_
  refine cw_seq ?_
  refine cw_region ?_
  refine rp 5 (.slice a n c) ?_
  refine rp 6 (.slice a' n' c') ?_
  refine rv 7 (.int .i64 (cmpP p q)) (fun _ => ol_cmp _ _ _ rfl rfl (by kernel_rfl) (by kernel_rfl) (cmp_run h1 h2)) ?_
  refine rp 4 (.int .i64 (cmpP p q)) ?_
  refine rw_nil ?_
  refine nw_then ?_
  refine cw_ret ?_
  exact nw_ret_body (.int .i64 (cmpP p q)) (fun _ => by kernel_rfl) ⟨rfl, rfl⟩
end Go.Proofs.YtalhnnjpjaeakaaGreat
/- Rows of byte strings in memory; two of them compared. -/
namespace Go.Proofs.YtalhnnjpjaeakaaGreat
open Go.RowKit
open Tr
set_option linter.unusedVariables false
set_option maxRecDepth 100000
/-- A row of slices of bytes. -/
structure Bt (K : Nat → Prop) (w : World) (a : Option Addr) (n : Nat) (M : List (List Int)) : Prop where
  len : M.length = n
  row : ∀ j, j < n → ∃ g off a' n' c', a = some ⟨g, off, none⟩ ∧ w.cell? ⟨g, off + j * 1, none⟩ = some (.slice a' n' c') ∧ Sk K w a' n' c' (M.getD j [])
theorem Bt.go {K : Nat → Prop} {w w' : World} {a : Option Addr} {n : Nat} {M : List (List Int)} (h : Bt K w a n M) (hb : Below w.heap.size w w') : Bt K w' a n M := ⟨h.len, fun j hj => by
  obtain ⟨g, off, a', n', c', h1, h2, h3⟩ := h.row j hj
  exact ⟨g, off, a', n', c', h1, (hb.cell (p := ⟨g, off + j * 1, none⟩) (block_lt_of_cell h2)).trans h2, h3.go hb⟩⟩
/-- Two slices in memory, by their cells. -/
structure Two (K K' : Nat → Prop) (w : World) (p p' : Addr) (a a' : Option Addr) (n c n' c' : Nat) (x y : List Int) : Prop where
  cc : w.cell? p = some (.slice a n c)
  sk : Sk K w a n c x
  cc' : w.cell? p' = some (.slice a' n' c')
  sk' : Sk K' w a' n' c' y
theorem Two.drew {K K' : Nat → Prop} {w : World} {p p' : Addr} {a a' : Option Addr} {n c n' c' : Nat} {x y : List Int} (h : Two K K' w p p' a a' n c n' c' x y) : Two K K' w.drew p p' a a' n c n' c' x y := ⟨h.cc, h.sk.drew, h.cc', h.sk'.drew⟩
theorem Two.go {K K' : Nat → Prop} {w w' : World} {p p' : Addr} {a a' : Option Addr} {n c n' c' : Nat} {x y : List Int} (h : Two K K' w p p' a a' n c n' c' x y) (hb : Below w.heap.size w w') : Two K K' w' p p' a a' n c n' c' x y := ⟨(hb.cell (p := p) (block_lt_of_cell h.cc)).trans h.cc, h.sk.go hb, (hb.cell (p := p') (block_lt_of_cell h.cc')).trans h.cc', h.sk'.go hb⟩
theorem getD_ext {M N : List (List Int)} {n : Nat} (h1 : M.length = n) (h2 : N.length = n) (h : ∀ i, i < n → M.getD i [] = N.getD i []) : M = N := by
  refine List.ext_getElem (by omega) fun i hi hj => ?_
  have := h i (by omega)
  simpa [List.getD, hi, hj] using this
set_option maxHeartbeats 1000000 in
theorem same_ne {K K' : Nat → Prop} {w : World} {a a' : Option Addr} {n c n' c' : Nat} {M M' : List (List Int)} (hX : Bt K w a n M) (hY : Bt K' w a' n' M') (hne : n ≠ n') :
    Calls Tryz.prog 19 #[.slice a n c, .slice a' n' c'] w fun e w' => ∃ u, e = .returned u ∧ (fun u w' => u = .bool (decide (M = M')) ∧ Bl w w') u w' := by
  have hB := Bl.refl w
  refine cw_enter Tryz.func19 rfl 28 rfl ?_
  show CW _ _ _ _ _ _ _ [(0, .slice a n c), (1, .slice a' n' c')] _
  refine cw_seq ?_
  refine cw_region ?_
  refine rp 4 (.bool false) ?_
  refine rw_nil ?_
  refine nw_then ?_
  refine cw_seq ?_
  refine cw_seq ?_
  refine cw_region ?_
  refine rp 6 (.slice a n c) ?_
  refine rp 7 (.int .i64 n) ?_
  refine rp 8 (.slice a' n' c') ?_
  refine rp 9 (.int .i64 n') ?_
  refine rv 10 (.bool true) (fun _ => ol_conv (v := .bool (!((n : Int) == (n' : Int)))) (by kernel_rfl) (congrArg Value.bool (by simp; omega))) ?_
  refine rw_nil ?_
  refine nw_then ?_
  refine cw_cond_t (fun _ => by kernel_rfl) ?_
  refine cw_seq ?_
  refine cw_region ?_
  refine rp 4 (.bool false) ?_
  refine rw_nil ?_
  refine nw_then ?_
  refine cw_ret ?_
  refine nw_ret_then ?_
  exact nw_ret_body (.bool false) (fun _ => by kernel_rfl) ⟨_, rfl, by rw [decide_eq_false (fun e => hne (by rw [← hX.len, ← hY.len, e]))], hB⟩
set_option maxHeartbeats 1000000 in
theorem same_eq {K K' : Nat → Prop} {w : World} {a a' : Option Addr} {n c c' : Nat} {M M' : List (List Int)} (hX : Bt K w a n M) (hY : Bt K' w a' n M') (hn : n ≤ 7600000000002) :
    Calls Tryz.prog 19 #[.slice a n c, .slice a' n c'] w fun e w' => ∃ u, e = .returned u ∧ (fun u w' => u = .bool (decide (M = M')) ∧ Bl w w') u w' := by
  have hB := Bl.refl w
  refine cw_enter Tryz.func19 rfl 28 rfl ?_
  show CW _ _ _ _ _ _ _ [(0, .slice a n c), (1, .slice a' n c')] _
  refine cw_seq ?_
  refine cw_region ?_
  refine rp 4 (.bool false) ?_
  refine rw_nil ?_
  refine nw_then ?_
  refine cw_seq ?_
  refine cw_seq ?_
  refine cw_region ?_
  refine rp 6 (.slice a n c) ?_
  refine rp 7 (.int .i64 n) ?_
  refine rp 8 (.slice a' n c') ?_
  refine rp 9 (.int .i64 n) ?_
  refine rv 10 (.bool false) (fun _ => ol_conv (v := .bool (!((n : Int) == (n : Int)))) (by kernel_rfl) (congrArg Value.bool (by simp))) ?_
  refine rw_nil ?_
  refine nw_then ?_
  refine cw_cond_f (fun _ => by kernel_rfl) ?_
  refine cw_skip ?_
  refine nw_then ?_
  refine cw_seq ?_
  refine cw_seq ?_
  refine cw_region ?_
  refine rp 5 (.int .i64 0) ?_
  refine rw_nil ?_
  refine nw_then ?_
  refine cw_block ?_
  refine cw_loop (X := Nat) (fun j => [(5, .int .i64 ((j : Nat) : Int)), (0, .slice a n c), (1, .slice a' n c')]) (fun j v => Bl w v ∧ j ≤ n ∧ ∀ i, i < j → M.getD i [] = M'.getD i []) (fun j => n - j) 0 (by exact ⟨fun _ => by kernel_rfl, ⟨fun _ => by kernel_rfl, ⟨fun _ => by kernel_rfl, trivial⟩⟩⟩) ⟨hB, Nat.zero_le _, fun i hi => by omega⟩ ?_
  clear hB
  rintro j v ⟨hB, hj, hI⟩
  by_cases hlt : j < n
  · skip
    obtain ⟨g1, o1, a1, n1, c1, e1, hc1, hs1⟩ := (hX.go hB).row j hlt
    obtain ⟨g2, o2, a2, n2, c2, e2, hc2, hs2⟩ := (hY.go hB).row j hlt
    subst e1
    subst e2
    obtain ⟨x, ex⟩ : ∃ x, M.getD j [] = x := ⟨_, rfl⟩
    obtain ⟨y, ey⟩ : ∃ y, M'.getD j [] = y := ⟨_, rfl⟩
    rw [ex] at hs1
    rw [ey] at hs2
    have hS : Two K K' v ⟨g1, o1 + j * 1, none⟩ ⟨g2, o2 + j * 1, none⟩ a1 a2 n1 c1 n2 c2 x y := ⟨hc1, hs1, hc2, hs2⟩
    refine cw_seq ?_
    refine cw_seq ?_
    refine cw_region ?_
    refine rp 11 (.int .i64 ((j : Nat) : Int)) ?_
    refine rp 12 (.slice (some ⟨g1, o1, none⟩) n c) ?_
    refine rp 13 (.int .i64 n) ?_
    refine rv 14 (.bool true) (fun _ => ol_conv (v := .bool (decide (((j : Nat) : Int) < (n : Int)))) (by kernel_rfl) (congrArg Value.bool (decide_eq_true (by omega)))) ?_
    refine rw_nil ?_
    refine nw_then ?_
    refine cw_cond_t (fun _ => by kernel_rfl) ?_
    refine cw_skip ?_
    refine nw_then ?_
    refine cw_seq ?_
    refine cw_block ?_
    refine cw_seq ?_
    refine cw_draw (fun v => Two K K' v ⟨g1, o1 + j * 1, none⟩ ⟨g2, o2 + j * 1, none⟩ a1 a2 n1 c1 n2 c2 x y) (by kernel_rfl) (hS.drew) ?_
    replace hB := hB.drew
    replace hS := hS.drew
    refine dt 0 17 (.slice (some ⟨g1, o1, none⟩) n c) (fun v hv _ => by kernel_rfl) hS ?_
    refine dt 1 18 (.int .i64 ((j : Nat) : Int)) (fun v hv _ => by kernel_rfl) hS ?_
    refine dt 2 19 (.pointer (some ⟨g1, o1 + j * 1, none⟩)) (fun v hv _ => ol_index 41 _ _ g1 o1 j n c 1 27 rfl (by kernel_rfl) (by kernel_rfl) hlt Tryz.underlying41 (by kernel_rfl)) hS ?_
    refine dt 3 20 (.slice a1 n1 c1) (fun v hv _ => ol_cell 27 _ _ _ _ rfl (by kernel_rfl) hv.cc Tryz.underlying27 rfl) hS ?_
    refine dt 4 21 (.string (strOfNums x)) (fun v hv _ => hv.sk.run_str _ _ _ rfl (by kernel_rfl)) hS ?_
    refine dt 5 22 (.slice (some ⟨g2, o2, none⟩) n c') (fun v hv _ => by kernel_rfl) hS ?_
    refine dt 6 23 (.int .i64 ((j : Nat) : Int)) (fun v hv _ => by kernel_rfl) hS ?_
    refine dt 7 24 (.pointer (some ⟨g2, o2 + j * 1, none⟩)) (fun v hv _ => ol_index 41 _ _ g2 o2 j n c' 1 27 rfl (by kernel_rfl) (by kernel_rfl) hlt Tryz.underlying41 (by kernel_rfl)) hS ?_
    refine dt 8 25 (.slice a2 n2 c2) (fun v hv _ => ol_cell 27 _ _ _ _ rfl (by kernel_rfl) hv.cc' Tryz.underlying27 rfl) hS ?_
    refine dt 9 26 (.string (strOfNums y)) (fun v hv _ => hv.sk'.run_str _ _ _ rfl (by kernel_rfl)) hS ?_
    refine dt 10 27 (.bool (!decide (x = y))) (fun v hv _ => ol_nes 9 _ _ _ _ _ rfl (by kernel_rfl) (by kernel_rfl) (congrArg Bool.not (strs_eq hS.sk.ag.b hS.sk'.ag.b))) hS ?_
    refine dw_done (by kernel_rfl) ?_
    refine nw_then ?_
    by_cases hpq : x = y
    · skip
      rw [show (!decide (x = y)) = false from by simp [hpq]]
      refine cw_cond_f (fun _ => by kernel_rfl) ?_
      refine cw_skip ?_
      refine nw_block ?_
      refine nw_then ?_
      refine cw_region ?_
      refine rp 15 (.int .i64 ((j : Nat) : Int)) ?_
      refine rv 16 (.int .i64 (((j : Nat) : Int) + 1)) (fun _ => ol_conv (v := .int .i64 (IntKind.i64.wrap (((j : Nat) : Int) + 1))) (by kernel_rfl) (congrArg (Value.int .i64) (wrap64 (by omega) (by omega)))) ?_
      refine rp 5 (.int .i64 (((j : Nat) : Int) + 1)) ?_
      refine rw_nil ?_
      exact nw_round (E := fun j => [(5, .int .i64 ((j : Nat) : Int)), (0, .slice (some ⟨g1, o1, none⟩) n c), (1, .slice (some ⟨g2, o2, none⟩) n c')]) (R := fun j v => Bl w v ∧ j ≤ n ∧ ∀ i, i < j → M.getD i [] = M'.getD i []) (μ := fun j => n - j) (x := j) (j + 1) (by exact ⟨fun _ => by kernel_rfl, ⟨fun _ => by kernel_rfl, ⟨fun _ => by kernel_rfl, trivial⟩⟩⟩) ⟨hB, by omega, fun i hi => (Nat.lt_succ_iff_lt_or_eq.1 hi).elim (fun h => hI i h) (fun h => by rw [h, ex, ey, hpq])⟩ (by show n - (j + 1) < n - j; omega)
    · skip
      rw [show (!decide (x = y)) = true from by simp [hpq]]
      refine cw_cond_t (fun _ => by kernel_rfl) ?_
      refine cw_seq ?_
      refine cw_region ?_
      refine rp 4 (.bool false) ?_
      refine rw_nil ?_
      refine nw_then ?_
      refine cw_ret ?_
      refine nw_ret_block ?_
      refine nw_ret_then ?_
      refine nw_ret_then ?_
      refine nw_ret_block ?_
      refine nw_ret_then ?_
      exact nw_ret_body (.bool false) (fun _ => by kernel_rfl) ⟨_, rfl, by rw [decide_eq_false (fun e => hpq (by rw [← ex, ← ey, e]))], hB⟩
  obtain rfl : j = n := by omega
  refine cw_seq ?_
  refine cw_seq ?_
  refine cw_region ?_
  refine rp 11 (.int .i64 ((j : Nat) : Int)) ?_
  refine rp 12 (.slice a j c) ?_
  refine rp 13 (.int .i64 j) ?_
  refine rv 14 (.bool false) (fun _ => ol_conv (v := .bool (decide (((j : Nat) : Int) < (j : Int)))) (by kernel_rfl) (congrArg Value.bool (decide_eq_false (by omega)))) ?_
  refine rw_nil ?_
  refine nw_then ?_
  refine cw_cond_f (fun _ => by kernel_rfl) ?_
  refine cw_exit ?_
  refine nw_exit_then ?_
  refine nw_exit_then ?_
  refine nw_exit_here ?_
  refine nw_then ?_
  refine cw_seq ?_
  refine cw_region ?_
  refine rp 4 (.bool true) ?_
  refine rw_nil ?_
  refine nw_then ?_
  refine cw_ret ?_
  exact nw_ret_body (.bool true) (fun _ => by kernel_rfl) ⟨_, rfl, by rw [decide_eq_true (getD_ext hX.len hY.len hI)], hB⟩
theorem sameall_any {K K' : Nat → Prop} {w : World} {a a' : Option Addr} {n c n' c' : Nat} {M M' : List (List Int)} (hX : Bt K w a n M) (hY : Bt K' w a' n' M') (hn : n ≤ 7600000000002) :
    Calls Tryz.prog 19 #[.slice a n c, .slice a' n' c'] w fun e w' => ∃ u, e = .returned u ∧ u = .bool (decide (M = M')) ∧ Bl w w' := by
  by_cases h : n = n'
  · subst h; exact same_eq hX hY hn
  · exact same_ne hX hY h
end Go.Proofs.YtalhnnjpjaeakaaGreat
/- A row of byte strings in a block of its own: cut, cleared; rid of its doubles. -/
namespace Go.Proofs.YtalhnnjpjaeakaaGreat
open Go.RowKit
set_option linter.unusedVariables false
set_option maxRecDepth 100000
/-- A slice of bytes, told as a pair. -/
def Gd (K : Nat → Prop) (w : World) (p : Value × List Int) : Prop := ∃ a n c, p.1 = .slice a n c ∧ Sk K w a n c p.2
theorem Gd.tou {K : Nat → Prop} {w w' : World} {g : Nat} {p : Value × List Int} (h : Gd K w p) (t : Touch g w w') (hg : ¬ K g) : Gd K w' p := by
  obtain ⟨a, n, c, h1, h2⟩ := h
  exact ⟨a, n, c, h1, h2.tou t hg⟩
theorem Touch.setCells (g : Nat) : ∀ (vs : List Value) (w : World) (o : Nat), Touch g w (w.setCells g o vs)
  | [], w, o => Touch.refl g w
  | v :: r, w, o => (Touch.setCell g w o v).trans (Touch.setCells g r _ _)
theorem ol_from41 {w : World} {ρ : Operand → Value} {o : Oper} (x y : Operand) (g off k l c l2 c2 : Nat) (ho : o.op = .slice 41 x (some y) none none) (hx : ρ x = .slice (some ⟨g, off, none⟩) l c) (hy : ρ y = .int .i64 ((k : Nat) : Int)) (hl : l = k + l2) (hc : c = k + c2) (h0 : 0 < c2) : (execOp ρ o).run Tryz.prog w = .ok (.value (.slice (some ⟨g, off + k * 1, none⟩) l2 c2)) w := by
  subst hl hc
  unfold execOp
  rw [ho]
  have h2 : k + l2 - k = l2 := by omega
  have h3 : k + c2 - k = c2 := by omega
  simp [hx, hy, Instr.sliceAt, run_underlying Tryz.underlying41, Instr.slice, Instr.sliceBounds, Instr.sliceBound, asIntOf, h2, h3, Result.andThen, addr_add]
  omega
theorem ol_to41 {w : World} {ρ : Operand → Value} {o : Oper} (x y : Operand) (g off k l c : Nat) (ho : o.op = .slice 41 x none (some y) none) (hx : ρ x = .slice (some ⟨g, off, none⟩) l c) (hy : ρ y = .int .i64 ((k : Nat) : Int)) (hk : k ≤ c) (h0 : 0 < c) : (execOp ρ o).run Tryz.prog w = .ok (.value (.slice (some ⟨g, off, none⟩) k c)) w := by
  unfold execOp
  rw [ho]
  have h1 : ¬ (c = 0) := by omega
  simp [hx, hy, Instr.sliceAt, run_underlying Tryz.underlying41, Instr.slice, Instr.sliceBounds, Instr.sliceBound, asIntOf, h1, hk, Result.andThen, addr_add]
theorem ol_clear {w : World} {ρ : Operand → Value} {o : Oper} (x : Operand) (g off l c : Nat) (cur : Array Value) (ho : o.op = .call { callee := .builtin .clear, args := #[x], argTypes := #[41] }) (hx : ρ x = .slice (some ⟨g, off, none⟩) l c) (hr : Rw g w cur 27) (hl : 0 < l) (hs : off + l ≤ cur.size) : (execOp ρ o).run Tryz.prog w = .ok (.value (.tuple #[])) (w.setCells g off (List.replicate l (.slice none 0 0))) := by
  have hrun := fun ty => Lib.run_clear_slice (P := Tryz.prog) w 41 27 ty (.slice none 0 0) Tryz.underlying41 Tryz.zeroValue27 rfl rfl g off l c hl (fun j hj => by rw [cell_of_row _ _ _ _ _ _ hr]; simp; omega) (fun j hj => frozen_of_row _ _ _ _ _ hr)
  unfold execOp
  simp only [ho, resolve, invoke, builtin, Sem.run_bind, Sem.run_pure, Result.andThen_ok, List.map_toArray, List.map_cons, List.map_nil, hx, hrun]
/-- What the row holds while its doubles go: so many are gone through, so many stay. -/
structure CI (K : Nat → Prop) (w : World) (gb n cap m : Nat) (ps : List (Value × List Int)) (m2 q : Nat) (cu : Array Value) (qs : List (Value × List Int)) (v : World) : Prop where
  r : Rw gb v cu 27
  t : Touch gb w v
  le : m + 1 + (m2 + 1) ≤ n
  sz : cu.size = cap
  ql : qs.length = q
  qm : q ≤ m + m2 + 1
  ddq : qs.map Prod.snd = dd ((ps.map Prod.snd).take (m + 1 + (m2 + 1)))
  gd : ∀ p ∈ qs, Gd K w p
  tk : cu.toList.take q = qs.map Prod.fst
  rest : ∀ j, m + m2 + 1 ≤ j → j < n → cu[j]? = (ps[j]?).map Prod.fst
theorem CI.go {K : Nat → Prop} {w : World} {gb n cap m : Nat} {ps : List (Value × List Int)} {m2 q : Nat} {cu : Array Value} {qs : List (Value × List Int)} {v v' : World} (h : CI K w gb n cap m ps m2 q cu qs v) (hb : Below v.heap.size v v') : CI K w gb n cap m ps m2 q cu qs v' :=
  ⟨h.r.go hb, h.t.trans (Touch.of_below hb), h.le, h.sz, h.ql, h.qm, h.ddq, h.gd, h.tk, h.rest⟩
theorem CI.drew {K : Nat → Prop} {w : World} {gb n cap m : Nat} {ps : List (Value × List Int)} {m2 q : Nat} {cu : Array Value} {qs : List (Value × List Int)} {v : World} (h : CI K w gb n cap m ps m2 q cu qs v) : CI K w gb n cap m ps m2 q cu qs v.drew := h.go (Below.refl _ _).drew
theorem take_two {M : List (List Int)} {i : Nat} {a b : List Int} (ha : M[i]? = some a) (hb : M[i + 1]? = some b) : M.take (i + 2) = M.take i ++ [a, b] ∧ M.take (i + 1) = M.take i ++ [a] := by
  have e1 : M.take (i + 1) = M.take i ++ [a] := by rw [List.take_add_one, ha]; rfl
  have e2 : M.take (i + 2) = M.take (i + 1) ++ [b] := by rw [List.take_add_one, hb]; rfl
  exact ⟨by rw [e2, e1]; simp, e1⟩
theorem dd_next {M : List (List Int)} {i : Nat} {a b : List Int} (ha : M[i]? = some a) (hb : M[i + 1]? = some b) : dd (M.take (i + 2)) = dd (M.take (i + 1)) ++ (if b = a then [] else [b]) := by
  obtain ⟨h1, h2⟩ := take_two ha hb
  rw [h1, h2]; exact dd_snoc _ _ _
theorem CI.start {K : Nat → Prop} {w v : World} {gb n cap m : Nat} {ps : List (Value × List Int)} {cur : Array Value} (hr : Rw gb v cur 27) (ht : Touch gb w v) (hcur : cur.toList.take n = ps.map Prod.fst) (hsz : cur.size = cap) (hn : ps.length = n) (hg : ∀ p ∈ ps, Gd K w p) (hm : m + 1 < n) (hd : dd ((ps.map Prod.snd).take (m + 1)) = (ps.map Prod.snd).take (m + 1)) {p p' : Value × List Int} (h1 : ps[m]? = some p) (h2 : ps[m + 1]? = some p') (he : p'.2 = p.2) : CI K w gb n cap m ps 0 (m + 1) cur (ps.take (m + 1)) v := by
  have hM1 : (ps.map Prod.snd)[m]? = some p.2 := by rw [List.getElem?_map, h1]; rfl
  have hM2 : (ps.map Prod.snd)[m + 1]? = some p'.2 := by rw [List.getElem?_map, h2]; rfl
  refine ⟨hr, ht, by omega, hsz, by simp; omega, by omega, ?_, fun p hp => hg p (List.mem_of_mem_take hp), ?_, fun j _ hj => ?_⟩
  · rw [show m + 1 + (0 + 1) = m + 2 from rfl, dd_next hM1 hM2, if_pos he, List.append_nil, hd, List.map_take]
  · have := congrArg (List.take (m + 1)) hcur
    rw [List.take_take, Nat.min_eq_left (by omega)] at this
    rw [this, List.map_take]
  · rw [← List.getElem?_map, ← hcur, List.getElem?_take_of_lt hj, Array.getElem?_toList]
theorem CI.keep {K : Nat → Prop} {w : World} {gb n cap m : Nat} {ps : List (Value × List Int)} {m2 q : Nat} {cu : Array Value} {qs : List (Value × List Int)} {v : World} (h : CI K w gb n cap m ps m2 q cu qs v) {p p' : Value × List Int} (h1 : ps[m + m2 + 1]? = some p) (h2 : ps[m + m2 + 1 + 1]? = some p') (hn : m + 1 + (m2 + 1) < n) (he : p'.2 = p.2) : CI K w gb n cap m ps (m2 + 1) q cu qs v := by
  have hM1 : (ps.map Prod.snd)[m + m2 + 1]? = some p.2 := by rw [List.getElem?_map, h1]; rfl
  have hM2 : (ps.map Prod.snd)[m + m2 + 1 + 1]? = some p'.2 := by rw [List.getElem?_map, h2]; rfl
  have hq := h.qm
  refine ⟨h.r, h.t, by omega, h.sz, h.ql, by omega, ?_, h.gd, h.tk, fun j hj hj2 => h.rest j (by omega) hj2⟩
  rw [show m + 1 + (m2 + 1 + 1) = m + m2 + 1 + 2 from by omega, dd_next hM1 hM2, if_pos he, List.append_nil, h.ddq, show m + 1 + (m2 + 1) = m + m2 + 1 + 1 from by omega]
theorem CI.move {K : Nat → Prop} {w : World} {gb n cap m : Nat} {ps : List (Value × List Int)} {m2 q : Nat} {cu : Array Value} {qs : List (Value × List Int)} {v v' : World} (h : CI K w gb n cap m ps m2 q cu qs v) {p p' : Value × List Int} (h1 : ps[m + m2 + 1]? = some p) (h2 : ps[m + m2 + 1 + 1]? = some p') (hn : m + 1 + (m2 + 1) < n) (hc : n ≤ cap) (he : ¬ p'.2 = p.2) (hg : Gd K w p') (hs : Set1 v v' gb q p'.1) (h11 : p'.1.oneCell' = true) : CI K w gb n cap m ps (m2 + 1) (q + 1) (cu.setIfInBounds q p'.1) (qs ++ [p']) v' := by
  have hM1 : (ps.map Prod.snd)[m + m2 + 1]? = some p.2 := by rw [List.getElem?_map, h1]; rfl
  have hM2 : (ps.map Prod.snd)[m + m2 + 1 + 1]? = some p'.2 := by rw [List.getElem?_map, h2]; rfl
  have hq := h.qm
  have hsz := h.sz
  refine ⟨h.r.set hs rfl, h.t.trans hs.touch, by omega, by simp [h.sz], by simp [h.ql], by omega, ?_, ?_, ?_, fun j hj hj2 => ?_⟩
  · rw [show m + 1 + (m2 + 1 + 1) = m + m2 + 1 + 2 from by omega, dd_next hM1 hM2, if_neg he, show m + m2 + 1 + 1 = m + 1 + (m2 + 1) from by omega, ← h.ddq, List.map_append]; rfl
  · intro x hx
    rcases List.mem_append.1 hx with hx | hx
    · exact h.gd x hx
    · rw [List.mem_singleton.1 hx]; exact hg
  · rw [Array.toList_setIfInBounds, List.take_add_one, List.map_append, ← h.tk]
    have : (cu.toList.set q p'.1)[q]? = some p'.1 := by rw [List.getElem?_set_self (by simp; omega)]
    rw [this, List.take_set_of_le (Nat.le_refl _)]; rfl
  · rw [Array.getElem?_setIfInBounds_ne (by omega)]
    exact h.rest j (by omega) hj2
theorem CI.done {K : Nat → Prop} {w : World} {gb n cap m : Nat} {ps : List (Value × List Int)} {m2 q : Nat} {cu : Array Value} {qs : List (Value × List Int)} {v : World} (h : CI K w gb n cap m ps m2 q cu qs v) (hn : ps.length = n) (hm : m + 1 + (m2 + 1) = n) (hK : ¬ K gb) (vs : List Value) : Bt K (v.setCells gb (0 + q * 1) vs) (some ⟨gb, 0, none⟩) q (dd (ps.map Prod.snd)) ∧ Touch gb w (v.setCells gb (0 + q * 1) vs) := by
  have ht := h.t.trans (Touch.setCells gb vs v (0 + q * 1))
  have hd : qs.map Prod.snd = dd (ps.map Prod.snd) := by rw [h.ddq, hm, List.take_of_length_le (by simp; omega)]
  refine ⟨⟨by rw [← hd, List.length_map, h.ql], fun j hj => ?_⟩, ht⟩
  have hjq : j < qs.length := by rw [h.ql]; exact hj
  obtain ⟨a, n', c, h1, h2⟩ := h.gd qs[j] (List.getElem_mem hjq)
  refine ⟨gb, 0, a, n', c, rfl, ?_, ?_⟩
  · rw [World.cell?_setCells_out gb vs (0 + q * 1) v _ (fun _ _ => .inl (by show 0 + j * 1 < 0 + q * 1; omega)), cell_of_row _ _ _ _ _ _ h.r, ← h1]
    have := congrArg (fun l => l[j]?) h.tk
    simp only [List.getElem?_take_of_lt hj, List.getElem?_map, List.getElem?_eq_getElem hjq, Option.map_some, Array.getElem?_toList] at this
    rw [show 0 + j * 1 = j from by omega]
    exact this
  · rw [← hd]
    have e : (qs.map Prod.snd).getD j [] = qs[j].2 := by simp [List.getD, hjq]
    rw [e]
    exact h2.tou ht hK
end Go.Proofs.YtalhnnjpjaeakaaGreat
