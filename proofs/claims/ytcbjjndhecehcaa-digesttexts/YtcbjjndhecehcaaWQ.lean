/- What DigestTexts answers: true, whatever digest and whatever text are handed in. -/
import Derived.Test.YtcbjjndhecehcaaWG
import Derived.Test.YtcbjjndhecehcaaWH
import Derived.Deep.DrawnRows
namespace Go.Proofs.Ytcbjjndhecehcaa
open Go.RowKit
set_option linter.unusedVariables false
attribute [local go_sem ↓] load24_fold Go.wp_at_zero Go.wp_at_succ
/-- Three rows that lie in memory. -/
structure Three (N gA gB gC : Nat) (w0 w : World) (xs ys zs : List Int) : Prop where
  hA : w.heap[gA]? = some (.cells (B8 xs) 24)
  hB : w.heap[gB]? = some (.cells (B8 ys) 24)
  hC : w.heap[gC]? = some (.cells (B8 zs) 24)
  bel : Below N w0 w
  nA : N ≤ gA
theorem Three.call {N gA gB gC : Nat} {w0 w w' : World} {xs ys zs : List Int} (h : Three N gA gB gC w0 w xs ys zs) (hb : Below w.heap.size w w') : Three N gA gB gC w0 w' xs ys zs :=
  ⟨Below.row hb h.hA, Below.row hb h.hB, Below.row hb h.hC, h.bel.trans (hb.mono (by have := lt_of_get h.hA; have := h.nA; omega)), h.nA⟩
theorem Three.drew {N gA gB gC : Nat} {w0 w : World} {xs ys zs : List Int} (h : Three N gA gB gC w0 w xs ys zs) : Three N gA gB gC w0 w.drew xs ys zs := ⟨h.hA, h.hB, h.hC, h.bel.drew, h.nA⟩
theorem three_new {N gA gB : Nat} {w0 w : World} {xs ys zs : List Int} {o : Array Value} (h : Two N gA gB w0 w xs ys) : Three N gA gB w.heap.size w0 ((w.alloc (.cells o 24)).setRow w.heap.size (B8 zs)) xs ys zs := by
  have l := lt_of_get h.hA
  have l2 := lt_of_get h.hB
  have := h.nA
  exact ⟨by rw [setRow_other _ _ _ _ (by omega), Below.heap_alloc _ _ _ l]; exact h.hA, by rw [setRow_other _ _ _ _ (by omega), Below.heap_alloc _ _ _ l2]; exact h.hB, setRow_heap _ _ _ _ _ _ (heap_alloc_new w _), Below.setRow (h.bel.alloc (by omega) _) (by omega) _, h.nA⟩
theorem put_defers (a : Act) (d : Option Tmp) (v : Value) : (a.put d v).defers = a.defers := by cases d <;> rfl
theorem put_size (a : Act) (d : Option Tmp) (v : Value) : (a.put d v).tmps.size = a.tmps.size := by cases d <;> simp [Act.put]
theorem put_last {a : Act} {d : Option Tmp} {v : Value} (hd : d = some 4) (hs : 4 < a.tmps.size) : (a.put d v).tmps.getD 4 undef = v := by
  subst hd
  simp [Act.put, hs]
/-- The way's end: true stands in the answer's place. -/
theorem end7 {N : Nat} {w0 : World} {a : Act} {w' : World} (h1 : a.defers = []) (h2 : a.tmps.getD 4 undef = .bool true) (hb : Below N w0 w') :
    Code.wp Try.prog .ret (bodyPost Try.prog Try.f7 fun e w' => e = .returned (.bool true) ∧ Below N w0 w') a w' :=
  wp_ret (bodyPost_ret ((results_tmp (t := 4) rfl _ _ _).trans (by rw [h2])) h1 ⟨rfl, hb⟩)
set_option maxHeartbeats 20000000 in
theorem lawTexts (xs : List Int) (s : ByteArray) (hx : xs.length = 32) (hb : ∀ x ∈ xs, 0 ≤ x ∧ x < 256) (hs : s.size ≤ maxLen) (w : World) :
    Calls Try.prog 7 #[.agg (B8 xs), .string s] w fun e w' => e = .returned (.bool true) ∧ Below w.heap.size w w' := by
  have hr0 : (w.alloc (.cells (B8 xs) 24)).heap[w.heap.size]? = some (.cells (B8 xs) 24) := heap_alloc_new w _
  have HR := Hid.mk hr0
  have HX := Hid.mk hx
  have HB := Hid.mk hb
  have HS := Hid.mk hs
  clear hr0 hx hb hs
  go_enter Try.func7, Try.ntmps7
  go_wp2_with fail
  refine (parse_any s HS.out _).mono ?_
  rintro e w1 ⟨rfl, hb1⟩
  have hr1 := Below.row hb1 HR.out
  have hbe : Below w.heap.size w w1 := ((Below.refl _ _).alloc (Nat.le_refl _) _).trans (hb1.mono (by simp))
  clear hb1 HR
  have hpl := parsed_len32 (sb s)
  obtain ⟨ps, eps⟩ : ∃ ps, (parsed (sb s)).1 = ps := ⟨_, rfl⟩
  obtain ⟨ok, eok⟩ : ∃ ok, (parsed (sb s)).2 = ok := ⟨_, rfl⟩
  rw [eps] at hpl
  rw [eps, eok]
  have EP := Hid.mk eps
  have EO := Hid.mk eok
  clear eps eok
  have HI4 := info24 ps hpl
  have HZ4 := zero24 ps hpl
  have hpl' := Hid.mk hpl
  have q1 : ∀ x, (Op.equalIn 10000 24 (.agg (B8 ps)) (.agg (B8 ps))).run Try.prog x = .ok true x := fun x => by rw [eq24 _ _ hpl hpl]; simp
  clear hpl
  have HR1 := Hid.mk hr1
  clear hr1
  go_wp2_with (first | refine wpList_store_row rfl 24 _ _ rfl _ (B8 ps) rfl rfl 24 _ (heap_alloc_new w1 _) HI4.out HZ4.out (B8_one _) ?_)
  refine gen_w (p := fun v => Calls _ _ _ v _) (q := fun v => Two w.heap.size w.heap.size w1.heap.size w v xs ps) (two_new HR1.out hbe (Nat.le_refl _)) ?_
  have hz1 := hbe.size
  obtain ⟨g5, hg5⟩ : ∃ g, w1.heap.size = g := ⟨_, rfl⟩
  rw [hg5] at hz1 ⊢
  clear HR1 hbe hg5 w1
  intro v F
  refine (rparse_any s v).mono ?_
  rintro e w2 ⟨rfl, hb2⟩
  replace F := F.call hb2
  clear hb2
  rw [EP.out, EO.out]
  clear EP EO
  go_wp2_with (first | refine wpList_store_row rfl 24 _ _ rfl _ (B8 ps) rfl rfl 24 _ (heap_alloc_new w2 _) HI4.out HZ4.out (B8_one _) ?_)
  refine gen_w (p := fun v => Code.wp _ _ _ _ v) (q := fun v => Three w.heap.size w.heap.size g5 w2.heap.size w v xs ps ps) (three_new F) ?_
  obtain ⟨g7, hg7⟩ : ∃ g, w2.heap.size = g := ⟨_, rfl⟩
  rw [hg7]
  clear F hg7 w2 HI4 HZ4 hz1
  intro v A
  rename_i hk
  have hse : ((strOfNums (hexs xs)).toList == (strOfNums (hexs xs)).toList) = true := by simp
  have hok : (ok == ok) = true := by simp
  go_region_with (first | (go_at_call 10; refine (alive_any _).mono ?_; rintro e w3 ⟨rfl, hb⟩; have A3 := A.drew.call hb; clear hb; have l1 := load24_run A3.hA HX.out; have l2 := load24_run A3.hB hpl'.out; have l3 := load24_run A3.hC hpl'.out) | (go_at_call 22; refine (print_any xs HX.out HB.out _).mono ?_; rintro e w4 ⟨rfl, hb⟩; have A4 := A3.call hb; clear hb; have l1 := load24_run A4.hA HX.out; have l2 := load24_run A4.hB hpl'.out; have l3 := load24_run A4.hC hpl'.out) | (go_at_call 23; refine (rprint_any xs HX.out HB.out _).mono ?_; rintro e w5 ⟨rfl, hb⟩; have A5 := A4.call hb; clear hb; have l1 := load24_run A5.hA HX.out; have l2 := load24_run A5.hB hpl'.out; have l3 := load24_run A5.hC hpl'.out))
  all_goals
    refine hk _ _ (end7 ?_ (put_last ?_ ?_) A5.bel)
    · repeat rw [put_defers]
    · rfl
    · repeat rw [put_size]
      exact Nat.lt_of_lt_of_eq (by decide : 4 < 37) rfl
end Go.Proofs.Ytcbjjndhecehcaa
