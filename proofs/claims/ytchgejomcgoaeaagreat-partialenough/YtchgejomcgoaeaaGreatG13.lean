/- What digest.Of answers: the document's digest, for all bytes; and Write of whatever bytes, Sum of whatever Hash, in the document's words. -/
import Derived.Test.YtchgejomcgoaeaaGreatG12
import Derived.Test.YtchgejomcgoaeaaGreatG09
import Derived.Test.YtchgejomcgoaeaaGreatProg
import Derived.Deep.RegionHeld
import Derived.Deep.LoopGhost
import Derived.Deep.RegionHeld3
import Derived.RangeFuncCalls
import Derived.TacticsIn
import Derived.RangeFuncLeaves
import Derived.KernelRfl
set_option linter.unusedVariables false
set_option maxRecDepth 100000
namespace Go.Proofs.YtchgejomcgoaeaaGreat.Di
open Go.RowKit
set_option maxHeartbeats 400000 in
theorem Zm4 (g : Nat) (a : Option Addr) (cap : Nat) (s : S4) (tl : List Int) (n : Nat) (w : World) (hl : tl.length = 32) (hn : n < 9223372036854775808) (hg : w.heap[g]? = some (.cells (HC s tl n) 102)) :
    Calls Tryz.prog 51 #[.pointer (some ⟨g, 0, none⟩), .slice a 0 cap] w fun e w' => e = .returned (.tuple #[]) ∧ w' = w.setCell ⟨g, 36, none⟩ (.int .i64 n) := by
  obtain ⟨xa, xb, xc, xd⟩ := s
  obtain ⟨c0, c1, c2, c3, c36, cf⟩ := Zdk hg hl
  clear hg
  obtain ⟨f, hff⟩ : ∃ f, n % 32 = f := ⟨_, rfl⟩
  have hmod : (n : Int) % 32 = (f : Int) := by omega
  have hf2 : f < 32 := by omega
  have hf3 : (f : Int) < 32 := by omega
  have hf4 : (f : Int) ≤ 32 := by omega
  clear hff
  by_cases hf : f = 0
  · subst hf
    go_enter Tryz.func51, Tryz.ntmps51
    go_wp2_with fail
    refine wp_loop_rounds 1 ?_
    rw [rounds_succ]
    go_wp2_with (first | (refine wpList_copy_nothing rfl _ _ 29 29 rfl 5 Tryz.underlying29 (by kernel_rfl) _ _ _ _ _ _ rfl rfl (by simp) ?_))
    go_end0
    exact ⟨rfl, rfl⟩
  · have hf0 : (0 : Int) < (f : Int) := by omega
    go_enter Tryz.func51, Tryz.ntmps51
    go_wp2_with (first | (refine wpList_copy_nothing rfl _ _ 29 29 rfl 5 Tryz.underlying29 (by kernel_rfl) _ _ _ _ _ _ rfl rfl (by simp) ?_))
    go_returns
    exact ⟨rfl, rfl⟩
def In2 (g : Nat) (w : World) (a : Option Addr) (len cap : Nat) (bs : List Int) : Prop :=
  (len = 0 ∧ bs = []) ∨ ∃ gb off, a = some ⟨gb, off, none⟩ ∧ bs.length = len ∧ 0 < len ∧ len ≤ cap ∧ cap ≤ maxLen ∧ gb ≠ g ∧ ∀ j, j < bs.length → w.cell? ⟨gb, off + j, none⟩ = some (.int .u8 (bs.getD j 0))
theorem Znz (g : Nat) (a : Option Addr) (len cap : Nat) (s : S4) (tl : List Int) (n : Nat) (all bs : List Int) (w : World) (hinv : Inv all s tl n) (hin : In2 g w a len cap bs) (hsum : n + len < 9223372036854775808)
    (hb : ∀ x ∈ bs, 0 ≤ x ∧ x < 256) (hg : w.heap[g]? = some (.cells (HC s tl n) 102)) :
    Calls Tryz.prog 51 #[.pointer (some ⟨g, 0, none⟩), .slice a len cap] w fun e w' => e = .returned (.tuple #[]) ∧ (∃ s' tl', Inv (all ++ bs) s' tl' (n + len) ∧ w'.heap[g]? = some (.cells (HC s' tl' (n + len)) 102)) ∧ Touch g w w' := by
  rcases hin with ⟨rfl, rfl⟩ | ⟨gb, off, rfl, h1, h2, h3, h4, h5, h6⟩
  · refine (Zm4 g a cap s tl n w hinv.hl (by omega) hg).mono ?_
    rintro e w' ⟨rfl, rfl⟩
    refine ⟨rfl, ⟨s, tl, by rw [List.append_nil]; exact hinv, ?_⟩, Touch.setCell _ _ _ _⟩
    have := heap_setCell_same w g 36 _ 102 (.int .i64 n) hg
    rw [Zft _ _ _ _ hinv.hl] at this
    exact this
  · obtain ⟨xa, xb, xc, xd⟩ := s
    exact Zm3 g gb off len cap xa xb xc xd tl n all bs w hinv h1 h2 h3 h4 hsum hb h5 hg h6
def dref (bs : List Int) : List Int := dig (stOf (padded bs) ((padded bs).length / 32))
theorem dref_len (bs : List Int) : (dref bs).length = 32 := by simp [dref, dig]
theorem Zv6 : Inv [] s0 (List.replicate 32 0) 0 := ⟨rfl, rfl, List.length_replicate, rfl, Zf4⟩
theorem Zu3 (g : Nat) (s : S4) (tl : List Int) (n : Nat) (all : List Int) (w : World) (h : Inv all s tl n) (hn : n < 9223372036854775808) (hg : w.heap[g]? = some (.cells (HC s tl n) 102)) :
    Calls Tryz.prog 52 #[.pointer (some ⟨g, 0, none⟩)] w fun e w' => e = .returned (.agg (B8 (dref all))) ∧ Below w.heap.size w w' := by
  obtain ⟨xa, xb, xc, xd⟩ := s
  have := Zu4 g xa xb xc xd tl n h.hl h.hb hn w hg
  rw [Zwd all _ tl n h (by omega)] at this
  exact this
def In0 (w : World) (a : Option Addr) (len cap : Nat) (bs : List Int) : Prop :=
  (len = 0 ∧ bs = []) ∨ ∃ gb off, a = some ⟨gb, off, none⟩ ∧ bs.length = len ∧ 0 < len ∧ len ≤ cap ∧ cap ≤ maxLen ∧ ∀ j, j < bs.length → w.cell? ⟨gb, off + j, none⟩ = some (.int .u8 (bs.getD j 0))
theorem In0.at {w w' : World} {a : Option Addr} {len cap : Nat} {bs : List Int} {B : Nat} (h : In0 w a len cap bs) (hB : w.heap.size ≤ B) (hb : Below w.heap.size w w') (g : Nat) (hg : B ≤ g) : In2 g w' a len cap bs := by
 rcases h with h | ⟨gb, off, h1, h2, h3, h4, h5, h7⟩
 ·exact .inl h
 ·have l : gb < w.heap.size := block_lt_of_cell (h7 0 (by omega))
  exact .inr ⟨gb, off, h1, h2, h3, h4, h5, by omega, fun j hj => (hb.cell (p := ⟨gb, off + j, none⟩) l).trans (h7 j hj)⟩
theorem Touch.below {g N : Nat} {w0 w w' : World} (h : Below N w0 w) (t : Touch g w w') (hN : N ≤ g) (hs : N ≤ w.heap.size) : Below N w0 w' :=
  h.trans ⟨t.os, t.tape, t.output, t.size, fun k hk => t.block k (by omega) (by omega)⟩
set_option maxHeartbeats 1000000 in
theorem of_any (a : Option Addr) (len cap : Nat) (bs : List Int) (w : World) (hin : In0 w a len cap bs) (hlen : len = bs.length) (hb : ∀ x ∈ bs, 0 ≤ x ∧ x < 256) (hmax : len < 9223372036854775808) :
    Calls Tryz.prog 27 #[.slice a len cap] w fun e w' => e = .returned (.agg (B8 (dref bs))) ∧ Below w.heap.size w w' := by
  have HIN := Hid.mk hin
  have HB := Hid.mk hb
  have HL := Hid.mk hlen
  clear hin hb hlen
  go_enter Tryz.func27, Tryz.ntmps27
  go_wp2_with fail
  refine (Zoj _).mono ?_
  rintro e w1 ⟨⟨xa, xb, xc, xd, rfl, H⟩, hb1⟩
  have HI : Hid ((Tryz.prog.info? 102).map (·.size) = some (HC ⟨xa, xb, xc, xd⟩ (List.replicate 32 0) 0).size) := by unfold Hid; rw [Zlf]; kernel_rfl
  go_wp2_with (first | refine wpList_store_row rfl 102 _ _ rfl _ (HC ⟨xa, xb, xc, xd⟩ (List.replicate 32 0) 0) rfl (by rw [Zwr]; rfl) 102 _ (heap_alloc_new w1 _) HI.out (by rw [Zlf]; rfl) (Zy0 _ _ _) ?_)
  have hN : w1.heap[w.heap.size]? = some (.cells (B8 (List.replicate 32 0)) 23) := Below.row hb1 (heap_alloc_new w _)
  have l0 := lt_of_get hN
  have hb2 : Below w.heap.size w w1 := ((Below.refl _ _).alloc (Nat.le_refl _) _).trans (hb1.mono (by simp))
  clear hb1
  refine gen_w (p := fun v => Calls _ _ _ v _) (q := fun v => OfH w.heap.size w1.heap.size w v ⟨xa, xb, xc, xd⟩ (List.replicate 32 0) 0) ⟨?_, ?_, ?_, l0⟩ ?_
  · rw [setRow_other _ _ _ _ (by omega), Below.heap_alloc _ _ _ l0]; exact hN
  · exact setRow_heap _ _ _ _ _ _ (heap_alloc_new w1 _)
  · exact Below.setRow (hb2.alloc (by omega) _) (by omega) _
  clear hN hb2
  intro v F
  have hinv : Inv [] ⟨xa, xb, xc, xd⟩ (List.replicate 32 0) 0 := by rw [H.out]; exact Zv6
  refine (Znz _ a len cap _ _ 0 [] bs v hinv (HIN.out.at (Nat.le_refl _) F.bel _ (Nat.le_of_lt l0)) (by omega) HB.out F.hg).mono ?_
  rintro e v2 ⟨rfl, ⟨s2, tl2, hinv2, hg2⟩, t2⟩
  rw [List.nil_append, Nat.zero_add] at hinv2
  rw [Nat.zero_add] at hg2
  have h02 : v2.heap[w.heap.size]? = some (.cells (B8 (List.replicate 32 0)) 23) := (t2.block _ (lt_of_get F.h0) (by omega)).trans F.h0
  have hb3 := Touch.below F.bel t2 (Nat.le_of_lt l0) (Nat.le_of_lt (lt_of_get F.h0))
  clear F t2 HI hinv
  have HV := Hid.mk (And.intro hinv2 hg2)
  have H02 := Hid.mk h02
  clear hinv2 hg2 h02 H
  go_wp2_with fail
  refine (Zu3 _ s2 tl2 len bs v2 HV.out.1 hmax HV.out.2).mono ?_
  rintro e v3 ⟨rfl, hb4⟩
  have h0 := Below.row hb4 H02.out
  have hbel := hb3.trans (hb4.mono (by have := lt_of_get H02.out; omega))
  have HI2 : Hid ((Tryz.prog.info? 23).map (·.size) = some (B8 (dref bs)).size) := by unfold Hid; rw [B8_size, dref_len]; kernel_rfl
  have hdl := dref_len bs
  have HH := Hid.mk h0
  clear h0 hb4 HV H02
  generalize hds : dref bs = ds at HI2 hdl ⊢
  have HD := Hid.mk hds
  clear hds
  go_wp2_with (first | refine wpList_store_row rfl 23 _ _ rfl _ (B8 ds) rfl rfl 23 _ HH.out HI2.out (by rw [B8_size, B8_size, hdl, List.length_replicate]) (B8_one _) ?_)
  refine bodyPost_ret (results_cell_row Tryz.results27 _ _ w.heap.size 23 (B8 ds) (0, 0) _ rfl (setRow_heap _ _ _ _ _ _ HH.out) Tryz.underlying23 rfl HI2.out) rfl ?_
  exact ⟨by rw [HD.out], Below.setRow hbel (Nat.le_refl _) _⟩
end Go.Proofs.YtchgejomcgoaeaaGreat.Di
namespace Go.Proofs.YtchgejomcgoaeaaGreat
variable {path p q x : List Int} {n m : Nat} {ds : List Deferred} {a : Act} {P : Program} {args : Array Value} {w : World} {F : Fence}
inductive Pt where
  | no : Pt
  | st (d : List Int) : Pt
  | leaf (p v : List Int) : Pt
  | ext (p : List Int) (c : Pt) : Pt
  | br (k : Nat → Pt) (v : List Int) : Pt
namespace Pt
def isNo : Pt → Bool
  | no => true
  | _ => false
def isBr : Pt → Bool
  | br _ _ => true
  | _ => false
def upd (k : Nat → Pt) (i : Nat) (t : Pt) : Nat → Pt := fun j => if j = i then t else k j
def nk : Nat → Pt := fun _ => no
def plus (k : Nat → Pt) (x : List Int) (q v : List Int) : Pt := match q with
  | [] => br k v
  | i :: r => br (upd k i.toNat (leaf r v)) x
def plusT (t : Pt) (q v : List Int) : Pt := match t with
  | br k x => plus k x q v
  | t => t
def und (p : List Int) (t : Pt) : Pt := if p = [] then t else match t with
  | leaf q v => leaf (p ++ q) v
  | ext q c => ext (p ++ q) c
  | t => ext p t
def bhd (p : List Int) (c : Pt) (n : Nat) : Pt := if n = p.length then c else ext (p.drop n) c
def wit (t : Pt) (q v : List Int) : Pt := match t with
  | leaf p x => if p = q then leaf q v else und (q.take (Ni.com p q)) (plusT (plus nk [] (p.drop (Ni.com p q)) x) (q.drop (Ni.com p q)) v)
  | ext p c => und (q.take (Ni.com p q)) (plus (upd nk (p.getD (Ni.com p q) 0).toNat (bhd p c (Ni.com p q + 1))) [] (q.drop (Ni.com p q)) v)
  | br k x => plus k x q v
  | _ => leaf q v
def fitP : Pt → Nat → Bool
  | leaf p _, l => decide (l + p.length ≤ 64)
  | ext p c, l => decide (l + p.length ≤ 64) && fitP c (l + p.length)
  | br k _, l => (List.range 16).all (fun i => fitP (k i) (l + 1)) && decide (l ≤ 64)
  | _, _ => true
def kidsN (k : Nat → Pt) : Nat → Nat
  | 0 => 0
  | n + 1 => kidsN k n + if (k n).isNo then 0 else 1
def lastN (k : Nat → Pt) : Nat → Nat
  | 0 => 0
  | n + 1 => if (k n).isNo then lastN k n else n
end Pt
open Pt
abbrev Kn := List (List Int × Pt)
def findK (d : List Int) : Kn → Option Pt
  | [] => none
  | x :: r => if x.1 = d then some x.2 else findK d r
structure Sp where
  t : Pt
  l : Nat
  c : Bool
def lookP (kn : Kn) (s : Sp) : Option Pt := match s.t with
  | st d => match findK d kn with
    | none => none
    | some u => if (s.c && !isBr u) || !fitP u s.l then none else some u
  | t => some t
def nextP (path : List Int) (s : Sp) : Option Sp := match s.t with
  | ext p c => if (path.drop s.l).take p.length = p then some ⟨c, s.l + p.length, true⟩ else none
  | br k _ => match path.drop s.l with
    | [] => none
    | i :: _ => some ⟨k i.toNat, s.l + 1, false⟩
  | _ => none
def valS (path : List Int) (s : Sp) : List Int := match s.t with
  | leaf p x => if p = path.drop s.l then x else []
  | br _ x => x
  | _ => []
def walkP (kn : Kn) (path : List Int) : Nat → Sp → Option (List Sp)
  | 0, _ => none
  | f + 1, s => match lookP kn s with
    | none => none
    | some u => match nextP path ⟨u, s.l, s.c⟩ with
      | none => some [⟨u, s.l, s.c⟩]
      | some s2 => match walkP kn path f s2 with
        | none => none
        | some r => some (⟨u, s.l, s.c⟩ :: r)
def nrmP (kn : Kn) (k : Nat → Pt) (x : List Int) (l : Nat) : Option Pt :=
  if kidsN k 16 = 0 then some (leaf [] x)
  else if 1 < kidsN k 16 ∨ 0 < x.length then some (br k x)
  else match lookP kn ⟨k (lastN k 16), l + 1, false⟩ with
    | none => none
    | some u => some (und [((lastN k 16 : Nat) : Int)] (if isBr u then k (lastN k 16) else u))
def remP (kn : Kn) (path : List Int) : List Sp → Pt → Option Pt
  | [], t => some t
  | s :: r, t => match s.t with
    | ext p _ => remP kn path r (und p t)
    | br k x => match nrmP kn (upd k (path.getD s.l 0).toNat t) x s.l with
      | none => none
      | some u => remP kn path r u
    | _ => remP kn path r t
def s0 : Sp := ⟨no, 0, false⟩
def wayP (kn : Kn) (t : Pt) (path : List Int) : Option (List Sp) := walkP kn path (path.length + 1) ⟨t, 0, false⟩
def endS (way : List Sp) : Sp := way.getD (way.length - 1) s0
def getP (kn : Kn) (t : Pt) (key : List Int) : List Int × Int := if 32 < key.length then ([], 70) else
  match wayP kn t (Ni.nib key) with
  | none => ([], 2)
  | some way => (valS (Ni.nib key) (endS way), 0)
def putQ (kn : Kn) (t : Pt) (key v : List Int) : Pt × Int := if 32 < key.length then (t, 70) else if v.length = 0 ∨ 256 < v.length then (t, 71) else
  match wayP kn t (Ni.nib key) with
  | none => (t, 2)
  | some way => match remP kn (Ni.nib key) (way.take (way.length - 1)).reverse (wit (endS way).t ((Ni.nib key).drop (endS way).l) v) with
    | none => (t, 2)
    | some u => (u, 0)
def woP (kn : Kn) (s : Sp) : Option Pt := match s.t with
  | br k _ => nrmP kn k [] s.l
  | _ => some no
def delQ (kn : Kn) (t : Pt) (key : List Int) : Pt × Bool × Int := if 32 < key.length then (t, false, 70) else
  match wayP kn t (Ni.nib key) with
  | none => (t, false, 2)
  | some way => if (valS (Ni.nib key) (endS way)).length = 0 then (t, false, 0) else
    match woP kn (endS way) with
    | none => (t, false, 2)
    | some u => match remP kn (Ni.nib key) (way.take (way.length - 1)).reverse u with
      | none => (t, false, 2)
      | some r => (r, true, 0)
def nibs (p : List Int) : Prop := ∀ x ∈ p, 0 ≤ x ∧ x < 16
def Wg : Pt → Nat → Prop
  | no, _ => True
  | st _, _ => True
  | leaf p x, l => l + p.length ≤ 64 ∧ nibs p
  | ext p c, l => l + p.length ≤ 64 ∧ nibs p ∧ p ≠ [] ∧ Wg c (l + p.length)
  | br k x, l => l ≤ 64 ∧ ∀ i, i < 16 → Wg (k i) (l + 1)
def Wn : Nat → Pt → Prop
  | _, no => True
  | _, st _ => True
  | _, leaf p x => nibs p ∧ p.length ≤ 64
  | m + 1, ext p c => nibs p ∧ p ≠ [] ∧ p.length ≤ 64 ∧ Wn m c
  | m + 1, br k x => ∀ i, i < 16 → Wn m (k i)
  | 0, _ => False
theorem Wn.wg : ∀ {m : Nat} {t : Pt} {l : Nat}, Wn m t → fitP t l = true → Wg t l := by
 intro m
 induction m with
 | zero =>
  intro t l h hf
  cases t with
  | no => exact trivial
  | st d => exact trivial
  | leaf p x => exact ⟨of_decide_eq_true hf, h.1⟩
  | ext p c => exact h.elim
  | br k x => exact h.elim
 | succ m ih =>
  intro t l h hf
  cases t with
  | no => exact trivial
  | st d => exact trivial
  | leaf p x => exact ⟨of_decide_eq_true hf, h.1⟩
  | ext p c =>
   simp only [fitP, Bool.and_eq_true, decide_eq_true_eq] at hf
   exact ⟨hf.1, h.1, h.2.1, ih h.2.2.2 hf.2⟩
  | br k x =>
   simp only [fitP, Bool.and_eq_true, decide_eq_true_eq, List.all_eq_true, List.mem_range] at hf
   exact ⟨hf.2, fun i hi => ih (h i hi) (hf.1 i hi)⟩
def Pt.isNd : Pt → Bool
  | .no => false
  | .st _ => false
  | _ => true
theorem fit_le {t : Pt} {l : Nat} (h : t.isNd = true) (hf : fitP t l = true) : l ≤ 64 := by
 cases t with
 | no => cases h
 | st d => cases h
 | leaf p x => have := of_decide_eq_true hf; omega
 | ext p c => simp only [fitP, Bool.and_eq_true, decide_eq_true_eq] at hf; omega
 | br k x => simp only [fitP, Bool.and_eq_true, decide_eq_true_eq] at hf; exact hf.2
theorem Zwy {t : Pt} {l : Nat} (h : t.isNd = true) (hw : Wg t l) : l ≤ 64 := by
 cases t with
 | no => cases h
 | st d => cases h
 | leaf p x => have := hw.1; omega
 | ext p c => have := hw.1; omega
 | br k x => exact hw.1
def KnOk (kn : Kn) : Prop := ∀ x ∈ kn, Wn 34 x.2 ∧ x.2.isNd = true
theorem Zdx {d : List Int} : ∀ {kn : Kn} {u : Pt}, findK d kn = some u → ∃ x ∈ kn, x.2 = u
  | x :: r, u, h => by
    unfold findK at h
    split at h
    · cases h; exact ⟨x, by simp, rfl⟩
    · obtain ⟨y, hy, e⟩ := Zdx h
      exact ⟨y, List.mem_cons_of_mem _ hy, e⟩
theorem Zgu {kn : Kn} (hk : KnOk kn) {s : Sp} {u : Pt} (h : Wg s.t s.l) (hl : lookP kn s = some u) : Wg u s.l := by
 unfold lookP at hl
 split at hl
 ·rename_i d hd
  cases hf : findK d kn with
  | none => rw [hf] at hl; cases hl
  | some t =>
   rw [hf] at hl
   simp only at hl
   split at hl
   ·cases hl
   ·rename_i hc
    cases hl
    obtain ⟨x, hx, rfl⟩ := Zdx hf
    simp only [Bool.or_eq_true, Bool.not_eq_true', not_or, Bool.not_eq_false] at hc
    exact (hk x hx).1.wg hc.2
 ·cases hl; exact h
theorem Zkv {s s2 : Sp} (h : Wg s.t s.l) (hl : s.l ≤ path.length) (hn : nextP path s = some s2) (hp : nibs path) : Wg s2.t s2.l ∧ s2.l ≤ path.length ∧ s.l < s2.l := by
 unfold nextP at hn
 split at hn
 ·rename_i p c e
  rw [e] at h
  split at hn
  ·rename_i hq
   cases hn
   have h1 := congrArg List.length hq
   rw [List.length_take, List.length_drop] at h1
   have h2 : 0 < p.length := List.length_pos_iff.2 h.2.2.1
   exact ⟨h.2.2.2, by simp only; omega, by simp only; omega⟩
  ·cases hn
 ·rename_i k x e
  rw [e] at h
  split at hn
  ·cases hn
  ·rename_i i r hq
   cases hn
   have h1 := congrArg List.length hq
   rw [List.length_drop, List.length_cons] at h1
   have hi := hp i (List.mem_of_mem_drop (by rw [hq]; simp : i ∈ path.drop s.l))
   exact ⟨h.2 _ (by omega), by simp only; omega, by simp only; omega⟩
 ·cases hn
theorem Zjr (h : nibs p) (n : Nat) : nibs (p.take n) := fun x hx => h x (List.mem_of_mem_take hx)
theorem Zbh (h : nibs p) (n : Nat) : nibs (p.drop n) := fun x hx => h x (List.mem_of_mem_drop hx)
theorem Zl8 (h : nibs p) (hq : nibs q) : nibs (p ++ q) := fun x hx => (List.mem_append.1 hx).elim (h x) (hq x)
theorem Zlk {t : Pt} {l : Nat} (h : Wg t (l + p.length)) (hl : l + p.length ≤ 64) (hp : nibs p) : Wg (und p t) l := by
 unfold und
 split
 ·rename_i e; subst e; exact h
 ·rename_i hne
  split
  ·exact ⟨by rw [List.length_append]; have := h.1; omega, Zl8 hp h.2⟩
  ·rename_i q c
   obtain ⟨h1, h2, h3, h4⟩ := h
   exact ⟨by rw [List.length_append]; omega, Zl8 hp h2, by simp [h3], by rw [List.length_append, ← Nat.add_assoc]; exact h4⟩
  ·exact ⟨hl, hp, hne, h⟩
theorem Zd7 {k : Nat → Pt} {l i : Nat} {t : Pt} (h : ∀ j, j < 16 → Wg (k j) l) (ht : Wg t l) : ∀ j, j < 16 → Wg (upd k i t j) l := fun j hj => by
  unfold upd
  split
  · exact ht
  · exact h j hj
theorem Zgk {k : Nat → Pt} {v : List Int} {l : Nat} (h : ∀ j, j < 16 → Wg (k j) (l + 1)) (hl : l + q.length ≤ 64) (hq : nibs q) : Wg (plus k x q v) l := by
 unfold plus
 split
 ·exact ⟨by simpa using hl, h⟩
 ·rename_i i r
  rw [List.length_cons] at hl
  exact ⟨by omega, Zd7 h ⟨by omega, fun y hy => hq y (List.mem_cons_of_mem _ hy)⟩⟩
theorem Zsm (l : Nat) : ∀ j, j < 16 → Wg (nk j) l := fun _ _ => trivial
theorem Zl0 {k : Nat → Pt} {v q' v' : List Int} {l : Nat} (h : ∀ j, j < 16 → Wg (k j) (l + 1)) (hl : l + q.length ≤ 64) (hq : nibs q) (hl' : l + q'.length ≤ 64) (hq' : nibs q') : Wg (plusT (plus k x q v) q' v') l := by
 cases q with
 | nil => exact Zgk h hl' hq'
 | cons i r =>
  rw [List.length_cons] at hl
  exact Zgk (Zd7 h ⟨by omega, fun y hy => hq y (List.mem_cons_of_mem _ hy)⟩) hl' hq'
theorem Zug {c : Pt} {l : Nat} (h : Wg c (l + p.length)) (hl : l + p.length ≤ 64) (hp : nibs p) (hn : n ≤ p.length) : Wg (bhd p c n) (l + n) := by
 unfold bhd
 split
 ·rename_i e; rw [e]; exact h
 ·rename_i e
  refine ⟨by rw [List.length_drop]; omega, Zbh hp n, fun q => ?_, by rw [List.length_drop, show l + n + (p.length - n) = l + p.length by omega]; exact h⟩
  have := congrArg List.length q
  rw [List.length_drop, List.length_nil] at this
  omega
theorem Ziv (k : Nat → Pt) : ∀ n, 0 < n → lastN k n < n
  | 0, h => by omega
  | n + 1, _ => by
    unfold lastN
    split
    · cases n with
      | zero => simp [lastN]
      | succ n => have := Ziv k (n + 1) (by omega); omega
    · omega
theorem Ziu (k : Nat → Pt) : ∀ n, 0 < kidsN k n → (k (lastN k n)).isNo = false
  | 0, h => by simp [kidsN] at h
  | n + 1, h => by
    unfold lastN
    unfold kidsN at h
    cases hq : (k n).isNo with
    | true => rw [hq] at h; simpa using Ziu k n (by simpa using h)
    | false => simpa using hq
theorem Zp7 {kn : Kn} (hk : KnOk kn) {s : Sp} {u : Pt} (h : s.t.isNo = false) (hl : lookP kn s = some u) : u.isNd = true := by
 unfold lookP at hl
 split at hl
 ·rename_i d hd
  cases hf : findK d kn with
  | none => rw [hf] at hl; cases hl
  | some t =>
   rw [hf] at hl
   simp only at hl
   split at hl
   ·cases hl
   ·cases hl
    obtain ⟨x, hx, rfl⟩ := Zdx hf
    exact (hk x hx).2
 ·rename_i hns
  cases hl
  cases hq : s.t with
  | no => rw [hq] at h; cases h
  | st d => exact absurd hq (hns d)
  | leaf p x => rfl
  | ext p c => rfl
  | br k x => rfl
theorem Zpr {kn : Kn} (hk : KnOk kn) {k : Nat → Pt} {l : Nat} {u : Pt} (hl : l ≤ 64) (h : ∀ i, i < 16 → Wg (k i) (l + 1)) (hn : nrmP kn k x l = some u) : Wg u l := by
 unfold nrmP at hn
 split at hn
 ·cases hn; exact ⟨by simpa using hl, fun y hy => by cases hy⟩
 ·split at hn
  ·cases hn; exact ⟨hl, h⟩
  ·have hlt := Ziv k 16 (by omega)
   cases hq : lookP kn ⟨k (lastN k 16), l + 1, false⟩ with
   | none => rw [hq] at hn; cases hn
   | some t =>
    rw [hq] at hn
    cases hn
    have ht := Zgu hk (h _ hlt) hq
    have hnb : nibs [((lastN k 16 : Nat) : Int)] := fun y hy => by rw [List.mem_singleton.1 hy]; omega
    have hw : Wg (if isBr t then k (lastN k 16) else t) (l + 1) := by
     split
     ·exact h _ hlt
     ·exact ht
    have h64 : l + 1 ≤ 64 := Zwy (Zp7 hk (Ziu k 16 (by omega)) hq) ht
    exact Zlk hw (by simpa using h64) hnb
def WayOk (path : List Int) (way : List Sp) : Prop := ∀ s ∈ way, Wg s.t s.l ∧ s.l ≤ path.length
theorem Zn8 {kn : Kn} (hk : KnOk kn) (hp : nibs path) : ∀ {f : Nat} {s : Sp} {way : List Sp}, Wg s.t s.l → s.l ≤ path.length → walkP kn path f s = some way → WayOk path way ∧ 0 < way.length := by
 intro f
 induction f with
 | zero => intro s way h hl hw; cases hw
 | succ f ih =>
  intro s way h hl hw
  unfold walkP at hw
  cases hq : lookP kn s with
  | none => rw [hq] at hw; cases hw
  | some u =>
   rw [hq] at hw
   simp only at hw
   have hu := Zgu hk h hq
   cases hn : nextP path ⟨u, s.l, s.c⟩ with
   | none => rw [hn] at hw; cases hw; exact ⟨fun x hx => by rw [List.mem_singleton.1 hx]; exact ⟨hu, hl⟩, by simp⟩
   | some s2 =>
    rw [hn] at hw
    simp only at hw
    obtain ⟨g1, g2, g3⟩ := Zkv (s := ⟨u, s.l, s.c⟩) hu hl hn hp
    cases hr : walkP kn path f s2 with
    | none => rw [hr] at hw; cases hw
    | some r =>
     rw [hr] at hw
     cases hw
     refine ⟨fun x hx => ?_, by simp⟩
     rcases List.mem_cons.1 hx with rfl | hx
     ·exact ⟨hu, hl⟩
     ·exact (ih g1 g2 hr).1 x hx
theorem Zrm {kn : Kn} : ∀ {f : Nat} {s : Sp} {way : List Sp}, walkP kn path f s = some way → nextP path (endS way) = none := by
 intro f
 induction f with
 | zero => intro s way hw; cases hw
 | succ f ih =>
  intro s way hw
  unfold walkP at hw
  cases hq : lookP kn s with
  | none => rw [hq] at hw; cases hw
  | some u =>
   rw [hq] at hw
   simp only at hw
   cases hn : nextP path ⟨u, s.l, s.c⟩ with
   | none => rw [hn] at hw; cases hw; exact hn
   | some s2 =>
    rw [hn] at hw
    simp only at hw
    cases hr : walkP kn path f s2 with
    | none => rw [hr] at hw; cases hw
    | some r =>
     rw [hr] at hw
     cases hw
     have := ih hr
     cases r with
     | nil => cases f with
      | zero => cases hr
      | succ f => unfold walkP at hr; split at hr <;> (try cases hr); split at hr <;> (try cases hr); split at hr <;> cases hr
     | cons y r => simpa [endS] using this
theorem Zmu (h : Ni.com p q = p.length) : q.take p.length = p := by
 have := Ni.com_take p q
 rw [h, List.take_length] at this
 exact this.symm
theorem Zf8 {t : Pt} {v : List Int} {l : Nat} (h : Wg t l) (hl : l + q.length ≤ 64) (hq : nibs q) (he : ∀ p c, t = ext p c → q.take p.length ≠ p) : Wg (wit t q v) l := by
 cases t with
 | no => exact ⟨hl, hq⟩
 | st d => exact ⟨hl, hq⟩
 | br k x => exact Zgk h.2 hl hq
 | leaf p x =>
  unfold wit
  simp only
  split
  ·exact ⟨hl, hq⟩
  ·have hc := Ni.com_le p q
   have hlt : (q.take (Ni.com p q)).length = Ni.com p q := by rw [List.length_take]; omega
   refine Zlk ?_ (by rw [hlt]; omega) (Zjr hq _)
   rw [hlt]
   exact Zl0 (Zsm _) (by rw [List.length_drop]; have := h.1; omega) (Zbh h.2 _) (by rw [List.length_drop]; omega) (Zbh hq _)
 | ext p c =>
  unfold wit
  simp only
  have hc := Ni.com_le p q
  have hne : Ni.com p q ≠ p.length := fun e => he p c rfl (Zmu e)
  have hlt : (q.take (Ni.com p q)).length = Ni.com p q := by rw [List.length_take]; omega
  refine Zlk ?_ (by rw [hlt]; omega) (Zjr hq _)
  rw [hlt]
  refine Zgk (Zd7 (Zsm _) ?_) (by rw [List.length_drop]; omega) (Zbh hq _)
  have := Zug (n := Ni.com p q + 1) h.2.2.2 h.1 h.2.1 (by omega)
  rw [show l + Ni.com p q + 1 = l + (Ni.com p q + 1) by omega]
  exact this
def Desc (path : List Int) : List Sp → Nat → Prop
  | [], l => l = 0
  | s :: r, l => s.l < l ∧ (match s.t with
    | ext p _ => l = s.l + p.length
    | br _ _ => l = s.l + 1 ∧ s.l < path.length
    | _ => False) ∧ Wg s.t s.l ∧ Desc path r s.l
theorem Zn9 {kn : Kn} (hk : KnOk kn) (hp : nibs path) : ∀ {f : Nat} {s : Sp} {way R : List Sp}, Wg s.t s.l → s.l ≤ path.length → walkP kn path f s = some way → Desc path R s.l → Desc path ((way.take (way.length - 1)).reverse ++ R) (endS way).l := by
 intro f
 induction f with
 | zero => intro s way R h hl hw; cases hw
 | succ f ih =>
  intro s way R h hl hw hd
  unfold walkP at hw
  cases hq : lookP kn s with
  | none => rw [hq] at hw; cases hw
  | some u =>
   rw [hq] at hw
   simp only at hw
   have hu := Zgu hk h hq
   cases hn : nextP path ⟨u, s.l, s.c⟩ with
   | none => rw [hn] at hw; cases hw; exact hd
   | some s2 =>
    rw [hn] at hw
    simp only at hw
    obtain ⟨g1, g2, g3⟩ := Zkv (s := ⟨u, s.l, s.c⟩) hu hl hn hp
    cases hr : walkP kn path f s2 with
    | none => rw [hr] at hw; cases hw
    | some r =>
     rw [hr] at hw
     cases hw
     have hpos := (Zn8 hk hp g1 g2 hr).2
     have hd2 : Desc path (⟨u, s.l, s.c⟩ :: R) s2.l := by
      refine ⟨g3, ?_, hu, hd⟩
      unfold nextP at hn
      cases u with
      | no => cases hn
      | st d => cases hn
      | leaf p x => cases hn
      | ext p c =>
       simp only at hn ⊢
       split at hn
       ·cases hn; rfl
       ·cases hn
      | br k x =>
       simp only at hn ⊢
       split at hn
       ·cases hn
       ·rename_i i q hq2
        cases hn
        have := congrArg List.length hq2
        rw [List.length_drop, List.length_cons] at this
        exact ⟨rfl, by omega⟩
     have := ih g1 g2 hr hd2
     obtain ⟨y, r', rfl⟩ : ∃ y r', r = y :: r' := by
      cases r with
      | nil => simp at hpos
      | cons y r' => exact ⟨y, r', rfl⟩
     have e1 : endS (⟨u, s.l, s.c⟩ :: y :: r') = endS (y :: r') := by simp [endS]
     rw [e1]
     simpa using this
def thG (g : PR → Pt) (n : PN) : Pt := if n.k = 1 then leaf n.p n.v else if n.k = 2 then ext n.p (g n.c) else br (fun i => g (n.ks.getD i r0)) n.v
def nmN : Nat → PR → Pt
  | 0, _ => no
  | f + 1, r => if r.k = 1 then thG (nmN f) ((ND r.i).getD n0) else if r.k = 2 then st r.d else no
def TH (n : PN) : Pt := thG (nmN 33) n
theorem Zht (hb : isB p) (h : Ni.rightP p = true) : nibs p := fun x hx => ⟨(hb x hx).1, by have := Ni.rightP_iff.1 h x hx; omega⟩
theorem Zxa (n : PN) : (TH n).isNd = true := by
 unfold TH thG
 split
 ·rfl
 ·split <;> rfl
theorem Ztv {g : PR → Pt} {n : PN} (ho : okN n) (h : NR n = true) (hg : ∀ r, (r = n.c ∨ r ∈ n.ks) → Wn m (g r)) : Wn (m + 1) (thG g n) := by
 unfold thG
 rcases Zcb h with h | h | h
 ·rw [if_pos h.1]; exact ⟨Zht ho.1 h.2.2.1, h.2.1⟩
 ·rw [if_neg (by omega), if_pos h.1]
  exact ⟨Zht ho.1 h.2.2.2.1, fun e => by rw [e] at h; simp at h, h.2.2.1, hg _ (.inl rfl)⟩
 ·rw [if_neg (by omega), if_neg (by omega)]
  intro i hi
  refine hg _ (.inr ?_)
  have hl : n.ks.length = 16 := h.2.2.2.2.2.1
  rw [List.getD, List.getElem?_eq_getElem (by omega)]
  exact List.getElem_mem _
theorem Zle {n : PN} (h : NR n = true) : ∀ r, (r = n.c ∨ r ∈ n.ks) → rrefP KD r = true := by
 intro r hr
 rcases Zcb h with h | h | h
 ·rcases hr with rfl | hr
  ·exact h.2.2.2.2.2.1
  ·rw [h.2.2.2.2.2.2.2] at hr; cases hr
 ·rcases hr with rfl | hr
  ·exact h.2.2.2.2.2.1
  ·rw [h.2.2.2.2.2.2.2] at hr; cases hr
 ·rcases hr with rfl | hr
  ·exact h.2.2.2.1
  ·exact h.2.2.2.2.2.2.1 r hr
theorem Zl6 {n : PN} (h : okN n) : ∀ r, (r = n.c ∨ r ∈ n.ks) → okR r := by
 intro r hr
 rcases hr with rfl | hr
 ·exact h.2.2.1
 ·exact h.2.2.2 r hr
theorem Zxx : ∀ (f : Nat) (r : PR), okR r → rrefP KD r = true → Wn f (nmN f r)
  | 0, r, _, _ => trivial
  | f + 1, r, ho, h => by
    unfold nmN
    split
    · rename_i hk
      have hkd : KD r.i ≠ 0 := by
        rcases Zcm h with h | h | h
        · omega
        · omega
        · exact h.2.2.2
      obtain ⟨m, hm, _⟩ := Zhb hkd
      rw [hm]
      have hom := Zir ho.2.2 hm
      have hnr := (Zgo ho.2.2 hm).1
      exact Ztv hom hnr fun r' hr' => Zxx f r' (Zl6 hom r' hr') (Zle hnr r' hr')
    · split <;> exact trivial
theorem Zw9 {n : PN} (ho : okN n) (h : NR n = true) : Wn 34 (TH n) := Ztv ho h fun r hr => Zxx 33 r (Zl6 ho r hr) (Zle h r hr)
def knP : List (List Int) → Kn → Kn
  | [], kn => kn
  | b :: r, kn => knP r (match findK (Di.dref b) kn with
    | some _ => kn
    | none => match ND b with
      | none => kn
      | some n => kn ++ [(Di.dref b, TH n)])
theorem Zp9 : ∀ (ns : List (List Int)) {kn : Kn}, (∀ b ∈ ns, isB b) → KnOk kn → KnOk (knP ns kn)
  | [], kn, _, h => h
  | b :: r, kn, hb, h => by
    unfold knP
    refine Zp9 r (fun x hx => hb x (List.mem_cons_of_mem _ hx)) ?_
    split
    · exact h
    · split
      · exact h
      · rename_i n hn
        intro x hx
        rcases List.mem_append.1 hx with hx | hx
        · exact h x hx
        · rw [List.mem_singleton.1 hx]
          exact ⟨Zw9 (Zir (hb b (by simp)) hn) (Zgo (hb b (by simp)) hn).1, Zxa n⟩
abbrev Env := List (Nat × Value)
def lkF : Env → (Nat → Value) → Nat → Value
  | [], fb, t => fb t
  | (d, v) :: r, fb, t => bif Nat.beq d t then v else lkF r fb t
def ev (env : Env) (fb : Nat → Value) : Operand → Value
  | .tmp t => lkF env fb t
  | .const v => v
  | .global g => .pointer (some ⟨g, 0, none⟩)
  | .func f => .func (.func f) #[] #[]
structure Frm (ds : List Deferred) (n : Nat) (env : Env) (a : Act) : Prop where
  df : a.defers = ds
  sz : a.tmps.size = n
  get : ∀ t, a.tmps.getD t undef = lkF env (fun t => a.tmps.getD t undef) t
theorem Frm.ev {env : Env} (h : Frm ds n env a) : a.eval = Go.Proofs.YtchgejomcgoaeaaGreat.ev env (fun t => a.tmps.getD t undef) := by
 funext x
 cases x with
 | tmp t => exact h.get t
 | const v => rfl
 | global g => rfl
 | func f => rfl
theorem Zg2 {env : Env} (h : Frm ds n env a) {d : Nat} (hd : d < n) (v : Value) : Frm ds n ((d, v) :: env) (a.put (some d) v) := by
 refine ⟨h.df, by simp [Act.put, h.sz], fun t => ?_⟩
 have e : ∀ u, (a.put (some d) v).tmps.getD u undef = if d = u then v else a.tmps.getD u undef := by
  intro u
  have hs : d < a.tmps.size := by rw [h.sz]; exact hd
  simp only [Act.put, Array.getD_eq_getD_getElem?, Array.getElem?_setIfInBounds]
  by_cases hu : d = u
  ·subst hu; simp [hs]
  ·simp [hu]
 rw [e t]
 simp only [lkF]
 by_cases hu : d = t
 ·subst hu; simp
 ·rw [if_neg hu]
  have hb : Nat.beq d t = false := by
   cases hq : Nat.beq d t with
   | true => exact absurd (Nat.eq_of_beq_eq_true hq) hu
   | false => rfl
  rw [hb]
  simp only [cond_false]
  have key : ∀ (e' : Env) (f1 f2 : Nat → Value), f1 t = f2 t → lkF e' f1 t = lkF e' f2 t := by
   intro e' f1 f2 hf
   induction e' with
   | nil => exact hf
   | cons p r ih => obtain ⟨d', v'⟩ := p; simp only [lkF]; rw [ih]
  rw [key env (fun u => (a.put (some d) v).tmps.getD u undef) (fun u => a.tmps.getD u undef) (by simp only [e t, if_neg hu])]
  exact h.get t
def SubE (env : Env) : Env → Prop
  | [] => True
  | p :: r => (∀ fb, lkF env fb p.1 = p.2) ∧ SubE env r
theorem Frm.sub {env env' : Env} (h : Frm ds n env a) (hs : SubE env env') : Frm ds n env' a := by
 refine ⟨h.df, h.sz, fun t => ?_⟩
 have key : ∀ (e : Env), SubE env e → a.tmps.getD t undef = lkF e (fun t => a.tmps.getD t undef) t := by
  intro e
  induction e with
  | nil => intro _; rfl
  | cons p r ih =>
   intro hs
   obtain ⟨d, v⟩ := p
   simp only [lkF]
   cases hq : Nat.beq d t with
   | false => simpa using ih hs.2
   | true =>
    have := Nat.eq_of_beq_eq_true hq
    subst this
    simp only [cond_true]
    rw [h.get d]
    exact hs.1 _
 exact key env' hs
def yF (ops : Array Oper) (env : Env) (fb : Nat → Value) (j : Nat) : Option Bool :=
  match (ops[j]?).bind (·.dst) with
  | some d => match lkF env fb d with
    | .bool b => some b
    | _ => none
  | none => none
theorem Frm.yielded {ds : List Deferred} {n : Nat} {env : Env} {a : Act} (h : Frm ds n env a) (ops : Array Oper) (j : Nat) : Go.yielded ops a.tmps j = yF ops env (fun t => a.tmps.getD t undef) j := by
 unfold Go.yielded yF
 cases (ops[j]?).bind (·.dst) with
 | none => rfl
 | some d =>
  have hg := h.get d
  simp only [Option.bind_some]
  rw [← hg]
  rw [Array.getD_eq_getD_getElem?]
  cases a.tmps[d]? with
  | none => rfl
  | some v => cases v <;> rfl
def noDefer (o : Oper) : Bool := match o.op with | .defer _ => false | _ => true
theorem Zfk {o : Oper} (h : noDefer o = true) : ∀ c, o.op ≠ .defer c := by
 intro c e
 unfold noDefer at h
 rw [e] at h
 cases h
def chk (n : Nat) (ops : Array Oper) (env : Env) (fb : Nat → Value) (o : Oper) (d : Nat) : Bool :=
  (o.dst == some d) && Nat.blt d n && Region.wanted o (yF ops env fb) && noDefer o
def chk0 (ops : Array Oper) (env : Env) (fb : Nat → Value) (o : Oper) : Bool :=
  (o.dst == none) && Region.wanted o (yF ops env fb) && noDefer o
def off (n : Nat) (ops : Array Oper) (env : Env) (fb : Nat → Value) (o : Oper) (d : Nat) : Bool :=
  (o.dst == some d) && Nat.blt d n && !Region.wanted o (yF ops env fb)
theorem Ze3 {n : Nat} {ops : Array Oper} {env : Env} {fb : Nat → Value} {o : Oper} {d : Nat} (h : chk n ops env fb o d = true) : o.dst = some d ∧ d < n ∧ Region.wanted o (yF ops env fb) = true ∧ ∀ c, o.op ≠ .defer c := by
 unfold chk at h
 simp only [Bool.and_eq_true, beq_iff_eq] at h
 exact ⟨h.1.1.1, by simpa [Nat.blt_eq] using h.1.1.2, h.1.2, Zfk h.2⟩
theorem Zkb {ops : Array Oper} {env : Env} {fb : Nat → Value} {o : Oper} (h : chk0 ops env fb o = true) : o.dst = none ∧ Region.wanted o (yF ops env fb) = true ∧ ∀ c, o.op ≠ .defer c := by
 unfold chk0 at h
 simp only [Bool.and_eq_true, beq_iff_eq] at h
 exact ⟨h.1.1, h.1.2, Zfk h.2⟩
theorem Zl7 {n : Nat} {ops : Array Oper} {env : Env} {fb : Nat → Value} {o : Oper} {d : Nat} (h : off n ops env fb o d = true) : o.dst = some d ∧ d < n ∧ Region.wanted o (yF ops env fb) = false := by
 unfold off at h
 simp only [Bool.and_eq_true, beq_iff_eq, Bool.not_eq_true'] at h
 exact ⟨h.1.1, by simpa [Nat.blt_eq] using h.1.2, h.2⟩
theorem Frm.want {ds : List Deferred} {n : Nat} {env : Env} {a : Act} (h : Frm ds n env a) (ops : Array Oper) (o : Oper) : Region.wanted o (Go.yielded ops a.tmps) = Region.wanted o (yF ops env (fun t => a.tmps.getD t undef)) := by
 have : Go.yielded ops a.tmps = yF ops env (fun t => a.tmps.getD t undef) := funext fun j => h.yielded ops j
 rw [this]
def fz (r : Option Nat) : Fence := { Fence.wide with round := r }
theorem callsIn_fz {r : Option Nat} {f : FuncId} {R : Ending → World → Prop} : CallsIn (fz r) m P f args w R ↔ Calls P f args w R := callsIn_wide (n := m)
theorem CallsIn.mono' {f : FuncId} {R R' : Ending → World → Prop} (h : CallsIn F n P f args w R) (hr : ∀ e w', R e w' → R' e w') : CallsIn F n P f args w R' :=
  ⟨h.1, fun cs hroom => let ⟨e, w', fr, q, s⟩ := h.2 cs hroom; ⟨e, w', fr, hr _ _ q, s⟩⟩
theorem Zf7 {Q : Exit → Act → World → Prop} {c : Code} (I : Nat → Act → World → Prop) (n₀ : Nat) (h₀ : I n₀ a w)
    (round : ∀ k a w, I k a w → c.wpIn F n P (Exit.then (fun a' w' => ∃ k', k' < k ∧ I k' a' w') Q) a w) : (Code.loop c).wpIn F n P Q a w := by
  refine wpIn_loop (fun a w => ∃ n, I n a w) (fun a w => leastOf (fun n => I n a w)) ⟨n₀, h₀⟩ ?_
  intro a w hI
  refine wpIn_mono (round _ a w (leastOf_spec hI).1) ?_
  intro e a' w' hq
  cases e with
  | normal =>
    obtain ⟨n', hlt, hI'⟩ := hq
    exact show (∃ n, I n a' w') ∧ leastOf (fun n => I n a' w') < leastOf (fun n => I n a w) from ⟨⟨n', hI'⟩, Nat.lt_of_le_of_lt ((leastOf_spec ⟨n', hI'⟩).2 n' hI') hlt⟩
  | exit id => exact hq
  | goto l => exact hq
  | ret => exact hq
  | panic ch => exact hq
  | outgrown => exact hq
section
variable {r : Option Nat} {m : Nat} {P : Program} {ds : List Deferred} {n : Nat} {Q : Exit → Act → World → Prop} {env : Env} {w : World}
def NW (ds : List Deferred) (n : Nat) (Q : Exit → Act → World → Prop) (e : Exit) (env : Env) (w : World) : Prop := ∀ a, Frm ds n env a → Q e a w
def CW (r : Option Nat) (m : Nat) (P : Program) (ds : List Deferred) (n : Nat) (Q : Exit → Act → World → Prop) (c : Code) (env : Env) (w : World) : Prop := ∀ a, Frm ds n env a → c.wpIn (fz r) m P Q a w
def RW (r : Option Nat) (m : Nat) (P : Program) (ds : List Deferred) (n : Nat) (Q : Exit → Act → World → Prop) (ops : Array Oper) (l : List Oper) (env : Env) (w : World) : Prop := ∀ a, Frm ds n env a → wpListIn (fz r) m P ops Q l a w
def DW (P : Program) (ds : List Deferred) (n : Nat) (Q : Exit → Act → World → Prop) (ops : Array Oper) (S : World → Prop) (fuel : Nat) (listed : Array Bool) (env : Env) (w : World) : Prop := ∀ a, Frm ds n env a → wpAnyH P .any ops Q S fuel listed a w
def AR (P : Program) (ds : List Deferred) (n : Nat) (Q : Exit → Act → World → Prop) (ops : Array Oper) (S : World → Prop) (fuel : Nat) (listed : Array Bool) (env : Env) (w : World) (rs : List Nat) : Prop := ∀ a, Frm ds n env a → AllReadyH P .any ops Q S fuel listed a w rs
theorem Zac {x y : Code} (h : CW r m P ds n (Exit.then (y.wpIn (fz r) m P Q) Q) x env w) : CW r m P ds n Q (.seq x y) env w := fun a ha => wpIn_seq (h a ha)
theorem Zab {y : Code} (h : CW r m P ds n Q y env w) : NW ds n (Exit.then (y.wpIn (fz r) m P Q) Q) .normal env w := h
theorem Zau {id : Nat} (h : NW ds n Q .normal env w) : NW ds n (Exit.inBlock id Q) .normal env w := h
theorem Zam (h : NW ds n Q .normal env w) : CW r m P ds n Q .skip env w := fun a ha => wpIn_skip (h a ha)
theorem Zb1 {id : Nat} (h : NW ds n Q (.exit id) env w) : CW r m P ds n Q (.exit id) env w := fun a ha => wpIn_exit (h a ha)
theorem Zat {id : Nat} {K : Act → World → Prop} (h : NW ds n Q (.exit id) env w) : NW ds n (Exit.then K Q) (.exit id) env w := h
theorem Za1 {id : Nat} (h : NW ds n Q .normal env w) : NW ds n (Exit.inBlock id Q) (.exit id) env w := fun a ha => by
  show if id = id then Q .normal a w else Q (.exit id) a w
  rw [if_pos rfl]
  exact h a ha
theorem Zan {id : Nat} {c : Code} (h : CW r m P ds n (Exit.inBlock id Q) c env w) : CW r m P ds n Q (.block id c) env w := fun a ha => wpIn_block (h a ha)
theorem Zap (h : NW ds n Q .ret env w) : CW r m P ds n Q .ret env w := fun a ha => wpIn_ret (h a ha)
theorem Zah {K : Act → World → Prop} (h : NW ds n Q .ret env w) : NW ds n (Exit.then K Q) .ret env w := h
theorem Zaq {id : Nat} (h : NW ds n Q .ret env w) : NW ds n (Exit.inBlock id Q) .ret env w := h
theorem Zai {c : Operand} {x y : Code} (hc : ∀ fb, ev env fb c = .bool true) (h : CW r m P ds n Q x env w) : CW r m P ds n Q (.cond c x y) env w := fun a ha => wpIn_cond_true (by rw [ha.ev]; exact hc _) (h a ha)
theorem Zaf {c : Operand} {x y : Code} (hc : ∀ fb, ev env fb c = .bool false) (h : CW r m P ds n Q y env w) : CW r m P ds n Q (.cond c x y) env w := fun a ha => wpIn_cond_false (by rw [ha.ev]; exact hc _) (h a ha)
theorem Zb8 {c : Code} {X : Type} (E : X → Env) (R : X → World → Prop) (μ : X → Nat) (x0 : X) (hE : SubE env (E x0)) (h0 : R x0 w)
    (round : ∀ x v, R x v → CW r m P ds n (Exit.then (fun a' w' => ∃ k, k < μ x ∧ ∃ x', μ x' = k ∧ Frm ds n (E x') a' ∧ R x' w') Q) c (E x) v) : CW r m P ds n Q (.loop c) env w := fun a ha => by
  refine Zf7 (fun k a w => ∃ x, μ x = k ∧ Frm ds n (E x) a ∧ R x w) (μ x0) ⟨x0, rfl, ha.sub hE, h0⟩ ?_
  rintro k a v ⟨x, rfl, hF, hR⟩
  exact round x v hR a hF
theorem Za7 {X : Type} {E : X → Env} {R : X → World → Prop} {μ : X → Nat} {x : X} (x' : X) (hE : SubE env (E x')) (hR : R x' w) (hm : μ x' < μ x) :
    NW ds n (Exit.then (fun a' w' => ∃ k, k < μ x ∧ ∃ x', μ x' = k ∧ Frm ds n (E x') a' ∧ R x' w') Q) .normal env w := fun a ha => ⟨μ x', hm, x', rfl, ha.sub hE, hR⟩
def argE : Nat → List Value → Env
  | _, [] => []
  | k, v :: r => (k, v) :: argE (k + 1) r
theorem Zwa (args : Array Value) (k : Nat) : Frm [] (args ++ Array.replicate k undef).size (argE 0 args.toList) { tmps := args ++ Array.replicate k undef, defers := [] } := by
 refine ⟨rfl, rfl, fun t => ?_⟩
 have key : ∀ (l : List Value) (i : Nat) (fb : Nat → Value), (∀ j, l[j]?.isSome → fb (i + j) = (l[j]?).getD undef) → ∀ t, fb t = lkF (argE i l) fb t := by
  intro l
  induction l with
  | nil => intro i fb _ t; rfl
  | cons v r ih =>
   intro i fb h t
   simp only [argE, lkF]
   cases hq : Nat.beq i t with
   | true =>
    have := Nat.eq_of_beq_eq_true hq
    subst this
    simpa using h 0 (by simp)
   | false =>
    simp only [cond_false]
    refine ih (i + 1) fb (fun j hj => ?_) t
    have := h (j + 1) (by simpa using hj)
    rw [show i + 1 + j = i + (j + 1) from by omega]
    simpa using this
 refine key args.toList 0 (fun t => (args ++ Array.replicate k undef).getD t undef) (fun j hj => ?_) t
 have hj' : j < args.size := by
  rw [Option.isSome_iff_exists] at hj
  obtain ⟨v, hv⟩ := hj
  simpa using (List.getElem?_eq_some_iff.1 hv).1
 simp only [Nat.zero_add, Array.getD_eq_getD_getElem?, Array.getElem?_append_left hj', Array.getElem?_toList]
theorem Znr {f : FuncId} {fn : Func} {c : Code} {args : Array Value} {R : Ending → World → Prop} (hf : P.funcs[f]? = some fn) (hb : fn.body = some c) (n : Nat) (hn : args.size + (fn.ntmps - args.size) = n)
    (h : CW none m P [] n (bodyPost P fn R) c (argE 0 args.toList) w) : CallsIn Fence.wide m P f args w R := by
  refine callsIn_of_wp hf hb trivial ?_
  refine h _ ?_
  have := Zwa args (fn.ntmps - args.size)
  rw [show (args ++ Array.replicate (fn.ntmps - args.size) undef).size = n from by simp [hn]] at this
  exact this
theorem Zaj {f : FuncId} {fn : Func} {c : Code} {args : Array Value} {R : Ending → World → Prop} (hf : P.funcs[f]? = some fn) (hb : fn.body = some c) (n : Nat) (hn : args.size + (fn.ntmps - args.size) = n)
    (h : CW none 20 P [] n (bodyPost P fn R) c (argE 0 args.toList) w) : Calls P f args w R := callsIn_wide.1 (Znr hf hb n hn h)
def resF (g : Nat → Value) (rs : Array ResultVar) : Sem Value := do
  let vs ← rs.mapM fun
    | .tmp t => pure (g t)
    | .cell a t => do loadVar t (← asAddr (g a))
  pure (if h : vs.size = 1 then vs[0] else .tuple vs)
theorem Zfi (fn : Func) (tmps : Array Value) : results fn tmps = resF (fun t => tmps.getD t undef) fn.results := rfl
theorem Zae {fn : Func} {R : Ending → World → Prop} (v : Value) (hr : ∀ fb, (resF (lkF env fb) fn.results).run P w = .ok v w) (hR : R (.returned v) w) : NW [] n (bodyPost P fn R) .ret env w := fun a ha => by
  refine ⟨ha.df, v, ?_, hR⟩
  rw [Zfi, show (fun t => a.tmps.getD t undef) = lkF env (fun t => a.tmps.getD t undef) from funext ha.get]
  exact hr _
theorem Zgm {fn : Func} {R : Ending → World → Prop} (v : Value) (hr : ∀ fb, (resF (lkF env fb) fn.results).run P w = .ok v w) (hR : R (.returned v) w) : NW [] n (bodyPost P fn R) .normal env w := fun a ha => by
  refine ⟨ha.df, v, ?_, hR⟩
  rw [Zfi, show (fun t => a.tmps.getD t undef) = lkF env (fun t => a.tmps.getD t undef) from funext ha.get]
  exact hr _
end
section
variable {r : Option Nat} {m : Nat} {P : Program} {ds : List Deferred} {n : Nat} {Q : Exit → Act → World → Prop} {env : Env} {w w' : World} {ops : Array Oper} {l : List Oper} {o : Oper}
theorem Zaa {id : Nat} (h : RW r m P ds n Q l.toArray l env w) : CW r m P ds n Q (.region id l.toArray false) env w := fun a ha => wpIn_region_lit (h a ha)
theorem Zad (h : NW ds n Q .normal env w) : RW r m P ds n Q ops [] env w := h
theorem rw_v (d : Nat) (v : Value) (hc : ∀ fb, chk n ops env fb o d = true) (hr : ∀ fb, (execOp (ev env fb) o).run P w = .ok (.value v) w') (h : RW r m P ds n Q ops l ((d, v) :: env) w') : RW r m P ds n Q ops (o :: l) env w := fun a ha => by
  obtain ⟨h1, h2, h3, hnd⟩ := Ze3 (hc (fun t => a.tmps.getD t undef))
  refine wpListIn_step fun K hK => ?_
  rw [ha.want, if_pos h3]
  refine ⟨fun f _ => trivial, ?_⟩
  rw [Oper.semAt_eq _ _ _ hnd, ha.ev, hr, Oper.uponIn_value, h1]
  exact hK _ _ (h _ (Zg2 ha h2 v))
theorem rw_p (d : Nat) (v : Value) (hc : ∀ fb, chk n ops env fb o d = true) (hr : ∀ fb, (execOp (ev env fb) o).run P w = .ok (.value v) w) (h : RW r m P ds n Q ops l ((d, v) :: env) w) : RW r m P ds n Q ops (o :: l) env w := rw_v d v hc hr h
theorem rw_s (hc : ∀ fb, chk0 ops env fb o = true) (hr : ∀ fb, (execOp (ev env fb) o).run P w = .ok .skip w') (h : RW r m P ds n Q ops l env w') : RW r m P ds n Q ops (o :: l) env w := fun a ha => by
  obtain ⟨h1, h3, hnd⟩ := Zkb (hc (fun t => a.tmps.getD t undef))
  refine wpListIn_step fun K hK => ?_
  rw [ha.want, if_pos h3]
  refine ⟨fun f _ => trivial, ?_⟩
  rw [Oper.semAt_eq _ _ _ hnd, ha.ev, hr, Oper.uponIn_skip, h1]
  exact hK _ _ (h _ ha)
theorem Za8 (d : Nat) (hc : ∀ fb, off n ops env fb o d = true) (h : RW r m P ds n Q ops l ((d, undef) :: env) w) : RW r m P ds n Q ops (o :: l) env w := fun a ha => by
  obtain ⟨h1, h2, h3⟩ := Zl7 (hc (fun t => a.tmps.getD t undef))
  refine wpListIn_step fun K hK => ?_
  rw [ha.want, if_neg (by rw [h3]; exact Bool.false_ne_true), h1]
  refine ⟨fun f _ => trivial, ?_⟩
  exact hK _ _ (h _ (Zg2 ha h2 _))
theorem Zak (d : Nat) (f : FuncId) (args : Array Value) (hc : ∀ fb, chk n ops env fb o d = true) (hr : ∀ fb, (execOp (ev env fb) o).run P w = .ok (.enter f args) w) {R : Value → World → Prop}
    (hcall : Calls P f args w fun e w' => ∃ v, e = .returned v ∧ R v w') (h : ∀ v w', R v w' → RW r m P ds n Q ops l ((d, v) :: env) w') : RW r m P ds n Q ops (o :: l) env w := fun a ha => by
  obtain ⟨h1, h2, h3, hnd⟩ := Ze3 (hc (fun t => a.tmps.getD t undef))
  refine wpListIn_step fun K hK => ?_
  rw [ha.want, if_pos h3]
  refine ⟨fun f _ => trivial, ?_⟩
  rw [Oper.semAt_eq _ _ _ hnd, ha.ev, hr, Oper.uponIn_enter]
  refine ⟨fun h => absurd h Bool.false_ne_true, ?_⟩
  refine CallsIn.mono' (callsIn_fz.2 hcall) ?_
  rintro e w' ⟨v, rfl, hR⟩
  rw [h1]
  exact hK _ _ (h v w' hR _ (Zg2 ha h2 v))
end
section
variable {r : Option Nat} {m : Nat} {P : Program} {ds : List Deferred} {n : Nat} {Q : Exit → Act → World → Prop} {env : Env} {w w' : World} {ops : Array Oper} {o : Oper} {S : World → Prop} {fuel : Nat} {listed : Array Bool} {rs : List Nat}
theorem Zbd {id : Nat} (S : World → Prop) (hm : P.follows .mixedOrders = true) (hS : S w.drew) (h : DW P ds n Q ops S ops.size (Array.replicate ops.size false) env w.drew) : CW none m P ds n Q (.region id ops true) env w := fun a ha =>
  wpIn_wide.2 (wp_region_held_drew hm hS (fun _ => h a ha))
def tkOk (ops : Array Oper) (listed : Array Bool) (i : Nat) : Bool := Region.noSelect ops && Region.free .any ops listed i && (Region.ready .any ops listed).contains i
theorem Zi2 (i d : Nat) (v : Value) (ho : ops[i]? = some o) (hk : tkOk ops listed i = true) (hQ : ∀ c a w, Q (.panic c) (a.put (some d) v) w → Q (.panic c) a w) (hc : ∀ fb, chk n ops env fb o d = true)
    (hr : ∀ w, S w → ∀ fb, (execOp (ev env fb) o).run P w = .ok (.value v) w) (hS : S w) (h : DW P ds n Q ops S fuel (listed.setIfInBounds i true) ((d, v) :: env) w) : DW P ds n Q ops S (fuel + 1) listed env w := fun a ha => by
  obtain ⟨h1, h2, h3, _⟩ := Ze3 (hc (fun t => a.tmps.getD t undef))
  unfold tkOk at hk
  simp only [Bool.and_eq_true] at hk
  refine wpAnyH_take ho hk.1.1 hk.1.2 hk.2 (v := v) (by rw [h1]; exact hQ) (Or.inl ⟨by rw [ha.want]; exact h3, fun w hw => by rw [ha.ev]; exact hr w hw _⟩) hS ?_
  rw [h1]
  exact h _ (Zg2 ha h2 v)
theorem Za6 (hr : Region.ready .any ops listed = []) (h : NW ds n Q .normal env w) : DW P ds n Q ops S fuel listed env w := fun a ha => wpAnyH_done hr (h a ha) fuel
theorem Zas (rs : List Nat) (hr : Region.ready .any ops listed = rs) (hne : rs ≠ []) (h : AR P ds n Q ops S fuel listed env w rs) : DW P ds n Q ops S (fuel + 1) listed env w := fun a ha => wpAnyH_ready hr hne (h a ha)
theorem Zaz : AR P ds n Q ops S fuel listed env w [] := fun a ha => AllReadyH.nil
theorem ar_v (i d : Nat) (v : Value) (ho : ops[i]? = some o) (hc : ∀ fb, chk n ops env fb o d = true) (hr : ∀ fb, (execOp (ev env fb) o).run P w = .ok (.value v) w') (hS : S w')
    (h : DW P ds n Q ops S fuel (listed.setIfInBounds i true) ((d, v) :: env) w') (hs : AR P ds n Q ops S fuel listed env w rs) : AR P ds n Q ops S fuel listed env w (i :: rs) := fun a ha => by
  obtain ⟨h1, h2, h3, _⟩ := Ze3 (hc (fun t => a.tmps.getD t undef))
  refine AllReadyH.cons ho (fun K hK => ?_) (hs a ha)
  rw [ha.want, if_pos h3]
  unfold Oper.wp
  rw [ha.ev, hr, Oper.upon_value, h1]
  exact hK _ _ hS (fun _ => h _ (Zg2 ha h2 v))
theorem ar_s (i : Nat) (ho : ops[i]? = some o) (hc : ∀ fb, chk0 ops env fb o = true) (hr : ∀ fb, (execOp (ev env fb) o).run P w = .ok .skip w') (hS : S w')
    (h : DW P ds n Q ops S fuel (listed.setIfInBounds i true) env w') (hs : AR P ds n Q ops S fuel listed env w rs) : AR P ds n Q ops S fuel listed env w (i :: rs) := fun a ha => by
  obtain ⟨h1, h3, _⟩ := Zkb (hc (fun t => a.tmps.getD t undef))
  refine AllReadyH.cons ho (fun K hK => ?_) (hs a ha)
  rw [ha.want, if_pos h3]
  unfold Oper.wp
  rw [ha.ev, hr, Oper.upon_skip, h1]
  exact hK _ _ hS (fun _ => h _ ha)
theorem Za5 (i d : Nat) (f : FuncId) (args : Array Value) (ho : ops[i]? = some o) (hc : ∀ fb, chk n ops env fb o d = true) (hr : ∀ fb, (execOp (ev env fb) o).run P w = .ok (.enter f args) w) {R : Value → World → Prop}
    (hcall : Calls P f args w fun e w' => ∃ v, e = .returned v ∧ R v w') (hSS : ∀ v w', R v w' → S w') (h : ∀ v w', R v w' → DW P ds n Q ops S fuel (listed.setIfInBounds i true) ((d, v) :: env) w')
    (hs : AR P ds n Q ops S fuel listed env w rs) : AR P ds n Q ops S fuel listed env w (i :: rs) := fun a ha => by
  obtain ⟨h1, h2, h3, _⟩ := Ze3 (hc (fun t => a.tmps.getD t undef))
  refine AllReadyH.cons ho (fun K hK => ?_) (hs a ha)
  rw [ha.want, if_pos h3]
  unfold Oper.wp
  rw [ha.ev, hr, Oper.upon_enter]
  refine hcall.mono ?_
  rintro e w' ⟨v, rfl, hR⟩
  rw [h1]
  exact hK _ _ (hSS v w' hR) (fun _ => h v w' hR _ (Zg2 ha h2 v))
end
end Go.Proofs.YtchgejomcgoaeaaGreat
