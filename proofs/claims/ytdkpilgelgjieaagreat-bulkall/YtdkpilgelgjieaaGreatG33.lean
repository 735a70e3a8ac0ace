/- How many nodes a tree has: a Put adds three at most; no more are named than there are. -/
import Derived.Test.YtdkpilgelgjieaaGreatG28
import Derived.Test.YtdkpilgelgjieaaGreatG32
import Derived.Test.YtdkpilgelgjieaaGreatG21
import Derived.Test.YtdkpilgelgjieaaGreatG23
import Derived.Test.YtdkpilgelgjieaaGreatG00
import Derived.ProofKit
import Derived.OpenShut
import Derived.ShutString
import Derived.ChangeOld
import Derived.SizedLaws
namespace Go.Proofs.YtdkpilgelgjieaaGreat
set_option linter.unusedVariables false
namespace Tr
def sz : Tr → Nat
  | no => 0
  | leaf _ _ => 1
  | ext _ c => sz c + 1
  | br k _ => ((List.range 16).map fun i => sz (k i)).sum + 1
theorem sz_upd (k : Nat → Tr) (i : Nat) (t : Tr) (m : Nat) (h : sz t ≤ sz (k i) + m) : ∀ n, ((List.range n).map fun j => sz (upd k i t j)).sum ≤ ((List.range n).map fun j => sz (k j)).sum + (if i < n then m else 0)
  | 0 => by simp
  | n + 1 => by
    have ih := sz_upd k i t m h n
    rw [List.range_succ, List.map_append, List.map_append, List.sum_append, List.sum_append]
    simp only [List.map_cons, List.map_nil, List.sum_cons, List.sum_nil, Nat.add_zero]
    by_cases e : n = i
    · subst e
      rw [upd_same, if_pos (by omega)]
      rw [if_neg (by omega)] at ih
      omega
    · rw [upd_other k t e]
      by_cases h2 : i < n
      · rw [if_pos (by omega)]; rw [if_pos h2] at ih; omega
      · rw [if_neg (by omega)]; rw [if_neg h2] at ih; omega
theorem sz_updB (k : Nat → Tr) (i : Nat) (t : Tr) (m : Nat) (x y : List Int) (h : sz t ≤ sz (k i) + m) : sz (br (upd k i t) x) ≤ sz (br k y) + m := by
  have := sz_upd k i t m h 16
  simp only [sz]
  split at this <;> omega
theorem sz_und (p : List Int) (t : Tr) : sz (und p t) ≤ sz t + 1 := by
  cases t with
  | no => simp [und, sz]
  | leaf q v => simp [und, sz]
  | ext q c => simp [und, sz]
  | br k v =>
    simp only [und]
    split
    · omega
    · simp only [sz]; omega
theorem sz_add (k : Nat → Tr) (x q v : List Int) : sz (add k x q v) ≤ sz (br k x) + 1 := by
  cases q with
  | nil => simp only [add, sz]; omega
  | cons i r => exact sz_updB k i.toNat (leaf r v) 1 x x (by simp only [sz]; omega)
theorem sz_addT (t : Tr) (q v : List Int) : sz (addT t q v) ≤ sz t + 1 := by
  cases t with
  | br k x => exact sz_add k x q v
  | no => simp [addT]
  | leaf p x => simp [addT]
  | ext p c => simp [addT]
theorem sz_nk (x : List Int) : sz (br nk x) = 1 := by
  simp only [sz]
  have : ((List.range 16).map fun i => sz (nk i)) = (List.range 16).map fun _ => 0 := by simp [nk, sz]
  rw [this]; rfl
theorem sz_put : ∀ (t : Tr) (q v : List Int), sz (put t q v) ≤ sz t + 3 := by
  intro t
  induction t with
  | no => intro q v; simp [put, sz]
  | leaf p x =>
    intro q v
    simp only [put]
    split
    · simp [sz]
    · have h1 := sz_und (q.take (Ni.com p q)) (addT (add nk [] (p.drop (Ni.com p q)) x) (q.drop (Ni.com p q)) v)
      have h2 := sz_addT (add nk [] (p.drop (Ni.com p q)) x) (q.drop (Ni.com p q)) v
      have h3 := sz_add nk [] (p.drop (Ni.com p q)) x
      have h4 := sz_nk []
      have h5 : sz (leaf p x) = 1 := rfl
      omega
  | ext p c ih =>
    intro q v
    simp only [put]
    split
    · have := ih (q.drop p.length) v
      simp only [sz]; omega
    · have h1 := sz_und (q.take (Ni.com p q)) (add (upd nk (p.getD (Ni.com p q) 0).toNat (und (p.drop (Ni.com p q + 1)) c)) [] (q.drop (Ni.com p q)) v)
      have h2 := sz_add (upd nk (p.getD (Ni.com p q) 0).toNat (und (p.drop (Ni.com p q + 1)) c)) [] (q.drop (Ni.com p q)) v
      have h3 := sz_updB nk (p.getD (Ni.com p q) 0).toNat (und (p.drop (Ni.com p q + 1)) c) (sz c + 1) [] [] (by have := sz_und (p.drop (Ni.com p q + 1)) c; omega)
      have h4 := sz_nk []
      have h5 : sz (ext p c) = sz c + 1 := rfl
      omega
  | br k x ih =>
    intro q v
    cases q with
    | nil => simp [put, sz]
    | cons i r => exact sz_updB k i.toNat (put (k i.toNat) r v) 3 x x (ih i.toNat r v)
theorem sum_le (f g : Nat → Nat) (h : ∀ i, f i ≤ g i) : ∀ l : List Nat, (l.map f).sum ≤ (l.map g).sum
  | [] => Nat.le_refl _
  | a :: l => by simp only [List.map_cons, List.sum_cons]; have := h a; have := sum_le f g h l; omega
theorem nm1_len (b : List Int) : (nm1 b).length ≤ 1 := by unfold nm1; split <;> simp
theorem nmd_len : ∀ t : Tr, (nmd t).length + (if t.isNo then 0 else 1) ≤ sz t := by
  intro t
  induction t with
  | no => simp [nmd, isNo, sz]
  | leaf p x => simp [nmd, isNo, sz]
  | ext p c ih =>
    simp only [nmd, isNo, sz, List.length_append, Bool.false_eq_true, if_false]
    have h1 := nm1_len (encT c)
    by_cases hc : c.isNo = true
    · rw [if_pos hc] at ih
      cases c with
      | no => simp [encT, nm1, nmd, sz]
      | leaf p x => simp [isNo] at hc
      | ext p x => simp [isNo] at hc
      | br p x => simp [isNo] at hc
    · rw [if_neg hc] at ih; omega
  | br k x ih =>
    rw [show (br k x).isNo = false from rfl]
    simp only [nmd, sz, Bool.false_eq_true, if_false, List.length_flatMap]
    have := sum_le (fun i => (if (k i).isNo then [] else nmd (k i) ++ nm1 (encT (k i))).length) (fun i => sz (k i)) (fun i => by
      have h1 := nm1_len (encT (k i))
      have h2 := ih i
      by_cases hc : (k i).isNo = true
      · simp [hc]
      · rw [if_neg hc] at h2
        simp only [hc, Bool.false_eq_true, if_false, List.length_append]
        omega) (List.range 16)
    omega
theorem nmd_le (t : Tr) : (nmd t).length ≤ sz t := by have := nmd_len t; omega
end Tr
open Tr
theorem sz_putT (t : Tr) (k x : List Int) : Tr.sz (putT t k x) ≤ Tr.sz t + 3 := by
  unfold putT
  split
  · exact sz_put _ _ _
  · omega
end Go.Proofs.YtdkpilgelgjieaaGreat
/- The statement BulkTrie: a trie into which the same keys were put has the same root. -/
namespace Go.Proofs.YtdkpilgelgjieaaGreat
open Go.RowKit
open Tr
open Di (dref)
set_option linter.unusedVariables false
set_option maxRecDepth 100000
theorem putR_end {k x : List Int} : ∀ {l : PList}, (∀ e ∈ l, Ni.lessP e.1 k = true) → putR k x l = l ++ [(k, x)]
  | [], _ => rfl
  | e :: r, h => by rw [putR, if_pos (h e (by simp)), putR_end (fun q hq => h q (List.mem_cons_of_mem _ hq))]; rfl
/-- No key behind the last one. -/
def Lst : Option (List Int) → PList → Prop
  | none, l => l = []
  | some k, l => ∀ e ∈ l, e.1 = k ∨ Ni.lessP e.1 k = true
theorem addE0 {lk : Option (List Int)} {k x : List Int} (h : addE lk k x = 0) : k.length ≤ 32 ∧ (0 < x.length ∧ x.length ≤ 256) ∧ ∀ k0, lk = some k0 → Ni.lessP k0 k = true := by
  unfold addE at h
  by_cases h1 : k.length ≤ 32
  · rw [if_pos h1] at h
    by_cases h2 : 0 < x.length ∧ x.length ≤ 256
    · rw [if_pos h2] at h
      refine ⟨h1, h2, fun k0 e => ?_⟩
      subst e
      simp only at h
      cases hq : Ni.lessP k0 k with
      | true => rfl
      | false => rw [hq] at h; simp at h
    · rw [if_neg h2] at h; cases h
  · rw [if_neg h1] at h; cases h
theorem Lst.step {lk : Option (List Int)} {l : PList} {k x : List Int} (h : Lst lk l) (hz : addE lk k x = 0) : putL l k x = l ++ [(k, x)] ∧ Lst (some k) (putL l k x) := by
  obtain ⟨h1, h2, h3⟩ := addE0 hz
  have hall : ∀ e ∈ l, Ni.lessP e.1 k = true := by
    intro e he
    cases lk with
    | none => rw [show l = [] from h] at he; simp at he
    | some k0 =>
      rcases h e he with q | q
      · rw [q]; exact h3 k0 rfl
      · exact less_trans _ _ _ q (h3 k0 rfl)
  have hp : putL l k x = l ++ [(k, x)] := by unfold putL; rw [if_pos ⟨h1, h2⟩, putR_end hall]
  refine ⟨hp, ?_⟩
  rw [hp]
  intro e he
  rcases List.mem_append.1 he with q | q
  · exact .inr (hall e q)
  · rw [List.mem_singleton.1 q]; exact .inl rfl
end Go.Proofs.YtdkpilgelgjieaaGreat
/- The statement BulkAll: the root of what a trie tells of all its keys is the trie's. -/
namespace Go.Proofs.YtdkpilgelgjieaaGreat
open Go.RowKit
open Tr
open Di (dref)
set_option linter.unusedVariables false
set_option maxRecDepth 100000
section
variable {r : Option Nat} {m : Nat} {P : Program} {ds : List Deferred} {n : Nat} {Q : Exit → Act → World → Prop} {env : Env} {w : World}
theorem cw_only {c : Code} (F : Env → World → Prop) (h1 : CW r m P ds n (Exit.then (fun a w => ∃ e, Frm ds n e a ∧ F e w) (fun _ _ _ => False)) c env w) (h2 : ∀ e w', F e w' → NW ds n Q .normal e w') : CW r m P ds n Q c env w := fun a ha => wpIn_mono (h1 a ha) (fun ex a' w' hq => by
  cases ex with
  | normal => obtain ⟨e, hf, hF⟩ := hq; exact h2 e w' hF a' hf
  | exit id => exact False.elim hq
  | goto l => exact False.elim hq
  | ret => exact False.elim hq
  | panic ch => exact False.elim hq
  | outgrown => exact False.elim hq)
end
theorem Sk.nsl {K : Nat → Prop} {w : World} {v : Value} {a : Option Addr} {n c : Nat} {bs : List Int} (h : Sk K w a n c bs) (hs : SlB w v) : Sk (fun b => K b ∧ v.ownBlock ≠ some b) w a n c bs := ⟨h.ag, fun x hx hn => ⟨h.k x hx hn, fun e => by
  rcases h.ag.i with ⟨h1, _⟩ | ⟨gb, off, h1, h2, h3, h4, h5, h7⟩
  · omega
  · rw [h1] at hx; cases hx
    obtain ⟨cs, T, fr, e1, e2⟩ := cells_of_cell (h7 0 (by have := h.len; omega))
    refine not_pr (hs gb cs T fr e e1) ⟨_, _, e2, fun _ _ _ => by simp⟩⟩⟩
theorem kp_own {X Y : World} {B : Nat} {row : Option Nat} (hg : X.grownBy Y row) (hrow : ∀ r, row = some r → B ≤ r ∧ ∃ o : Obj, X.heap[r]? = some o ∧ o.isCells = false) (k : Nat) (cs : Array Value) (T : TypeId) (fr : Nat × Nat) (hh : X.heap[k]? = some (.cells cs T fr)) : Y.heap[k]? = some (.cells cs T fr) := (hg.block k (lt_of_get hh) (fun e => by
  obtain ⟨_, o, ho, hc⟩ := hrow k e.symm
  rw [hh] at ho; cases ho; cases hc)).trans hh
theorem OwnL.cells {X : Nat → Prop} {w w' : World} {base : Nat} {v : Value} {l : PList} (h : OwnL X w base v l) (hz : w.heap.size ≤ w'.heap.size) (hc : ∀ (k : Nat) (cs : Array Value) (T : TypeId) (fr : Nat × Nat), w.heap[k]? = some (Obj.cells cs T fr) → w'.heap[k]? = some (Obj.cells cs T fr)) : OwnL X w' base v l := by
  obtain ⟨hX, vs, h1, ⟨h2, h3⟩, h4⟩ := h
  have hk : KpU (fun _ => False) w.heap.size w w' := ⟨hz, fun k cs T fr _ _ _ hh => hc k cs T fr hh⟩
  refine ⟨hX, vs, h1, ⟨h2, ?_⟩, fun j p e q1 q2 => ?_⟩
  · rcases h3 with q | ⟨g, cap, cur, e1, e2, e3, e4⟩
    · exact .inl q
    · exact .inr ⟨g, cap, cur, e1, e2, hc g _ _ _ e3, e4⟩
  · obtain ⟨a1, n1, c1, a2, n2, c2, e1, e2, e3, e4⟩ := h4 j p e q1 q2
    exact ⟨a1, n1, c1, a2, n2, c2, e1, e2, e3.kp hk (Nat.le_refl _) (fun _ _ h => h), e4.kp hk (Nat.le_refl _) (fun _ _ h => h)⟩
theorem OwnL.row {X : Nat → Prop} {w : World} {base : Nat} {v : Value} {l : PList} (h : OwnL X w base v l) : ∀ k, v.ownBlock = some k → ∃ cs, w.heap[k]? = some (.cells cs 34 (0, 0)) := by
  obtain ⟨hX, vs, h1, ⟨h2, h3⟩, h4⟩ := h
  intro k hk
  rcases h3 with ⟨rfl, _⟩ | ⟨g, cap, cur, rfl, hbg, hg, _⟩
  · simp [Value.ownBlock] at hk
  · simp only [Value.ownBlock, Option.some.injEq] at hk
    subst hk
    exact ⟨cur, hg⟩
theorem SlB.cells {X : Nat → Prop} {w w' : World} {base : Nat} {v : Value} {l : PList} (hs : SlB w v) (h : OwnL X w base v l) (hc : ∀ (k : Nat) (cs : Array Value) (T : TypeId) (fr : Nat × Nat), w.heap[k]? = some (Obj.cells cs T fr) → w'.heap[k]? = some (Obj.cells cs T fr)) : SlB w' v := fun k cur T fr hk hh => by
  obtain ⟨cs, e⟩ := h.row k hk
  have := hc k _ _ _ e
  rw [this] at hh; cases hh
  exact hs k _ _ _ hk e
/-- What holds ahead of each round: the row that grows. -/
structure BaI (w V : World) (gA : Nat) (pre : PList) (W : World) : Prop where
  b : Bl w W
  ex : ∃ v, Rw gA W #[v] 22 ∧ OwnL (fun b => b ≠ gA) W V.heap.size v pre ∧ SlB W v
  kp : ∀ (k : Nat) (cs : Array Value) (T : TypeId) (fr : Nat × Nat), k ≠ gA → V.heap[k]? = some (Obj.cells cs T fr) → W.heap[k]? = some (Obj.cells cs T fr)
  sz : V.heap.size ≤ W.heap.size
theorem BaI.own {w V : World} {gA : Nat} {B : Nat} (hB : w.heap.size ≤ B) : OwnFrom B (BaI w V gA) := fun pre X Y row hs hg hrow => by
  obtain ⟨v, h1, h2, h3⟩ := hs.ex
  have hc := kp_own hg hrow
  exact ⟨Below.grown hs.b hg hs.b.size (fun k e => Nat.le_trans hB (hrow k e).1), ⟨v, hc _ _ _ _ h1, h2.cells hg.size hc, h3.cells h2 hc⟩, fun k cs T fr hk hh => hc _ _ _ _ (hs.kp k cs T fr hk hh), Nat.le_trans hs.sz hg.size⟩
theorem run_ents : ∀ {r : PList} {lk : Option (List Int)} {u : Tr} {l0 : PList}, SrtP r → (∀ e ∈ r, Byk e.1 ∧ e.1.length ≤ 32 ∧ 0 < e.2.length ∧ e.2.length ≤ 256) → (∀ k0, lk = some k0 → ∀ e ∈ r, Ni.lessP k0 e.1 = true) → Lst lk l0 → Rel u l0 → runE lk r = 0 ∧ Rel (runT u r) (l0 ++ r)
  | [], lk, u, l0, _, _, _, _, hR => ⟨rfl, by rw [List.append_nil]; exact hR⟩
  | (k, x) :: r, lk, u, l0, hs, hb, hk, hL, hR => by
    obtain ⟨b1, b2, b3, b4⟩ := hb _ List.mem_cons_self
    have hz : addE lk k x = 0 := by
      unfold addE
      rw [if_pos b2, if_pos ⟨b3, b4⟩]
      cases lk with
      | none => rfl
      | some k0 => simp only; rw [if_pos (hk k0 rfl _ List.mem_cons_self)]
    have hs' := List.pairwise_cons.1 hs
    obtain ⟨s1, s2⟩ := hL.step hz
    have hp := hR.put (k := k) (x := x) b1
    rw [s1] at hp s2
    have := run_ents (r := r) (lk := some k) hs'.2 (fun e he => hb e (List.mem_cons_of_mem _ he)) (fun k0 e0 e he => by cases e0; exact hs'.1 e he) s2 hp
    simp only [runE, runT]
    rw [if_pos hz]
    exact ⟨this.1, by have h2 := this.2; rw [List.append_assoc] at h2; exact h2⟩
theorem Rel.runs {t : Tr} {l : PList} (h : Rel t l) : runE none l = 0 ∧ runT no l = t := by
  obtain ⟨h1, h2⟩ := run_ents (lk := none) (u := no) (l0 := []) h.s (fun e he => by
    obtain ⟨q1, q2, q3, q4⟩ := (h.m e.1 e.2).1 he
    exact ⟨q1, q2, List.length_pos_iff.2 q3, h.v _ _ he⟩) (fun k0 e0 => by cases e0) rfl Rel.nil
  rw [List.nil_append] at h2
  refine ⟨h1, h.one h2.ok (fun q hq hg => ?_) (fun k x hm => ((h2.m k x).1 hm).2.2.2)⟩
  obtain ⟨k, k1, k2, rfl⟩ := h2.e q hq hg
  exact ⟨k, ⟨_, (h2.m k _).2 ⟨k1, k2, hg, rfl⟩⟩, k1, k2, rfl⟩
theorem OwnL.none {X : Nat → Prop} {w : World} {base : Nat} (hX : ∀ b, base ≤ b → X b) : OwnL X w base (.slice none 0 0) [] := ⟨hX, [], rfl, World.ownsRow_nil w base _ 2, fun j p e q => by simp at q⟩
theorem OwnL.one {X : Nat → Prop} {w : World} {base : Nat} {v : Value} {l : PList} (h : OwnL X w base v l) : v.oneCell' = true := by
  obtain ⟨a, c, vs, rfl, _⟩ := h.pat
  rfl
theorem OwnL.cel {X : Nat → Prop} {w : World} {base : Nat} {v : Value} {l : PList} (h : OwnL X w base v l) : v.cells = #[v] := by
  obtain ⟨a, c, vs, rfl, _⟩ := h.pat
  rfl
theorem OwnL.tou {gL : Nat} {w w' : World} {base : Nat} {v : Value} {l : PList} (h : OwnL (fun b => b ≠ gL) w base v l) (ht : Touch gL w w') (hg : gL < base) : OwnL (fun b => b ≠ gL) w' base v l := by
  obtain ⟨hX, vs, h1, ⟨h2, h3⟩, h4⟩ := h
  refine ⟨hX, vs, h1, ⟨h2, ?_⟩, fun j p e q1 q2 => ?_⟩
  · rcases h3 with q | ⟨g, cap, cur, e1, e2, e3, e4⟩
    · exact .inl q
    · exact .inr ⟨g, cap, cur, e1, e2, (ht.block g (lt_of_get e3) (by omega)).trans e3, e4⟩
  · obtain ⟨a1, n1, c1, a2, n2, c2, e1, e2, e3, e4⟩ := h4 j p e q1 q2
    exact ⟨a1, n1, c1, a2, n2, c2, e1, e2, e3.tou ht (fun hb => hb.2 rfl), e4.tou ht (fun hb => hb.2 rfl)⟩
set_option maxHeartbeats 8000000 in
theorem bulkall_any {K : Nat → Prop} (a : Option Addr) (n c : Nat) (vs : List (Value × Value)) (l : PList) (w : World) (hl : PAt K w a n c vs l) (hn : n ≤ 2932031007317) :
    Calls Tryz.prog 6 #[.slice a n c] w fun e w' => e = .returned (.bool true) ∧ Bl w w' := by
  have hB := Bl.refl w
  have hlo := hl.old
  have hll := hl.ll
  refine cw_enterM Tryz.func6 rfl 61 rfl ?_
  show CW _ _ _ _ _ _ _ [(0, .slice a n c)] _
  refine cw_seq ?_
  refine cw_region ?_
  refine rp 2 (.bool false) ?_
  refine rw_nil ?_
  refine nw_then ?_
  refine cw_seq ?_
  refine cw_region ?_
  refine rw_call 11 17 #[] (fun _ => by kernel_rfl) (fun _ => by kernel_rfl) (R := fun u w' => (∃ g, u = .pointer (some ⟨g, 0, none⟩) ∧ w.heap.size ≤ g ∧ Tri (fun _ => True) w' g no) ∧ Bl w w') (new_any) ?_
  rintro _ u2 ⟨⟨g, rfl, hgT, hT⟩, hb2⟩
  replace hB := hB.go hb2
  refine rp 3 (.pointer (some ⟨g, 0, none⟩)) ?_
  refine rw_nil ?_
  refine nw_then ?_
  refine cw_seq ?_
  refine cw_seq ?_
  refine cw_region ?_
  refine rp 12 (.pointer (some ⟨g, 0, none⟩)) ?_
  refine rp 13 (.bool false) ?_
  refine rp 14 (.bool false) ?_
  refine rw_call 15 10 #[] (fun _ => by kernel_rfl) (fun _ => by kernel_rfl) (R := fun u w' => u = .bool true ∧ Bl u2 w') (alive_any) ?_
  rintro _ u3 ⟨rfl, hb3⟩
  replace hB := hB.go hb3
  replace hT := hT.go hb3
  refine rp 16 (.bool false) ?_
  refine rp 17 (.bool false) ?_
  refine rw_nil ?_
  refine nw_then ?_
  refine cw_cond_f (fun _ => by kernel_rfl) ?_
  refine cw_skip ?_
  refine nw_then ?_
  refine cw_seq ?_
  refine cw_seq ?_
  refine cw_region ?_
  refine rp 18 (.slice a n c) ?_
  refine rp 19 (.int .i64 n) ?_
  refine rp 20 (.int .i64 0) ?_
  refine rw_nil ?_
  refine nw_then ?_
  refine cw_block ?_
  refine cw_loop (X := Nat × Tr × PList) (fun q => [(20, .int .i64 ((q.1 : Nat) : Int)), (18, .slice a n c), (19, .int .i64 n), (3, .pointer (some ⟨g, 0, none⟩))]) (fun q v => Bl w v ∧ Tri (fun _ => True) v g q.2.1 ∧ Rel q.2.1 q.2.2 ∧ q.2.2.length ≤ q.1 ∧ q.1 ≤ n ∧ Tr.sz q.2.1 ≤ 3 * q.1) (fun q => n - q.1) (0, no, []) (by exact ⟨fun _ => by kernel_rfl, ⟨fun _ => by kernel_rfl, ⟨fun _ => by kernel_rfl, ⟨fun _ => by kernel_rfl, trivial⟩⟩⟩⟩) ⟨hB, hT, Rel.nil, Nat.le_refl _, Nat.zero_le _, by simp [Tr.sz]⟩ ?_
  clear hB hT
  rintro ⟨j, t, lt⟩ v ⟨hB, hT, hRel, hlm, hj, hz⟩
  simp only at hB hT hRel hlm hj hz
  show CW _ _ _ _ _ _ _ [(20, .int .i64 ((j : Nat) : Int)), (18, .slice a n c), (19, .int .i64 n), (3, .pointer (some ⟨g, 0, none⟩))] _
  by_cases hlt : j < n
  · skip
    obtain ⟨gE, oE, a1, n1, c1, a2, n2, c2, k, x, ea, hej, hc1, hc2, hs1, hs2⟩ := (hlo.go hB).at hlt
    subst ea
    refine cw_seq ?_
    refine cw_region ?_
    refine rv 21 (.bool true) (fun _ => ol_conv (v := .bool (decide (((j : Nat) : Int) < (n : Int)))) (by kernel_rfl) (congrArg Value.bool (decide_eq_true (by omega)))) ?_
    refine rw_nil ?_
    refine nw_then ?_
    refine cw_seq ?_
    refine cw_cond_t (fun _ => by kernel_rfl) ?_
    refine cw_skip ?_
    refine nw_then ?_
    refine cw_seq ?_
    refine cw_block ?_
    refine cw_seq ?_
    refine cw_region ?_
    refine rv 22 (.pointer (some ⟨gE, oE + j * 2, none⟩)) (fun _ => ol_index 22 _ _ gE oE j n c 2 34 rfl (by kernel_rfl) (by kernel_rfl) hlt Tryz.underlying22 (by kernel_rfl)) ?_
    refine rv 23 (.agg #[.slice a1 n1 c1, .slice a2 n2 c2]) (fun _ => ol_mid 34 _ gE (oE + j * 2) [.slice a1 n1 c1, .slice a2 n2 c2] _ rfl (by kernel_rfl) (rng2 hc1 hc2) Tryz.underlying34 rfl (by kernel_rfl)) ?_
    refine rw_new 5 #[.slice none 0 0, .slice none 0 0] 34 (fun _ => by kernel_rfl) (fun _ => by kernel_rfl) ?_
    intro wA gA hnA
    refine rw_put gA #[.slice a1 n1 c1, .slice a2 n2 c2] (fun _ => by kernel_rfl) (fun _ => ol_store 34 _ _ _ _ _ _ rfl (by kernel_rfl) (by kernel_rfl) hnA.row (by kernel_rfl) rfl (by kernel_rfl)) ?_
    intro wC hpC
    have hnC := hnA.put hpC
    have hgA := hnC.hg
    replace hB := hB.go hnC.below
    replace hT := hT.go hnC.below
    replace hs1 := hs1.go hnC.below
    replace hs2 := hs2.go hnC.below
    have hrA : Rw gA wC #[.slice a1 n1 c1, .slice a2 n2 c2] 34 := hnC.row
    refine rw_nil ?_
    refine nw_then ?_
    refine cw_region ?_
    refine rp 24 (.pointer (some ⟨g, 0, none⟩)) ?_
    refine rp 25 (.pointer (some ⟨gA, 0, none⟩)) ?_
    refine rv 26 (.slice a1 n1 c1) (fun _ => ol_cell 32 _ ⟨gA, 0, none⟩ _ _ rfl (by kernel_rfl) (by rw [cell_of_row _ _ _ _ _ _ hrA]; rfl) Tryz.underlying32 rfl) ?_
    refine rp 27 (.pointer (some ⟨gA, 1, none⟩)) ?_
    refine rv 28 (.slice a2 n2 c2) (fun _ => ol_cell 32 _ ⟨gA, 1, none⟩ _ _ rfl (by kernel_rfl) (by rw [cell_of_row _ _ _ _ _ _ hrA]; rfl) Tryz.underlying32 rfl) ?_
    have hkB : isB k := hs1.ag.b
    refine rw_call 29 18 #[.pointer (some ⟨g, 0, none⟩), .slice a1 n1 c1, .slice a2 n2 c2] (fun _ => by kernel_rfl) (fun _ => by kernel_rfl) (R := fun u w' => u = .int .i64 (putE k x) ∧ Tri (fun _ => True) w' g (putT t k x) ∧ Touch g (wC) w') ((tput_any hT hs1 hs2 (fun _ _ => trivial))) ?_
    rintro _ u5 ⟨rfl, hTn, hto⟩
    replace hB : Bl w u5 := hto.below hB hgT hB.size
    replace hT := hTn
    refine rw_nil ?_
    refine nw_block ?_
    refine nw_then ?_
    refine cw_region ?_
    refine rv 30 (.int .i64 (((j : Nat) : Int) + 1)) (fun _ => ol_conv (v := .int .i64 (IntKind.i64.wrap (((j : Nat) : Int) + 1))) (by kernel_rfl) (congrArg (Value.int .i64) (wrap64 (by omega) (by omega)))) ?_
    refine rp 20 (.int .i64 (((j : Nat) : Int) + 1)) ?_
    refine rw_nil ?_
    exact nw_round (E := fun q => [(20, .int .i64 ((q.1 : Nat) : Int)), (18, .slice (some ⟨gE, oE, none⟩) n c), (19, .int .i64 n), (3, .pointer (some ⟨g, 0, none⟩))]) (R := fun q v => Bl w v ∧ Tri (fun _ => True) v g q.2.1 ∧ Rel q.2.1 q.2.2 ∧ q.2.2.length ≤ q.1 ∧ q.1 ≤ n ∧ Tr.sz q.2.1 ≤ 3 * q.1) (μ := fun q => n - q.1) (x := (j, t, lt)) (j + 1, putT t k x, putL lt k x) (by exact ⟨fun _ => by kernel_rfl, ⟨fun _ => by kernel_rfl, ⟨fun _ => by kernel_rfl, ⟨fun _ => by kernel_rfl, trivial⟩⟩⟩⟩) ⟨hB, hT, hRel.put hkB, by have := len_putL lt k x; show (putL lt k x).length ≤ j + 1; omega, by simp only; omega, by show Tr.sz (putT t k x) ≤ 3 * (j + 1); have := sz_putT t k x; omega⟩ (by show n - (j + 1) < n - j; omega)
  obtain rfl : j = n := by omega
  show CW _ _ _ _ _ _ _ [(20, .int .i64 ((j : Nat) : Int)), (18, .slice a j c), (19, .int .i64 ((j : Nat) : Int)), (3, .pointer (some ⟨g, 0, none⟩))] _
  have hM : (nmd t).length + 1 ≤ 8800000000000 := by have := nmd_le t; omega
  have hdl := rootP_len8 t
  obtain ⟨ds, hds⟩ : ∃ ds, rootP t = ds := ⟨_, rfl⟩
  rw [hds] at hdl
  refine cw_seq ?_
  refine cw_region ?_
  refine rv 21 (.bool false) (fun _ => ol_conv (v := .bool (decide (((j : Nat) : Int) < ((j : Nat) : Int)))) (by kernel_rfl) (congrArg Value.bool (decide_eq_false (by omega)))) ?_
  refine rw_nil ?_
  refine nw_then ?_
  refine cw_seq ?_
  refine cw_cond_f (fun _ => by kernel_rfl) ?_
  refine cw_exit ?_
  refine nw_exit_then ?_
  refine nw_exit_then ?_
  refine nw_exit_here ?_
  refine nw_then ?_
  refine cw_seq ?_
  refine cw_region ?_
  have hTl := hT.lt
  have hTo := hT.old
  refine rw_new 6 #[.slice none 0 0] 22 (fun _ => by kernel_rfl) (fun _ => by kernel_rfl) ?_
  intro w6 gL hn6
  have hgL := hn6.hg
  replace hB := hB.go hn6.below
  replace hT := hT.go hn6.below
  have hL : Rw gL w6 #[.slice none 0 0] 22 := hn6.row
  have hTk : Tri (fun b => b ≠ gL) w6 g t := (hTo.go hn6.below).mono (fun b hb => by have : b < _ := hb; omega)
  have hgne : g ≠ gL := by omega
  refine rw_nil ?_
  refine nw_then ?_
  refine cw_seq ?_
  refine cw_seq ?_
  refine cw_region ?_
  refine rp 31 (.pointer (some ⟨g, 0, none⟩)) ?_
  refine rw_call 32 21 #[.pointer (some ⟨g, 0, none⟩)] (fun _ => by kernel_rfl) (fun _ => by kernel_rfl) (R := fun u w' => (∃ gB, u = .func (.func 43) #[] #[.pointer (some ⟨gB, 0, none⟩)] ∧ Rw gB w' #[.pointer (some ⟨g, 0, none⟩)] 42 ∧ w6.heap.size ≤ gB) ∧ Bl w6 w') (all_any (g := g)) ?_
  rintro _ w7 ⟨⟨gB, rfl, hgB, hzB⟩, hb7⟩
  replace hB := hB.go hb7
  replace hT := hT.go hb7
  replace hL := hL.go hb7
  replace hTk := hTk.go hb7
  refine rw_nil ?_
  refine nw_then ?_
  refine cw_block ?_
  refine cw_sub [(3, .pointer (some ⟨g, 0, none⟩)), (6, .pointer (some ⟨gL, 0, none⟩)), (32, .func (.func 43) #[] #[.pointer (some ⟨gB, 0, none⟩)])] (by exact ⟨fun _ => by kernel_rfl, ⟨fun _ => by kernel_rfl, ⟨fun _ => by kernel_rfl, trivial⟩⟩⟩) ?_
  have hlL := lt_of_get hL
  have hents := hRel.ents
  obtain ⟨⟨vT, hrT, htT⟩, hok⟩ := id hTk
  refine cw_rangeV 43 #[.pointer (some ⟨gB, 0, none⟩)] (fun _ => by kernel_rfl) (by decide) (by decide) (by decide) (fun args w => by kernel_rfl) (U := fun b => b = gL) (L := lt) (fun lp J Wq hbq V hJ0 => (all1_any V (hgB.go hbq) hJ0 (Nat.le_refl _) (hrT.go hbq) (htT.go hbq) hok (fun b hb hu => hb hu) (by rw [hents]; exact List.prefix_rfl)).mono (fun e W' ⟨u, e1, h⟩ => ⟨u, e1, by rw [← hents]; exact h.resolve_right id⟩)) (fun b hu => by have e : b = gL := hu; omega) (BaI w w7 gL) (BaI.own hB.size) ⟨hB, ⟨_, hL, OwnL.none (fun b hb => by omega), SlB.nil _⟩, fun _ _ _ _ _ hh => hh, Nat.le_refl _⟩ (fun u v e => e = [(3, .pointer (some ⟨g, 0, none⟩)), (6, .pointer (some ⟨gL, 0, none⟩)), (7, u), (8, v)]) ?_ ?_ ?_
  · intro lp u v W
    refine cw_seq ?_
    refine cw_region ?_
    refine rp 7 (u) ?_
    refine rw_nil ?_
    refine nw_then ?_
    refine cw_region ?_
    refine rp 8 (v) ?_
    refine rw_nil ?_
    exact fun a ha => ⟨rfl, _, ha.sub (env' := [(3, .pointer (some ⟨g, 0, none⟩)), (6, .pointer (some ⟨gL, 0, none⟩)), (7, u), (8, v)]) (by exact ⟨fun _ => by kernel_rfl, ⟨fun _ => by kernel_rfl, ⟨fun _ => by kernel_rfl, ⟨fun _ => by kernel_rfl, trivial⟩⟩⟩⟩), rfl⟩
  · intro lp pre W M a1 a2 n1 c1 n2 c2 k x e hlp hrec hIv hpre hM1 hM2 hs1 hs2 he
    subst he
    obtain ⟨hB, ⟨v, hL, hO, hS⟩, hkp, hsz⟩ := hIv
    have hlen : pre.length + 1 ≤ lt.length := by obtain ⟨sf, hsf⟩ := hpre; rw [← hsf]; simp
    have hlL2 := lt_of_get hL
    refine cw_block ?_
    refine cw_region ?_
    refine rv 35 (v) (fun _ => ol_cell 22 _ ⟨gL, 0, none⟩ _ _ rfl (by kernel_rfl) (by rw [cell_of_row _ _ _ _ _ _ hL]; rfl) Tryz.underlying22 rfl) ?_
    refine rp 36 (.slice a1 n1 c1) ?_
    refine rp 37 (.slice a2 n2 c2) ?_
    refine rp 38 (.agg #[.slice a1 n1 c1, .slice a2 n2 c2]) ?_
    refine rw_newS 39 #[.slice a1 n1 c1, .slice a2 n2 c2] 34 1 (fun _ => by kernel_rfl) (fun _ => by kernel_rfl) ?_
    intro W1 gN hnN
    have hP1 := PAt.one (K := fun b => w7.heap.size ≤ b ∧ v.ownBlock ≠ some b) hnN ((hs1.nsl hS).mono (fun b hb => ⟨by have := hb.1; omega, hb.2⟩)) ((hs2.nsl hS).mono (fun b hb => ⟨by have := hb.1; omega, hb.2⟩)) ⟨by rw [hnN.hg]; exact hsz, fun e => by have := (hO.own gN e).2; have := hnN.hg; omega⟩
    have hO1 := hO.far hnN.below
    have hS1 := hS.go hnN.below (fun k hk => (hO.own k hk).2)
    have hL1 := hL.go hnN.below
    obtain ⟨v2, W2, hr2, hO2, hS2, hb2_, hk2, hv2⟩ := appS hO1 hS1 hP1 (fun b hb => ⟨hb.2, by have := hb.1; omega⟩) (by omega) (by have := hnN.below.size; omega)
    refine rw_v 40 v2 (fun _ => by kernel_rfl) (fun _ => ol_app2 hr2 _ _ rfl (by kernel_rfl) (by kernel_rfl)) ?_
    have hLo : v.ownBlock ≠ some gL := fun e => by have := (hO.own gL e).1; omega
    have hL2 : Rw gL W2 #[v] 22 := (hk2 gL (lt_of_get hL1) hLo).trans hL1
    refine rw_set1 gL 0 v2 (fun _ => by kernel_rfl) (fun _ => ol_setC 22 _ _ gL 0 _ 22 _ hL2 rfl (by kernel_rfl) (by kernel_rfl) (by show 0 < 1; omega) hO2.cel hO2.one (by kernel_rfl)) ?_
    intro W3 hs3
    refine rw_nil ?_
    refine nw_block ?_
    have hz3 : W3.heap.size = W2.heap.size := hs3.size
    have hz2 : W1.heap.size ≤ W2.heap.size := Below.size hb2_
    have hz1 : W.heap.size ≤ W1.heap.size := hnN.below.size
    have hkk : ∀ (k : Nat) (cs : Array Value) (T : TypeId) (fr : Nat × Nat), k ≠ gL → Pr cs → W.heap[k]? = some (Obj.cells cs T fr) → W3.heap[k]? = some (Obj.cells cs T fr) := fun k cs T fr hk hP hh => ((hs3.other hk).trans ((hk2 k (Nat.lt_of_lt_of_le (lt_of_get hh) hz1) (fun e => not_pr (hS k cs T fr e hh) hP)).trans (Below.block hnN.below k (lt_of_get hh)))).trans hh
    have hko : ∀ (k : Nat) (o : Obj), k ≠ gL → v.ownBlock ≠ some k → W.heap[k]? = some o → W3.heap[k]? = some o := fun k o hk he hh => ((hs3.other hk).trans ((hk2 k (Nat.lt_of_lt_of_le (lt_of_get hh) hz1) he).trans (Below.block hnN.below k (lt_of_get hh)))).trans hh
    have hnc : ∀ (k : Nat) (o : Obj), W.heap[k]? = some o → o.isCells = false → v.ownBlock ≠ some k := fun k o hh hc e => by obtain ⟨cs, hcs⟩ := hO.row k e; rw [hcs] at hh; cases hh; cases hc
    have hL3 : Rw gL W3 #[v2] 22 := hL2.set hs3 rfl
    have hne2 : ∀ k, v2.ownBlock = some k → k ≠ gL := fun k hk e => by have := (hO2.own k hk).1; omega
    have hO3 : OwnL (fun b => b ≠ gL) W3 w7.heap.size v2 (pre ++ [(k, x)]) := hO2.tou hs3.touch (by omega)
    have hS3 : SlB W3 v2 := fun k cur T fr hk hh => hS2 k cur T fr hk ((hs3.other (hne2 k hk)).symm.trans hh)
    refine nw_own ⟨by omega, fun q o hq ho hc => hko q o (by omega) (hnc q o ho hc) ho⟩ ⟨by omega, fun q cs T fr _ hU hP hh => hkk q cs T fr hU hP hh⟩ ⟨?_, ⟨v2, hL3, hO3, hS3⟩, fun q cs T fr hq hh => ?_, by omega⟩
    · refine Below.trans hB ⟨?_, ?_, ?_, by omega, fun q hq => ?_⟩
      · rw [hs3.touch.os, Below.os hb2_, Below.os hnN.below]
      · rw [hs3.touch.tape, Below.tape hb2_, Below.tape hnN.below]
      · rw [hs3.touch.output, Below.output hb2_, Below.output hnN.below]
      · exact (hs3.other (by omega)).trans ((Below.block hb2_ q (by omega)).trans (Below.block hnN.below q (by have := Below.size hB; omega)))
    · exact hko q _ hq (fun e => by have := (hO.own q e).1; have := lt_of_get hh; omega) (hkp q cs T fr hq hh)
  intro D W hD hIv hdd
  have hB7 := hB
  obtain ⟨hB, ⟨v, hL, hO, hS⟩, hkp, hsz⟩ := hIv
  obtain ⟨aV, cV, vsV, rfl, hPt⟩ := hO.pat
  have hTW : Tri (fun _ => True) W g t := by
    refine ⟨⟨vT, hkp g _ _ _ hgne hrT, (htT.kp (U := fun b => b = gL) (M := w7.heap.size) ⟨hsz, fun q cs T fr _ hq _ hh => hkp q cs T fr hq hh⟩ (Nat.le_refl _) (fun b hb => hb)).mono (fun _ _ => trivial)⟩, hok⟩
  refine nw_block ?_
  refine nw_then ?_
  refine cw_seq ?_
  refine cw_region ?_
  refine rv 42 (.slice aV lt.length cV) (fun _ => ol_cell 22 _ ⟨gL, 0, none⟩ _ _ rfl (by kernel_rfl) (by rw [cell_of_row _ _ _ _ _ _ hL]; rfl) Tryz.underlying22 rfl) ?_
  refine rw_call 43 8 #[.slice aV lt.length cV] (fun _ => by kernel_rfl) (fun _ => by kernel_rfl) (R := fun u w' => u = .tuple #[.agg (B8 ds), .int .i64 0] ∧ Bl W w') (((bulkroot_any hPt (by omega)).mono (fun e w' ⟨u, e1, e2, e3⟩ => ⟨u, e1, by rw [e2, if_pos hRel.runs.1, hRel.runs.1, hRel.runs.2, hds], e3⟩))) ?_
  rintro _ u7 ⟨rfl, hb8⟩
  replace hB := hB.go hb8
  replace hTW := hTW.go hb8
  replace hL := hL.go hb8
  replace hdd := (Below.block hb8 D (lt_of_get hdd)).trans hdd
  refine rp 41 (.tuple #[.agg (B8 ds), .int .i64 0]) ?_
  refine rp 44 (.agg (B8 ds)) ?_
  refine rp 45 (.int .i64 0) ?_
  refine rw_new 9 (B8 z32) 24 (fun _ => by kernel_rfl) (fun _ => by kernel_rfl) ?_
  intro w8 gd hnd
  refine rw_put gd (B8 ds) (fun _ => by kernel_rfl) (fun _ => ol_store 24 _ _ _ _ _ _ rfl (by kernel_rfl) (by kernel_rfl) hnd.row (infoD' hdl) (z8_size hdl) (B8_one _)) ?_
  intro w9 hp9
  have hnd9 := hnd.put hp9
  replace hB := hB.go hnd9.below
  replace hTW := hTW.go hnd9.below
  replace hL := hL.go hnd9.below
  replace hdd := (Below.block hnd9.below D (lt_of_get hdd)).trans hdd
  have hdr : Rw gd w9 (B8 ds) 24 := hnd9.row
  refine rp 10 (.int .i64 0) ?_
  refine rw_nil ?_
  refine nw_then ?_
  refine cw_seq ?_
  refine cw_only (fun E v => E = [(2, .bool true)] ∧ Bl w v ∧ v.heap[D]? = some (.deferred (some []))) ?_ ?_
  · skip
    have hV := Bl.refl w9
    have hL9 := hL
    have hdr9 := hdr
    refine cw_draw (fun v => Bl w9 v) (by kernel_rfl) (hV.drew) ?_
    replace hB := hB.drew
    replace hTW := hTW.drew
    replace hL := hL.drew
    replace hdr := hdr.drew
    replace hV := hV.drew
    refine dt 0 46 (.int .i64 0) (fun v hv _ => by kernel_rfl) hV ?_
    refine dt 1 47 (.bool true) (fun v hv _ => by kernel_rfl) hV ?_
    refine dt 2 48 (.bool true) (fun v hv _ => by kernel_rfl) hV ?_
    refine dt 3 49 (.agg (B8 ds)) (fun v hv _ => ol_row 24 _ _ _ _ _ _ rfl (by kernel_rfl) (hdr9.go hv) Tryz.underlying24 rfl (infoD' hdl)) hV ?_
    refine dt 4 50 (.pointer (some ⟨g, 0, none⟩)) (fun v hv _ => by kernel_rfl) hV ?_
    refine dw_ready [5] (by kernel_rfl) (by simp) ?_
    refine ar_call 5 51 19 #[.pointer (some ⟨g, 0, none⟩)] rfl (fun _ => by kernel_rfl) (fun _ => by kernel_rfl) (R := fun u w' => u = .agg (B8 ds) ∧ Bl (w9.drew) w') (((root_any hTW hM).mono (fun e w' ⟨u, e1, e2, e3⟩ => ⟨u, e1, by rw [e2, hds], e3⟩))) (fun u w' h => hV.go h.2) ?_ ar_nil
    rintro _ u8 ⟨rfl, hb9⟩
    replace hB := hB.go hb9
    replace hTW := hTW.go hb9
    replace hL := hL.go hb9
    replace hdd := (Below.block hb9 D (lt_of_get hdd)).trans hdd
    replace hdr := hdr.go hb9
    replace hV := hV.go hb9
    refine dt 6 52 (.bool true) (fun v hv _ => ol_eqD rfl (by kernel_rfl) (by kernel_rfl) hdl) hV ?_
    refine dt 7 53 (.bool true) (fun v hv _ => by kernel_rfl) hV ?_
    refine dt 8 54 (.bool true) (fun v hv _ => by kernel_rfl) hV ?_
    refine dt 9 55 (.slice aV lt.length cV) (fun v hv _ => ol_cell 22 _ ⟨gL, 0, none⟩ _ _ rfl (by kernel_rfl) (by rw [cell_of_row _ _ _ _ _ _ (hL9.go hv)]; rfl) Tryz.underlying22 rfl) hV ?_
    refine dt 10 56 (.int .i64 lt.length) (fun v hv _ => by kernel_rfl) hV ?_
    refine dt 11 57 (.pointer (some ⟨g, 0, none⟩)) (fun v hv _ => by kernel_rfl) hV ?_
    refine dw_ready [12] (by kernel_rfl) (by simp) ?_
    refine ar_call 12 58 20 #[.pointer (some ⟨g, 0, none⟩)] rfl (fun _ => by kernel_rfl) (fun _ => by kernel_rfl) (R := fun u w' => u = .int .i64 ((lt.length : Nat) : Int) ∧ Bl (u8) w') (((len_any hTW (by rw [hRel.ents]; omega)).mono (fun e w' ⟨u, e1, e2, e3⟩ => ⟨u, e1, by rw [e2, hRel.ents], e3⟩))) (fun u w' h => hV.go h.2) ?_ ar_nil
    rintro _ u9 ⟨rfl, hb10⟩
    replace hB := hB.go hb10
    replace hTW := hTW.go hb10
    replace hL := hL.go hb10
    replace hdd := (Below.block hb10 D (lt_of_get hdd)).trans hdd
    replace hdr := hdr.go hb10
    replace hV := hV.go hb10
    refine dt 13 59 (.bool true) (fun v hv => (fun _ => ol_conv (v := .bool ((lt.length : Int) == ((lt.length : Nat) : Int))) (by kernel_rfl) (congrArg Value.bool (beq_self_eq_true _)))) hV ?_
    refine dt 14 60 (.bool true) (fun v hv _ => by kernel_rfl) hV ?_
    refine dt 15 2 (.bool true) (fun v hv _ => by kernel_rfl) hV ?_
    refine dw_done (by kernel_rfl) ?_
    exact nw_cut [(2, .bool true)] (by exact ⟨fun _ => by kernel_rfl, trivial⟩) ⟨rfl, hB, hdd⟩
  rintro _ v ⟨rfl, hB, hdd⟩
  refine nw_then ?_
  refine cw_ret ?_
  exact nw_ret_marks hdd (.bool true) (fun _ => by kernel_rfl) ⟨rfl, Below.grown hB (grownBy_putObj' _ _ _) hB.size (fun k e => by cases e; exact Nat.le_trans hB7.size hD)⟩
end Go.Proofs.YtdkpilgelgjieaaGreat
/- How a slice of bytes that is handed in reads as data: nil, or a row of bytes that takes no more than the form's own reach. -/
namespace Go.Proofs.YtdkpilgelgjieaaGreat
open Go.ChangeShapes Go.WideShapes Go.ChangeAt Go.RowKit
open Go.ChangeMaps (open_string shut_string)
set_option linter.unusedVariables false
set_option maxRecDepth 100000
theorem own : ownKnob Tryz.prog.godebug = none := by kernel_rfl
theorem laidOut : laidOutB Tryz.prog = true := by kernel_rfl
theorem cells5 : Tryz.prog.cellsOf 5 = 1 := by kernel_rfl
theorem bytes5 : Tryz.prog.bytesOf 5 = 1 := by kernel_rfl
end Go.Proofs.YtdkpilgelgjieaaGreat
