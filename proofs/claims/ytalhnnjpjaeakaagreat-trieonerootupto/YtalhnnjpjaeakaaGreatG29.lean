/- The nodes of any trie, in order. -/
import Derived.Test.YtalhnnjpjaeakaaGreatG26
import Derived.Test.YtalhnnjpjaeakaaGreatG27
import Derived.Test.YtalhnnjpjaeakaaGreatG28
import Derived.Test.YtalhnnjpjaeakaaGreatG01
import Derived.Test.YtalhnnjpjaeakaaGreatG19
import Derived.Test.YtalhnnjpjaeakaaGreatG24
import Derived.Test.YtalhnnjpjaeakaaGreatG25
import Derived.Test.YtalhnnjpjaeakaaGreatG03
import Derived.OrdersIn
import Derived.Test.YtalhnnjpjaeakaaGreatG23
namespace Go.Proofs.YtalhnnjpjaeakaaGreat
open Go.RowKit
open Tr
open Ni (lessP)
set_option linter.unusedVariables false
set_option maxRecDepth 100000
/-- A byte string among others that rise. -/
def insB (b : List Int) : List (List Int) → List (List Int)
  | [] => [b]
  | x :: r => if b = x then x :: r else if lessP b x then b :: x :: r else x :: insB b r
theorem mem_insB (b y : List Int) : ∀ l : List (List Int), y ∈ insB b l ↔ y = b ∨ y ∈ l
  | [] => by simp [insB]
  | x :: r => by
    have ih := mem_insB b y r
    simp only [insB]
    by_cases h : b = x
    · subst h; rw [if_pos rfl]; simp
    · rw [if_neg h]
      by_cases k : lessP b x = true
      · rw [if_pos k]; simp
      · rw [if_neg k]; simp only [List.mem_cons, ih]; constructor
        · rintro (q | q | q)
          · exact .inr (.inl q)
          · exact .inl q
          · exact .inr (.inr q)
        · rintro (q | q | q)
          · exact .inr (.inl q)
          · exact .inl q
          · exact .inr (.inr q)
theorem srt_insB (b : List Int) : ∀ l : List (List Int), SrtB l → SrtB (insB b l)
  | [], _ => by simp [insB, SrtB]
  | x :: r, h => by
    obtain ⟨h1, h2⟩ := List.pairwise_cons.1 h
    simp only [insB]
    by_cases e : b = x
    · rw [if_pos e]; exact h
    · rw [if_neg e]
      by_cases k : lessP b x = true
      · rw [if_pos k]
        refine List.pairwise_cons.2 ⟨fun y hy => ?_, h⟩
        rcases List.mem_cons.1 hy with q | q
        · rw [q]; exact k
        · exact less_trans _ _ _ k (h1 y q)
      · rw [if_neg k]
        refine List.pairwise_cons.2 ⟨fun y hy => ?_, srt_insB b r h2⟩
        rcases (mem_insB b y r).1 hy with q | q
        · rw [q]; exact less_tot _ _ e (by simpa using k)
        · exact h1 y q
def insAll (l : List (List Int)) (M : List (List Int)) : List (List Int) := M.foldl (fun l b => insB b l) l
theorem insAll_spec : ∀ (M l : List (List Int)), SrtB l → SrtB (insAll l M) ∧ ∀ y, y ∈ insAll l M ↔ y ∈ l ∨ y ∈ M
  | [], l, h => ⟨h, by simp [insAll]⟩
  | b :: M, l, h => by
    have ih := insAll_spec M (insB b l) (srt_insB b l h)
    refine ⟨ih.1, fun y => ?_⟩
    rw [show insAll l (b :: M) = insAll (insB b l) M from rfl, ih.2, mem_insB, List.mem_cons]
    constructor
    · rintro ((q | q) | q)
      · exact .inr (.inl q)
      · exact .inl q
      · exact .inr (.inr q)
    · rintro (q | q | q)
      · exact .inl (.inr q)
      · exact .inl (.inl q)
      · exact .inr q
/-- The nodes of a tree, in order. -/
def nodesP (t : Tr) : List (List Int) := if t.isNo then [] else insAll [] (nmd t ++ [encT t])
theorem nodes_eq {M N : List (List Int)} (hp : N.Perm M) (hs : N.Pairwise (fun p q => lessP q p = false)) : dd N = insAll [] M := by
  have h := insAll_spec M [] (by simp [SrtB])
  refine srtB_uniq _ _ (dd_srt _ hs) h.1 fun x => ?_
  rw [mem_dd, h.2, hp.mem_iff]
  simp
theorem names_row {X : Nat → Prop} {w0 w : World} {gW base : Nat} {vN : Value} {ns : List (List Int)} (hW : Wt w gW base vN X ns) {gL : Nat} {a : Option Addr} {n c : Nat} {b : List Int} (hs : Sk (KW gW vN X) w a n c b) (hL : Rw gL w #[.slice a n c] 27) (hlen : ns.length + 1 ≤ 5000000000000) (hB : Bl w0 w) (hb0 : w0.heap.size ≤ base) :
    ∃ (gb cap : Nat) (cur : Array Value) (ps : List (Value × List Int)) (w' : World), (∀ ty, (Builtin.append_ #[41, 41] ty #[vN, .slice (some ⟨gL, 0, none⟩) 1 1]).run Tryz.prog w = .ok (.slice (some ⟨gb, 0, none⟩) (ns.length + 1) cap) w') ∧ Rw gb w' cur 27 ∧ cur.toList.take (ns.length + 1) = ps.map Prod.fst ∧ cur.size = cap ∧ ps.length = ns.length + 1 ∧ ns.length + 1 ≤ cap ∧ (∀ p ∈ ps, Gd (fun b => b ≠ gb ∧ X b) w' p) ∧ ps.map Prod.snd = ns ++ [b] ∧ w0.heap.size ≤ gb ∧ Bl w0 w' := by
  obtain ⟨i, hi, hz, hsz, hby⟩ := infoB
  have hlt := hW.lt
  have hbw := hW.b
  obtain ⟨vals, hown, hvl, hvs⟩ := hW.o
  obtain ⟨v', w', h1, h2, h3, h4, h5⟩ := run_append_own_at w base 41 0 27 i (.slice none 0 0) 1 24 Tryz.underlying41 hi hz hsz hby rfl (by decide) vN ns.length vals hown ⟨gL, 0, none⟩ 1 1 [.slice a n c] rfl (fun j u hu => by
      cases j with
      | zero => rw [addr_add, cell_of_row _ _ _ _ _ _ hL]; exact hu
      | succ j => simp at hu) (fun u hu => by rw [List.mem_singleton.1 hu]; rfl) (by unfold maxLen; omega) (by omega) (by omega)
  obtain ⟨hvl2, ho⟩ := h2
  rcases ho with ⟨e, hn⟩ | ⟨gb, cap, cur, rfl, hgb, hg, hc1, hc2, hc3, hc4⟩
  · omega
  have hown0 : ∀ k, vN.ownBlock = some k → w0.heap.size ≤ k := by
    intro k hk
    rcases hown.2 with ⟨rfl, _⟩ | ⟨g', cap', cur', rfl, hg', _⟩
    · cases hk
    · have e : g' = k := by simpa [Value.ownBlock] using hk
      omega
  have hgo : ∀ {a' : Option Addr} {m' c' : Nat} {x : List Int}, Sk (KW gW vN X) w a' m' c' x → Sk (fun b => b ≠ gb ∧ X b) w' a' m' c' x := by
    intro a' m' c' x hx
    refine ⟨⟨?_, hx.ag.nil, hx.ag.l, hx.ag.b⟩, fun y hy hn => ?_⟩
    · rcases hx.ag.i with q | ⟨g', off, q1, q2, q3, q4, q5, q7⟩
      · exact .inl q
      · refine .inr ⟨g', off, q1, q2, q3, q4, q5, fun j hj => ?_⟩
        rw [← q7 j hj]
        have hk := hx.k _ q1 q3
        exact World.cell?_of_block (h3.block g' (block_lt_of_cell (q7 j hj)) (fun e => hk.2.1 e.symm))
    · have hk := hx.k y hy hn
      refine ⟨?_, hk.2.2⟩
      intro e
      rcases h5 with q | q
      · exact hk.2.1 (by rw [← q, e]; rfl)
      · have h6 := hx.old hy hn
        have h7 : gb = w.heap.size := by simpa [Value.ownBlock] using q
        omega
  have hz2 : ∀ p ∈ (vals ++ [Value.slice a n c]).zip (ns ++ [b]), Gd (fun b => b ≠ gb ∧ X b) w' p := by
    intro p hp
    obtain ⟨j, hj, e⟩ := List.mem_iff_getElem.1 hp
    rw [List.getElem_zip] at e
    subst e
    simp only [List.length_zip, List.length_append, List.length_singleton] at hj
    by_cases hjl : j < vals.length
    · obtain ⟨a1, n1, c1, e1, hs1⟩ := hvs j vals[j] (List.getElem?_eq_getElem hjl)
      refine ⟨a1, n1, c1, ?_, ?_⟩
      · show (vals ++ [Value.slice a n c])[j] = _
        rw [List.getElem_append_left hjl]; exact e1
      · show Sk _ _ _ _ _ ((ns ++ [b])[j]'(by simp; omega))
        rw [List.getElem_append_left (by omega)]
        have : ns.getD j [] = ns[j]'(by omega) := by simp [List.getD, show j < ns.length by omega]
        rw [← this]
        exact hgo hs1
    · obtain rfl : j = vals.length := by omega
      refine ⟨a, n, c, ?_, ?_⟩
      · show (vals ++ [Value.slice a n c])[vals.length] = _
        simp
      · show Sk _ _ _ _ _ ((ns ++ [b])[vals.length]'(by simp; omega))
        have : (ns ++ [b])[vals.length]'(by simp; omega) = b := by simp [hvl]
        rw [this]
        exact hgo hs
  have hll : (vals ++ [Value.slice a n c]).length = (ns ++ [b]).length := by simp [hvl]
  refine ⟨gb, cap, cur, (vals ++ [Value.slice a n c]).zip (ns ++ [b]), w', fun ty => h1, hg, ?_, by rw [hc3, Nat.mul_one], by simp [hvl], hc1, hz2, ?_, ?_, ?_⟩
  · rw [List.map_fst_zip (by omega), ← hc4, Nat.mul_one]
  · rw [List.map_snd_zip (by omega)]
  · omega
  · exact Below.trans hB ⟨h3.os, h3.tape, h3.output, h3.size, fun k hk => h3.block k (Nat.lt_of_lt_of_le hk hB.size) (fun e => by have := hown0 k e.symm; omega)⟩
theorem Wt.newX {w w' : World} {gW : Nat} (X : Nat → Prop) (h : New w w' gW #[.slice none 0 0] 81) : Wt w' gW gW (.slice none 0 0) X [] := ⟨h.row, ⟨[], ⟨rfl, .inl ⟨rfl, rfl⟩⟩, rfl, fun j v hj => by simp at hj⟩, Nat.le_refl _⟩
/-- What Nodes tells. -/
def RNo (w : World) (t : Tr) : Value → World → Prop := fun u w' => (∃ a n c, u = .slice a n c ∧ Bt (fun b => w.heap.size ≤ b ∧ ∀ x, a = some x → b ≠ x.block) w' a n (nodesP t) ∧ (∀ x, a = some x → w.heap.size ≤ x.block) ∧ n ≤ 5000000000000) ∧ Bl w w'
theorem ol_appN {w w' : World} {v u r : Value} {ρ : Operand → Value} {o : Oper} (hr : ∀ ty, (Builtin.append_ #[41, 41] ty #[v, u]).run Tryz.prog w = .ok r w') (x y : Operand) (ho : o.op = .call { callee := .builtin .append, args := #[x, y], argTypes := #[41, 41] }) (hx : ρ x = v) (hy : ρ y = u) : (execOp ρ o).run Tryz.prog w = .ok (.value r) w' := by
  unfold execOp
  simp only [ho, resolve, invoke, builtin, Sem.run_bind, Sem.run_pure, Result.andThen_ok, List.map_toArray, List.map_cons, List.map_nil, hx, hy, hr]
theorem Bt.mono {K K' : Nat → Prop} {w : World} {a : Option Addr} {n : Nat} {M : List (List Int)} (h : Bt K w a n M) (hK : ∀ b, K b → K' b) : Bt K' w a n M := ⟨h.len, fun j hj => by
  obtain ⟨g, off, a', n', c', h1, h2, h3⟩ := h.row j hj
  exact ⟨g, off, a', n', c', h1, h2, h3.mono hK⟩⟩
set_option maxHeartbeats 1000000 in
theorem nodes_no {w : World} {g : Nat} (hr : Rw g w #[.nilIface] 67) :
    Calls Tryz.prog 20 #[.pointer (some ⟨g, 0, none⟩)] w fun e w' => ∃ u, e = .returned u ∧ RNo w no u w' := by
  have hB := Bl.refl w
  refine cw_enter Tryz.func20 rfl 25 rfl ?_
  show CW _ _ _ _ _ _ _ [(0, .pointer (some ⟨g, 0, none⟩))] _
  refine cw_seq ?_
  refine cw_region ?_
  refine rp 2 (.slice none 0 0) ?_
  refine rw_nil ?_
  refine nw_then ?_
  refine cw_seq ?_
  refine cw_seq ?_
  refine cw_region ?_
  refine rp 6 (.pointer (some ⟨g, 0, none⟩)) ?_
  refine rp 7 (.pointer (some ⟨g, 0, none⟩)) ?_
  refine rp 8 (.pointer (some ⟨g, 0, none⟩)) ?_
  refine rv 9 (.nilIface) (fun _ => ol_cell 65 _ ⟨g, 0, none⟩ _ _ rfl (by kernel_rfl) (by rw [cell_of_row _ _ _ _ _ _ hr]; rfl) Tryz.underlying65 rfl) ?_
  refine rp 10 (.bool true) ?_
  refine rw_nil ?_
  refine nw_then ?_
  refine cw_cond_t (fun _ => by kernel_rfl) ?_
  refine cw_seq ?_
  refine cw_region ?_
  refine rp 2 (.slice none 0 0) ?_
  refine rw_nil ?_
  refine nw_then ?_
  refine cw_ret ?_
  refine nw_ret_then ?_
  exact nw_ret_body (.slice none 0 0) (fun _ => by kernel_rfl) ⟨_, rfl, ⟨none, 0, 0, rfl, ⟨rfl, fun j hj => by omega⟩, (fun x hx => by cases hx), by omega⟩, hB⟩
set_option maxHeartbeats 4000000 in
theorem nodes_yes {K : Nat → Prop} {w : World} {g : Nat} {t : Tr} {T0 : TypeId} {v0 : Value} (hr : Rw g w #[.iface T0 v0] 67) (ht : TA K w t (.iface T0 v0)) (hO : Tr.Ok 64 t) (hne : t ≠ no) (hM : (nmd t).length + 1 ≤ 5000000000000) :
    Calls Tryz.prog 20 #[.pointer (some ⟨g, 0, none⟩)] w fun e w' => ∃ u, e = .returned u ∧ RNo w t u w' := by
  have hB := Bl.refl w
  replace ht := ht.old
  refine cw_enter Tryz.func20 rfl 25 rfl ?_
  show CW _ _ _ _ _ _ _ [(0, .pointer (some ⟨g, 0, none⟩))] _
  refine cw_seq ?_
  refine cw_region ?_
  refine rp 2 (.slice none 0 0) ?_
  refine rw_nil ?_
  refine nw_then ?_
  refine cw_seq ?_
  refine cw_seq ?_
  refine cw_region ?_
  refine rp 6 (.pointer (some ⟨g, 0, none⟩)) ?_
  refine rp 7 (.pointer (some ⟨g, 0, none⟩)) ?_
  refine rp 8 (.pointer (some ⟨g, 0, none⟩)) ?_
  refine rv 9 (.iface T0 v0) (fun _ => ol_cell 65 _ ⟨g, 0, none⟩ _ _ rfl (by kernel_rfl) (by rw [cell_of_row _ _ _ _ _ _ hr]; rfl) Tryz.underlying65 rfl) ?_
  refine rp 10 (.bool false) ?_
  refine rw_nil ?_
  refine nw_then ?_
  refine cw_cond_f (fun _ => by kernel_rfl) ?_
  refine cw_skip ?_
  refine nw_then ?_
  refine cw_seq ?_
  refine cw_region ?_
  refine rw_new 3 #[.slice none 0 0] 81 (fun _ => by kernel_rfl) (fun _ => by kernel_rfl) ?_
  intro wW gW hnW
  have hzW := hB.size
  replace hB := hB.go hnW.below
  replace hr := hr.go hnW.below
  replace ht := ht.go hnW.below
  have hgW := hnW.hg
  have hWt := Wt.newX (fun b => w.heap.size ≤ b) hnW
  have hBW := hB
  refine rw_nil ?_
  refine nw_then ?_
  refine cw_seq ?_
  refine cw_region ?_
  refine rp 11 (.pointer (some ⟨g, 0, none⟩)) ?_
  refine rp 12 (.pointer (some ⟨g, 0, none⟩)) ?_
  refine rp 13 (.pointer (some ⟨g, 0, none⟩)) ?_
  refine rv 14 (.iface T0 v0) (fun _ => ol_cell 65 _ ⟨g, 0, none⟩ _ _ rfl (by kernel_rfl) (by rw [cell_of_row _ _ _ _ _ _ hr]; rfl) Tryz.underlying65 rfl) ?_
  refine rw_call 15 40 #[.pointer (some ⟨gW, 0, none⟩), .iface T0 v0] (fun _ => by kernel_rfl) (fun _ => by kernel_rfl) (R := REn wW gW gW (.slice none 0 0) (fun b => w.heap.size ≤ b) [] t) (nds_enc hne (nds_all t hO (by omega)) (ht.mono (K' := KW gW (.slice none 0 0) (fun _ => True)) (fun b hb => ⟨by omega, by simp [Value.ownBlock], trivial⟩)) hWt (fun b hb => Nat.le_trans hBW.size hb) (by simpa using hM)) ?_
  rintro _ u1 ⟨a2, n2, c2, vM, rfl, hs2, hW1, hG, hen⟩
  replace hB := hG.below hB (by omega) rfl
  clear hr ht hWt
  rw [List.nil_append] at hW1
  replace hs2 : Sk (KW gW vM (fun b => w.heap.size ≤ b)) u1 a2 n2 c2 (encT t) := hs2.mono (fun b hb => ⟨hb.1, hb.2.1, Nat.le_trans hBW.size hb.2.2⟩)
  refine rp 4 (.slice a2 n2 c2) ?_
  refine rw_nil ?_
  refine nw_then ?_
  refine cw_seq ?_
  refine cw_region ?_
  refine rp 16 (.pointer (some ⟨gW, 0, none⟩)) ?_
  refine rv 17 (vM) (fun _ => ol_cell 41 _ ⟨gW, 0, none⟩ _ _ rfl (by kernel_rfl) (by rw [cell_of_row _ _ _ _ _ _ hW1.r]; rfl) Tryz.underlying41 rfl) ?_
  refine rp 18 (.slice a2 n2 c2) ?_
  refine rw_newS 19 #[.slice a2 n2 c2] 27 1 (fun _ => by kernel_rfl) (fun _ => by kernel_rfl) ?_
  intro wL gL hnL
  replace hB := hB.go hnL.below
  replace hs2 := hs2.go hnL.below
  replace hW1 := hW1.go hnL.below
  have hL : Rw gL wL #[.slice a2 n2 c2] 27 := hnL.row
  obtain ⟨gb, cap, cur, ps, wA, hrun, hrA, hcA, hszA, hlA, hleA, hgA, hsnd, hgb, hBA⟩ := names_row hW1 hs2 hL hM hB (by omega)
  refine rw_v 20 (.slice (some ⟨gb, 0, none⟩) ((nmd t).length + 1) cap) (fun _ => by kernel_rfl) (fun _ => ol_appN hrun _ _ rfl (by kernel_rfl) (by kernel_rfl)) ?_
  clear hB hs2 hW1 hL
  refine rp 5 (.slice (some ⟨gb, 0, none⟩) ((nmd t).length + 1) cap) ?_
  refine rw_nil ?_
  refine nw_then ?_
  refine cw_seq ?_
  refine cw_region ?_
  refine rp 21 (.slice (some ⟨gb, 0, none⟩) ((nmd t).length + 1) cap) ?_
  refine rw_call 22 41 #[.slice (some ⟨gb, 0, none⟩) ((nmd t).length + 1) cap, .func (.func 42) #[] #[]] (fun _ => by kernel_rfl) (fun _ => by kernel_rfl) (R := fun u w' => u = .tuple #[] ∧ (∃ (ps' : List (Value × List Int)) (cur' : Array Value), ps'.Perm ps ∧ ps'.Pairwise (fun p q => lessP q.2 p.2 = false) ∧ Rw gb w' cur' 27 ∧ cur'.toList.take ((nmd t).length + 1) = ps'.map Prod.fst ∧ cur'.size = cap) ∧ Touch gb wA w') (sort_bytes hrA hcA hszA hlA hleA hgA (fun h => h.1 rfl) (by omega) (by omega)) ?_
  rintro _ u2 ⟨rfl, ⟨ps', cur', hperm, hpair, hrS, hcS, hszS⟩, hto⟩
  have hgS : ∀ p ∈ ps', Gd (fun b => b ≠ gb ∧ w.heap.size ≤ b) u2 p := fun p hp => (hgA p (hperm.mem_iff.1 hp)).tou hto (fun h => h.1 rfl)
  have hBS : Bl w u2 := hto.below hBA hgb hBA.size
  refine rw_nil ?_
  refine nw_then ?_
  refine cw_seq ?_
  refine cw_region ?_
  refine rp 23 (.slice (some ⟨gb, 0, none⟩) ((nmd t).length + 1) cap) ?_
  refine rw_call 24 43 #[.slice (some ⟨gb, 0, none⟩) ((nmd t).length + 1) cap, .func (.func 44) #[] #[]] (fun _ => by kernel_rfl) (fun _ => by kernel_rfl) (R := fun u w' => ∃ k, u = .slice (some ⟨gb, 0, none⟩) k cap ∧ Bt (fun b => b ≠ gb ∧ w.heap.size ≤ b) w' (some ⟨gb, 0, none⟩) k (dd (ps'.map Prod.snd)) ∧ Touch gb u2 w') (compact_any hrS hcS hszS (by rw [hperm.length_eq, hlA]) hleA hgS (fun h => h.1 rfl) (by omega)) ?_
  rintro _ u3 ⟨k3, rfl, hbt, hto3⟩
  have hB3 : Bl w u3 := hto3.below hBS hgb hBS.size
  refine rp 2 (.slice (some ⟨gb, 0, none⟩) k3 cap) ?_
  refine rw_nil ?_
  refine nw_then ?_
  refine cw_ret ?_
  have hM2 : dd (ps'.map Prod.snd) = nodesP t := by
    rw [nodes_eq (M := nmd t ++ [encT t]) (by rw [← hsnd]; exact hperm.map _) (List.pairwise_map.2 hpair)]; unfold nodesP; rw [if_neg (fun e => hne (isNo_iff.1 e))]
  have hk3 : k3 ≤ (nmd t).length + 1 := by rw [← hbt.len]; refine Nat.le_trans (dd_len _) ?_; rw [List.length_map, hperm.length_eq, hlA]; exact Nat.le_refl _
  rw [hM2] at hbt
  exact nw_ret_body (.slice (some ⟨gb, 0, none⟩) k3 cap) (fun _ => by kernel_rfl) ⟨_, rfl, ⟨_, _, _, rfl, hbt.mono (fun b hb => ⟨hb.2, fun x hx => by cases hx; exact hb.1⟩), (fun x hx => by cases hx; exact hgb), by omega⟩, hB3⟩
theorem nodes_any {K : Nat → Prop} {w : World} {g : Nat} {t : Tr} (h : Tri K w g t) (hM : (nmd t).length + 1 ≤ 5000000000000) :
    Calls Tryz.prog 20 #[.pointer (some ⟨g, 0, none⟩)] w fun e w' => ∃ u, e = .returned u ∧ RNo w t u w' := by
  obtain ⟨⟨v, h1, h2⟩, h3⟩ := h
  rcases h3 with rfl | hO
  · rw [show v = .nilIface from h2] at h1
    exact nodes_no h1
  · have hne := hO.ne
    obtain ⟨T0, v0, rfl⟩ := h2.iface hne
    exact nodes_yes h1 h2 hO hne hM
end Go.Proofs.YtalhnnjpjaeakaaGreat
/- The statement TrieBack: a Put of a key that had no value, and a Delete of it, change nothing; nor do a Delete and a Put of what was there. -/
namespace Go.Proofs.YtalhnnjpjaeakaaGreat
open Go.RowKit
open Tr
set_option linter.unusedVariables false
set_option maxRecDepth 100000
theorem nib_len (k : List Int) : (Ni.nib k).length = 2 * k.length := by
  induction k with
  | nil => rfl
  | cons x k ih => simp only [Ni.nib, List.length_cons, ih]; omega
theorem rootP_len (t : Tr) : (rootP t).length = 32 := by unfold rootP; split <;> exact dref_len _
end Go.Proofs.YtalhnnjpjaeakaaGreat
/- A region that draws its order and in which a loop's round is called. -/
namespace Go.Proofs.YtalhnnjpjaeakaaGreat
open Go.RowKit
set_option linter.unusedVariables false
set_option maxRecDepth 100000
def DI (m : Nat) (P : Program) (ds : List Deferred) (n : Nat) (Q : Exit → Act → World → Prop) (ops : Array Oper) (fuel : Nat) (listed : Array Bool) (env : Env) (w : World) : Prop := ∀ a, Frm ds n env a → wpAnyIn Fence.wide m P .any ops Q fuel listed a w
def AI (m : Nat) (P : Program) (ds : List Deferred) (n : Nat) (Q : Exit → Act → World → Prop) (ops : Array Oper) (fuel : Nat) (listed : Array Bool) (env : Env) (w : World) (rs : List Nat) : Prop := ∀ a, Frm ds n env a → AllReadyIn Fence.wide m P .any ops Q fuel listed a w rs
section
variable {m : Nat} {P : Program} {ds : List Deferred} {n : Nat} {Q : Exit → Act → World → Prop} {env : Env} {w w' : World} {ops : Array Oper} {o : Oper} {fuel : Nat} {listed : Array Bool} {rs : List Nat}
theorem di_draw {id : Nat} (hm : P.follows .mixedOrders = true) (h : DI m P ds n Q ops ops.size (Array.replicate ops.size false) env w.drew) : CW none m P ds n Q (.region id ops true) env w := fun a ha => wpIn_region_any (F := Fence.wide) hm (h a ha)
theorem di_done (hr : Region.ready .any ops listed = []) (h : NW ds n Q .normal env w) : DI m P ds n Q ops fuel listed env w := fun a ha => wpAnyIn_done hr (h a ha) fuel
theorem di_ready (rs : List Nat) (hr : Region.ready .any ops listed = rs) (hne : rs ≠ []) (h : AI m P ds n Q ops fuel listed env w rs) : DI m P ds n Q ops (fuel + 1) listed env w := fun a ha => wpAnyIn_ready hr hne (h a ha)
theorem di_take (i d : Nat) (v : Value) (ho : ops[i]? = some o) (hk : tkOk ops listed i = true) (hQ : ∀ c a w, Q (.panic c) (a.put (some d) v) w → Q (.panic c) a w) (hc : ∀ fb, chk n ops env fb o d = true)
    (hr : ∀ w fb, (execOp (ev env fb) o).run P w = .ok (.value v) w) (hb : ∀ w fb, o.about P w (ev env fb) = none) (h : DI m P ds n Q ops fuel (listed.setIfInBounds i true) ((d, v) :: env) w) : DI m P ds n Q ops (fuel + 1) listed env w := fun a ha => by
  obtain ⟨h1, h2, h3, _⟩ := chk_spec (hc (fun t => a.tmps.getD t undef))
  unfold tkOk at hk
  simp only [Bool.and_eq_true] at hk
  refine wpAnyIn_take (v := v) rfl ho hk.1.1 hk.1.2 hk.2 (by rw [h1]; exact hQ) ⟨Or.inl ⟨by rw [ha.want]; exact h3, fun w => by rw [ha.ev]; exact hr w _⟩, fun w => by rw [ha.ev]; exact hb w _⟩ ?_
  rw [h1]
  exact h _ (fr_put ha h2 v)
theorem ai_nil : AI m P ds n Q ops fuel listed env w [] := fun a ha => AllReadyIn.nil
theorem ai_v (i d : Nat) (v : Value) (ho : ops[i]? = some o) (hc : ∀ fb, chk n ops env fb o d = true) (hr : ∀ fb, (execOp (ev env fb) o).run P w = .ok (.value v) w')
    (h : DI m P ds n Q ops fuel (listed.setIfInBounds i true) ((d, v) :: env) w') (hs : AI m P ds n Q ops fuel listed env w rs) : AI m P ds n Q ops fuel listed env w (i :: rs) := fun a ha => by
  obtain ⟨h1, h2, h3, hnd⟩ := chk_spec (hc (fun t => a.tmps.getD t undef))
  refine AllReadyIn.cons ho (fun K hK => ?_) (hs a ha)
  rw [ha.want, if_pos h3]
  refine ⟨fun f _ => trivial, ?_⟩
  rw [Oper.semAt_eq _ _ _ hnd, ha.ev, hr, Oper.uponIn_value, h1]
  exact hK _ _ (h _ (fr_put ha h2 v))
theorem ai_call (i d : Nat) (f : FuncId) (args : Array Value) (ho : ops[i]? = some o) (hc : ∀ fb, chk n ops env fb o d = true) (hr : ∀ fb, (execOp (ev env fb) o).run P w = .ok (.enter f args) w) {R : Value → World → Prop}
    (hcall : Calls P f args w fun e w' => ∃ v, e = .returned v ∧ R v w') (h : ∀ v w', R v w' → DI m P ds n Q ops fuel (listed.setIfInBounds i true) ((d, v) :: env) w')
    (hs : AI m P ds n Q ops fuel listed env w rs) : AI m P ds n Q ops fuel listed env w (i :: rs) := fun a ha => by
  obtain ⟨h1, h2, h3, hnd⟩ := chk_spec (hc (fun t => a.tmps.getD t undef))
  refine AllReadyIn.cons ho (fun K hK => ?_) (hs a ha)
  rw [ha.want, if_pos h3]
  refine ⟨fun f _ => trivial, ?_⟩
  rw [Oper.semAt_eq _ _ _ hnd, ha.ev, hr, Oper.uponIn_enter]
  refine ⟨fun h => absurd h Bool.false_ne_true, ?_⟩
  refine CallsIn.mono' (F := Fence.wide) (callsIn_wide.2 hcall) ?_
  rintro e w' ⟨v, rfl, hR⟩
  rw [h1]
  exact hK _ _ (h v w' hR _ (fr_put ha h2 v))
/-- No depth is asked: the figures are all one. -/
theorem yield_any {m m' lp : Nat} {args : Array Value} {W : World} {R : Ending → World → Prop} (h : YieldAt Fence.wide m P lp args W R) : YieldAt Fence.wide m' P lp args W R := by
  obtain ⟨fn, tmps, assign, body, hy, hR⟩ := h
  exact ⟨fn, tmps, assign, body, hy, hR.1, fun c cs _ => hR.2 c cs (room_wide _)⟩
theorem ai_yield (i d : Nat) (lp : Nat) (args : Array Value) (ho : ops[i]? = some o) (hc : ∀ fb, chk n ops env fb o d = true) (hr : ∀ fb, (execOp (ev env fb) o).run P w = (Instr.yield lp args).run P w) {R : Ending → World → Prop}
    (hY : YieldAt Fence.wide 0 P lp args w R) (h : ∀ e w', R e w' → ∃ v, e = .returned v ∧ DI m P ds n Q ops fuel (listed.setIfInBounds i true) ((d, v) :: env) w')
    (hs : AI m P ds n Q ops fuel listed env w rs) : AI m P ds n Q ops fuel listed env w (i :: rs) := fun a ha => by
  obtain ⟨h1, h2, h3, hnd⟩ := chk_spec (hc (fun t => a.tmps.getD t undef))
  obtain ⟨fn, tmps, assign, body, hy, hR⟩ := yield_any (m' := m - 1) hY
  refine AllReadyIn.cons ho (fun K hK => ?_) (hs a ha)
  rw [ha.want, if_pos h3]
  refine ⟨fun f _ => trivial, ?_⟩
  rw [Oper.semAt_eq _ _ _ hnd, ha.ev, hr, hy, Oper.uponIn_round]
  refine ⟨fun h => absurd h Bool.false_ne_true, ?_⟩
  refine RoundIn.mono (F := Fence.wide) hR ?_
  intro e w' hq
  obtain ⟨v, rfl, hw⟩ := h e w' hq
  show K (a.put o.dst v) w'
  rw [h1]
  exact hK _ _ (hw _ (fr_put ha h2 v))
end
end Go.Proofs.YtalhnnjpjaeakaaGreat
/- A key that is told lies in a new block. -/
namespace Go.Proofs.YtalhnnjpjaeakaaGreat.Ni
open Go.RowKit
set_option linter.unusedVariables false
set_option maxHeartbeats 1000000 in
theorem key_new (a : Option Addr) (n c : Nat) (p : List Int) (w : World) (h : Ag w a n c p) (hn : n ≤ 140737488355328) :
    Calls Tryz.prog 65 #[.slice a n c] w fun e w' => (∃ a' m, e = .returned (.tuple #[.slice a' m m, .bool (keyP p).2]) ∧ Ag w' a' m m (keyP p).1 ∧ ∀ x, a' = some x → x.block = w.heap.size ∧ Row w.heap.size w' (keyP p).1) ∧ Below w.heap.size w w' := by
  have hl := h.l
  by_cases he : n % 2 = 0
  case neg =>
    rw [keyP_no (fun hh => he (by rw [← hl]; exact hh.2))]
    simp only
    have hei : (n : Int) % 2 = 1 := by omega
    clear h hl he
    go_enter Tryz.func65, Tryz.ntmps65
    go_wp2_with fail
    go_ret2
    exact ⟨⟨none, 0, rfl, ag_nil _, fun x hx => by cases hx⟩, Below.refl _ _⟩
  have hei : (n : Int) % 2 = 0 := by omega
  have hr := right_any a n c p w h hn
  by_cases hrt : rightP p = true
  case neg =>
    rw [keyP_no (fun hh => hrt hh.1)]
    simp only
    rw [show rightP p = false from by simpa using hrt] at hr
    clear h hl he hrt
    go_enter Tryz.func65, Tryz.ntmps65
    go_wp2_with fail
    refine hr.mono ?_
    rintro e w1 ⟨rfl, rfl⟩
    clear hr
    go_wp2_with fail
    go_ret2
    exact ⟨⟨none, 0, rfl, ag_nil _, fun x hx => by cases hx⟩, Below.refl _ _⟩
  rw [keyP_yes hrt (by omega)]
  simp only
  rw [hrt] at hr
  obtain ⟨m, hm⟩ : ∃ m, n / 2 = m := ⟨_, rfl⟩
  have hmn : n = 2 * m := by omega
  subst hmn
  clear hm he hei
  have HKL : Hid ((kk p).length = m) := Hid.mk (by rw [kk_len]; omega)
  have HKB := Hid.mk (kk_isB p h.b hrt)
  have HL := Hid.mk hl
  have HB := Hid.mk h.b
  have HRT := Hid.mk hrt
  have HC := Hid.mk (fun h0 => ag_head h h0)
  have hmk := run_make_row' (P := Tryz.prog) 27 5 (.int .u8 0) 1 Tryz.underlying27 info5b rfl .i64 .i64 m (by omega) (by omega)
  have hrow : Row w.heap.size (w.alloc (.cells (madeCells #[.int .u8 0] m) 5)) (List.replicate m 0) := by
    unfold Row; rw [heap_alloc_new, made_bytes]
  have hbw : Below w.heap.size w (w.alloc (.cells (madeCells #[.int .u8 0] m) 5)) := (Below.refl _ _).alloc (Nat.le_refl _) _
  have HR := Hid.mk hrow
  have HBW := Hid.mk hbw
  have hm2 : (2 * m : Nat) % 2 = 0 := by omega
  have hm3 : ((2 * m : Nat) : Int) % 2 = 0 := by omega
  have hm4 : ((2 * m : Nat) : Int) / 2 = m := by omega
  clear hrow hbw h hl hrt
  go_enter Tryz.func65, Tryz.ntmps65
  go_wp2_with fail
  refine hr.mono ?_
  rintro e w1 ⟨rfl, rfl⟩
  clear hr
  go_wp2_with fail
  go_loopw [21] (fun i v => ∃ k : Nat, k ≤ m ∧ i = .int .i64 k ∧ Row w1.heap.size v ((kk p).take k ++ List.replicate (m - k) 0) ∧ Below w1.heap.size w1 v) (fun i _ => m - (intOf i).toNat)
  case atStart => exact ⟨0, by omega, rfl, by rw [List.take_zero, List.nil_append, Nat.sub_zero]; exact HR.out, HBW.out⟩
  case round =>
    clear HR HBW
    obtain ⟨k, hk, rfl, hrow, hb⟩ := hrel
    by_cases hlt : k < m
    · have hki : (k : Int) < m := by omega
      have hlen : ((kk p).take k ++ List.replicate (m - k) (0 : Int)).length = m := by rw [List.length_append, List.length_replicate, List.length_take, HKL.out]; omega
      have hcell := hrow.cell (i := k) (by omega)
      have hfz := hrow.frozen k
      have hset := hrow.set k ((kk p).getD k 0)
      rw [kk_row p m k HKL.out hlt] at hset
      have hget := kk_get p k (by have := HL.out; omega)
      obtain ⟨g, off, rfl, hnc, hcm, hcs⟩ := HC.out (by omega)
      unfold maxLen at hcm
      have hc1 := (hb.cell (p := ⟨g, off + (2 * k), none⟩) (block_lt_of_cell (hcs (2 * k) (by omega)))).trans (hcs (2 * k) (by omega))
      have hc2 := (hb.cell (p := ⟨g, off + (2 * k + 1), none⟩) (block_lt_of_cell (hcs (2 * k + 1) (by omega)))).trans (hcs (2 * k + 1) (by omega))
      have hx0 := (HB.out _ (getD_mem (l := p) (i := 2 * k) (by have := HL.out; omega))).1
      have hy0 := (HB.out _ (getD_mem (l := p) (i := 2 * k + 1) (by have := HL.out; omega))).1
      have hx1 := right_at HRT.out (i := 2 * k) (by have := HL.out; omega)
      have hy1 := right_at HRT.out (i := 2 * k + 1) (by have := HL.out; omega)
      generalize ((kk p).take k ++ List.replicate (m - k) (0 : Int)).getD k 0 = z at hcell
      generalize p.getD (2 * k) 0 = x at *
      generalize p.getD (2 * k + 1) 0 = y at *
      rw [hget] at hset
      have hor := or16 hx0 hx1 hy0 hy1
      have hkm : 2 * k + 1 < 2 * m := by omega
      have hk1 : (2 * (k : Int)) < ((2 * m : Nat) : Int) := by omega
      have hk2 : (2 * (k : Int) + 1) < ((2 * m : Nat) : Int) := by omega
      have ht1 : (2 * (k : Int)).toNat = 2 * k := by omega
      have ht2 : (2 * (k : Int) + 1).toNat = 2 * k + 1 := by omega
      have HS := Hid.mk hset
      have HBB := Hid.mk hb
      clear hset hb hrow hlen hget hcs
      go_wp2_with fail
      go_region
      all_goals
        go_wp2_with fail
        exact ⟨⟨k + 1, by omega, by simp, HS.out, (HBB.out.setCell (Nat.le_refl _) _).drew⟩, by simp [intOf]; omega⟩
    · have hki : ¬ (k : Int) < m := by omega
      have e : k = m := by omega
      subst e
      rw [Nat.sub_self, List.replicate_zero, List.append_nil, List.take_of_length_le (by rw [HKL.out]; exact Nat.le_refl _)] at hrow
      have HS := Hid.mk hrow
      have HBB := Hid.mk hb
      clear hrow hb
      go_wp2_with fail
      go_ret2
      exact ⟨⟨_, _, rfl, row_ag HS.out HKL.out HKB.out (by omega), fun x hx => by cases hx; exact ⟨rfl, HS.out⟩⟩, HBB.out⟩
end Go.Proofs.YtalhnnjpjaeakaaGreat.Ni
