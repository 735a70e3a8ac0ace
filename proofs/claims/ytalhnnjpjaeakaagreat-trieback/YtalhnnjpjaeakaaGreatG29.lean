/- What a writer writes: any tree. -/
import Derived.Test.YtalhnnjpjaeakaaGreatG28
import Derived.Test.YtalhnnjpjaeakaaGreatG01
import Derived.Test.YtalhnnjpjaeakaaGreatG27
import Derived.Test.YtalhnnjpjaeakaaGreatG19
import Derived.Test.YtalhnnjpjaeakaaGreatG25
namespace Go.Proofs.YtalhnnjpjaeakaaGreat
open Go.RowKit
open Tr
set_option linter.unusedVariables false
set_option maxRecDepth 100000
theorem iv_node_l (x : Value) : Iv "pergola/trie.node" (.iface 98 x) 170 x := iv_of fun w vs => by kernel_rfl
theorem iv_node_e (x : Value) : Iv "pergola/trie.node" (.iface 220 x) 190 x := iv_of fun w vs => by kernel_rfl
theorem iv_node_b (x : Value) : Iv "pergola/trie.node" (.iface 215 x) 182 x := iv_of fun w vs => by kernel_rfl
def NDS (t : Tr) : Prop := ∀ {v : World} {gW base : Nat} {vM : Value} {Y Z : Nat → Prop} {ns : List (List Int)} {val : Value}, TA (KW gW vM Z) v t val → Wt v gW base vM Y ns → (∀ b, v.heap.size ≤ b → Y b) → (ns ++ nmd t).length + 1 ≤ 7600000000000 → MC "pergola/trie.node" val #[.pointer (some ⟨gW, 0, none⟩)] v (RNd v gW base vM Y ns t)
theorem nds_enc {t : Tr} (hne : t ≠ no) (h : NDS t) {v : World} {gW base : Nat} {vM : Value} {Y Z : Nat → Prop} {ns : List (List Int)} {val : Value} (ht : TA (KW gW vM Z) v t val) (hW : Wt v gW base vM Y ns) (hY : ∀ b, v.heap.size ≤ b → Y b) (hM : (ns ++ nmd t).length + 1 ≤ 7600000000000) :
    Calls Tryz.prog 40 #[.pointer (some ⟨gW, 0, none⟩), val] v fun e w' => ∃ u, e = .returned u ∧ REn v gW base vM Y ns t u w' := by
  have hm := h ht hW hY hM
  obtain ⟨T0, v0, rfl⟩ := ht.iface hne
  exact encode_yes hne hm
theorem rfs_of {t : Tr} (hne : t ≠ no) (h : NDS t) : RFS t := by
  intro v gW base vM Y Z ns val ht hW hY hM
  have hE : ∀ v', Bl v v' → ∀ Y' : Nat → Prop, Wt v' gW base vM Y' ns → (∀ b, v'.heap.size ≤ b → Y' b) → Calls Tryz.prog 40 #[.pointer (some ⟨gW, 0, none⟩), val] v' fun e w' => ∃ u, e = .returned u ∧ REn v' gW base vM Y' ns t u w' :=
    fun v' hb Y' hW' hY' => nds_enc hne h (ht.go hb) hW' hY' hM
  obtain ⟨T0, v0, rfl⟩ := ht.iface hne
  by_cases hs : (encT t).length < 32
  · exact wrefer_short hW hY hE hM hs
  · exact wrefer_long hW hY hE hM hs
theorem nds_all (t : Tr) : ∀ {B : Nat}, Tr.Ok B t → B ≤ 64 → NDS t := by
  induction t with
  | no => intro B hO; exact hO.elim
  | leaf p x =>
    intro B hO h64 v gW base vM Y Z ns val ht hW hY hM
    obtain ⟨a1, n1, c1, a2, n2, c2, rfl, h1, h2, h3⟩ := ht
    exact ⟨_, _, _, rfl, iv_node_l _, lnode_any hW h1 h2 (by have := h1.len; have := hO.2.1; omega) h3⟩
  | ext p t ih =>
    intro B hO h64 v gW base vM Y Z ns val ht hW hY hM
    obtain ⟨a1, n1, c1, u, rfl, h1, h2⟩ := ht
    obtain ⟨o1, o2, o3, o4, o5⟩ := hO
    have hne : t ≠ no := fun e => by rw [e] at o4; simp [isBr] at o4
    have hR : RFS t := rfs_of hne (ih o5 (by omega))
    have hM' : (ns ++ nmd t).length + 1 ≤ 7600000000000 := by
      simp only [nmd, List.length_append] at hM ⊢
      omega
    obtain ⟨Tu, xu, rfl⟩ := h2.iface hne
    exact ⟨_, _, _, rfl, iv_node_e _, enode_any hW h1 (by have := h1.len; omega) hY (fun v' hb Y' hW' hY' => hR (h2.go hb) hW' hY' hM')⟩
  | br k x ih =>
    intro B hO h64 v gW base vM Y Z ns val ht hW hY hM
    obtain ⟨vs, a1, n1, c1, rfl, h1, h2, h3⟩ := ht
    refine ⟨_, _, _, rfl, iv_node_b _, bnode_any hW h1 h2 h3 hY (fun i hi => ?_) hM⟩
    rcases hO.1 i with h | ⟨_, _, h⟩
    · exact .inl h
    · exact .inr (rfs_of h.ne (ih i h (by omega)))
end Go.Proofs.YtalhnnjpjaeakaaGreat
/- The root of any trie. -/
namespace Go.Proofs.YtalhnnjpjaeakaaGreat
open Go.RowKit
open Tr
set_option linter.unusedVariables false
set_option maxRecDepth 100000
open Di (dref)
def rootP (t : Tr) : List Int := if t.isNo then dref [128] else dref (encT t)
theorem Wg.below {w v u : World} {gW : Nat} {vN vM : Value} (h : Wg v u gW vN vM) (hb : Bl w v) (hg : w.heap.size ≤ gW) (hv : vN.ownBlock = none) : Bl w u :=
  Below.trans hb ⟨h.os, h.tape, h.output, h.size, fun k hk => h.block k (Nat.lt_of_lt_of_le hk hb.size) (by omega) (by rw [hv]; simp)⟩
theorem Wt.new {w w' : World} {gW : Nat} (h : New w w' gW #[.slice none 0 0] 81) : Wt w' gW gW (.slice none 0 0) (fun _ => True) [] := ⟨h.row, ⟨[], ⟨rfl, .inl ⟨rfl, rfl⟩⟩, rfl, fun j v hj => by simp at hj⟩, Nat.le_refl _⟩
set_option maxHeartbeats 4000000 in
theorem root_yes {K : Nat → Prop} {w : World} {g : Nat} {t : Tr} {T0 : TypeId} {v0 : Value} (hr : Rw g w #[.iface T0 v0] 67) (ht : TA K w t (.iface T0 v0)) (hO : Tr.Ok 64 t) (hne : t ≠ no) (hM : (nmd t).length + 1 ≤ 7600000000000) :
    Calls Tryz.prog 18 #[.pointer (some ⟨g, 0, none⟩)] w fun e w' => ∃ u, e = .returned u ∧ (fun u w' => u = .agg (B8 (dref (encT t))) ∧ Bl w w') u w' := by
  have hB := Bl.refl w
  have hdl := dref_len (encT t)
  obtain ⟨ds, hds⟩ : ∃ ds, dref (encT t) = ds := ⟨_, rfl⟩
  rw [hds] at hdl ⊢
  replace ht := ht.old
  refine cw_enter Tryz.func18 rfl 16 rfl ?_
  show CW _ _ _ _ _ _ _ [(0, .pointer (some ⟨g, 0, none⟩))] _
  refine cw_seq ?_
  refine cw_region ?_
  refine rw_new 2 (B8 z32) 49 (fun _ => by kernel_rfl) (fun _ => by kernel_rfl) ?_
  intro w1 g2 hn3
  replace hB := hB.go hn3.below
  replace hr := hr.go hn3.below
  replace ht := ht.go hn3.below
  have hr4 : Rw g2 w1 (B8 z32) 49 := hn3.row
  have hgd := hn3.hg
  refine rw_nil ?_
  refine nw_then ?_
  refine cw_seq ?_
  refine cw_seq ?_
  refine cw_region ?_
  refine rp 3 (.pointer (some ⟨g, 0, none⟩)) ?_
  refine rp 4 (.pointer (some ⟨g, 0, none⟩)) ?_
  refine rp 5 (.pointer (some ⟨g, 0, none⟩)) ?_
  refine rv 6 (.iface T0 v0) (fun _ => ol_cell 65 _ ⟨g, 0, none⟩ _ _ rfl (by kernel_rfl) (by rw [cell_of_row _ _ _ _ _ _ hr]; rfl) Tryz.underlying65 rfl) ?_
  refine rp 7 (.bool false) ?_
  refine rw_nil ?_
  refine nw_then ?_
  refine cw_cond_f (fun _ => by kernel_rfl) ?_
  refine cw_skip ?_
  refine nw_then ?_
  refine cw_seq ?_
  refine cw_region ?_
  refine rw_new 9 #[.slice none 0 0] 81 (fun _ => by kernel_rfl) (fun _ => by kernel_rfl) ?_
  intro wW gW hnW
  have hzW := hB.size
  replace hB := hB.go hnW.below
  replace hr := hr.go hnW.below
  replace ht := ht.go hnW.below
  replace hr4 := hr4.go hnW.below
  have hgW := hnW.hg
  have hWt := Wt.new hnW
  refine rp 10 (.pointer (some ⟨g, 0, none⟩)) ?_
  refine rp 11 (.pointer (some ⟨g, 0, none⟩)) ?_
  refine rp 12 (.pointer (some ⟨g, 0, none⟩)) ?_
  refine rv 13 (.iface T0 v0) (fun _ => ol_cell 65 _ ⟨g, 0, none⟩ _ _ rfl (by kernel_rfl) (by rw [cell_of_row _ _ _ _ _ _ hr]; rfl) Tryz.underlying65 rfl) ?_
  refine rw_call 14 40 #[.pointer (some ⟨gW, 0, none⟩), .iface T0 v0] (fun _ => by kernel_rfl) (fun _ => by kernel_rfl) (R := REn wW gW gW (.slice none 0 0) (fun _ => True) [] t) (nds_enc hne (nds_all t hO (by omega)) (ht.mono (K' := KW gW (.slice none 0 0) (fun _ => True)) (fun b hb => ⟨by omega, by simp [Value.ownBlock], trivial⟩)) hWt (fun _ _ => trivial) (by simpa using hM)) ?_
  rintro _ u1 ⟨a2, n2, c2, vM, rfl, hs2, hW1, hG, hen⟩
  replace hr4 := hr4.wg hG hWt (by decide) (by decide)
  replace hB := hG.below hB (by omega) rfl
  clear hr ht hWt
  have l2 := hs2.len
  refine rw_call 15 39 #[.slice a2 n2 c2] (fun _ => by kernel_rfl) (fun _ => by kernel_rfl) (R := fun u w' => u = .agg (B8 ds) ∧ Bl u1 w') ((dof_any a2 n2 c2 (encT t) u1 hs2.ag (by omega)).mono (fun e w' h => ⟨_, by rw [h.1, hds], rfl, h.2⟩)) ?_
  rintro _ u2 ⟨rfl, hb2⟩
  replace hr4 := hr4.go hb2
  replace hB := hB.go hb2
  refine rw_put g2 (B8 ds) (fun _ => by kernel_rfl) (fun _ => ol_store 49 _ _ _ _ _ _ rfl (by kernel_rfl) (by kernel_rfl) hr4 (infoD' hdl) (z8_size hdl) (B8_one _)) ?_
  intro uE hpE
  replace hB : Bl w uE := hpE.below hB (by omega) hB.size
  have hrE : Rw g2 uE (B8 ds) 49 := hpE.row hr4
  refine rw_nil ?_
  refine nw_then ?_
  refine cw_ret ?_
  exact nw_ret_body (.agg (B8 ds)) (fun _ => results_d Tryz.results18 _ g2 ds hdl (by kernel_rfl) hrE) ⟨_, rfl, rfl, hB⟩
theorem root_any {K : Nat → Prop} {w : World} {g : Nat} {t : Tr} (h : Tri K w g t) (hM : (nmd t).length + 1 ≤ 7600000000000) :
    Calls Tryz.prog 18 #[.pointer (some ⟨g, 0, none⟩)] w fun e w' => ∃ u, e = .returned u ∧ u = .agg (B8 (rootP t)) ∧ Bl w w' := by
  obtain ⟨⟨v, h1, h2⟩, h3⟩ := h
  rcases h3 with rfl | hO
  · rw [show v = .nilIface from h2] at h1
    exact root_no h1
  · have hne := hO.ne
    obtain ⟨T0, v0, rfl⟩ := h2.iface hne
    rw [show rootP t = dref (encT t) from by unfold rootP; rw [if_neg (fun e => hne (isNo_iff.1 e))]]
    exact root_yes h1 h2 hO hne hM
end Go.Proofs.YtalhnnjpjaeakaaGreat
/- The nodes of any trie, in order. -/
namespace Go.Proofs.YtalhnnjpjaeakaaGreat
open Go.RowKit
open Tr
open Ni (lessP)
set_option linter.unusedVariables false
set_option maxRecDepth 100000
/-- A byte string among others that rise. -/
def insB (b : List Int) : List (List Int) → List (List Int)
  | [] => [b]
  | x :: r => if b = x then x :: r else if lessP b x then b :: x :: r else x :: insB b r
theorem mem_insB (b y : List Int) : ∀ l : List (List Int), y ∈ insB b l ↔ y = b ∨ y ∈ l
  | [] => by simp [insB]
  | x :: r => by
    have ih := mem_insB b y r
    simp only [insB]
    by_cases h : b = x
    · subst h; rw [if_pos rfl]; simp
    · rw [if_neg h]
      by_cases k : lessP b x = true
      · rw [if_pos k]; simp
      · rw [if_neg k]; simp only [List.mem_cons, ih]; constructor
        · rintro (q | q | q)
          · exact .inr (.inl q)
          · exact .inl q
          · exact .inr (.inr q)
        · rintro (q | q | q)
          · exact .inr (.inl q)
          · exact .inl q
          · exact .inr (.inr q)
theorem srt_insB (b : List Int) : ∀ l : List (List Int), SrtB l → SrtB (insB b l)
  | [], _ => by simp [insB, SrtB]
  | x :: r, h => by
    obtain ⟨h1, h2⟩ := List.pairwise_cons.1 h
    simp only [insB]
    by_cases e : b = x
    · rw [if_pos e]; exact h
    · rw [if_neg e]
      by_cases k : lessP b x = true
      · rw [if_pos k]
        refine List.pairwise_cons.2 ⟨fun y hy => ?_, h⟩
        rcases List.mem_cons.1 hy with q | q
        · rw [q]; exact k
        · exact less_trans _ _ _ k (h1 y q)
      · rw [if_neg k]
        refine List.pairwise_cons.2 ⟨fun y hy => ?_, srt_insB b r h2⟩
        rcases (mem_insB b y r).1 hy with q | q
        · rw [q]; exact less_tot _ _ e (by simpa using k)
        · exact h1 y q
def insAll (l : List (List Int)) (M : List (List Int)) : List (List Int) := M.foldl (fun l b => insB b l) l
theorem insAll_spec : ∀ (M l : List (List Int)), SrtB l → SrtB (insAll l M) ∧ ∀ y, y ∈ insAll l M ↔ y ∈ l ∨ y ∈ M
  | [], l, h => ⟨h, by simp [insAll]⟩
  | b :: M, l, h => by
    have ih := insAll_spec M (insB b l) (srt_insB b l h)
    refine ⟨ih.1, fun y => ?_⟩
    rw [show insAll l (b :: M) = insAll (insB b l) M from rfl, ih.2, mem_insB, List.mem_cons]
    constructor
    · rintro ((q | q) | q)
      · exact .inr (.inl q)
      · exact .inl q
      · exact .inr (.inr q)
    · rintro (q | q | q)
      · exact .inl (.inr q)
      · exact .inl (.inl q)
      · exact .inr q
/-- The nodes of a tree, in order. -/
def nodesP (t : Tr) : List (List Int) := if t.isNo then [] else insAll [] (nmd t ++ [encT t])
theorem nodes_eq {M N : List (List Int)} (hp : N.Perm M) (hs : N.Pairwise (fun p q => lessP q p = false)) : dd N = insAll [] M := by
  have h := insAll_spec M [] (by simp [SrtB])
  refine srtB_uniq _ _ (dd_srt _ hs) h.1 fun x => ?_
  rw [mem_dd, h.2, hp.mem_iff]
  simp
theorem names_row {X : Nat → Prop} {w0 w : World} {gW base : Nat} {vN : Value} {ns : List (List Int)} (hW : Wt w gW base vN X ns) {gL : Nat} {a : Option Addr} {n c : Nat} {b : List Int} (hs : Sk (KW gW vN X) w a n c b) (hL : Rw gL w #[.slice a n c] 27) (hlen : ns.length + 1 ≤ 7600000000000) (hB : Bl w0 w) (hb0 : w0.heap.size ≤ base) :
    ∃ (gb cap : Nat) (cur : Array Value) (ps : List (Value × List Int)) (w' : World), (∀ ty, (Builtin.append_ #[41, 41] ty #[vN, .slice (some ⟨gL, 0, none⟩) 1 1]).run Tryz.prog w = .ok (.slice (some ⟨gb, 0, none⟩) (ns.length + 1) cap) w') ∧ Rw gb w' cur 27 ∧ cur.toList.take (ns.length + 1) = ps.map Prod.fst ∧ cur.size = cap ∧ ps.length = ns.length + 1 ∧ ns.length + 1 ≤ cap ∧ (∀ p ∈ ps, Gd (fun b => b ≠ gb ∧ X b) w' p) ∧ ps.map Prod.snd = ns ++ [b] ∧ w0.heap.size ≤ gb ∧ Bl w0 w' := by
  obtain ⟨i, hi, hz, hsz, hby⟩ := infoB
  have hlt := hW.lt
  have hbw := hW.b
  obtain ⟨vals, hown, hvl, hvs⟩ := hW.o
  obtain ⟨v', w', h1, h2, h3, h4, h5⟩ := app_at_wide w base 41 0 27 i (.slice none 0 0) 1 24 Tryz.underlying41 hi hz hsz hby rfl (by decide) vN ns.length vals hown ⟨gL, 0, none⟩ 1 1 [.slice a n c] rfl (fun j u hu => by
      cases j with
      | zero => rw [addr_add, cell_of_row _ _ _ _ _ _ hL]; exact hu
      | succ j => simp at hu) (fun u hu => by rw [List.mem_singleton.1 hu]; rfl) (by decide) (by unfold maxLen; omega) (by omega) (by omega)
  obtain ⟨hvl2, ho⟩ := h2
  rcases ho with ⟨e, hn⟩ | ⟨gb, cap, cur, rfl, hgb, hg, hc1, hc2, hc3, hc4⟩
  · omega
  have hown0 : ∀ k, vN.ownBlock = some k → w0.heap.size ≤ k := by
    intro k hk
    rcases hown.2 with ⟨rfl, _⟩ | ⟨g', cap', cur', rfl, hg', _⟩
    · cases hk
    · have e : g' = k := by simpa [Value.ownBlock] using hk
      omega
  have hgo : ∀ {a' : Option Addr} {m' c' : Nat} {x : List Int}, Sk (KW gW vN X) w a' m' c' x → Sk (fun b => b ≠ gb ∧ X b) w' a' m' c' x := by
    intro a' m' c' x hx
    refine ⟨⟨?_, hx.ag.nil, hx.ag.l, hx.ag.b⟩, fun y hy hn => ?_⟩
    · rcases hx.ag.i with q | ⟨g', off, q1, q2, q3, q4, q5, q7⟩
      · exact .inl q
      · refine .inr ⟨g', off, q1, q2, q3, q4, q5, fun j hj => ?_⟩
        rw [← q7 j hj]
        have hk := hx.k _ q1 q3
        exact World.cell?_of_block (h3.block g' (block_lt_of_cell (q7 j hj)) (fun e => hk.2.1 e.symm))
    · have hk := hx.k y hy hn
      refine ⟨?_, hk.2.2⟩
      intro e
      rcases h5 with q | q
      · exact hk.2.1 (by rw [← q, e]; rfl)
      · have h6 := hx.old hy hn
        have h7 : gb = w.heap.size := by simpa [Value.ownBlock] using q
        omega
  have hz2 : ∀ p ∈ (vals ++ [Value.slice a n c]).zip (ns ++ [b]), Gd (fun b => b ≠ gb ∧ X b) w' p := by
    intro p hp
    obtain ⟨j, hj, e⟩ := List.mem_iff_getElem.1 hp
    rw [List.getElem_zip] at e
    subst e
    simp only [List.length_zip, List.length_append, List.length_singleton] at hj
    by_cases hjl : j < vals.length
    · obtain ⟨a1, n1, c1, e1, hs1⟩ := hvs j vals[j] (List.getElem?_eq_getElem hjl)
      refine ⟨a1, n1, c1, ?_, ?_⟩
      · show (vals ++ [Value.slice a n c])[j] = _
        rw [List.getElem_append_left hjl]; exact e1
      · show Sk _ _ _ _ _ ((ns ++ [b])[j]'(by simp; omega))
        rw [List.getElem_append_left (by omega)]
        have : ns.getD j [] = ns[j]'(by omega) := by simp [List.getD, show j < ns.length by omega]
        rw [← this]
        exact hgo hs1
    · obtain rfl : j = vals.length := by omega
      refine ⟨a, n, c, ?_, ?_⟩
      · show (vals ++ [Value.slice a n c])[vals.length] = _
        simp
      · show Sk _ _ _ _ _ ((ns ++ [b])[vals.length]'(by simp; omega))
        have : (ns ++ [b])[vals.length]'(by simp; omega) = b := by simp [hvl]
        rw [this]
        exact hgo hs
  have hll : (vals ++ [Value.slice a n c]).length = (ns ++ [b]).length := by simp [hvl]
  refine ⟨gb, cap, cur, (vals ++ [Value.slice a n c]).zip (ns ++ [b]), w', fun ty => h1, hg, ?_, by rw [hc3, Nat.mul_one], by simp [hvl], hc1, hz2, ?_, ?_, ?_⟩
  · rw [List.map_fst_zip (by omega), ← hc4, Nat.mul_one]
  · rw [List.map_snd_zip (by omega)]
  · omega
  · exact Below.trans hB ⟨h3.os, h3.tape, h3.output, h3.size, fun k hk => h3.block k (Nat.lt_of_lt_of_le hk hB.size) (fun e => by have := hown0 k e.symm; omega)⟩
theorem Wt.newX {w w' : World} {gW : Nat} (X : Nat → Prop) (h : New w w' gW #[.slice none 0 0] 81) : Wt w' gW gW (.slice none 0 0) X [] := ⟨h.row, ⟨[], ⟨rfl, .inl ⟨rfl, rfl⟩⟩, rfl, fun j v hj => by simp at hj⟩, Nat.le_refl _⟩
/-- What Nodes tells. -/
def RNo (w : World) (t : Tr) : Value → World → Prop := fun u w' => (∃ a n c, u = .slice a n c ∧ Bt (fun b => w.heap.size ≤ b ∧ ∀ x, a = some x → b ≠ x.block) w' a n (nodesP t) ∧ (∀ x, a = some x → w.heap.size ≤ x.block) ∧ n ≤ 7600000000000) ∧ Bl w w'
theorem ol_appN {w w' : World} {v u r : Value} {ρ : Operand → Value} {o : Oper} (hr : ∀ ty, (Builtin.append_ #[41, 41] ty #[v, u]).run Tryz.prog w = .ok r w') (x y : Operand) (ho : o.op = .call { callee := .builtin .append, args := #[x, y], argTypes := #[41, 41] }) (hx : ρ x = v) (hy : ρ y = u) : (execOp ρ o).run Tryz.prog w = .ok (.value r) w' := by
  unfold execOp
  simp only [ho, resolve, invoke, builtin, Sem.run_bind, Sem.run_pure, Result.andThen_ok, List.map_toArray, List.map_cons, List.map_nil, hx, hy, hr]
theorem Bt.mono {K K' : Nat → Prop} {w : World} {a : Option Addr} {n : Nat} {M : List (List Int)} (h : Bt K w a n M) (hK : ∀ b, K b → K' b) : Bt K' w a n M := ⟨h.len, fun j hj => by
  obtain ⟨g, off, a', n', c', h1, h2, h3⟩ := h.row j hj
  exact ⟨g, off, a', n', c', h1, h2, h3.mono hK⟩⟩
set_option maxHeartbeats 1000000 in
theorem nodes_no {w : World} {g : Nat} (hr : Rw g w #[.nilIface] 67) :
    Calls Tryz.prog 20 #[.pointer (some ⟨g, 0, none⟩)] w fun e w' => ∃ u, e = .returned u ∧ RNo w no u w' := by
  have hB := Bl.refl w
  refine cw_enter Tryz.func20 rfl 25 rfl ?_
  show CW _ _ _ _ _ _ _ [(0, .pointer (some ⟨g, 0, none⟩))] _
  refine cw_seq ?_
  refine cw_region ?_
  refine rp 2 (.slice none 0 0) ?_
  refine rw_nil ?_
  refine nw_then ?_
  refine cw_seq ?_
  refine cw_seq ?_
  refine cw_region ?_
  refine rp 6 (.pointer (some ⟨g, 0, none⟩)) ?_
  refine rp 7 (.pointer (some ⟨g, 0, none⟩)) ?_
  refine rp 8 (.pointer (some ⟨g, 0, none⟩)) ?_
  refine rv 9 (.nilIface) (fun _ => ol_cell 65 _ ⟨g, 0, none⟩ _ _ rfl (by kernel_rfl) (by rw [cell_of_row _ _ _ _ _ _ hr]; rfl) Tryz.underlying65 rfl) ?_
  refine rp 10 (.bool true) ?_
  refine rw_nil ?_
  refine nw_then ?_
  refine cw_cond_t (fun _ => by kernel_rfl) ?_
  refine cw_seq ?_
  refine cw_region ?_
  refine rp 2 (.slice none 0 0) ?_
  refine rw_nil ?_
  refine nw_then ?_
  refine cw_ret ?_
  refine nw_ret_then ?_
  exact nw_ret_body (.slice none 0 0) (fun _ => by kernel_rfl) ⟨_, rfl, ⟨none, 0, 0, rfl, ⟨rfl, fun j hj => by omega⟩, (fun x hx => by cases hx), by omega⟩, hB⟩
set_option maxHeartbeats 4000000 in
theorem nodes_yes {K : Nat → Prop} {w : World} {g : Nat} {t : Tr} {T0 : TypeId} {v0 : Value} (hr : Rw g w #[.iface T0 v0] 67) (ht : TA K w t (.iface T0 v0)) (hO : Tr.Ok 64 t) (hne : t ≠ no) (hM : (nmd t).length + 1 ≤ 7600000000000) :
    Calls Tryz.prog 20 #[.pointer (some ⟨g, 0, none⟩)] w fun e w' => ∃ u, e = .returned u ∧ RNo w t u w' := by
  have hB := Bl.refl w
  replace ht := ht.old
  refine cw_enter Tryz.func20 rfl 25 rfl ?_
  show CW _ _ _ _ _ _ _ [(0, .pointer (some ⟨g, 0, none⟩))] _
  refine cw_seq ?_
  refine cw_region ?_
  refine rp 2 (.slice none 0 0) ?_
  refine rw_nil ?_
  refine nw_then ?_
  refine cw_seq ?_
  refine cw_seq ?_
  refine cw_region ?_
  refine rp 6 (.pointer (some ⟨g, 0, none⟩)) ?_
  refine rp 7 (.pointer (some ⟨g, 0, none⟩)) ?_
  refine rp 8 (.pointer (some ⟨g, 0, none⟩)) ?_
  refine rv 9 (.iface T0 v0) (fun _ => ol_cell 65 _ ⟨g, 0, none⟩ _ _ rfl (by kernel_rfl) (by rw [cell_of_row _ _ _ _ _ _ hr]; rfl) Tryz.underlying65 rfl) ?_
  refine rp 10 (.bool false) ?_
  refine rw_nil ?_
  refine nw_then ?_
  refine cw_cond_f (fun _ => by kernel_rfl) ?_
  refine cw_skip ?_
  refine nw_then ?_
  refine cw_seq ?_
  refine cw_region ?_
  refine rw_new 3 #[.slice none 0 0] 81 (fun _ => by kernel_rfl) (fun _ => by kernel_rfl) ?_
  intro wW gW hnW
  have hzW := hB.size
  replace hB := hB.go hnW.below
  replace hr := hr.go hnW.below
  replace ht := ht.go hnW.below
  have hgW := hnW.hg
  have hWt := Wt.newX (fun b => w.heap.size ≤ b) hnW
  have hBW := hB
  refine rw_nil ?_
  refine nw_then ?_
  refine cw_seq ?_
  refine cw_region ?_
  refine rp 11 (.pointer (some ⟨g, 0, none⟩)) ?_
  refine rp 12 (.pointer (some ⟨g, 0, none⟩)) ?_
  refine rp 13 (.pointer (some ⟨g, 0, none⟩)) ?_
  refine rv 14 (.iface T0 v0) (fun _ => ol_cell 65 _ ⟨g, 0, none⟩ _ _ rfl (by kernel_rfl) (by rw [cell_of_row _ _ _ _ _ _ hr]; rfl) Tryz.underlying65 rfl) ?_
  refine rw_call 15 40 #[.pointer (some ⟨gW, 0, none⟩), .iface T0 v0] (fun _ => by kernel_rfl) (fun _ => by kernel_rfl) (R := REn wW gW gW (.slice none 0 0) (fun b => w.heap.size ≤ b) [] t) (nds_enc hne (nds_all t hO (by omega)) (ht.mono (K' := KW gW (.slice none 0 0) (fun _ => True)) (fun b hb => ⟨by omega, by simp [Value.ownBlock], trivial⟩)) hWt (fun b hb => Nat.le_trans hBW.size hb) (by simpa using hM)) ?_
  rintro _ u1 ⟨a2, n2, c2, vM, rfl, hs2, hW1, hG, hen⟩
  replace hB := hG.below hB (by omega) rfl
  clear hr ht hWt
  rw [List.nil_append] at hW1
  replace hs2 : Sk (KW gW vM (fun b => w.heap.size ≤ b)) u1 a2 n2 c2 (encT t) := hs2.mono (fun b hb => ⟨hb.1, hb.2.1, Nat.le_trans hBW.size hb.2.2⟩)
  refine rp 4 (.slice a2 n2 c2) ?_
  refine rw_nil ?_
  refine nw_then ?_
  refine cw_seq ?_
  refine cw_region ?_
  refine rp 16 (.pointer (some ⟨gW, 0, none⟩)) ?_
  refine rv 17 (vM) (fun _ => ol_cell 41 _ ⟨gW, 0, none⟩ _ _ rfl (by kernel_rfl) (by rw [cell_of_row _ _ _ _ _ _ hW1.r]; rfl) Tryz.underlying41 rfl) ?_
  refine rp 18 (.slice a2 n2 c2) ?_
  refine rw_newS 19 #[.slice a2 n2 c2] 27 1 (fun _ => by kernel_rfl) (fun _ => by kernel_rfl) ?_
  intro wL gL hnL
  replace hB := hB.go hnL.below
  replace hs2 := hs2.go hnL.below
  replace hW1 := hW1.go hnL.below
  have hL : Rw gL wL #[.slice a2 n2 c2] 27 := hnL.row
  obtain ⟨gb, cap, cur, ps, wA, hrun, hrA, hcA, hszA, hlA, hleA, hgA, hsnd, hgb, hBA⟩ := names_row hW1 hs2 hL hM hB (by omega)
  refine rw_v 20 (.slice (some ⟨gb, 0, none⟩) ((nmd t).length + 1) cap) (fun _ => by kernel_rfl) (fun _ => ol_appN hrun _ _ rfl (by kernel_rfl) (by kernel_rfl)) ?_
  clear hB hs2 hW1 hL
  refine rp 5 (.slice (some ⟨gb, 0, none⟩) ((nmd t).length + 1) cap) ?_
  refine rw_nil ?_
  refine nw_then ?_
  refine cw_seq ?_
  refine cw_region ?_
  refine rp 21 (.slice (some ⟨gb, 0, none⟩) ((nmd t).length + 1) cap) ?_
  refine rw_call 22 41 #[.slice (some ⟨gb, 0, none⟩) ((nmd t).length + 1) cap, .func (.func 42) #[] #[]] (fun _ => by kernel_rfl) (fun _ => by kernel_rfl) (R := fun u w' => u = .tuple #[] ∧ (∃ (ps' : List (Value × List Int)) (cur' : Array Value), ps'.Perm ps ∧ ps'.Pairwise (fun p q => lessP q.2 p.2 = false) ∧ Rw gb w' cur' 27 ∧ cur'.toList.take ((nmd t).length + 1) = ps'.map Prod.fst ∧ cur'.size = cap) ∧ Touch gb wA w') (sort_bytes hrA hcA hszA hlA hleA hgA (fun h => h.1 rfl) (by omega) (by omega)) ?_
  rintro _ u2 ⟨rfl, ⟨ps', cur', hperm, hpair, hrS, hcS, hszS⟩, hto⟩
  have hgS : ∀ p ∈ ps', Gd (fun b => b ≠ gb ∧ w.heap.size ≤ b) u2 p := fun p hp => (hgA p (hperm.mem_iff.1 hp)).tou hto (fun h => h.1 rfl)
  have hBS : Bl w u2 := hto.below hBA hgb hBA.size
  refine rw_nil ?_
  refine nw_then ?_
  refine cw_seq ?_
  refine cw_region ?_
  refine rp 23 (.slice (some ⟨gb, 0, none⟩) ((nmd t).length + 1) cap) ?_
  refine rw_call 24 43 #[.slice (some ⟨gb, 0, none⟩) ((nmd t).length + 1) cap, .func (.func 44) #[] #[]] (fun _ => by kernel_rfl) (fun _ => by kernel_rfl) (R := fun u w' => ∃ k, u = .slice (some ⟨gb, 0, none⟩) k cap ∧ Bt (fun b => b ≠ gb ∧ w.heap.size ≤ b) w' (some ⟨gb, 0, none⟩) k (dd (ps'.map Prod.snd)) ∧ Touch gb u2 w') (compact_any hrS hcS hszS (by rw [hperm.length_eq, hlA]) hleA hgS (fun h => h.1 rfl) (by omega)) ?_
  rintro _ u3 ⟨k3, rfl, hbt, hto3⟩
  have hB3 : Bl w u3 := hto3.below hBS hgb hBS.size
  refine rp 2 (.slice (some ⟨gb, 0, none⟩) k3 cap) ?_
  refine rw_nil ?_
  refine nw_then ?_
  refine cw_ret ?_
  have hM2 : dd (ps'.map Prod.snd) = nodesP t := by
    rw [nodes_eq (M := nmd t ++ [encT t]) (by rw [← hsnd]; exact hperm.map _) (List.pairwise_map.2 hpair)]; unfold nodesP; rw [if_neg (fun e => hne (isNo_iff.1 e))]
  have hk3 : k3 ≤ (nmd t).length + 1 := by rw [← hbt.len]; refine Nat.le_trans (dd_len _) ?_; rw [List.length_map, hperm.length_eq, hlA]; exact Nat.le_refl _
  rw [hM2] at hbt
  exact nw_ret_body (.slice (some ⟨gb, 0, none⟩) k3 cap) (fun _ => by kernel_rfl) ⟨_, rfl, ⟨_, _, _, rfl, hbt.mono (fun b hb => ⟨hb.2, fun x hx => by cases hx; exact hb.1⟩), (fun x hx => by cases hx; exact hgb), by omega⟩, hB3⟩
theorem nodes_any {K : Nat → Prop} {w : World} {g : Nat} {t : Tr} (h : Tri K w g t) (hM : (nmd t).length + 1 ≤ 7600000000000) :
    Calls Tryz.prog 20 #[.pointer (some ⟨g, 0, none⟩)] w fun e w' => ∃ u, e = .returned u ∧ RNo w t u w' := by
  obtain ⟨⟨v, h1, h2⟩, h3⟩ := h
  rcases h3 with rfl | hO
  · rw [show v = .nilIface from h2] at h1
    exact nodes_no h1
  · have hne := hO.ne
    obtain ⟨T0, v0, rfl⟩ := h2.iface hne
    exact nodes_yes h1 h2 hO hne hM
end Go.Proofs.YtalhnnjpjaeakaaGreat
/- The statement TrieBack: a Put of a key that had no value, and a Delete of it, change nothing; nor do a Delete and a Put of what was there. -/
namespace Go.Proofs.YtalhnnjpjaeakaaGreat
open Go.RowKit
open Tr
set_option linter.unusedVariables false
set_option maxRecDepth 100000
theorem tdel_ok {K : Nat → Prop} {w : World} {g : Nat} {t : Tr} {a : Option Addr} {n c : Nat} {k : List Int} (h : Tri K w g t) (hk : Sk K w a n c k) (hn : n ≤ 32) (hK : ∀ b, w.heap.size ≤ b → K b) :
    Calls Tryz.prog 12 #[.pointer (some ⟨g, 0, none⟩), .slice a n c] w fun e w' => ∃ u, e = .returned u ∧ u = .tuple #[.bool (decide (Tr.get t (Ni.nib k) ≠ [])), .int .i64 0] ∧ Tri K w' g (delT t k) ∧ Touch g w w' := by
  have lk := hk.len
  unfold delT
  rw [lk]
  by_cases hg : Tr.get t (Ni.nib k) = []
  · rw [if_neg (fun q => q.2 hg), show decide (Tr.get t (Ni.nib k) ≠ []) = false from by simp [hg]]
    have h' := h
    obtain ⟨⟨v, h1, h2⟩, h3⟩ := h'
    exact (delete_none h1 h2 h3 hk hn hK hg).mono (fun e w' ⟨u, e1, e2, e3⟩ => ⟨u, e1, e2, h.go e3, Touch.of_below e3⟩)
  · rw [if_pos ⟨hn, hg⟩, show decide (Tr.get t (Ni.nib k) ≠ []) = true from by simp [hg]]
    obtain ⟨⟨v, h1, h2⟩, h3⟩ := h
    exact delete_some h1 h2 h3 hk hn hK hg
theorem nib_len (k : List Int) : (Ni.nib k).length = 2 * k.length := by
  induction k with
  | nil => rfl
  | cons x k ih => simp only [Ni.nib, List.length_cons, ih]; omega
theorem back_put {t : Tr} {k x : List Int} (h : t = no ∨ Tr.Ok 64 t) (hk : ∀ y ∈ k, 0 ≤ y ∧ y < 256) (hl : k.length ≤ 32) (h1 : 0 < x.length) (h2 : x.length ≤ 256) (hg : Tr.get t (Ni.nib k) = []) : delT (putT t k x) k = t ∧ Tr.get (putT t k x) (Ni.nib k) ≠ [] := by
  have hx : x ≠ [] := fun e => by rw [e] at h1; simp at h1
  have hq := nib_nb hk
  have e : putT t k x = put t (Ni.nib k) x := by unfold putT; rw [if_pos ⟨hl, h1, h2⟩]
  have hgp : Tr.get (put t (Ni.nib k) x) (Ni.nib k) ≠ [] := by rw [get_put t 64 _ _ _ h hq hq, if_pos rfl]; exact hx
  rw [e]
  refine ⟨?_, hgp⟩
  unfold delT
  rw [if_pos ⟨hl, hgp⟩]
  exact put_back h hq (by rw [nib_len]; omega) hx hg
theorem back_del {t : Tr} {k : List Int} (h : t = no ∨ Tr.Ok 64 t) (hk : ∀ y ∈ k, 0 ≤ y ∧ y < 256) (hl : k.length ≤ 32) (hg : Tr.get t (Ni.nib k) ≠ []) (h2 : (Tr.get t (Ni.nib k)).length ≤ 256) : putT (delT t k) k (Tr.get t (Ni.nib k)) = t ∧ putE k (Tr.get t (Ni.nib k)) = 0 := by
  have hq := nib_nb hk
  have h1 : 0 < (Tr.get t (Ni.nib k)).length := List.length_pos_iff.2 hg
  rcases h with rfl | h
  · exact absurd rfl hg
  · refine ⟨?_, by unfold putE; rw [if_pos hl, if_pos ⟨h1, h2⟩]⟩
    unfold delT
    rw [if_pos ⟨hl, hg⟩]
    unfold putT
    rw [if_pos ⟨hl, h1, h2⟩]
    exact del_back h hq (by rw [nib_len]; omega) hg
theorem Bt.tou {K : Nat → Prop} {w w' : World} {g : Nat} {a : Option Addr} {n : Nat} {M : List (List Int)} (h : Bt K w a n M) (t : Touch g w w') (hK : ¬ K g) (ha : ∀ x, a = some x → x.block ≠ g) : Bt K w' a n M := ⟨h.len, fun j hj => by
  obtain ⟨g', off, a', n', c', h1, h2, h3⟩ := h.row j hj
  exact ⟨g', off, a', n', c', h1, (World.cell?_of_block (a := ⟨g', off + j * 1, none⟩) (t.block g' (block_lt_of_cell h2) (ha _ h1))).trans h2, h3.tou t hK⟩⟩
theorem rootP_len (t : Tr) : (rootP t).length = 32 := by unfold rootP; split <;> exact dref_len _
set_option maxHeartbeats 8000000 in
theorem back_any (a : Option Addr) (n c : Nat) (xs : List Opx) (ak : Option Addr) (nk ck : Nat) (k : List Int) (av : Option Addr) (nv cv : Nat) (x : List Int) (w : World) (hO : OAt w a n xs) (hn : n ≤ 2520000000000) (hka : Ag w ak nk ck k) (hva : Ag w av nv cv x) :
    Calls Tryz.prog 6 #[.slice a n c, .slice ak nk ck, .slice av nv cv] w fun e w' => e = .returned (.bool true) ∧ Below w.heap.size w w' := by
  have hk := hka.an
  have hv := hva.an
  have hB := Bl.refl w
  have lk := hk.len
  have lv := hv.len
  refine cw_enter Tryz.func6 rfl 150 rfl ?_
  show CW _ _ _ _ _ _ _ [(0, .slice a n c), (1, .slice ak nk ck), (2, .slice av nv cv)] _
  refine cw_seq ?_
  refine cw_region ?_
  refine rp 6 (.bool false) ?_
  refine rw_nil ?_
  refine nw_then ?_
  refine cw_seq ?_
  refine cw_region ?_
  refine rw_call 25 8 #[] (fun _ => by kernel_rfl) (fun _ => by kernel_rfl) (R := fun u w' => (∃ g, u = .tuple #[.pointer (some ⟨g, 0, none⟩), .bool true] ∧ (w).heap.size ≤ g ∧ Tri An w' g no) ∧ Bl (w) w') (begun_any (K := An) (fun _ _ => trivial)) ?_
  rintro _ u1 ⟨⟨g, rfl, hgw, hT⟩, hb2⟩
  replace hB := hB.go hb2
  refine rp 24 (.tuple #[.pointer (some ⟨g, 0, none⟩), .bool true]) ?_
  refine rp 26 (.pointer (some ⟨g, 0, none⟩)) ?_
  refine rp 27 (.bool true) ?_
  refine rp 7 (.pointer (some ⟨g, 0, none⟩)) ?_
  refine rp 8 (.bool true) ?_
  refine rw_nil ?_
  refine nw_then ?_
  refine cw_seq ?_
  refine cw_seq ?_
  refine cw_region ?_
  refine rp 28 (.bool true) ?_
  refine rp 29 (.bool false) ?_
  refine rp 30 (.bool false) ?_
  refine rp 31 (.pointer (some ⟨g, 0, none⟩)) ?_
  refine rp 32 (.bool false) ?_
  refine rp 33 (.bool false) ?_
  refine rw_nil ?_
  refine nw_then ?_
  refine cw_cond_f (fun _ => by kernel_rfl) ?_
  refine cw_skip ?_
  refine nw_then ?_
  refine cw_seq ?_
  refine cw_seq ?_
  refine cw_region ?_
  refine rp 34 (.slice a n c) ?_
  refine rp 35 (.int .i64 n) ?_
  refine rp 36 (.int .i64 0) ?_
  refine rw_nil ?_
  refine nw_then ?_
  refine cw_block ?_
  refine cw_loop (X := Nat × Tr) (fun z => [(36, .int .i64 ((z.1 : Nat) : Int)), (34, .slice a n c), (35, .int .i64 n), (1, .slice ak nk ck), (2, .slice av nv cv), (6, .bool false), (7, .pointer (some ⟨g, 0, none⟩))]) (fun z v => Bl w v ∧ Tri An v g z.2 ∧ z.1 ≤ n ∧ Tr.sz z.2 ≤ 3 * z.1) (fun z => n - z.1) (0, no) (by exact ⟨fun _ => by kernel_rfl, ⟨fun _ => by kernel_rfl, ⟨fun _ => by kernel_rfl, ⟨fun _ => by kernel_rfl, ⟨fun _ => by kernel_rfl, ⟨fun _ => by kernel_rfl, ⟨fun _ => by kernel_rfl, trivial⟩⟩⟩⟩⟩⟩⟩) ⟨hB, hT, Nat.zero_le _, by simp [Tr.sz]⟩ ?_
  clear hB hT
  rintro ⟨j, t⟩ v ⟨hB, hT, hj, hz⟩
  simp only at hB hT hj hz
  show CW _ _ _ _ _ _ _ [(36, .int .i64 ((j : Nat) : Int)), (34, .slice a n c), (35, .int .i64 n), (1, .slice ak nk ck), (2, .slice av nv cv), (6, .bool false), (7, .pointer (some ⟨g, 0, none⟩))] _
  by_cases hlt : j < n
  · skip
    have hjx : j < xs.length := by rw [hO.len]; exact hlt
    obtain ⟨y, hy⟩ : ∃ y, xs[j]? = some y := ⟨_, List.getElem?_eq_getElem hjx⟩
    have hym : y ∈ xs := List.mem_of_getElem? hy
    obtain ⟨gS, oS, ea, hrow⟩ := hO.row j y hy
    subst ea
    have hy1 := (hO.k y hym).an
    have hy2 := (hO.x y hym).an
    refine cw_seq ?_
    refine cw_region ?_
    refine rv 37 (.bool true) (fun _ => ol_conv (v := .bool (decide (((j : Nat) : Int) < (n : Int)))) (by kernel_rfl) (congrArg Value.bool (decide_eq_true (by omega)))) ?_
    refine rw_nil ?_
    refine nw_then ?_
    refine cw_seq ?_
    refine cw_cond_t (fun _ => by kernel_rfl) ?_
    refine cw_skip ?_
    refine nw_then ?_
    refine cw_seq ?_
    refine cw_block ?_
    refine cw_seq ?_
    refine cw_region ?_
    refine rv 38 (.pointer (some ⟨gS, oS + j * 3, none⟩)) (fun _ => ol_index 22 _ _ gS oS j n c 3 29 rfl (by kernel_rfl) (by kernel_rfl) hlt Tryz.underlying22 (by kernel_rfl)) ?_
    refine rv 39 (.agg #[.int .i64 y.z, .slice y.ka y.kn y.kc, .slice y.va y.vn y.vc]) (fun _ => ol_mid 29 _ gS (oS + j * 3) y.cells.toList _ rfl (by kernel_rfl) (rng_go hrow hB) Tryz.underlying29 rfl (by kernel_rfl)) ?_
    refine rw_new 10 #[.int .i64 0, .slice none 0 0, .slice none 0 0] 29 (fun _ => by kernel_rfl) (fun _ => by kernel_rfl) ?_
    intro wA gA hnA
    refine rw_put gA #[.int .i64 y.z, .slice y.ka y.kn y.kc, .slice y.va y.vn y.vc] (fun _ => by kernel_rfl) (fun _ => ol_store 29 _ _ _ _ _ _ rfl (by kernel_rfl) (by kernel_rfl) hnA.row (by kernel_rfl) rfl (by kernel_rfl)) ?_
    intro wC hpC
    have hnC := hnA.put hpC
    have hgA := hnC.hg
    have htl := hT.lt
    replace hB := hB.go hnC.below
    replace hT := hT.go hnC.below
    have hrA : Rw gA wC #[.int .i64 y.z, .slice y.ka y.kn y.kc, .slice y.va y.vn y.vc] 29 := hnC.row
    refine rw_nil ?_
    refine nw_then ?_
    refine cw_region ?_
    refine rp 40 (.pointer (some ⟨g, 0, none⟩)) ?_
    refine rp 41 (.pointer (some ⟨gA, 1, none⟩)) ?_
    refine rv 42 (.slice y.ka y.kn y.kc) (fun _ => ol_cell 27 _ ⟨gA, 1, none⟩ _ _ rfl (by kernel_rfl) (by rw [cell_of_row _ _ _ _ _ _ hrA]; rfl) Tryz.underlying27 rfl) ?_
    refine rp 43 (.pointer (some ⟨gA, 2, none⟩)) ?_
    refine rv 44 (.slice y.va y.vn y.vc) (fun _ => ol_cell 27 _ ⟨gA, 2, none⟩ _ _ rfl (by kernel_rfl) (by rw [cell_of_row _ _ _ _ _ _ hrA]; rfl) Tryz.underlying27 rfl) ?_
    refine rw_call 45 11 #[.pointer (some ⟨g, 0, none⟩), .slice y.ka y.kn y.kc, .slice y.va y.vn y.vc] (fun _ => by kernel_rfl) (fun _ => by kernel_rfl) (R := fun u w' => u = .int .i64 (putE y.k y.x) ∧ Tri An w' g (putT t y.k y.x) ∧ Touch g (wC) w') ((tput_any hT (hy1.go hB) (hy2.go hB) (fun _ _ => trivial))) ?_
    rintro _ u3 ⟨rfl, hTn, hto⟩
    have hgl := hT.lt
    replace hB : Bl w u3 := hto.below hB hgw hB.size
    replace hrA := hrA.touch hto (by omega)
    have hoks := hT.ok
    replace hT := hTn
    refine rw_nil ?_
    refine nw_block ?_
    refine nw_then ?_
    refine cw_region ?_
    refine rv 46 (.int .i64 (((j : Nat) : Int) + 1)) (fun _ => ol_conv (v := .int .i64 (IntKind.i64.wrap (((j : Nat) : Int) + 1))) (by kernel_rfl) (congrArg (Value.int .i64) (wrap64 (by omega) (by omega)))) ?_
    refine rp 36 (.int .i64 (((j : Nat) : Int) + 1)) ?_
    refine rw_nil ?_
    have hz2 := sz_putT t y.k y.x
    exact nw_round (E := fun z => [(36, .int .i64 ((z.1 : Nat) : Int)), (34, .slice (some ⟨gS, oS, none⟩) n c), (35, .int .i64 n), (1, .slice ak nk ck), (2, .slice av nv cv), (6, .bool false), (7, .pointer (some ⟨g, 0, none⟩))]) (R := fun z v => Bl w v ∧ Tri An v g z.2 ∧ z.1 ≤ n ∧ Tr.sz z.2 ≤ 3 * z.1) (μ := fun z => n - z.1) (x := (j, t)) (j + 1, putT t y.k y.x) (by exact ⟨fun _ => by kernel_rfl, ⟨fun _ => by kernel_rfl, ⟨fun _ => by kernel_rfl, ⟨fun _ => by kernel_rfl, ⟨fun _ => by kernel_rfl, ⟨fun _ => by kernel_rfl, ⟨fun _ => by kernel_rfl, trivial⟩⟩⟩⟩⟩⟩⟩) ⟨hB, hT, by omega, by show Tr.sz (putT t y.k y.x) ≤ 3 * (j + 1); omega⟩ (by show n - (j + 1) < n - j; omega)
  obtain rfl : j = n := by omega
  have hM : (nmd t).length + 1 ≤ 7600000000000 := by have := nmd_le t; omega
  have hdl := rootP_len t
  obtain ⟨ds, hds⟩ : ∃ ds, rootP t = ds := ⟨_, rfl⟩
  rw [hds] at hdl
  show CW _ _ _ _ _ _ _ [(36, .int .i64 ((j : Nat) : Int)), (34, .slice a j c), (35, .int .i64 ((j : Nat) : Int)), (1, .slice ak nk ck), (2, .slice av nv cv), (6, .bool false), (7, .pointer (some ⟨g, 0, none⟩))] _
  refine cw_seq ?_
  refine cw_region ?_
  refine rv 37 (.bool false) (fun _ => ol_conv (v := .bool (decide (((j : Nat) : Int) < ((j : Nat) : Int)))) (by kernel_rfl) (congrArg Value.bool (decide_eq_false (by omega)))) ?_
  refine rw_nil ?_
  refine nw_then ?_
  refine cw_seq ?_
  refine cw_cond_f (fun _ => by kernel_rfl) ?_
  refine cw_exit ?_
  refine nw_exit_then ?_
  refine nw_exit_then ?_
  refine nw_exit_here ?_
  refine nw_then ?_
  refine cw_seq ?_
  refine cw_region ?_
  refine rp 47 (.pointer (some ⟨g, 0, none⟩)) ?_
  refine rw_call 48 18 #[.pointer (some ⟨g, 0, none⟩)] (fun _ => by kernel_rfl) (fun _ => by kernel_rfl) (R := fun u w' => u = .agg (B8 ds) ∧ Bl (v) w') (((root_any hT hM).mono (fun e w' ⟨u, e1, e2, e3⟩ => ⟨u, e1, by rw [e2, hds], e3⟩))) ?_
  rintro _ u4 ⟨rfl, hb5⟩
  replace hB := hB.go hb5
  replace hT := hT.go hb5
  refine rw_new 11 (B8 z32) 49 (fun _ => by kernel_rfl) (fun _ => by kernel_rfl) ?_
  intro wR gR hnR
  refine rw_put gR (B8 ds) (fun _ => by kernel_rfl) (fun _ => ol_store 49 _ _ _ _ _ _ rfl (by kernel_rfl) (by kernel_rfl) hnR.row (infoD' hdl) (z8_size hdl) (B8_one _)) ?_
  intro wQ hpQ
  have hnQ := hnR.put hpQ
  have hgR := hnQ.hg
  have htlR := hT.lt
  replace hB := hB.go hnQ.below
  replace hT := hT.go hnQ.below
  have hR : Rw gR wQ (B8 ds) 49 := hnQ.row
  refine rw_nil ?_
  refine nw_then ?_
  refine cw_seq ?_
  refine cw_region ?_
  refine rp 49 (.pointer (some ⟨g, 0, none⟩)) ?_
  have hglN := hT.lt
  refine rw_call 50 20 #[.pointer (some ⟨g, 0, none⟩)] (fun _ => by kernel_rfl) (fun _ => by kernel_rfl) (R := RNo (wQ) t) (nodes_any hT hM) ?_
  rintro _ u6 ⟨⟨aN, nN, cN, rfl, hN, hNb, hNn⟩, hb7⟩
  have hNK : ¬ ((wQ).heap.size ≤ g ∧ ∀ x, aN = some x → g ≠ x.block) := fun h => by have := h.1; omega
  have hNa : ∀ x, aN = some x → x.block ≠ g := fun x hx => by have := hNb x hx; omega
  replace hB := hB.go hb7
  replace hT := hT.go hb7
  replace hR := hR.go hb7
  refine rp 12 (.slice aN nN cN) ?_
  refine rw_nil ?_
  refine nw_then ?_
  refine cw_seq ?_
  refine cw_region ?_
  refine rp 52 (.pointer (some ⟨g, 0, none⟩)) ?_
  refine rp 53 (.slice ak nk ck) ?_
  by_cases h1 : nk ≤ 32
  · skip
    refine rw_call 54 22 #[.pointer (some ⟨g, 0, none⟩), .slice ak nk ck] (fun _ => by kernel_rfl) (fun _ => by kernel_rfl) (R := fun u w' => (∃ a2 n2 c2 b, u = .tuple #[.slice a2 n2 c2, .bool b, .int .i64 0] ∧ b = decide (Tr.get t (Ni.nib k) ≠ []) ∧ Sk (fun b => (u6).heap.size ≤ b) w' a2 n2 c2 (Tr.get t (Ni.nib k))) ∧ Bl (u6) w') ((tget_ok hT (hk.go hB) h1 (fun _ _ => trivial))) ?_
    rintro _ u8 ⟨⟨a2, n2, c2, b2, rfl, eb2, hs2⟩, hb9⟩
    replace hB := hB.go hb9
    replace hT := hT.go hb9
    replace hR := hR.go hb9
    replace hN := hN.go hb9
    have hoks0 := hT.ok
    have hl256 : (Tr.get t (Ni.nib k)).length ≤ 256 := by obtain ⟨⟨vT, _, htT⟩, _⟩ := hT; exact htT.len _ (nib_nb hk.ag.b)
    by_cases hgt : Tr.get t (Ni.nib k) = []
    · skip
      obtain rfl : b2 = false := by rw [eb2]; simp [hgt]
      by_cases hvv : 0 < nv ∧ nv ≤ 256
      · skip
        have hpe : putE k x = 0 := by unfold putE; rw [lk, lv, if_pos h1, if_pos hvv]
        have hbk := back_put (x := x) hoks0 hk.ag.b (by omega) (by omega) (by omega) hgt
        refine rp 51 (.tuple #[.slice a2 n2 c2, .bool false, .int .i64 0]) ?_
        refine rp 55 (.slice a2 n2 c2) ?_
        refine rp 56 (.bool false) ?_
        refine rp 57 (.int .i64 0) ?_
        refine rp 13 (.slice a2 n2 c2) ?_
        refine rp 14 (.bool false) ?_
        refine rp 15 (.int .i64 0) ?_
        refine rw_nil ?_
        refine nw_then ?_
        refine cw_seq ?_
        refine cw_seq ?_
        refine cw_region ?_
        refine rp 58 (.int .i64 0) ?_
        refine rp 59 (.bool false) ?_
        refine rw_nil ?_
        refine nw_then ?_
        refine cw_cond_f (fun _ => by kernel_rfl) ?_
        refine cw_skip ?_
        refine nw_then ?_
        refine cw_seq ?_
        refine cw_seq ?_
        refine cw_region ?_
        refine rp 67 (.bool false) ?_
        refine rw_nil ?_
        refine nw_then ?_
        refine cw_cond_f (fun _ => by kernel_rfl) ?_
        refine cw_skip ?_
        refine nw_then ?_
        refine cw_seq ?_
        refine cw_region ?_
        refine rp 99 (.pointer (some ⟨g, 0, none⟩)) ?_
        refine rp 100 (.slice ak nk ck) ?_
        refine rp 101 (.slice av nv cv) ?_
        refine rw_call 102 11 #[.pointer (some ⟨g, 0, none⟩), .slice ak nk ck, .slice av nv cv] (fun _ => by kernel_rfl) (fun _ => by kernel_rfl) (R := fun u w' => u = .int .i64 (putE k x) ∧ Tri An w' g (putT t k x) ∧ Touch g (u8) w') ((tput_any hT (hk.go hB) (hv.go hB) (fun _ _ => trivial))) ?_
        rintro _ u10 ⟨rfl, hTn, hto⟩
        have hgl := hT.lt
        replace hB : Bl w u10 := hto.below hB hgw hB.size
        replace hR := hR.touch hto (by omega)
        replace hN := hN.tou hto hNK hNa
        replace hs2 := hs2.touch hto hT
        have hoks := hT.ok
        replace hT := hTn
        rw [hpe]
        refine rp 19 (.int .i64 0) ?_
        refine rw_nil ?_
        refine nw_then ?_
        refine cw_seq ?_
        refine cw_seq ?_
        refine cw_region ?_
        refine rp 103 (.int .i64 0) ?_
        refine rp 104 (.bool false) ?_
        refine rw_nil ?_
        refine nw_then ?_
        refine cw_cond_f (fun _ => by kernel_rfl) ?_
        refine cw_skip ?_
        refine nw_then ?_
        refine cw_seq ?_
        refine cw_region ?_
        refine rp 114 (.pointer (some ⟨g, 0, none⟩)) ?_
        refine rp 115 (.slice ak nk ck) ?_
        refine rw_call 116 12 #[.pointer (some ⟨g, 0, none⟩), .slice ak nk ck] (fun _ => by kernel_rfl) (fun _ => by kernel_rfl) (R := fun u w' => u = .tuple #[.bool true, .int .i64 0] ∧ Tri An w' g (delT (putT t k x) k) ∧ Touch g (u10) w') (((tdel_ok hT (hk.go hB) h1 (fun _ _ => trivial)).mono (fun e w' ⟨u, e1, e2, e3⟩ => ⟨u, e1, by rw [e2, show decide (Tr.get (putT t k x) (Ni.nib k) ≠ []) = true from by simp [hbk.2]], e3⟩))) ?_
        rintro _ u11 ⟨rfl, hTn, hto⟩
        have hgl := hT.lt
        replace hB : Bl w u11 := hto.below hB hgw hB.size
        replace hR := hR.touch hto (by omega)
        replace hN := hN.tou hto hNK hNa
        replace hs2 := hs2.touch hto hT
        have hoks := hT.ok
        replace hT := hTn
        rw [hbk.1] at hT
        refine rp 113 (.tuple #[.bool true, .int .i64 0]) ?_
        refine rp 117 (.bool true) ?_
        refine rp 118 (.int .i64 0) ?_
        refine rp 20 (.bool true) ?_
        refine rp 21 (.int .i64 0) ?_
        refine rw_nil ?_
        refine nw_then ?_
        refine cw_seq ?_
        refine cw_region ?_
        refine rp 120 (.pointer (some ⟨g, 0, none⟩)) ?_
        refine rp 121 (.slice ak nk ck) ?_
        refine rw_call 122 12 #[.pointer (some ⟨g, 0, none⟩), .slice ak nk ck] (fun _ => by kernel_rfl) (fun _ => by kernel_rfl) (R := fun u w' => u = .tuple #[.bool false, .int .i64 0] ∧ Tri An w' g (delT t k) ∧ Touch g (u11) w') (((tdel_ok hT (hk.go hB) h1 (fun _ _ => trivial)).mono (fun e w' ⟨u, e1, e2, e3⟩ => ⟨u, e1, by rw [e2, show decide (Tr.get t (Ni.nib k) ≠ []) = false from by simp [hgt]], e3⟩))) ?_
        rintro _ u12 ⟨rfl, hTn, hto⟩
        have hgl := hT.lt
        replace hB : Bl w u12 := hto.below hB hgw hB.size
        replace hR := hR.touch hto (by omega)
        replace hN := hN.tou hto hNK hNa
        replace hs2 := hs2.touch hto hT
        have hoks := hT.ok
        replace hT := hTn
        rw [show delT t k = t from by unfold delT; rw [if_neg (fun q => q.2 hgt)]] at hT
        refine rp 119 (.tuple #[.bool false, .int .i64 0]) ?_
        refine rp 123 (.bool false) ?_
        refine rp 124 (.int .i64 0) ?_
        refine rp 22 (.bool false) ?_
        refine rp 23 (.int .i64 0) ?_
        refine rw_nil ?_
        refine nw_then ?_
        refine cw_seq ?_
        refine cw_draw (fun v => Rw gR v (B8 ds) 49) (by kernel_rfl) (hR.drew) ?_
        replace hB := hB.drew
        replace hT := hT.drew
        replace hR := hR.drew
        replace hN := hN.drew
        replace hs2 := hs2.drew
        refine dt 0 125 (.bool true) (fun v hv _ => by kernel_rfl) hR ?_
        refine dt 1 126 (.bool true) (fun v hv _ => by kernel_rfl) hR ?_
        refine dt 2 127 (.bool false) (fun v hv _ => by kernel_rfl) hR ?_
        refine dt 3 128 (.bool true) (fun v hv _ => by kernel_rfl) hR ?_
        refine dt 4 129 (.bool true) (fun v hv _ => by kernel_rfl) hR ?_
        refine dt 5 130 (.bool true) (fun v hv _ => by kernel_rfl) hR ?_
        refine dt 6 131 (.int .i64 0) (fun v hv _ => by kernel_rfl) hR ?_
        refine dt 7 132 (.bool true) (fun v hv _ => by kernel_rfl) hR ?_
        refine dt 8 133 (.bool true) (fun v hv _ => by kernel_rfl) hR ?_
        refine dt 9 134 (.bool true) (fun v hv _ => by kernel_rfl) hR ?_
        refine dt 10 135 (.int .i64 0) (fun v hv _ => by kernel_rfl) hR ?_
        refine dt 11 136 (.bool true) (fun v hv _ => by kernel_rfl) hR ?_
        refine dt 12 137 (.bool true) (fun v hv _ => by kernel_rfl) hR ?_
        refine dt 13 138 (.bool true) (fun v hv _ => by kernel_rfl) hR ?_
        refine dt 14 139 (.pointer (some ⟨g, 0, none⟩)) (fun v hv _ => by kernel_rfl) hR ?_
        refine dt 16 141 (.agg (B8 ds)) (fun v hv _ => ol_row 49 _ _ _ _ _ _ rfl (by kernel_rfl) hv Tryz.underlying49 rfl (infoD' hdl)) hR ?_
        refine dw_ready [15] (by kernel_rfl) (by simp) ?_
        refine ar_call 15 140 18 #[.pointer (some ⟨g, 0, none⟩)] rfl (fun _ => by kernel_rfl) (fun _ => by kernel_rfl) (R := fun u w' => u = .agg (B8 ds) ∧ Bl (u12.drew) w') (((root_any hT hM).mono (fun e w' ⟨u, e1, e2, e3⟩ => ⟨u, e1, by rw [e2, hds], e3⟩))) (fun u w' h => hR.go h.2) ?_ ar_nil
        rintro _ u13 ⟨rfl, hb14⟩
        replace hB := hB.go hb14
        replace hT := hT.go hb14
        replace hR := hR.go hb14
        replace hN := hN.go hb14
        replace hs2 := hs2.go hb14
        refine dt 17 142 (.bool true) (fun v hv _ => ol_eqD rfl (by kernel_rfl) (by kernel_rfl) hdl) hR ?_
        refine dt 18 143 (.bool true) (fun v hv _ => by kernel_rfl) hR ?_
        refine dt 19 144 (.bool true) (fun v hv _ => by kernel_rfl) hR ?_
        refine dt 20 145 (.pointer (some ⟨g, 0, none⟩)) (fun v hv _ => by kernel_rfl) hR ?_
        refine dt 22 147 (.slice aN nN cN) (fun v hv _ => by kernel_rfl) hR ?_
        refine dw_ready [21] (by kernel_rfl) (by simp) ?_
        refine ar_call 21 146 20 #[.pointer (some ⟨g, 0, none⟩)] rfl (fun _ => by kernel_rfl) (fun _ => by kernel_rfl) (R := RNo (u13) t) (nodes_any hT hM) (fun u w' h => hR.go h.2) ?_ ar_nil
        rintro _ u15 ⟨⟨aO, nO, cO, rfl, hO2, hOb, hOn⟩, hb16⟩
        replace hB := hB.go hb16
        replace hT := hT.go hb16
        replace hR := hR.go hb16
        replace hN := hN.go hb16
        replace hs2 := hs2.go hb16
        refine dw_ready [23] (by kernel_rfl) (by simp) ?_
        refine ar_call 23 148 19 #[.slice aO nO cO, .slice aN nN cN] rfl (fun _ => by kernel_rfl) (fun _ => by kernel_rfl) (R := fun u w' => u = .bool true ∧ Bl (u15) w') (((sameall_any hO2 hN (by omega)).mono (fun e w' ⟨u, e1, e2, e3⟩ => ⟨u, e1, by rw [e2, decide_eq_true rfl], e3⟩))) (fun u w' h => hR.go h.2) ?_ ar_nil
        rintro _ u17 ⟨rfl, hb18⟩
        replace hB := hB.go hb18
        replace hT := hT.go hb18
        replace hR := hR.go hb18
        replace hN := hN.go hb18
        replace hs2 := hs2.go hb18
        replace hO2 := hO2.go hb18
        refine dt 24 149 (.bool true) (fun v hv _ => by kernel_rfl) hR ?_
        refine dt 25 6 (.bool true) (fun v hv _ => by kernel_rfl) hR ?_
        refine dw_done (by kernel_rfl) ?_
        refine nw_then ?_
        refine cw_ret ?_
        exact nw_ret_body (.bool true) (fun _ => by kernel_rfl) ⟨rfl, hB⟩
      · skip
        have hpe : putE k x = 71 := by unfold putE; rw [lk, lv, if_pos h1, if_neg hvv]
        have hbk : putT t k x = t := by unfold putT; rw [lk, lv, if_neg (fun q => hvv q.2)]
        refine rp 51 (.tuple #[.slice a2 n2 c2, .bool false, .int .i64 0]) ?_
        refine rp 55 (.slice a2 n2 c2) ?_
        refine rp 56 (.bool false) ?_
        refine rp 57 (.int .i64 0) ?_
        refine rp 13 (.slice a2 n2 c2) ?_
        refine rp 14 (.bool false) ?_
        refine rp 15 (.int .i64 0) ?_
        refine rw_nil ?_
        refine nw_then ?_
        refine cw_seq ?_
        refine cw_seq ?_
        refine cw_region ?_
        refine rp 58 (.int .i64 0) ?_
        refine rp 59 (.bool false) ?_
        refine rw_nil ?_
        refine nw_then ?_
        refine cw_cond_f (fun _ => by kernel_rfl) ?_
        refine cw_skip ?_
        refine nw_then ?_
        refine cw_seq ?_
        refine cw_seq ?_
        refine cw_region ?_
        refine rp 67 (.bool false) ?_
        refine rw_nil ?_
        refine nw_then ?_
        refine cw_cond_f (fun _ => by kernel_rfl) ?_
        refine cw_skip ?_
        refine nw_then ?_
        refine cw_seq ?_
        refine cw_region ?_
        refine rp 99 (.pointer (some ⟨g, 0, none⟩)) ?_
        refine rp 100 (.slice ak nk ck) ?_
        refine rp 101 (.slice av nv cv) ?_
        refine rw_call 102 11 #[.pointer (some ⟨g, 0, none⟩), .slice ak nk ck, .slice av nv cv] (fun _ => by kernel_rfl) (fun _ => by kernel_rfl) (R := fun u w' => u = .int .i64 (putE k x) ∧ Tri An w' g (putT t k x) ∧ Touch g (u8) w') ((tput_any hT (hk.go hB) (hv.go hB) (fun _ _ => trivial))) ?_
        rintro _ u19 ⟨rfl, hTn, hto⟩
        have hgl := hT.lt
        replace hB : Bl w u19 := hto.below hB hgw hB.size
        replace hR := hR.touch hto (by omega)
        replace hN := hN.tou hto hNK hNa
        replace hs2 := hs2.touch hto hT
        have hoks := hT.ok
        replace hT := hTn
        rw [hpe]
        rw [hbk] at hT
        refine rp 19 (.int .i64 71) ?_
        refine rw_nil ?_
        refine nw_then ?_
        refine cw_seq ?_
        refine cw_seq ?_
        refine cw_region ?_
        refine rp 103 (.int .i64 71) ?_
        refine rp 104 (.bool true) ?_
        refine rw_nil ?_
        refine nw_then ?_
        refine cw_cond_t (fun _ => by kernel_rfl) ?_
        refine cw_seq ?_
        refine cw_draw (fun v => Rw gR v (B8 ds) 49) (by kernel_rfl) (hR.drew) ?_
        replace hB := hB.drew
        replace hT := hT.drew
        replace hR := hR.drew
        replace hN := hN.drew
        replace hs2 := hs2.drew
        refine dt 0 105 (.int .i64 71) (fun v hv _ => by kernel_rfl) hR ?_
        refine dt 1 106 (.bool true) (fun v hv _ => by kernel_rfl) hR ?_
        refine dt 2 107 (.bool true) (fun v hv _ => by kernel_rfl) hR ?_
        refine dt 3 108 (.pointer (some ⟨g, 0, none⟩)) (fun v hv _ => by kernel_rfl) hR ?_
        refine dt 5 110 (.agg (B8 ds)) (fun v hv _ => ol_row 49 _ _ _ _ _ _ rfl (by kernel_rfl) hv Tryz.underlying49 rfl (infoD' hdl)) hR ?_
        refine dw_ready [4] (by kernel_rfl) (by simp) ?_
        refine ar_call 4 109 18 #[.pointer (some ⟨g, 0, none⟩)] rfl (fun _ => by kernel_rfl) (fun _ => by kernel_rfl) (R := fun u w' => u = .agg (B8 ds) ∧ Bl (u19.drew) w') (((root_any hT hM).mono (fun e w' ⟨u, e1, e2, e3⟩ => ⟨u, e1, by rw [e2, hds], e3⟩))) (fun u w' h => hR.go h.2) ?_ ar_nil
        rintro _ u20 ⟨rfl, hb21⟩
        replace hB := hB.go hb21
        replace hT := hT.go hb21
        replace hR := hR.go hb21
        replace hN := hN.go hb21
        replace hs2 := hs2.go hb21
        refine dt 6 111 (.bool true) (fun v hv _ => ol_eqD rfl (by kernel_rfl) (by kernel_rfl) hdl) hR ?_
        refine dt 7 112 (.bool true) (fun v hv _ => by kernel_rfl) hR ?_
        refine dt 8 6 (.bool true) (fun v hv _ => by kernel_rfl) hR ?_
        refine dw_done (by kernel_rfl) ?_
        refine nw_then ?_
        refine cw_ret ?_
        refine nw_ret_then ?_
        exact nw_ret_body (.bool true) (fun _ => by kernel_rfl) ⟨rfl, hB⟩
    · skip
      obtain rfl : b2 = true := by rw [eb2]; simp [hgt]
      have hbk := back_del hoks0 hk.ag.b (by omega) hgt hl256
      refine rp 51 (.tuple #[.slice a2 n2 c2, .bool true, .int .i64 0]) ?_
      refine rp 55 (.slice a2 n2 c2) ?_
      refine rp 56 (.bool true) ?_
      refine rp 57 (.int .i64 0) ?_
      refine rp 13 (.slice a2 n2 c2) ?_
      refine rp 14 (.bool true) ?_
      refine rp 15 (.int .i64 0) ?_
      refine rw_nil ?_
      refine nw_then ?_
      refine cw_seq ?_
      refine cw_seq ?_
      refine cw_region ?_
      refine rp 58 (.int .i64 0) ?_
      refine rp 59 (.bool false) ?_
      refine rw_nil ?_
      refine nw_then ?_
      refine cw_cond_f (fun _ => by kernel_rfl) ?_
      refine cw_skip ?_
      refine nw_then ?_
      refine cw_seq ?_
      refine cw_seq ?_
      refine cw_region ?_
      refine rp 67 (.bool true) ?_
      refine rw_nil ?_
      refine nw_then ?_
      refine cw_cond_t (fun _ => by kernel_rfl) ?_
      refine cw_seq ?_
      refine cw_region ?_
      refine rp 69 (.pointer (some ⟨g, 0, none⟩)) ?_
      refine rp 70 (.slice ak nk ck) ?_
      refine rw_call 71 12 #[.pointer (some ⟨g, 0, none⟩), .slice ak nk ck] (fun _ => by kernel_rfl) (fun _ => by kernel_rfl) (R := fun u w' => u = .tuple #[.bool true, .int .i64 0] ∧ Tri An w' g (delT t k) ∧ Touch g (u8) w') (((tdel_ok hT (hk.go hB) h1 (fun _ _ => trivial)).mono (fun e w' ⟨u, e1, e2, e3⟩ => ⟨u, e1, by rw [e2, show decide (Tr.get t (Ni.nib k) ≠ []) = true from by simp [hgt]], e3⟩))) ?_
      rintro _ u22 ⟨rfl, hTn, hto⟩
      have hgl := hT.lt
      replace hB : Bl w u22 := hto.below hB hgw hB.size
      replace hR := hR.touch hto (by omega)
      replace hN := hN.tou hto hNK hNa
      replace hs2 := hs2.touch hto hT
      have hoks := hT.ok
      replace hT := hTn
      refine rp 68 (.tuple #[.bool true, .int .i64 0]) ?_
      refine rp 72 (.bool true) ?_
      refine rp 73 (.int .i64 0) ?_
      refine rp 16 (.bool true) ?_
      refine rp 17 (.int .i64 0) ?_
      refine rw_nil ?_
      refine nw_then ?_
      refine cw_seq ?_
      refine cw_region ?_
      refine rp 74 (.pointer (some ⟨g, 0, none⟩)) ?_
      refine rp 75 (.slice ak nk ck) ?_
      refine rp 76 (.slice a2 n2 c2) ?_
      refine rw_call 77 11 #[.pointer (some ⟨g, 0, none⟩), .slice ak nk ck, .slice a2 n2 c2] (fun _ => by kernel_rfl) (fun _ => by kernel_rfl) (R := fun u w' => u = .int .i64 (putE k (Tr.get t (Ni.nib k))) ∧ Tri An w' g (putT (delT t k) k (Tr.get t (Ni.nib k))) ∧ Touch g (u22) w') ((tput_any hT (hk.go hB) hs2 (fun _ _ => trivial))) ?_
      rintro _ u23 ⟨rfl, hTn, hto⟩
      have hgl := hT.lt
      replace hB : Bl w u23 := hto.below hB hgw hB.size
      replace hR := hR.touch hto (by omega)
      replace hN := hN.tou hto hNK hNa
      replace hs2 := hs2.touch hto hT
      have hoks := hT.ok
      replace hT := hTn
      rw [hbk.1] at hT
      rw [hbk.2]
      refine rp 18 (.int .i64 0) ?_
      refine rw_nil ?_
      refine nw_then ?_
      refine cw_seq ?_
      refine cw_draw (fun v => Rw gR v (B8 ds) 49) (by kernel_rfl) (hR.drew) ?_
      replace hB := hB.drew
      replace hT := hT.drew
      replace hR := hR.drew
      replace hN := hN.drew
      replace hs2 := hs2.drew
      refine dt 0 78 (.bool true) (fun v hv _ => by kernel_rfl) hR ?_
      refine dt 1 79 (.bool true) (fun v hv _ => by kernel_rfl) hR ?_
      refine dt 2 80 (.int .i64 0) (fun v hv _ => by kernel_rfl) hR ?_
      refine dt 3 81 (.bool true) (fun v hv _ => by kernel_rfl) hR ?_
      refine dt 4 82 (.bool true) (fun v hv _ => by kernel_rfl) hR ?_
      refine dt 5 83 (.bool true) (fun v hv _ => by kernel_rfl) hR ?_
      refine dt 6 84 (.int .i64 0) (fun v hv _ => by kernel_rfl) hR ?_
      refine dt 7 85 (.bool true) (fun v hv _ => by kernel_rfl) hR ?_
      refine dt 8 86 (.bool true) (fun v hv _ => by kernel_rfl) hR ?_
      refine dt 9 87 (.bool true) (fun v hv _ => by kernel_rfl) hR ?_
      refine dt 10 88 (.pointer (some ⟨g, 0, none⟩)) (fun v hv _ => by kernel_rfl) hR ?_
      refine dt 12 90 (.agg (B8 ds)) (fun v hv _ => ol_row 49 _ _ _ _ _ _ rfl (by kernel_rfl) hv Tryz.underlying49 rfl (infoD' hdl)) hR ?_
      refine dw_ready [11] (by kernel_rfl) (by simp) ?_
      refine ar_call 11 89 18 #[.pointer (some ⟨g, 0, none⟩)] rfl (fun _ => by kernel_rfl) (fun _ => by kernel_rfl) (R := fun u w' => u = .agg (B8 ds) ∧ Bl (u23.drew) w') (((root_any hT hM).mono (fun e w' ⟨u, e1, e2, e3⟩ => ⟨u, e1, by rw [e2, hds], e3⟩))) (fun u w' h => hR.go h.2) ?_ ar_nil
      rintro _ u24 ⟨rfl, hb25⟩
      replace hB := hB.go hb25
      replace hT := hT.go hb25
      replace hR := hR.go hb25
      replace hN := hN.go hb25
      replace hs2 := hs2.go hb25
      refine dt 13 91 (.bool true) (fun v hv _ => ol_eqD rfl (by kernel_rfl) (by kernel_rfl) hdl) hR ?_
      refine dt 14 92 (.bool true) (fun v hv _ => by kernel_rfl) hR ?_
      refine dt 15 93 (.bool true) (fun v hv _ => by kernel_rfl) hR ?_
      refine dt 16 94 (.pointer (some ⟨g, 0, none⟩)) (fun v hv _ => by kernel_rfl) hR ?_
      refine dt 18 96 (.slice aN nN cN) (fun v hv _ => by kernel_rfl) hR ?_
      refine dw_ready [17] (by kernel_rfl) (by simp) ?_
      refine ar_call 17 95 20 #[.pointer (some ⟨g, 0, none⟩)] rfl (fun _ => by kernel_rfl) (fun _ => by kernel_rfl) (R := RNo (u24) t) (nodes_any hT hM) (fun u w' h => hR.go h.2) ?_ ar_nil
      rintro _ u26 ⟨⟨aO, nO, cO, rfl, hO2, hOb, hOn⟩, hb27⟩
      replace hB := hB.go hb27
      replace hT := hT.go hb27
      replace hR := hR.go hb27
      replace hN := hN.go hb27
      replace hs2 := hs2.go hb27
      refine dw_ready [19] (by kernel_rfl) (by simp) ?_
      refine ar_call 19 97 19 #[.slice aO nO cO, .slice aN nN cN] rfl (fun _ => by kernel_rfl) (fun _ => by kernel_rfl) (R := fun u w' => u = .bool true ∧ Bl (u26) w') (((sameall_any hO2 hN (by omega)).mono (fun e w' ⟨u, e1, e2, e3⟩ => ⟨u, e1, by rw [e2, decide_eq_true rfl], e3⟩))) (fun u w' h => hR.go h.2) ?_ ar_nil
      rintro _ u28 ⟨rfl, hb29⟩
      replace hB := hB.go hb29
      replace hT := hT.go hb29
      replace hR := hR.go hb29
      replace hN := hN.go hb29
      replace hs2 := hs2.go hb29
      replace hO2 := hO2.go hb29
      refine dt 20 98 (.bool true) (fun v hv _ => by kernel_rfl) hR ?_
      refine dt 21 6 (.bool true) (fun v hv _ => by kernel_rfl) hR ?_
      refine dw_done (by kernel_rfl) ?_
      refine nw_then ?_
      refine cw_ret ?_
      refine nw_ret_then ?_
      exact nw_ret_body (.bool true) (fun _ => by kernel_rfl) ⟨rfl, hB⟩
  refine rw_call 54 22 #[.pointer (some ⟨g, 0, none⟩), .slice ak nk ck] (fun _ => by kernel_rfl) (fun _ => by kernel_rfl) (R := fun u w' => u = .tuple #[.slice none 0 0, .bool false, .int .i64 70] ∧ Bl (u6) w') ((get_bad (hk.go hB) (by omega))) ?_
  rintro _ u8 ⟨rfl, hb9⟩
  replace hB := hB.go hb9
  replace hT := hT.go hb9
  replace hR := hR.go hb9
  replace hN := hN.go hb9
  refine rp 51 (.tuple #[.slice none 0 0, .bool false, .int .i64 70]) ?_
  refine rp 55 (.slice none 0 0) ?_
  refine rp 56 (.bool false) ?_
  refine rp 57 (.int .i64 70) ?_
  refine rp 13 (.slice none 0 0) ?_
  refine rp 14 (.bool false) ?_
  refine rp 15 (.int .i64 70) ?_
  refine rw_nil ?_
  refine nw_then ?_
  refine cw_seq ?_
  refine cw_seq ?_
  refine cw_region ?_
  refine rp 58 (.int .i64 70) ?_
  refine rp 59 (.bool true) ?_
  refine rw_nil ?_
  refine nw_then ?_
  refine cw_cond_t (fun _ => by kernel_rfl) ?_
  refine cw_seq ?_
  refine cw_region ?_
  refine rp 60 (.int .i64 70) ?_
  refine rp 61 (.bool true) ?_
  refine rp 62 (.bool true) ?_
  refine rp 63 (.slice ak nk ck) ?_
  refine rp 64 (.int .i64 nk) ?_
  refine rv 65 (.bool true) (fun _ => ol_conv (v := .bool (decide ((nk : Int) > (32 : Int)))) (by kernel_rfl) (congrArg Value.bool (decide_eq_true (by omega)))) ?_
  refine rp 66 (.bool true) ?_
  refine rp 6 (.bool true) ?_
  refine rw_nil ?_
  refine nw_then ?_
  refine cw_ret ?_
  refine nw_ret_then ?_
  exact nw_ret_body (.bool true) (fun _ => by kernel_rfl) ⟨rfl, hB⟩
end Go.Proofs.YtalhnnjpjaeakaaGreat
