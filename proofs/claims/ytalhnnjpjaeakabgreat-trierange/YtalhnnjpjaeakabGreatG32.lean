/- The document's Delete on a list of keys and values. -/
import Derived.Test.YtalhnnjpjaeakabGreatG31
import Derived.Test.YtalhnnjpjaeakabGreatG00
import Derived.Test.YtalhnnjpjaeakabGreatG30
import Derived.Test.YtalhnnjpjaeakabGreatG28
namespace Go.Proofs.YtalhnnjpjaeakabGreat
open Go.RowKit
open Tr
set_option linter.unusedVariables false
set_option maxRecDepth 100000
set_option maxHeartbeats 2000000 in
theorem rdel_long {K K' : Nat → Prop} {w : World} {a : Option Addr} {n c : Nat} {vs : List (Value × Value)} {l : PList} (hl : PAt K w a n c vs l) {ak : Option Addr} {nk ck : Nat} {k : List Int} (hk : Sk K' w ak nk ck k) (hb : n ≤ 2600000000000) (hlen : ∀ (j : Nat) k x, l[j]? = some (k, x) → k.length ≤ 1000000) (hn : 32 < nk) :
    Calls Tryz.prog 14 #[.slice a n c, .slice ak nk ck] w fun e w' => ∃ u, e = .returned u ∧ (fun u w' => (∃ a n c vs, u = .tuple #[.slice a n c, .bool (if k.length ≤ 32 then isAt k l else false), .int .i64 (if k.length ≤ 32 then 0 else 70)] ∧ PAt (fun b => K b ∨ w.heap.size ≤ b) w' a n c vs (delL l k)) ∧ Bl w w') u w' := by
  have hB := Bl.refl w
  have lk := hk.len
  have ll := hl.ll
  refine cw_enter Tryz.func14 rfl 34 rfl ?_
  show CW _ _ _ _ _ _ _ [(0, .slice a n c), (1, .slice ak nk ck)] _
  refine cw_seq ?_
  refine cw_region ?_
  refine rp 4 (.slice none 0 0) ?_
  refine rp 5 (.bool false) ?_
  refine rp 6 (.int .i64 0) ?_
  refine rw_nil ?_
  refine nw_then ?_
  refine cw_seq ?_
  refine cw_seq ?_
  refine cw_region ?_
  refine rp 10 (.slice ak nk ck) ?_
  refine rp 11 (.int .i64 nk) ?_
  refine rv 12 (.bool true) (fun _ => ol_conv (v := .bool (decide ((nk : Int) > (32 : Int)))) (by kernel_rfl) (congrArg Value.bool (decide_eq_true (by omega)))) ?_
  refine rw_nil ?_
  refine nw_then ?_
  refine cw_cond_t (fun _ => by kernel_rfl) ?_
  refine cw_seq ?_
  refine cw_region ?_
  refine rp 13 (.slice a n c) ?_
  refine rp 4 (.slice a n c) ?_
  refine rp 5 (.bool false) ?_
  refine rp 6 (.int .i64 70) ?_
  refine rw_nil ?_
  refine nw_then ?_
  refine cw_ret ?_
  refine nw_ret_then ?_
  exact nw_ret_body (.tuple #[.slice a n c, .bool false, .int .i64 70]) (fun _ => by kernel_rfl) ⟨_, rfl, ⟨a, n, c, vs, by rw [if_neg (by omega), if_neg (by omega)], by rw [show delL l k = l from if_neg (by omega)]; exact (hl.go hB).mono (fun _ h => .inl h)⟩, hB⟩
set_option maxHeartbeats 2000000 in
theorem rdel_not {K K' : Nat → Prop} {w : World} {a : Option Addr} {n c : Nat} {vs : List (Value × Value)} {l : PList} (hl : PAt K w a n c vs l) {ak : Option Addr} {nk ck : Nat} {k : List Int} (hk : Sk K' w ak nk ck k) (hb : n ≤ 2600000000000) (hlen : ∀ (j : Nat) k x, l[j]? = some (k, x) → k.length ≤ 1000000) (hn : nk ≤ 32) (hat : isAt k l = false) :
    Calls Tryz.prog 14 #[.slice a n c, .slice ak nk ck] w fun e w' => ∃ u, e = .returned u ∧ (fun u w' => (∃ a n c vs, u = .tuple #[.slice a n c, .bool (if k.length ≤ 32 then isAt k l else false), .int .i64 (if k.length ≤ 32 then 0 else 70)] ∧ PAt (fun b => K b ∨ w.heap.size ≤ b) w' a n c vs (delL l k)) ∧ Bl w w') u w' := by
  have hB := Bl.refl w
  have lk := hk.len
  have ll := hl.ll
  refine cw_enter Tryz.func14 rfl 34 rfl ?_
  show CW _ _ _ _ _ _ _ [(0, .slice a n c), (1, .slice ak nk ck)] _
  refine cw_seq ?_
  refine cw_region ?_
  refine rp 4 (.slice none 0 0) ?_
  refine rp 5 (.bool false) ?_
  refine rp 6 (.int .i64 0) ?_
  refine rw_nil ?_
  refine nw_then ?_
  refine cw_seq ?_
  refine cw_seq ?_
  refine cw_region ?_
  refine rp 10 (.slice ak nk ck) ?_
  refine rp 11 (.int .i64 nk) ?_
  refine rv 12 (.bool false) (fun _ => ol_conv (v := .bool (decide ((nk : Int) > (32 : Int)))) (by kernel_rfl) (congrArg Value.bool (decide_eq_false (by omega)))) ?_
  refine rw_nil ?_
  refine nw_then ?_
  refine cw_cond_f (fun _ => by kernel_rfl) ?_
  refine cw_skip ?_
  refine nw_then ?_
  refine cw_seq ?_
  refine cw_region ?_
  refine rp 15 (.slice a n c) ?_
  refine rp 16 (.slice ak nk ck) ?_
  refine rw_call 17 28 #[.slice a n c, .slice ak nk ck] (fun _ => by kernel_rfl) (fun _ => by kernel_rfl) (R := fun u w' => u = .tuple #[.int .i64 ((atN k l : Nat) : Int), .bool (isAt k l)] ∧ Bl (w) w') ((at_any (hl.go hB) (hk.go hB) hb hlen)) ?_
  rintro _ u1 ⟨rfl, hb2⟩
  replace hB := hB.go hb2
  rw [hat]
  refine rp 14 (.tuple #[.int .i64 ((atN k l : Nat) : Int), .bool false]) ?_
  refine rp 18 (.int .i64 ((atN k l : Nat) : Int)) ?_
  refine rp 19 (.bool false) ?_
  refine rp 7 (.int .i64 ((atN k l : Nat) : Int)) ?_
  refine rp 8 (.bool false) ?_
  refine rw_nil ?_
  refine nw_then ?_
  refine cw_seq ?_
  refine cw_seq ?_
  refine cw_region ?_
  refine rp 20 (.bool false) ?_
  refine rp 21 (.bool true) ?_
  refine rw_nil ?_
  refine nw_then ?_
  refine cw_cond_t (fun _ => by kernel_rfl) ?_
  refine cw_seq ?_
  refine cw_region ?_
  refine rp 22 (.slice a n c) ?_
  refine rp 4 (.slice a n c) ?_
  refine rp 5 (.bool false) ?_
  refine rp 6 (.int .i64 0) ?_
  refine rw_nil ?_
  refine nw_then ?_
  refine cw_ret ?_
  refine nw_ret_then ?_
  exact nw_ret_body (.tuple #[.slice a n c, .bool false, .int .i64 0]) (fun _ => by kernel_rfl) ⟨_, rfl, ⟨a, n, c, vs, by rw [if_pos (by omega), if_pos (by omega)], by rw [show delL l k = l from by unfold delL; rw [if_pos (by omega), delR_cut, hat]; rfl]; exact (hl.go hB).mono (fun _ h => .inl h)⟩, hB⟩
set_option maxHeartbeats 2000000 in
theorem rdel_is {K K' : Nat → Prop} {w : World} {a : Option Addr} {n c : Nat} {vs : List (Value × Value)} {l : PList} (hl : PAt K w a n c vs l) {ak : Option Addr} {nk ck : Nat} {k : List Int} (hk : Sk K' w ak nk ck k) (hb : n ≤ 2600000000000) (hlen : ∀ (j : Nat) k x, l[j]? = some (k, x) → k.length ≤ 1000000) (hn : nk ≤ 32) (hat : isAt k l = true) :
    Calls Tryz.prog 14 #[.slice a n c, .slice ak nk ck] w fun e w' => ∃ u, e = .returned u ∧ (fun u w' => (∃ a n c vs, u = .tuple #[.slice a n c, .bool (if k.length ≤ 32 then isAt k l else false), .int .i64 (if k.length ≤ 32 then 0 else 70)] ∧ PAt (fun b => K b ∨ w.heap.size ≤ b) w' a n c vs (delL l k)) ∧ Bl w w') u w' := by
  have hB := Bl.refl w
  have lk := hk.len
  have ll := hl.ll
  refine cw_enter Tryz.func14 rfl 34 rfl ?_
  show CW _ _ _ _ _ _ _ [(0, .slice a n c), (1, .slice ak nk ck)] _
  refine cw_seq ?_
  refine cw_region ?_
  refine rp 4 (.slice none 0 0) ?_
  refine rp 5 (.bool false) ?_
  refine rp 6 (.int .i64 0) ?_
  refine rw_nil ?_
  refine nw_then ?_
  refine cw_seq ?_
  refine cw_seq ?_
  refine cw_region ?_
  refine rp 10 (.slice ak nk ck) ?_
  refine rp 11 (.int .i64 nk) ?_
  refine rv 12 (.bool false) (fun _ => ol_conv (v := .bool (decide ((nk : Int) > (32 : Int)))) (by kernel_rfl) (congrArg Value.bool (decide_eq_false (by omega)))) ?_
  refine rw_nil ?_
  refine nw_then ?_
  refine cw_cond_f (fun _ => by kernel_rfl) ?_
  refine cw_skip ?_
  refine nw_then ?_
  refine cw_seq ?_
  refine cw_region ?_
  refine rp 15 (.slice a n c) ?_
  refine rp 16 (.slice ak nk ck) ?_
  refine rw_call 17 28 #[.slice a n c, .slice ak nk ck] (fun _ => by kernel_rfl) (fun _ => by kernel_rfl) (R := fun u w' => u = .tuple #[.int .i64 ((atN k l : Nat) : Int), .bool (isAt k l)] ∧ Bl (w) w') ((at_any (hl.go hB) (hk.go hB) hb hlen)) ?_
  rintro _ u1 ⟨rfl, hb2⟩
  replace hB := hB.go hb2
  rw [hat]
  have hle := atN_le k l
  have hl0 := hl.old
  have hlt : atN k l < n := by by_cases h : atN k l < n; exact h; rw [isAt_end (by omega)] at hat; cases hat
  refine rp 14 (.tuple #[.int .i64 ((atN k l : Nat) : Int), .bool true]) ?_
  refine rp 18 (.int .i64 ((atN k l : Nat) : Int)) ?_
  refine rp 19 (.bool true) ?_
  refine rp 7 (.int .i64 ((atN k l : Nat) : Int)) ?_
  refine rp 8 (.bool true) ?_
  refine rw_nil ?_
  refine nw_then ?_
  refine cw_seq ?_
  refine cw_seq ?_
  refine cw_region ?_
  refine rp 20 (.bool true) ?_
  refine rp 21 (.bool false) ?_
  refine rw_nil ?_
  refine nw_then ?_
  refine cw_cond_f (fun _ => by kernel_rfl) ?_
  refine cw_skip ?_
  refine nw_then ?_
  refine cw_seq ?_
  refine cw_region ?_
  refine rw_newS 23 #[] 36 0 (fun _ => by kernel_rfl) (fun _ => by kernel_rfl) ?_
  intro w0 g0 hn0
  have hO : OwnL (fun b => K b ∨ w.heap.size ≤ b) w0 w.heap.size (.slice (some ⟨g0, 0, none⟩) 0 0) [] := OwnL.new hn0 hB.size (fun b hb => .inr hb)
  replace hB := hB.go hn0.below
  refine rp 24 (.slice a n c) ?_
  refine rp 25 (.int .i64 ((atN k l : Nat) : Int)) ?_
  obtain ⟨a1, n1, c1, hc1, hP1⟩ := (hl0.go hB).cutTo (atN k l) (by omega)
  refine rv 26 (.slice a1 n1 c1) (fun _ => hc1 _ _ _ _ _ rfl (by kernel_rfl) (by kernel_rfl)) ?_
  have ht1 := hP1.ll
  obtain ⟨VA, wA, hrA, hOA, hbA⟩ := appP hO hP1 (fun b hb => ⟨fun e => by have := (hO.own b e).1; have := hb.2; omega, .inl hb.1⟩) (by rw [List.length_take] at ht1; simp; omega) hB.size
  refine rw_v 27 VA (fun _ => by kernel_rfl) (fun _ => ol_appP hrA _ _ rfl (by kernel_rfl) (by kernel_rfl)) ?_
  replace hB : Bl w wA := Below.trans hB hbA
  replace hO := hOA
  rw [List.nil_append] at hO
  refine rp 9 (VA) ?_
  refine rw_nil ?_
  refine nw_then ?_
  refine cw_seq ?_
  refine cw_region ?_
  refine rp 28 (VA) ?_
  refine rp 29 (.slice a n c) ?_
  refine rp 30 (.int .i64 ((atN k l : Nat) : Int)) ?_
  refine rv 31 (.int .i64 ((atN k l + 1 : Nat) : Int)) (fun _ => ol_conv (v := .int .i64 (IntKind.i64.wrap (((atN k l : Nat) : Int) + 1))) (by kernel_rfl) (congrArg (Value.int .i64) (by rw [wrap64 (by omega) (by omega)]; omega))) ?_
  obtain ⟨a3, n3, c3, hc3, hP3⟩ := (hl0.go hB).cutFrom (atN k l + 1) (by omega)
  refine rv 32 (.slice a3 n3 c3) (fun _ => hc3 _ _ _ _ _ rfl (by kernel_rfl) (by kernel_rfl)) ?_
  have ht3 := hP3.ll
  obtain ⟨VE, wE, hrE, hOE, hbE⟩ := appP hO hP3 (fun b hb => ⟨fun e => by have := (hO.own b e).1; have := hb.2; omega, .inl hb.1⟩) (by rw [List.length_drop] at ht3; simp; omega) hB.size
  refine rw_v 33 VE (fun _ => by kernel_rfl) (fun _ => ol_appP hrE _ _ rfl (by kernel_rfl) (by kernel_rfl)) ?_
  replace hB : Bl w wE := Below.trans hB hbE
  replace hO := hOE
  refine rp 4 (VE) ?_
  refine rp 5 (.bool true) ?_
  refine rp 6 (.int .i64 0) ?_
  refine rw_nil ?_
  refine nw_then ?_
  refine cw_ret ?_
  have hpl : delL l k = l.take (atN k l) ++ l.drop (atN k l + 1) := by unfold delL; rw [if_pos (by omega), delR_cut, hat]; rfl
  rw [← hpl] at hO
  obtain ⟨aF, cF, vsF, eF, hF⟩ := hO.pat
  subst eF
  exact nw_ret_body (.tuple #[.slice aF (delL l k).length cF, .bool true, .int .i64 0]) (fun _ => by kernel_rfl) ⟨_, rfl, ⟨aF, _, cF, vsF, by rw [if_pos (by omega), if_pos (by omega)], hF⟩, hB⟩
theorem rdel_any {K K' : Nat → Prop} {w : World} {a : Option Addr} {n c : Nat} {vs : List (Value × Value)} {l : PList} (hl : PAt K w a n c vs l) {ak : Option Addr} {nk ck : Nat} {k : List Int} (hk : Sk K' w ak nk ck k) (hb : n ≤ 2600000000000) (hlen : ∀ (j : Nat) k x, l[j]? = some (k, x) → k.length ≤ 1000000) :
    Calls Tryz.prog 14 #[.slice a n c, .slice ak nk ck] w fun e w' => ∃ u, e = .returned u ∧ (fun u w' => (∃ a n c vs, u = .tuple #[.slice a n c, .bool (if k.length ≤ 32 then isAt k l else false), .int .i64 (if k.length ≤ 32 then 0 else 70)] ∧ PAt (fun b => K b ∨ w.heap.size ≤ b) w' a n c vs (delL l k)) ∧ Bl w w') u w' := by
  by_cases hn : nk ≤ 32
  · rcases Bool.eq_false_or_eq_true (isAt k l) with hat | hat
    · exact rdel_is hl hk hb hlen hn hat
    · exact rdel_not hl hk hb hlen hn hat
  · exact rdel_long hl hk hb hlen (by omega)
end Go.Proofs.YtalhnnjpjaeakabGreat
/- A call that changes something, on the trie and on the document's list; what was handed in is written over. -/
namespace Go.Proofs.YtalhnnjpjaeakabGreat
open Go.RowKit
open Tr
set_option linter.unusedVariables false
set_option maxRecDepth 100000
def chT (t : Tr) (y : Opx) : Tr := if y.z = 0 then putT t y.k y.x else delT t y.k
def chL (l : PList) (y : Opx) : PList := if y.z = 0 then putL l y.k y.x else delL l y.k
theorem Rel.ch {t : Tr} {l : PList} (h : Rel t l) {y : Opx} (hk : Byk y.k) : Rel (chT t y) (chL l y) := by
  unfold chT chL
  split
  · exact h.put hk
  · exact h.del hk
/-- Bytes that may be written over: none, or a row in a block of one's own. -/
def Spo (w : World) (v : Value) (n : Nat) (lo hi : Nat) : Prop := (∃ a c, v = .slice a 0 c ∧ n = 0) ∨ ∃ g c cur, v = .slice (some ⟨g, 0, none⟩) n c ∧ Rw g w cur 5 ∧ n ≤ cur.size ∧ lo ≤ g ∧ g < hi
theorem OwnB.spo {w : World} {base : Nat} {v : Value} {bs : List Int} (h : OwnB w base v bs) : Spo w v bs.length base w.heap.size := by
  obtain ⟨h1, h2⟩ := h
  rcases h2 with ⟨rfl, h3⟩ | ⟨g, cap, cur, rfl, hb, hg, hc1, hc2, hc3, hc4⟩
  · exact .inl ⟨none, 0, rfl, h3⟩
  · exact .inr ⟨g, cap, cur, rfl, hg, by omega, hb, lt_of_get hg⟩
theorem Spo.go {w w' : World} {v : Value} {n lo hi : Nat} (h : Spo w v n lo hi) (hb : Below w.heap.size w w') : Spo w' v n lo hi := by
  rcases h with h | ⟨g, c, cur, h1, h2, h3⟩
  · exact .inl h
  · exact .inr ⟨g, c, cur, h1, h2.go hb, h3⟩
theorem Spo.touch {w w' : World} {v : Value} {n lo hi g' : Nat} (h : Spo w v n lo hi) (ht : Touch g' w w') (hg : g' < lo ∨ hi ≤ g') : Spo w' v n lo hi := by
  rcases h with h | ⟨g, c, cur, h1, h2, h3, h4, h5⟩
  · exact .inl h
  · exact .inr ⟨g, c, cur, h1, h2.touch ht (by omega), h3, h4, h5⟩
/-- Some blocks of a stretch were written over. -/
structure Tm (lo hi : Nat) (w w' : World) : Prop where
  os : w'.os = w.os
  tape : w'.tape = w.tape
  output : w'.output = w.output
  size : w.heap.size ≤ w'.heap.size
  block : ∀ k, k < w.heap.size → (k < lo ∨ hi ≤ k) → w'.heap[k]? = w.heap[k]?
theorem Tm.refl (lo hi : Nat) (w : World) : Tm lo hi w w := ⟨rfl, rfl, rfl, Nat.le_refl _, fun _ _ _ => rfl⟩
theorem Tm.trans {lo hi : Nat} {a b c : World} (h : Tm lo hi a b) (k : Tm lo hi b c) : Tm lo hi a c := ⟨k.os.trans h.os, k.tape.trans h.tape, k.output.trans h.output, Nat.le_trans h.size k.size, fun i hi hg => (k.block i (Nat.lt_of_lt_of_le hi h.size) hg).trans (h.block i hi hg)⟩
theorem Tm.of {lo hi g : Nat} {a b : World} (h : Touch g a b) (h1 : lo ≤ g) (h2 : g < hi) : Tm lo hi a b := ⟨h.os, h.tape, h.output, h.size, fun k hk hg => h.block k hk (by omega)⟩
theorem Sk.tm {K : Nat → Prop} {w w' : World} {lo hi : Nat} {a : Option Addr} {n c : Nat} {bs : List Int} (h : Sk K w a n c bs) (t : Tm lo hi w w') (hK : ∀ b, K b → b < lo ∨ hi ≤ b) : Sk K w' a n c bs := by
  refine ⟨⟨?_, h.ag.nil, h.ag.l, h.ag.b⟩, h.k⟩
  rcases h.ag.i with h1 | ⟨gb, off, h1, h2, h3, h4, h5, h7⟩
  · exact .inl h1
  · refine .inr ⟨gb, off, h1, h2, h3, h4, h5, fun j hj => ?_⟩
    rw [← h7 j hj]
    exact World.cell?_of_block (t.block gb (block_lt_of_cell (h7 j hj)) (hK _ (h.k _ h1 h3)))
theorem TA.tm {K : Nat → Prop} {w w' : World} {lo hi : Nat} (ht : Tm lo hi w w') (hK : ∀ b, K b → b < lo ∨ hi ≤ b) : ∀ {t : Tr} {v : Value}, TA K w t v → TA K w' t v := by
  intro t
  induction t with
  | no => intro v h; exact h
  | leaf p x => rintro v ⟨a, n, c, a', n', c', h1, h2, h3, h4⟩; exact ⟨a, n, c, a', n', c', h1, h2.tm ht hK, h3.tm ht hK, h4⟩
  | ext p t ih => rintro v ⟨a, n, c, u, h1, h2, h3⟩; exact ⟨a, n, c, u, h1, h2.tm ht hK, ih h3⟩
  | br k x ih => rintro v ⟨vs, a, n, c, h1, h2, h3, h4⟩; exact ⟨vs, a, n, c, h1, fun i hi => ih i (h2 i hi), h3.tm ht hK, h4⟩
theorem Tri.tm {K : Nat → Prop} {w w' : World} {lo hi g : Nat} {t : Tr} (h : Tri K w g t) (ht : Tm lo hi w w') (hK : ∀ b, K b → b < lo ∨ hi ≤ b) (hg : g < lo ∨ hi ≤ g) : Tri K w' g t := by
  obtain ⟨⟨v, h1, h2⟩, h3⟩ := h
  exact ⟨⟨v, (ht.block g (lt_of_get h1) hg).trans h1, h2.tm ht hK⟩, h3⟩
theorem PAt.tm {K : Nat → Prop} {w w' : World} {lo hi : Nat} {a : Option Addr} {n c : Nat} {vs : List (Value × Value)} {l : PList} (h : PAt K w a n c vs l) (ht : Tm lo hi w w') (hK : ∀ b, K b → b < lo ∨ hi ≤ b) : PAt K w' a n c vs l := by
  refine ⟨h.vl, h.ll, h.nc, h.nil, fun j u hj => ?_, fun j p e h1 h2 => ?_, h.rk⟩
  · obtain ⟨g', off, h1, h2⟩ := h.row j u hj
    have hlt : j < (flatP vs).length := (List.getElem?_eq_some_iff.1 hj).1
    rw [flatP_len, h.vl] at hlt
    exact ⟨g', off, h1, (World.cell?_of_block (a := ⟨g', off + j, none⟩) (ht.block g' (block_lt_of_cell h2) (hK _ (h.rk _ h1 (by omega))))).trans h2⟩
  · obtain ⟨a1, n1, c1, a2, n2, c2, q1, q2, q3, q4⟩ := h.gd j p e h1 h2
    exact ⟨a1, n1, c1, a2, n2, c2, q1, q2, q3.tm ht hK, q4.tm ht hK⟩
theorem TA.oldK {K : Nat → Prop} {w : World} : ∀ {t : Tr} {v : Value}, TA K w t v → TA (fun b => K b ∧ b < w.heap.size) w t v := by
  have hs : ∀ {a : Option Addr} {n c : Nat} {bs : List Int}, Sk K w a n c bs → Sk (fun b => K b ∧ b < w.heap.size) w a n c bs := fun h => ⟨h.ag, fun x hx hn => ⟨h.k x hx hn, h.old hx hn⟩⟩
  intro t
  induction t with
  | no => intro v h; exact h
  | leaf p x => rintro v ⟨a, n, c, a', n', c', h1, h2, h3, h4⟩; exact ⟨a, n, c, a', n', c', h1, hs h2, hs h3, h4⟩
  | ext p t ih => rintro v ⟨a, n, c, u, h1, h2, h3⟩; exact ⟨a, n, c, u, h1, hs h2, ih h3⟩
  | br k x ih => rintro v ⟨vs, a, n, c, h1, h2, h3, h4⟩; exact ⟨vs, a, n, c, h1, fun i hi => ih i (h2 i hi), hs h3, h4⟩
theorem Tri.oldK {K : Nat → Prop} {w : World} {g : Nat} {t : Tr} (h : Tri K w g t) : Tri (fun b => K b ∧ b < w.heap.size) w g t := by
  obtain ⟨⟨v, h1, h2⟩, h3⟩ := h
  exact ⟨⟨v, h1, h2.oldK⟩, h3⟩
theorem Spo.wide {w : World} {v : Value} {n lo hi lo' hi' : Nat} (h : Spo w v n lo hi) (h1 : lo' ≤ lo) (h2 : w.heap.size ≤ hi') : Spo w v n lo' hi' := by
  rcases h with h | ⟨g, c, cur, q1, q2, q3, q4, q5⟩
  · exact .inl h
  · exact .inr ⟨g, c, cur, q1, q2, q3, by omega, by have := lt_of_get q2; omega⟩
theorem Spo.set {w w' : World} {v u : Value} {n lo hi g1 o : Nat} {cur1 : Array Value} (h : Spo w v n lo hi) (hs : Set1 w w' g1 o u) (hr : Rw g1 w cur1 5) : Spo w' v n lo hi := by
  rcases h with h | ⟨g, c, cur, q1, q2, q3, q4, q5⟩
  · exact .inl h
  · by_cases e : g = g1
    · subst e
      exact .inr ⟨g, c, _, q1, q2.set hs rfl, by simpa using q3, q4, q5⟩
    · exact .inr ⟨g, c, cur, q1, q2.apart hs e, q3, q4, q5⟩
theorem Tm.after {lo hi g : Nat} {w a b : World} (h : Tm lo hi a b) (t : Touch g w a) (hlo : w.heap.size ≤ lo := by exact Nat.le_refl _) : Touch g w b := ⟨h.os.trans t.os, h.tape.trans t.tape, h.output.trans t.output, Nat.le_trans t.size h.size, fun k hk hg => (h.block k (Nat.lt_of_lt_of_le hk t.size) (.inl (Nat.lt_of_lt_of_le hk hlo))).trans (t.block k hk hg)⟩
set_option maxHeartbeats 4000000 in
theorem changes_put {K0 : Nat → Prop} {w : World} {g : Nat} {t : Tr} (hT : Tri K0 w g t) {a : Option Addr} {n c : Nat} {vs : List (Value × Value)} {l : PList} (hP : PAt K0 w a n c vs l) {y : Opx} (hk : Ag w y.ka y.kn y.kc y.k) (hx : Ag w y.va y.vn y.vc y.x) (hbn : n ≤ 2600000000000) (bk0 : y.kn ≤ 140737488355328) (bx0 : y.vn ≤ 140737488355328) (hlen : ∀ (j : Nat) k x, l[j]? = some (k, x) → k.length ≤ 1000000) (hz : y.z = 0) :
    Calls Tryz.prog 5 #[.pointer (some ⟨g, 0, none⟩), .slice a n c, .agg #[.int .i64 y.z, .slice y.ka y.kn y.kc, .slice y.va y.vn y.vc]] w fun e w' => ∃ u, e = .returned u ∧ (fun u w' => (∃ a' n' c' vs' b, u = .tuple #[.slice a' n' c', .bool b] ∧ PAt (fun b => K0 b ∨ w.heap.size ≤ b) w' a' n' c' vs' (chL l y) ∧ (Rel t l → b = true)) ∧ Tri (fun b => K0 b ∨ w.heap.size ≤ b) w' g (chT t y) ∧ Touch g w w') u w' := by
  have hB := Bl.refl w
  have lk := hk.l
  have lx := hx.l
  have hT0 := hT.oldK
  have hP0 := hP.old
  have hgl := hT.lt
  have hok := hk.an
  have hox := hx.an
  refine cw_enter Tryz.func5 rfl 107 rfl ?_
  show CW _ _ _ _ _ _ _ [(0, .pointer (some ⟨g, 0, none⟩)), (1, .slice a n c), (2, .agg #[.int .i64 y.z, .slice y.ka y.kn y.kc, .slice y.va y.vn y.vc])] _
  refine cw_seq ?_
  refine cw_region ?_
  refine rw_new 5 (#[.int .i64 y.z, .slice y.ka y.kn y.kc, .slice y.va y.vn y.vc]) 29 (fun _ => by kernel_rfl) (fun _ => by kernel_rfl) ?_
  intro w1 g2 hn3
  replace hB := hB.go hn3.below
  replace hok := hok.go hn3.below
  replace hox := hox.go hn3.below
  have hr4 : Rw g2 w1 (#[.int .i64 y.z, .slice y.ka y.kn y.kc, .slice y.va y.vn y.vc]) 29 := hn3.row
  have hgO := hn3.hg
  refine rp 6 (.slice none 0 0) ?_
  refine rp 7 (.bool false) ?_
  refine rw_nil ?_
  refine nw_then ?_
  refine cw_seq ?_
  refine cw_region ?_
  have hB_0 := hB
  have hok_0 := hok
  have hox_0 := hox
  have hr4_0 := hr4
  have hwBk := hB.size
  refine rw_newS 20 #[] 5 0 (fun _ => by kernel_rfl) (fun _ => by kernel_rfl) ?_
  intro wk gk hnk
  have hqk := ownB_new0 hnk (Nat.le_refl _)
  replace hB := hB.go hnk.below
  replace hok := hok.go hnk.below
  replace hox := hox.go hnk.below
  replace hr4 := hr4.go hnk.below
  refine rp 21 (.pointer (some ⟨g2, 1, none⟩)) ?_
  refine rv 22 (.slice y.ka y.kn y.kc) (fun _ => ol_cell 27 _ ⟨g2, 1, none⟩ _ _ rfl (by kernel_rfl) (by rw [cell_of_row _ _ _ _ _ _ hr4]; rfl) Tryz.underlying27 rfl) ?_
  obtain ⟨Vk, wkb, hrk, hok, hbk⟩ := app_run hqk hok.ag (by simp; omega) (by have := hnk.below.size; omega)
  rw [List.nil_append] at hok
  refine rw_v 23 Vk (fun _ => by kernel_rfl) (fun _ => ol_app hrk _ _ rfl (by kernel_rfl) (by kernel_rfl)) ?_
  have hfk : Below w1.heap.size w1 wkb := hnk.below.trans hbk
  have hzk := hok.spo
  obtain ⟨bk, dk, ek, hsk⟩ := hok.sk (K := An) hk.b (fun b hb => trivial)
  rw [ek] at hzk ⊢
  rw [hk.l] at hzk hsk ⊢
  replace hB := hB_0.go hfk
  replace hok := hok_0.go hfk
  replace hox := hox_0.go hfk
  replace hr4 := hr4_0.go hfk
  have hzsk := hfk.size
  refine rp 8 (.slice bk y.kn dk) ?_
  refine rw_nil ?_
  refine nw_then ?_
  refine cw_seq ?_
  refine cw_region ?_
  have hB_0 := hB
  have hok_0 := hok
  have hox_0 := hox
  have hr4_0 := hr4
  have hsk_0 := hsk
  have hzk_0 := hzk
  have hwBx := hB.size
  refine rw_newS 24 #[] 5 0 (fun _ => by kernel_rfl) (fun _ => by kernel_rfl) ?_
  intro wx gx hnx
  have hqx := ownB_new0 hnx (Nat.le_refl _)
  replace hB := hB.go hnx.below
  replace hok := hok.go hnx.below
  replace hox := hox.go hnx.below
  replace hr4 := hr4.go hnx.below
  replace hsk := hsk.go hnx.below
  replace hzk := hzk.go hnx.below
  refine rp 25 (.pointer (some ⟨g2, 2, none⟩)) ?_
  refine rv 26 (.slice y.va y.vn y.vc) (fun _ => ol_cell 27 _ ⟨g2, 2, none⟩ _ _ rfl (by kernel_rfl) (by rw [cell_of_row _ _ _ _ _ _ hr4]; rfl) Tryz.underlying27 rfl) ?_
  obtain ⟨Vx, wxb, hrx, hox, hbx⟩ := app_run hqx hox.ag (by simp; omega) (by have := hnx.below.size; omega)
  rw [List.nil_append] at hox
  refine rw_v 27 Vx (fun _ => by kernel_rfl) (fun _ => ol_app hrx _ _ rfl (by kernel_rfl) (by kernel_rfl)) ?_
  have hfx : Below wkb.heap.size wkb wxb := hnx.below.trans hbx
  have hzx := hox.spo
  obtain ⟨bx, dx, ex, hsx⟩ := hox.sk (K := An) hx.b (fun b hb => trivial)
  rw [ex] at hzx ⊢
  rw [hx.l] at hzx hsx ⊢
  replace hB := hB_0.go hfx
  replace hok := hok_0.go hfx
  replace hox := hox_0.go hfx
  replace hr4 := hr4_0.go hfx
  replace hsk := hsk_0.go hfx
  replace hzk := hzk_0.go hfx
  have hzsx := hfx.size
  refine rp 9 (.slice bx y.vn dx) ?_
  refine rw_nil ?_
  obtain ⟨S0, eS0⟩ : ∃ S0, (wxb).heap.size = S0 := ⟨_, rfl⟩
  have hw0 := hB.size
  have hw1 := hB_0.size
  replace hzk : Spo wxb (.slice bk y.kn dk) y.kn w.heap.size S0 := hzk.wide (by omega) (by rw [← eS0]; exact Nat.le_refl _)
  replace hzx : Spo wxb (.slice bx y.vn dx) y.vn w.heap.size S0 := hzx.wide (by omega) (by rw [← eS0]; exact Nat.le_refl _)
  have hTt : Tri (fun b => (K0 b ∧ b < w.heap.size) ∨ S0 ≤ b) wxb g t := (hT0.go hB).mono (fun b hb => .inl hb)
  refine nw_then ?_
  refine cw_seq ?_
  refine cw_region ?_
  refine rp 10 (.bool true) ?_
  refine rw_nil ?_
  refine nw_then ?_
  refine cw_seq ?_
  refine cw_seq ?_
  refine cw_region ?_
  refine rp 28 (.pointer (some ⟨g2, 0, none⟩)) ?_
  refine rv 29 (.int .i64 y.z) (fun _ => ol_cell 3 _ ⟨g2, 0, none⟩ _ _ rfl (by kernel_rfl) (by rw [cell_of_row _ _ _ _ _ _ hr4]; rfl) Tryz.underlying3 rfl) ?_
  refine rv 30 (.bool true) (fun _ => ol_conv (v := .bool ((y.z : Int) == (0 : Int))) (by kernel_rfl) (congrArg Value.bool (beq_iff_eq.2 hz))) ?_
  refine rw_nil ?_
  refine nw_then ?_
  refine cw_cond_t (fun _ => by kernel_rfl) ?_
  refine cw_seq ?_
  refine cw_region ?_
  refine rp 32 (.slice a n c) ?_
  refine rp 33 (.pointer (some ⟨g2, 1, none⟩)) ?_
  refine rv 34 (.slice y.ka y.kn y.kc) (fun _ => ol_cell 27 _ ⟨g2, 1, none⟩ _ _ rfl (by kernel_rfl) (by rw [cell_of_row _ _ _ _ _ _ hr4]; rfl) Tryz.underlying27 rfl) ?_
  refine rp 35 (.pointer (some ⟨g2, 2, none⟩)) ?_
  refine rv 36 (.slice y.va y.vn y.vc) (fun _ => ol_cell 27 _ ⟨g2, 2, none⟩ _ _ rfl (by kernel_rfl) (by rw [cell_of_row _ _ _ _ _ _ hr4]; rfl) Tryz.underlying27 rfl) ?_
  refine rw_call 37 13 #[.slice a n c, .slice y.ka y.kn y.kc, .slice y.va y.vn y.vc] (fun _ => by kernel_rfl) (fun _ => by kernel_rfl) (R := fun u w' => (∃ a n c vs, u = .tuple #[.slice a n c, .int .i64 (putE y.k y.x)] ∧ PAt (fun b => (K0 b ∧ b < w.heap.size) ∨ (wxb).heap.size ≤ b) w' a n c vs (putL l y.k y.x)) ∧ Bl (wxb) w') ((rput_any (hP0.go hB) hok hbn hox hlen)) ?_
  rintro _ u5 ⟨⟨aL2, nL2, cL2, vsL2, rfl, hPn⟩, hb6⟩
  have hsu5 := hb6.size
  replace hB := hB.go hb6
  replace hok := hok.go hb6
  replace hox := hox.go hb6
  replace hr4 := hr4.go hb6
  replace hsk := hsk.go hb6
  replace hzk := hzk.go hb6
  replace hsx := hsx.go hb6
  replace hzx := hzx.go hb6
  replace hTt := hTt.go hb6
  replace hPn := hPn.mono (K' := fun b => (K0 b ∧ b < w.heap.size) ∨ S0 ≤ b) (fun b hb => by rcases hb with h | h; exact .inl h; exact .inr (by omega))
  refine rp 31 (.tuple #[.slice aL2 nL2 cL2, .int .i64 (putE y.k y.x)]) ?_
  refine rp 38 (.slice aL2 nL2 cL2) ?_
  refine rp 39 (.int .i64 (putE y.k y.x)) ?_
  refine rp 11 (.slice aL2 nL2 cL2) ?_
  refine rp 12 (.int .i64 (putE y.k y.x)) ?_
  refine rw_nil ?_
  refine nw_then ?_
  refine cw_seq ?_
  refine cw_region ?_
  refine rp 40 (.pointer (some ⟨g, 0, none⟩)) ?_
  refine rp 41 (.slice bk y.kn dk) ?_
  refine rp 42 (.slice bx y.vn dx) ?_
  refine rw_call 43 8 #[.pointer (some ⟨g, 0, none⟩), .slice bk y.kn dk, .slice bx y.vn dx] (fun _ => by kernel_rfl) (fun _ => by kernel_rfl) (R := fun u w' => u = .int .i64 (putE y.k y.x) ∧ Tri (fun b => (K0 b ∧ b < w.heap.size) ∨ S0 ≤ b) w' g (putT t y.k y.x) ∧ Touch g (u5) w') ((tput_any hTt hsk hsx (fun b hb => .inr (by omega)))) ?_
  rintro _ u7 ⟨rfl, hTn, hto⟩
  replace hok := hok.touch hto hTt
  replace hox := hox.touch hto hTt
  replace hr4 := hr4.touch hto (by omega)
  replace hsk := hsk.touch hto hTt
  replace hzk := hzk.touch hto (.inl hgl)
  replace hsx := hsx.touch hto hTt
  replace hzx := hzx.touch hto (.inl hgl)
  replace hPn := hPn.touch hto hTt
  have hto1 : Touch g w u7 := (Touch.of_below hB).trans hto
  replace hTt := hTn
  clear hB
  refine rp 44 (.int .i64 (putE y.k y.x)) ?_
  refine rv 45 (.bool true) (fun _ => ol_conv (v := .bool ((putE y.k y.x : Int) == (putE y.k y.x : Int))) (by kernel_rfl) (congrArg Value.bool (beq_self_eq_true _))) ?_
  refine rp 10 (.bool true) ?_
  refine rw_nil ?_
  refine nw_then ?_
  refine cw_region ?_
  refine rp 46 (.slice aL2 nL2 cL2) ?_
  refine rp 1 (.slice aL2 nL2 cL2) ?_
  refine rw_nil ?_
  refine nw_then ?_
  refine cw_seq ?_
  refine cw_region ?_
  refine rp 70 (.bool true) ?_
  refine rp 71 (.bool true) ?_
  refine rp 72 (.slice bk y.kn dk) ?_
  refine rv 73 (.string (strOfNums y.k)) (fun _ => hsk.run_str _ _ _ rfl (by kernel_rfl)) ?_
  refine rp 74 (.pointer (some ⟨g2, 1, none⟩)) ?_
  refine rv 75 (.slice y.ka y.kn y.kc) (fun _ => ol_cell 27 _ ⟨g2, 1, none⟩ _ _ rfl (by kernel_rfl) (by rw [cell_of_row _ _ _ _ _ _ hr4]; rfl) Tryz.underlying27 rfl) ?_
  refine rv 76 (.string (strOfNums y.k)) (fun _ => hok.run_str _ _ _ rfl (by kernel_rfl)) ?_
  refine rv 77 (.bool true) (fun _ => ol_eqs 9 _ _ _ (strOfNums y.k) (strOfNums y.k) rfl (by kernel_rfl) (by kernel_rfl) (by simp)) ?_
  refine rp 78 (.bool true) ?_
  refine rp 79 (.bool true) ?_
  refine rp 80 (.slice bx y.vn dx) ?_
  refine rv 81 (.string (strOfNums y.x)) (fun _ => hsx.run_str _ _ _ rfl (by kernel_rfl)) ?_
  refine rp 82 (.pointer (some ⟨g2, 2, none⟩)) ?_
  refine rv 83 (.slice y.va y.vn y.vc) (fun _ => ol_cell 27 _ ⟨g2, 2, none⟩ _ _ rfl (by kernel_rfl) (by rw [cell_of_row _ _ _ _ _ _ hr4]; rfl) Tryz.underlying27 rfl) ?_
  refine rv 84 (.string (strOfNums y.x)) (fun _ => hox.run_str _ _ _ rfl (by kernel_rfl)) ?_
  refine rv 85 (.bool true) (fun _ => ol_eqs 9 _ _ _ (strOfNums y.x) (strOfNums y.x) rfl (by kernel_rfl) (by kernel_rfl) (by simp)) ?_
  refine rp 86 (.bool true) ?_
  refine rp 10 (.bool true) ?_
  refine rw_nil ?_
  refine nw_then ?_
  refine cw_seq ?_
  refine cw_seq ?_
  refine cw_region ?_
  refine rp 87 (.slice bk y.kn dk) ?_
  refine rp 88 (.int .i64 y.kn) ?_
  refine rp 89 (.int .i64 0) ?_
  refine rw_nil ?_
  refine nw_then ?_
  refine cw_block ?_
  refine cw_loop (X := Nat) (fun j => [(89, .int .i64 ((j : Nat) : Int)), (88, .int .i64 y.kn), (10, .bool true), (1, .slice aL2 nL2 cL2), (9, .slice bx y.vn dx), (8, .slice bk y.kn dk)]) (fun j v => Tm w.heap.size S0 u7 v ∧ Spo v (.slice bk y.kn dk) y.kn w.heap.size S0 ∧ Spo v (.slice bx y.vn dx) y.vn w.heap.size S0 ∧ j ≤ y.kn) (fun j => y.kn - j) 0 (by exact ⟨fun _ => by kernel_rfl, ⟨fun _ => by kernel_rfl, ⟨fun _ => by kernel_rfl, ⟨fun _ => by kernel_rfl, ⟨fun _ => by kernel_rfl, ⟨fun _ => by kernel_rfl, trivial⟩⟩⟩⟩⟩⟩) ⟨Tm.refl _ _ _, hzk, hzx, Nat.zero_le _⟩ ?_
  rintro j vk ⟨hm, hzk', hzx', hj⟩
  by_cases hlt : j < y.kn
  · skip
    rcases id hzk' with ⟨_, _, _, q0⟩ | ⟨g1, c1, cur1, q1, hr1, hsz1, hlo1, hhi1⟩
    · omega
    · skip
      cases q1
      refine cw_seq ?_
      refine cw_region ?_
      refine rv 90 (.bool true) (fun _ => ol_conv (v := .bool (decide (((j : Nat) : Int) < (y.kn : Int)))) (by kernel_rfl) (congrArg Value.bool (decide_eq_true (by omega)))) ?_
      refine rw_nil ?_
      refine nw_then ?_
      refine cw_seq ?_
      refine cw_cond_t (fun _ => by kernel_rfl) ?_
      refine cw_skip ?_
      refine nw_then ?_
      refine cw_seq ?_
      refine cw_block ?_
      refine cw_seq ?_
      refine cw_region ?_
      refine rp 91 (.int .i64 ((j : Nat) : Int)) ?_
      refine rp 18 (.int .i64 ((j : Nat) : Int)) ?_
      refine rw_nil ?_
      refine nw_then ?_
      refine cw_region ?_
      refine rp 92 (.slice (some ⟨g1, 0, none⟩) y.kn dk) ?_
      refine rp 93 (.int .i64 ((j : Nat) : Int)) ?_
      refine rv 94 (.pointer (some ⟨g1, 0 + j * 1, none⟩)) (fun _ => ol_index 27 _ _ g1 0 j y.kn dk 1 5 rfl (by kernel_rfl) (by kernel_rfl) hlt Tryz.underlying27 (by kernel_rfl)) ?_
      refine rw_set1 g1 (0 + j * 1) (.int .u8 99) (fun _ => by kernel_rfl) (fun _ => ol_setC 5 _ _ g1 (0 + j * 1) _ 5 _ hr1 rfl (by kernel_rfl) (by kernel_rfl) (by omega) rfl rfl (by kernel_rfl)) ?_
      intro vS hset
      refine rw_nil ?_
      refine nw_block ?_
      refine nw_then ?_
      refine cw_region ?_
      refine rv 95 (.int .i64 (((j : Nat) : Int) + 1)) (fun _ => ol_conv (v := .int .i64 (IntKind.i64.wrap (((j : Nat) : Int) + 1))) (by kernel_rfl) (congrArg (Value.int .i64) (wrap64 (by omega) (by omega)))) ?_
      refine rp 89 (.int .i64 (((j : Nat) : Int) + 1)) ?_
      refine rw_nil ?_
      exact nw_round (E := fun j => [(89, .int .i64 ((j : Nat) : Int)), (88, .int .i64 y.kn), (10, .bool true), (1, .slice aL2 nL2 cL2), (9, .slice bx y.vn dx), (8, .slice (some ⟨g1, 0, none⟩) y.kn dk)]) (R := fun j v => Tm w.heap.size S0 u7 v ∧ Spo v (.slice (some ⟨g1, 0, none⟩) y.kn dk) y.kn w.heap.size S0 ∧ Spo v (.slice bx y.vn dx) y.vn w.heap.size S0 ∧ j ≤ y.kn) (μ := fun j => y.kn - j) (x := j) (j + 1) (by exact ⟨fun _ => by kernel_rfl, ⟨fun _ => by kernel_rfl, ⟨fun _ => by kernel_rfl, ⟨fun _ => by kernel_rfl, ⟨fun _ => by kernel_rfl, ⟨fun _ => by kernel_rfl, trivial⟩⟩⟩⟩⟩⟩) ⟨hm.trans (Tm.of hset.touch hlo1 hhi1), hzk'.set hset hr1, hzx'.set hset hr1, by omega⟩ (by show y.kn - (j + 1) < y.kn - j; omega)
  have hjn : j = y.kn := by omega
  replace hzk := hzk'
  replace hzx := hzx'
  have hm1 := hm
  refine cw_seq ?_
  refine cw_region ?_
  refine rv 90 (.bool false) (fun _ => ol_conv (v := .bool (decide (((j : Nat) : Int) < (y.kn : Int)))) (by kernel_rfl) (congrArg Value.bool (decide_eq_false (by omega)))) ?_
  refine rw_nil ?_
  refine nw_then ?_
  refine cw_seq ?_
  refine cw_cond_f (fun _ => by kernel_rfl) ?_
  refine cw_exit ?_
  refine nw_exit_then ?_
  refine nw_exit_then ?_
  refine nw_exit_here ?_
  refine nw_then ?_
  refine cw_seq ?_
  refine cw_seq ?_
  refine cw_region ?_
  refine rp 96 (.slice bx y.vn dx) ?_
  refine rp 97 (.int .i64 y.vn) ?_
  refine rp 98 (.int .i64 0) ?_
  refine rw_nil ?_
  refine nw_then ?_
  refine cw_block ?_
  refine cw_loop (X := Nat) (fun j => [(98, .int .i64 ((j : Nat) : Int)), (97, .int .i64 y.vn), (10, .bool true), (1, .slice aL2 nL2 cL2), (9, .slice bx y.vn dx), (8, .slice bk y.kn dk)]) (fun j v => Tm w.heap.size S0 vk v ∧ Spo v (.slice bk y.kn dk) y.kn w.heap.size S0 ∧ Spo v (.slice bx y.vn dx) y.vn w.heap.size S0 ∧ j ≤ y.vn) (fun j => y.vn - j) 0 (by exact ⟨fun _ => by kernel_rfl, ⟨fun _ => by kernel_rfl, ⟨fun _ => by kernel_rfl, ⟨fun _ => by kernel_rfl, ⟨fun _ => by kernel_rfl, ⟨fun _ => by kernel_rfl, trivial⟩⟩⟩⟩⟩⟩) ⟨Tm.refl _ _ _, hzk, hzx, Nat.zero_le _⟩ ?_
  rintro j vx ⟨hm, hzk', hzx', hj⟩
  by_cases hlt : j < y.vn
  · skip
    rcases id hzx' with ⟨_, _, _, q0⟩ | ⟨g1, c1, cur1, q1, hr1, hsz1, hlo1, hhi1⟩
    · omega
    · skip
      cases q1
      refine cw_seq ?_
      refine cw_region ?_
      refine rv 99 (.bool true) (fun _ => ol_conv (v := .bool (decide (((j : Nat) : Int) < (y.vn : Int)))) (by kernel_rfl) (congrArg Value.bool (decide_eq_true (by omega)))) ?_
      refine rw_nil ?_
      refine nw_then ?_
      refine cw_seq ?_
      refine cw_cond_t (fun _ => by kernel_rfl) ?_
      refine cw_skip ?_
      refine nw_then ?_
      refine cw_seq ?_
      refine cw_block ?_
      refine cw_seq ?_
      refine cw_region ?_
      refine rp 100 (.int .i64 ((j : Nat) : Int)) ?_
      refine rp 19 (.int .i64 ((j : Nat) : Int)) ?_
      refine rw_nil ?_
      refine nw_then ?_
      refine cw_region ?_
      refine rp 101 (.slice (some ⟨g1, 0, none⟩) y.vn dx) ?_
      refine rp 102 (.int .i64 ((j : Nat) : Int)) ?_
      refine rv 103 (.pointer (some ⟨g1, 0 + j * 1, none⟩)) (fun _ => ol_index 27 _ _ g1 0 j y.vn dx 1 5 rfl (by kernel_rfl) (by kernel_rfl) hlt Tryz.underlying27 (by kernel_rfl)) ?_
      refine rw_set1 g1 (0 + j * 1) (.int .u8 99) (fun _ => by kernel_rfl) (fun _ => ol_setC 5 _ _ g1 (0 + j * 1) _ 5 _ hr1 rfl (by kernel_rfl) (by kernel_rfl) (by omega) rfl rfl (by kernel_rfl)) ?_
      intro vS hset
      refine rw_nil ?_
      refine nw_block ?_
      refine nw_then ?_
      refine cw_region ?_
      refine rv 104 (.int .i64 (((j : Nat) : Int) + 1)) (fun _ => ol_conv (v := .int .i64 (IntKind.i64.wrap (((j : Nat) : Int) + 1))) (by kernel_rfl) (congrArg (Value.int .i64) (wrap64 (by omega) (by omega)))) ?_
      refine rp 98 (.int .i64 (((j : Nat) : Int) + 1)) ?_
      refine rw_nil ?_
      exact nw_round (E := fun j => [(98, .int .i64 ((j : Nat) : Int)), (97, .int .i64 y.vn), (10, .bool true), (1, .slice aL2 nL2 cL2), (9, .slice (some ⟨g1, 0, none⟩) y.vn dx), (8, .slice bk y.kn dk)]) (R := fun j v => Tm w.heap.size S0 vk v ∧ Spo v (.slice bk y.kn dk) y.kn w.heap.size S0 ∧ Spo v (.slice (some ⟨g1, 0, none⟩) y.vn dx) y.vn w.heap.size S0 ∧ j ≤ y.vn) (μ := fun j => y.vn - j) (x := j) (j + 1) (by exact ⟨fun _ => by kernel_rfl, ⟨fun _ => by kernel_rfl, ⟨fun _ => by kernel_rfl, ⟨fun _ => by kernel_rfl, ⟨fun _ => by kernel_rfl, ⟨fun _ => by kernel_rfl, trivial⟩⟩⟩⟩⟩⟩) ⟨hm.trans (Tm.of hset.touch hlo1 hhi1), hzk'.set hset hr1, hzx'.set hset hr1, by omega⟩ (by show y.vn - (j + 1) < y.vn - j; omega)
  have hjn : j = y.vn := by omega
  replace hzk := hzk'
  replace hzx := hzx'
  refine cw_seq ?_
  refine cw_region ?_
  refine rv 99 (.bool false) (fun _ => ol_conv (v := .bool (decide (((j : Nat) : Int) < (y.vn : Int)))) (by kernel_rfl) (congrArg Value.bool (decide_eq_false (by omega)))) ?_
  refine rw_nil ?_
  refine nw_then ?_
  refine cw_seq ?_
  refine cw_cond_f (fun _ => by kernel_rfl) ?_
  refine cw_exit ?_
  refine nw_exit_then ?_
  refine nw_exit_then ?_
  refine nw_exit_here ?_
  refine nw_then ?_
  refine cw_seq ?_
  refine cw_region ?_
  refine rp 105 (.slice aL2 nL2 cL2) ?_
  refine rp 106 (.bool true) ?_
  refine rp 6 (.slice aL2 nL2 cL2) ?_
  refine rp 7 (.bool true) ?_
  refine rw_nil ?_
  refine nw_then ?_
  refine cw_ret ?_
  have hM := hm1.trans hm
  exact nw_ret_body (.tuple #[.slice aL2 nL2 cL2, .bool true]) (fun _ => by kernel_rfl) ⟨_, rfl, ⟨aL2, nL2, cL2, vsL2, true, rfl, by rw [show chL l y = putL l y.k y.x from if_pos hz]; exact (hPn.tm hM (fun b hb => hb.imp (fun h => h.2) id)).mono (fun b hb => hb.imp (fun h => h.1) (fun h => by omega)), fun _ => rfl⟩, by rw [show chT t y = putT t y.k y.x from if_pos hz]; exact (hTt.tm hM (fun b hb => hb.imp (fun h => h.2) id) (.inl hgl)).mono (fun b hb => hb.imp (fun h => h.1) (fun h => by omega)), hM.after hto1⟩
set_option maxHeartbeats 4000000 in
theorem changes_del {K0 : Nat → Prop} {w : World} {g : Nat} {t : Tr} (hT : Tri K0 w g t) {a : Option Addr} {n c : Nat} {vs : List (Value × Value)} {l : PList} (hP : PAt K0 w a n c vs l) {y : Opx} (hk : Ag w y.ka y.kn y.kc y.k) (hx : Ag w y.va y.vn y.vc y.x) (hbn : n ≤ 2600000000000) (bk0 : y.kn ≤ 140737488355328) (bx0 : y.vn ≤ 140737488355328) (hlen : ∀ (j : Nat) k x, l[j]? = some (k, x) → k.length ≤ 1000000) (hz : ¬ y.z = 0) :
    Calls Tryz.prog 5 #[.pointer (some ⟨g, 0, none⟩), .slice a n c, .agg #[.int .i64 y.z, .slice y.ka y.kn y.kc, .slice y.va y.vn y.vc]] w fun e w' => ∃ u, e = .returned u ∧ (fun u w' => (∃ a' n' c' vs' b, u = .tuple #[.slice a' n' c', .bool b] ∧ PAt (fun b => K0 b ∨ w.heap.size ≤ b) w' a' n' c' vs' (chL l y) ∧ (Rel t l → b = true)) ∧ Tri (fun b => K0 b ∨ w.heap.size ≤ b) w' g (chT t y) ∧ Touch g w w') u w' := by
  have hB := Bl.refl w
  have lk := hk.l
  have lx := hx.l
  have hT0 := hT.oldK
  have hP0 := hP.old
  have hgl := hT.lt
  have hok := hk.an
  have hox := hx.an
  have hPl := hP0
  obtain ⟨bD, hbD⟩ : ∃ b, (if y.k.length ≤ 32 then decide (Tr.get t (Ni.nib y.k) ≠ []) else false) = b := ⟨_, rfl⟩
  obtain ⟨bR, hbR⟩ : ∃ b, (if y.k.length ≤ 32 then isAt y.k l else false) = b := ⟨_, rfl⟩
  obtain ⟨zE, hzE⟩ : ∃ z : Int, (if y.k.length ≤ 32 then (0 : Int) else 70) = z := ⟨_, rfl⟩
  refine cw_enter Tryz.func5 rfl 107 rfl ?_
  show CW _ _ _ _ _ _ _ [(0, .pointer (some ⟨g, 0, none⟩)), (1, .slice a n c), (2, .agg #[.int .i64 y.z, .slice y.ka y.kn y.kc, .slice y.va y.vn y.vc])] _
  refine cw_seq ?_
  refine cw_region ?_
  refine rw_new 5 (#[.int .i64 y.z, .slice y.ka y.kn y.kc, .slice y.va y.vn y.vc]) 29 (fun _ => by kernel_rfl) (fun _ => by kernel_rfl) ?_
  intro w1 g2 hn3
  replace hB := hB.go hn3.below
  replace hok := hok.go hn3.below
  replace hox := hox.go hn3.below
  replace hPl := hPl.go hn3.below
  have hr4 : Rw g2 w1 (#[.int .i64 y.z, .slice y.ka y.kn y.kc, .slice y.va y.vn y.vc]) 29 := hn3.row
  have hgO := hn3.hg
  refine rp 6 (.slice none 0 0) ?_
  refine rp 7 (.bool false) ?_
  refine rw_nil ?_
  refine nw_then ?_
  refine cw_seq ?_
  refine cw_region ?_
  have hB_0 := hB
  have hok_0 := hok
  have hox_0 := hox
  have hPl_0 := hPl
  have hr4_0 := hr4
  have hwBk := hB.size
  refine rw_newS 20 #[] 5 0 (fun _ => by kernel_rfl) (fun _ => by kernel_rfl) ?_
  intro wk gk hnk
  have hqk := ownB_new0 hnk (Nat.le_refl _)
  replace hB := hB.go hnk.below
  replace hok := hok.go hnk.below
  replace hox := hox.go hnk.below
  replace hPl := hPl.go hnk.below
  replace hr4 := hr4.go hnk.below
  refine rp 21 (.pointer (some ⟨g2, 1, none⟩)) ?_
  refine rv 22 (.slice y.ka y.kn y.kc) (fun _ => ol_cell 27 _ ⟨g2, 1, none⟩ _ _ rfl (by kernel_rfl) (by rw [cell_of_row _ _ _ _ _ _ hr4]; rfl) Tryz.underlying27 rfl) ?_
  obtain ⟨Vk, wkb, hrk, hok, hbk⟩ := app_run hqk hok.ag (by simp; omega) (by have := hnk.below.size; omega)
  rw [List.nil_append] at hok
  refine rw_v 23 Vk (fun _ => by kernel_rfl) (fun _ => ol_app hrk _ _ rfl (by kernel_rfl) (by kernel_rfl)) ?_
  have hfk : Below w1.heap.size w1 wkb := hnk.below.trans hbk
  have hzk := hok.spo
  obtain ⟨bk, dk, ek, hsk⟩ := hok.sk (K := An) hk.b (fun b hb => trivial)
  rw [ek] at hzk ⊢
  rw [hk.l] at hzk hsk ⊢
  replace hB := hB_0.go hfk
  replace hok := hok_0.go hfk
  replace hox := hox_0.go hfk
  replace hPl := hPl_0.go hfk
  replace hr4 := hr4_0.go hfk
  have hzsk := hfk.size
  refine rp 8 (.slice bk y.kn dk) ?_
  refine rw_nil ?_
  refine nw_then ?_
  refine cw_seq ?_
  refine cw_region ?_
  have hB_0 := hB
  have hok_0 := hok
  have hox_0 := hox
  have hPl_0 := hPl
  have hr4_0 := hr4
  have hsk_0 := hsk
  have hzk_0 := hzk
  have hwBx := hB.size
  refine rw_newS 24 #[] 5 0 (fun _ => by kernel_rfl) (fun _ => by kernel_rfl) ?_
  intro wx gx hnx
  have hqx := ownB_new0 hnx (Nat.le_refl _)
  replace hB := hB.go hnx.below
  replace hok := hok.go hnx.below
  replace hox := hox.go hnx.below
  replace hPl := hPl.go hnx.below
  replace hr4 := hr4.go hnx.below
  replace hsk := hsk.go hnx.below
  replace hzk := hzk.go hnx.below
  refine rp 25 (.pointer (some ⟨g2, 2, none⟩)) ?_
  refine rv 26 (.slice y.va y.vn y.vc) (fun _ => ol_cell 27 _ ⟨g2, 2, none⟩ _ _ rfl (by kernel_rfl) (by rw [cell_of_row _ _ _ _ _ _ hr4]; rfl) Tryz.underlying27 rfl) ?_
  obtain ⟨Vx, wxb, hrx, hox, hbx⟩ := app_run hqx hox.ag (by simp; omega) (by have := hnx.below.size; omega)
  rw [List.nil_append] at hox
  refine rw_v 27 Vx (fun _ => by kernel_rfl) (fun _ => ol_app hrx _ _ rfl (by kernel_rfl) (by kernel_rfl)) ?_
  have hfx : Below wkb.heap.size wkb wxb := hnx.below.trans hbx
  have hzx := hox.spo
  obtain ⟨bx, dx, ex, hsx⟩ := hox.sk (K := An) hx.b (fun b hb => trivial)
  rw [ex] at hzx ⊢
  rw [hx.l] at hzx hsx ⊢
  replace hB := hB_0.go hfx
  replace hok := hok_0.go hfx
  replace hox := hox_0.go hfx
  replace hPl := hPl_0.go hfx
  replace hr4 := hr4_0.go hfx
  replace hsk := hsk_0.go hfx
  replace hzk := hzk_0.go hfx
  have hzsx := hfx.size
  refine rp 9 (.slice bx y.vn dx) ?_
  refine rw_nil ?_
  obtain ⟨S0, eS0⟩ : ∃ S0, (wxb).heap.size = S0 := ⟨_, rfl⟩
  have hw0 := hB.size
  have hw1 := hB_0.size
  replace hzk : Spo wxb (.slice bk y.kn dk) y.kn w.heap.size S0 := hzk.wide (by omega) (by rw [← eS0]; exact Nat.le_refl _)
  replace hzx : Spo wxb (.slice bx y.vn dx) y.vn w.heap.size S0 := hzx.wide (by omega) (by rw [← eS0]; exact Nat.le_refl _)
  have hTt : Tri (fun b => (K0 b ∧ b < w.heap.size) ∨ S0 ≤ b) wxb g t := (hT0.go hB).mono (fun b hb => .inl hb)
  refine nw_then ?_
  refine cw_seq ?_
  refine cw_region ?_
  refine rp 10 (.bool true) ?_
  refine rw_nil ?_
  refine nw_then ?_
  refine cw_seq ?_
  refine cw_seq ?_
  refine cw_region ?_
  refine rp 28 (.pointer (some ⟨g2, 0, none⟩)) ?_
  refine rv 29 (.int .i64 y.z) (fun _ => ol_cell 3 _ ⟨g2, 0, none⟩ _ _ rfl (by kernel_rfl) (by rw [cell_of_row _ _ _ _ _ _ hr4]; rfl) Tryz.underlying3 rfl) ?_
  refine rv 30 (.bool false) (fun _ => ol_conv (v := .bool ((y.z : Int) == (0 : Int))) (by kernel_rfl) (congrArg Value.bool (beq_eq_false_iff_ne.2 hz))) ?_
  refine rw_nil ?_
  refine nw_then ?_
  refine cw_cond_f (fun _ => by kernel_rfl) ?_
  refine cw_seq ?_
  refine cw_region ?_
  refine rp 48 (.pointer (some ⟨g, 0, none⟩)) ?_
  refine rp 49 (.slice bk y.kn dk) ?_
  refine rw_call 50 10 #[.pointer (some ⟨g, 0, none⟩), .slice bk y.kn dk] (fun _ => by kernel_rfl) (fun _ => by kernel_rfl) (R := fun u w' => u = .tuple #[.bool bD, .int .i64 zE] ∧ Tri (fun b => (K0 b ∧ b < w.heap.size) ∨ S0 ≤ b) w' g (delT t y.k) ∧ Touch g (wxb) w') (((tdel_full hTt hsk (fun b hb => .inr (by omega))).mono (fun e w' ⟨u, e1, e2, e3⟩ => ⟨u, e1, by rw [e2, hbD, hzE], e3⟩))) ?_
  rintro _ u5 ⟨rfl, hTn, hto⟩
  have hsT := hto.size
  replace hok := hok.touch hto hTt
  replace hox := hox.touch hto hTt
  replace hPl := hPl.touch hto hTt
  replace hr4 := hr4.touch hto (by omega)
  replace hsk := hsk.touch hto hTt
  replace hzk := hzk.touch hto (.inl hgl)
  replace hsx := hsx.touch hto hTt
  replace hzx := hzx.touch hto (.inl hgl)
  have hto1 : Touch g w u5 := (Touch.of_below hB).trans hto
  replace hTt := hTn
  clear hB
  refine rp 47 (.tuple #[.bool bD, .int .i64 zE]) ?_
  refine rp 51 (.bool bD) ?_
  refine rp 52 (.int .i64 zE) ?_
  refine rp 13 (.bool bD) ?_
  refine rp 14 (.int .i64 zE) ?_
  refine rw_nil ?_
  refine nw_then ?_
  refine cw_seq ?_
  refine cw_region ?_
  refine rp 54 (.slice a n c) ?_
  refine rp 55 (.pointer (some ⟨g2, 1, none⟩)) ?_
  refine rv 56 (.slice y.ka y.kn y.kc) (fun _ => ol_cell 27 _ ⟨g2, 1, none⟩ _ _ rfl (by kernel_rfl) (by rw [cell_of_row _ _ _ _ _ _ hr4]; rfl) Tryz.underlying27 rfl) ?_
  refine rw_call 57 14 #[.slice a n c, .slice y.ka y.kn y.kc] (fun _ => by kernel_rfl) (fun _ => by kernel_rfl) (R := fun u w' => (∃ a n c vs, u = .tuple #[.slice a n c, .bool bR, .int .i64 zE] ∧ PAt (fun b => (K0 b ∧ b < w.heap.size) ∨ (u5).heap.size ≤ b) w' a n c vs (delL l y.k)) ∧ Bl (u5) w') (((rdel_any hPl hok hbn hlen).mono (fun e w' ⟨u, e1, ⟨a, n, c, vs, e2, e3⟩, e4⟩ => ⟨u, e1, ⟨a, n, c, vs, by rw [e2, hbR, hzE], e3⟩, e4⟩))) ?_
  rintro _ u6 ⟨⟨aL2, nL2, cL2, vsL2, rfl, hPn⟩, hb7⟩
  have hsR := hb7.size
  replace hto1 := hto1.trans (Touch.of_below hb7)
  replace hok := hok.go hb7
  replace hox := hox.go hb7
  replace hPl := hPl.go hb7
  replace hr4 := hr4.go hb7
  replace hsk := hsk.go hb7
  replace hzk := hzk.go hb7
  replace hsx := hsx.go hb7
  replace hzx := hzx.go hb7
  replace hTt := hTt.go hb7
  replace hPn := hPn.mono (K' := fun b => (K0 b ∧ b < w.heap.size) ∨ S0 ≤ b) (fun b hb => by rcases hb with h | h; exact .inl h; exact .inr (by omega))
  refine rp 53 (.tuple #[.slice aL2 nL2 cL2, .bool bR, .int .i64 zE]) ?_
  refine rp 58 (.slice aL2 nL2 cL2) ?_
  refine rp 59 (.bool bR) ?_
  refine rp 60 (.int .i64 zE) ?_
  refine rp 15 (.slice aL2 nL2 cL2) ?_
  refine rp 16 (.bool bR) ?_
  refine rp 17 (.int .i64 zE) ?_
  refine rw_nil ?_
  refine nw_then ?_
  refine cw_seq ?_
  refine cw_region ?_
  refine rp 61 (.bool bD) ?_
  refine rp 62 (.bool bR) ?_
  by_cases hbb : bD = bR
  · skip
    refine rv 63 (.bool true) (fun _ => ol_eqb 4 _ _ _ bD bR rfl (by kernel_rfl) (by kernel_rfl) (by simp [hbb])) ?_
    refine rp 64 (.bool true) ?_
    refine rp 65 (.int .i64 zE) ?_
    refine rp 66 (.int .i64 zE) ?_
    refine rv 67 (.bool true) (fun _ => ol_conv (v := .bool ((zE : Int) == (zE : Int))) (by kernel_rfl) (congrArg Value.bool (beq_self_eq_true _))) ?_
    refine rp 68 (.bool true) ?_
    refine rp 10 (.bool true) ?_
    refine rw_nil ?_
    refine nw_then ?_
    refine cw_region ?_
    refine rp 69 (.slice aL2 nL2 cL2) ?_
    refine rp 1 (.slice aL2 nL2 cL2) ?_
    refine rw_nil ?_
    refine nw_then ?_
    refine cw_seq ?_
    refine cw_region ?_
    refine rp 70 (.bool true) ?_
    refine rp 71 (.bool true) ?_
    refine rp 72 (.slice bk y.kn dk) ?_
    refine rv 73 (.string (strOfNums y.k)) (fun _ => hsk.run_str _ _ _ rfl (by kernel_rfl)) ?_
    refine rp 74 (.pointer (some ⟨g2, 1, none⟩)) ?_
    refine rv 75 (.slice y.ka y.kn y.kc) (fun _ => ol_cell 27 _ ⟨g2, 1, none⟩ _ _ rfl (by kernel_rfl) (by rw [cell_of_row _ _ _ _ _ _ hr4]; rfl) Tryz.underlying27 rfl) ?_
    refine rv 76 (.string (strOfNums y.k)) (fun _ => hok.run_str _ _ _ rfl (by kernel_rfl)) ?_
    refine rv 77 (.bool true) (fun _ => ol_eqs 9 _ _ _ (strOfNums y.k) (strOfNums y.k) rfl (by kernel_rfl) (by kernel_rfl) (by simp)) ?_
    refine rp 78 (.bool true) ?_
    refine rp 79 (.bool true) ?_
    refine rp 80 (.slice bx y.vn dx) ?_
    refine rv 81 (.string (strOfNums y.x)) (fun _ => hsx.run_str _ _ _ rfl (by kernel_rfl)) ?_
    refine rp 82 (.pointer (some ⟨g2, 2, none⟩)) ?_
    refine rv 83 (.slice y.va y.vn y.vc) (fun _ => ol_cell 27 _ ⟨g2, 2, none⟩ _ _ rfl (by kernel_rfl) (by rw [cell_of_row _ _ _ _ _ _ hr4]; rfl) Tryz.underlying27 rfl) ?_
    refine rv 84 (.string (strOfNums y.x)) (fun _ => hox.run_str _ _ _ rfl (by kernel_rfl)) ?_
    refine rv 85 (.bool true) (fun _ => ol_eqs 9 _ _ _ (strOfNums y.x) (strOfNums y.x) rfl (by kernel_rfl) (by kernel_rfl) (by simp)) ?_
    refine rp 86 (.bool true) ?_
    refine rp 10 (.bool true) ?_
    refine rw_nil ?_
    refine nw_then ?_
    refine cw_seq ?_
    refine cw_seq ?_
    refine cw_region ?_
    refine rp 87 (.slice bk y.kn dk) ?_
    refine rp 88 (.int .i64 y.kn) ?_
    refine rp 89 (.int .i64 0) ?_
    refine rw_nil ?_
    refine nw_then ?_
    refine cw_block ?_
    refine cw_loop (X := Nat) (fun j => [(89, .int .i64 ((j : Nat) : Int)), (88, .int .i64 y.kn), (10, .bool true), (1, .slice aL2 nL2 cL2), (9, .slice bx y.vn dx), (8, .slice bk y.kn dk)]) (fun j v => Tm w.heap.size S0 u6 v ∧ Spo v (.slice bk y.kn dk) y.kn w.heap.size S0 ∧ Spo v (.slice bx y.vn dx) y.vn w.heap.size S0 ∧ j ≤ y.kn) (fun j => y.kn - j) 0 (by exact ⟨fun _ => by kernel_rfl, ⟨fun _ => by kernel_rfl, ⟨fun _ => by kernel_rfl, ⟨fun _ => by kernel_rfl, ⟨fun _ => by kernel_rfl, ⟨fun _ => by kernel_rfl, trivial⟩⟩⟩⟩⟩⟩) ⟨Tm.refl _ _ _, hzk, hzx, Nat.zero_le _⟩ ?_
    rintro j vk ⟨hm, hzk', hzx', hj⟩
    by_cases hlt : j < y.kn
    · skip
      rcases id hzk' with ⟨_, _, _, q0⟩ | ⟨g1, c1, cur1, q1, hr1, hsz1, hlo1, hhi1⟩
      · omega
      · skip
        cases q1
        refine cw_seq ?_
        refine cw_region ?_
        refine rv 90 (.bool true) (fun _ => ol_conv (v := .bool (decide (((j : Nat) : Int) < (y.kn : Int)))) (by kernel_rfl) (congrArg Value.bool (decide_eq_true (by omega)))) ?_
        refine rw_nil ?_
        refine nw_then ?_
        refine cw_seq ?_
        refine cw_cond_t (fun _ => by kernel_rfl) ?_
        refine cw_skip ?_
        refine nw_then ?_
        refine cw_seq ?_
        refine cw_block ?_
        refine cw_seq ?_
        refine cw_region ?_
        refine rp 91 (.int .i64 ((j : Nat) : Int)) ?_
        refine rp 18 (.int .i64 ((j : Nat) : Int)) ?_
        refine rw_nil ?_
        refine nw_then ?_
        refine cw_region ?_
        refine rp 92 (.slice (some ⟨g1, 0, none⟩) y.kn dk) ?_
        refine rp 93 (.int .i64 ((j : Nat) : Int)) ?_
        refine rv 94 (.pointer (some ⟨g1, 0 + j * 1, none⟩)) (fun _ => ol_index 27 _ _ g1 0 j y.kn dk 1 5 rfl (by kernel_rfl) (by kernel_rfl) hlt Tryz.underlying27 (by kernel_rfl)) ?_
        refine rw_set1 g1 (0 + j * 1) (.int .u8 99) (fun _ => by kernel_rfl) (fun _ => ol_setC 5 _ _ g1 (0 + j * 1) _ 5 _ hr1 rfl (by kernel_rfl) (by kernel_rfl) (by omega) rfl rfl (by kernel_rfl)) ?_
        intro vS hset
        refine rw_nil ?_
        refine nw_block ?_
        refine nw_then ?_
        refine cw_region ?_
        refine rv 95 (.int .i64 (((j : Nat) : Int) + 1)) (fun _ => ol_conv (v := .int .i64 (IntKind.i64.wrap (((j : Nat) : Int) + 1))) (by kernel_rfl) (congrArg (Value.int .i64) (wrap64 (by omega) (by omega)))) ?_
        refine rp 89 (.int .i64 (((j : Nat) : Int) + 1)) ?_
        refine rw_nil ?_
        exact nw_round (E := fun j => [(89, .int .i64 ((j : Nat) : Int)), (88, .int .i64 y.kn), (10, .bool true), (1, .slice aL2 nL2 cL2), (9, .slice bx y.vn dx), (8, .slice (some ⟨g1, 0, none⟩) y.kn dk)]) (R := fun j v => Tm w.heap.size S0 u6 v ∧ Spo v (.slice (some ⟨g1, 0, none⟩) y.kn dk) y.kn w.heap.size S0 ∧ Spo v (.slice bx y.vn dx) y.vn w.heap.size S0 ∧ j ≤ y.kn) (μ := fun j => y.kn - j) (x := j) (j + 1) (by exact ⟨fun _ => by kernel_rfl, ⟨fun _ => by kernel_rfl, ⟨fun _ => by kernel_rfl, ⟨fun _ => by kernel_rfl, ⟨fun _ => by kernel_rfl, ⟨fun _ => by kernel_rfl, trivial⟩⟩⟩⟩⟩⟩) ⟨hm.trans (Tm.of hset.touch hlo1 hhi1), hzk'.set hset hr1, hzx'.set hset hr1, by omega⟩ (by show y.kn - (j + 1) < y.kn - j; omega)
    have hjn : j = y.kn := by omega
    replace hzk := hzk'
    replace hzx := hzx'
    have hm1 := hm
    refine cw_seq ?_
    refine cw_region ?_
    refine rv 90 (.bool false) (fun _ => ol_conv (v := .bool (decide (((j : Nat) : Int) < (y.kn : Int)))) (by kernel_rfl) (congrArg Value.bool (decide_eq_false (by omega)))) ?_
    refine rw_nil ?_
    refine nw_then ?_
    refine cw_seq ?_
    refine cw_cond_f (fun _ => by kernel_rfl) ?_
    refine cw_exit ?_
    refine nw_exit_then ?_
    refine nw_exit_then ?_
    refine nw_exit_here ?_
    refine nw_then ?_
    refine cw_seq ?_
    refine cw_seq ?_
    refine cw_region ?_
    refine rp 96 (.slice bx y.vn dx) ?_
    refine rp 97 (.int .i64 y.vn) ?_
    refine rp 98 (.int .i64 0) ?_
    refine rw_nil ?_
    refine nw_then ?_
    refine cw_block ?_
    refine cw_loop (X := Nat) (fun j => [(98, .int .i64 ((j : Nat) : Int)), (97, .int .i64 y.vn), (10, .bool true), (1, .slice aL2 nL2 cL2), (9, .slice bx y.vn dx), (8, .slice bk y.kn dk)]) (fun j v => Tm w.heap.size S0 vk v ∧ Spo v (.slice bk y.kn dk) y.kn w.heap.size S0 ∧ Spo v (.slice bx y.vn dx) y.vn w.heap.size S0 ∧ j ≤ y.vn) (fun j => y.vn - j) 0 (by exact ⟨fun _ => by kernel_rfl, ⟨fun _ => by kernel_rfl, ⟨fun _ => by kernel_rfl, ⟨fun _ => by kernel_rfl, ⟨fun _ => by kernel_rfl, ⟨fun _ => by kernel_rfl, trivial⟩⟩⟩⟩⟩⟩) ⟨Tm.refl _ _ _, hzk, hzx, Nat.zero_le _⟩ ?_
    rintro j vx ⟨hm, hzk', hzx', hj⟩
    by_cases hlt : j < y.vn
    · skip
      rcases id hzx' with ⟨_, _, _, q0⟩ | ⟨g1, c1, cur1, q1, hr1, hsz1, hlo1, hhi1⟩
      · omega
      · skip
        cases q1
        refine cw_seq ?_
        refine cw_region ?_
        refine rv 99 (.bool true) (fun _ => ol_conv (v := .bool (decide (((j : Nat) : Int) < (y.vn : Int)))) (by kernel_rfl) (congrArg Value.bool (decide_eq_true (by omega)))) ?_
        refine rw_nil ?_
        refine nw_then ?_
        refine cw_seq ?_
        refine cw_cond_t (fun _ => by kernel_rfl) ?_
        refine cw_skip ?_
        refine nw_then ?_
        refine cw_seq ?_
        refine cw_block ?_
        refine cw_seq ?_
        refine cw_region ?_
        refine rp 100 (.int .i64 ((j : Nat) : Int)) ?_
        refine rp 19 (.int .i64 ((j : Nat) : Int)) ?_
        refine rw_nil ?_
        refine nw_then ?_
        refine cw_region ?_
        refine rp 101 (.slice (some ⟨g1, 0, none⟩) y.vn dx) ?_
        refine rp 102 (.int .i64 ((j : Nat) : Int)) ?_
        refine rv 103 (.pointer (some ⟨g1, 0 + j * 1, none⟩)) (fun _ => ol_index 27 _ _ g1 0 j y.vn dx 1 5 rfl (by kernel_rfl) (by kernel_rfl) hlt Tryz.underlying27 (by kernel_rfl)) ?_
        refine rw_set1 g1 (0 + j * 1) (.int .u8 99) (fun _ => by kernel_rfl) (fun _ => ol_setC 5 _ _ g1 (0 + j * 1) _ 5 _ hr1 rfl (by kernel_rfl) (by kernel_rfl) (by omega) rfl rfl (by kernel_rfl)) ?_
        intro vS hset
        refine rw_nil ?_
        refine nw_block ?_
        refine nw_then ?_
        refine cw_region ?_
        refine rv 104 (.int .i64 (((j : Nat) : Int) + 1)) (fun _ => ol_conv (v := .int .i64 (IntKind.i64.wrap (((j : Nat) : Int) + 1))) (by kernel_rfl) (congrArg (Value.int .i64) (wrap64 (by omega) (by omega)))) ?_
        refine rp 98 (.int .i64 (((j : Nat) : Int) + 1)) ?_
        refine rw_nil ?_
        exact nw_round (E := fun j => [(98, .int .i64 ((j : Nat) : Int)), (97, .int .i64 y.vn), (10, .bool true), (1, .slice aL2 nL2 cL2), (9, .slice (some ⟨g1, 0, none⟩) y.vn dx), (8, .slice bk y.kn dk)]) (R := fun j v => Tm w.heap.size S0 vk v ∧ Spo v (.slice bk y.kn dk) y.kn w.heap.size S0 ∧ Spo v (.slice (some ⟨g1, 0, none⟩) y.vn dx) y.vn w.heap.size S0 ∧ j ≤ y.vn) (μ := fun j => y.vn - j) (x := j) (j + 1) (by exact ⟨fun _ => by kernel_rfl, ⟨fun _ => by kernel_rfl, ⟨fun _ => by kernel_rfl, ⟨fun _ => by kernel_rfl, ⟨fun _ => by kernel_rfl, ⟨fun _ => by kernel_rfl, trivial⟩⟩⟩⟩⟩⟩) ⟨hm.trans (Tm.of hset.touch hlo1 hhi1), hzk'.set hset hr1, hzx'.set hset hr1, by omega⟩ (by show y.vn - (j + 1) < y.vn - j; omega)
    have hjn : j = y.vn := by omega
    replace hzk := hzk'
    replace hzx := hzx'
    refine cw_seq ?_
    refine cw_region ?_
    refine rv 99 (.bool false) (fun _ => ol_conv (v := .bool (decide (((j : Nat) : Int) < (y.vn : Int)))) (by kernel_rfl) (congrArg Value.bool (decide_eq_false (by omega)))) ?_
    refine rw_nil ?_
    refine nw_then ?_
    refine cw_seq ?_
    refine cw_cond_f (fun _ => by kernel_rfl) ?_
    refine cw_exit ?_
    refine nw_exit_then ?_
    refine nw_exit_then ?_
    refine nw_exit_here ?_
    refine nw_then ?_
    refine cw_seq ?_
    refine cw_region ?_
    refine rp 105 (.slice aL2 nL2 cL2) ?_
    refine rp 106 (.bool true) ?_
    refine rp 6 (.slice aL2 nL2 cL2) ?_
    refine rp 7 (.bool true) ?_
    refine rw_nil ?_
    refine nw_then ?_
    refine cw_ret ?_
    have hM := hm1.trans hm
    exact nw_ret_body (.tuple #[.slice aL2 nL2 cL2, .bool true]) (fun _ => by kernel_rfl) ⟨_, rfl, ⟨aL2, nL2, cL2, vsL2, true, rfl, by rw [show chL l y = delL l y.k from if_neg hz]; exact (hPn.tm hM (fun b hb => hb.imp (fun h => h.2) id)).mono (fun b hb => hb.imp (fun h => h.1) (fun h => by omega)), fun _ => rfl⟩, by rw [show chT t y = delT t y.k from if_neg hz]; exact (hTt.tm hM (fun b hb => hb.imp (fun h => h.2) id) (.inl hgl)).mono (fun b hb => hb.imp (fun h => h.1) (fun h => by omega)), hM.after hto1⟩
  · skip
    refine rv 63 (.bool false) (fun _ => ol_eqb 4 _ _ _ bD bR rfl (by kernel_rfl) (by kernel_rfl) (by simp [hbb])) ?_
    refine rp 64 (.bool false) ?_
    refine rw_off 65 (fun _ => by kernel_rfl) ?_
    refine rw_off 66 (fun _ => by kernel_rfl) ?_
    refine rw_off 67 (fun _ => by kernel_rfl) ?_
    refine rp 68 (.bool false) ?_
    refine rp 10 (.bool false) ?_
    refine rw_nil ?_
    refine nw_then ?_
    refine cw_region ?_
    refine rp 69 (.slice aL2 nL2 cL2) ?_
    refine rp 1 (.slice aL2 nL2 cL2) ?_
    refine rw_nil ?_
    refine nw_then ?_
    refine cw_seq ?_
    refine cw_region ?_
    refine rp 70 (.bool false) ?_
    refine rp 71 (.bool false) ?_
    refine rw_off 72 (fun _ => by kernel_rfl) ?_
    refine rw_off 73 (fun _ => by kernel_rfl) ?_
    refine rw_off 74 (fun _ => by kernel_rfl) ?_
    refine rw_off 75 (fun _ => by kernel_rfl) ?_
    refine rw_off 76 (fun _ => by kernel_rfl) ?_
    refine rw_off 77 (fun _ => by kernel_rfl) ?_
    refine rp 78 (.bool false) ?_
    refine rp 79 (.bool false) ?_
    refine rw_off 80 (fun _ => by kernel_rfl) ?_
    refine rw_off 81 (fun _ => by kernel_rfl) ?_
    refine rw_off 82 (fun _ => by kernel_rfl) ?_
    refine rw_off 83 (fun _ => by kernel_rfl) ?_
    refine rw_off 84 (fun _ => by kernel_rfl) ?_
    refine rw_off 85 (fun _ => by kernel_rfl) ?_
    refine rp 86 (.bool false) ?_
    refine rp 10 (.bool false) ?_
    refine rw_nil ?_
    refine nw_then ?_
    refine cw_seq ?_
    refine cw_seq ?_
    refine cw_region ?_
    refine rp 87 (.slice bk y.kn dk) ?_
    refine rp 88 (.int .i64 y.kn) ?_
    refine rp 89 (.int .i64 0) ?_
    refine rw_nil ?_
    refine nw_then ?_
    refine cw_block ?_
    refine cw_loop (X := Nat) (fun j => [(89, .int .i64 ((j : Nat) : Int)), (88, .int .i64 y.kn), (10, .bool false), (1, .slice aL2 nL2 cL2), (9, .slice bx y.vn dx), (8, .slice bk y.kn dk)]) (fun j v => Tm w.heap.size S0 u6 v ∧ Spo v (.slice bk y.kn dk) y.kn w.heap.size S0 ∧ Spo v (.slice bx y.vn dx) y.vn w.heap.size S0 ∧ j ≤ y.kn) (fun j => y.kn - j) 0 (by exact ⟨fun _ => by kernel_rfl, ⟨fun _ => by kernel_rfl, ⟨fun _ => by kernel_rfl, ⟨fun _ => by kernel_rfl, ⟨fun _ => by kernel_rfl, ⟨fun _ => by kernel_rfl, trivial⟩⟩⟩⟩⟩⟩) ⟨Tm.refl _ _ _, hzk, hzx, Nat.zero_le _⟩ ?_
    rintro j vk ⟨hm, hzk', hzx', hj⟩
    by_cases hlt : j < y.kn
    · skip
      rcases id hzk' with ⟨_, _, _, q0⟩ | ⟨g1, c1, cur1, q1, hr1, hsz1, hlo1, hhi1⟩
      · omega
      · skip
        cases q1
        refine cw_seq ?_
        refine cw_region ?_
        refine rv 90 (.bool true) (fun _ => ol_conv (v := .bool (decide (((j : Nat) : Int) < (y.kn : Int)))) (by kernel_rfl) (congrArg Value.bool (decide_eq_true (by omega)))) ?_
        refine rw_nil ?_
        refine nw_then ?_
        refine cw_seq ?_
        refine cw_cond_t (fun _ => by kernel_rfl) ?_
        refine cw_skip ?_
        refine nw_then ?_
        refine cw_seq ?_
        refine cw_block ?_
        refine cw_seq ?_
        refine cw_region ?_
        refine rp 91 (.int .i64 ((j : Nat) : Int)) ?_
        refine rp 18 (.int .i64 ((j : Nat) : Int)) ?_
        refine rw_nil ?_
        refine nw_then ?_
        refine cw_region ?_
        refine rp 92 (.slice (some ⟨g1, 0, none⟩) y.kn dk) ?_
        refine rp 93 (.int .i64 ((j : Nat) : Int)) ?_
        refine rv 94 (.pointer (some ⟨g1, 0 + j * 1, none⟩)) (fun _ => ol_index 27 _ _ g1 0 j y.kn dk 1 5 rfl (by kernel_rfl) (by kernel_rfl) hlt Tryz.underlying27 (by kernel_rfl)) ?_
        refine rw_set1 g1 (0 + j * 1) (.int .u8 99) (fun _ => by kernel_rfl) (fun _ => ol_setC 5 _ _ g1 (0 + j * 1) _ 5 _ hr1 rfl (by kernel_rfl) (by kernel_rfl) (by omega) rfl rfl (by kernel_rfl)) ?_
        intro vS hset
        refine rw_nil ?_
        refine nw_block ?_
        refine nw_then ?_
        refine cw_region ?_
        refine rv 95 (.int .i64 (((j : Nat) : Int) + 1)) (fun _ => ol_conv (v := .int .i64 (IntKind.i64.wrap (((j : Nat) : Int) + 1))) (by kernel_rfl) (congrArg (Value.int .i64) (wrap64 (by omega) (by omega)))) ?_
        refine rp 89 (.int .i64 (((j : Nat) : Int) + 1)) ?_
        refine rw_nil ?_
        exact nw_round (E := fun j => [(89, .int .i64 ((j : Nat) : Int)), (88, .int .i64 y.kn), (10, .bool false), (1, .slice aL2 nL2 cL2), (9, .slice bx y.vn dx), (8, .slice (some ⟨g1, 0, none⟩) y.kn dk)]) (R := fun j v => Tm w.heap.size S0 u6 v ∧ Spo v (.slice (some ⟨g1, 0, none⟩) y.kn dk) y.kn w.heap.size S0 ∧ Spo v (.slice bx y.vn dx) y.vn w.heap.size S0 ∧ j ≤ y.kn) (μ := fun j => y.kn - j) (x := j) (j + 1) (by exact ⟨fun _ => by kernel_rfl, ⟨fun _ => by kernel_rfl, ⟨fun _ => by kernel_rfl, ⟨fun _ => by kernel_rfl, ⟨fun _ => by kernel_rfl, ⟨fun _ => by kernel_rfl, trivial⟩⟩⟩⟩⟩⟩) ⟨hm.trans (Tm.of hset.touch hlo1 hhi1), hzk'.set hset hr1, hzx'.set hset hr1, by omega⟩ (by show y.kn - (j + 1) < y.kn - j; omega)
    have hjn : j = y.kn := by omega
    replace hzk := hzk'
    replace hzx := hzx'
    have hm1 := hm
    refine cw_seq ?_
    refine cw_region ?_
    refine rv 90 (.bool false) (fun _ => ol_conv (v := .bool (decide (((j : Nat) : Int) < (y.kn : Int)))) (by kernel_rfl) (congrArg Value.bool (decide_eq_false (by omega)))) ?_
    refine rw_nil ?_
    refine nw_then ?_
    refine cw_seq ?_
    refine cw_cond_f (fun _ => by kernel_rfl) ?_
    refine cw_exit ?_
    refine nw_exit_then ?_
    refine nw_exit_then ?_
    refine nw_exit_here ?_
    refine nw_then ?_
    refine cw_seq ?_
    refine cw_seq ?_
    refine cw_region ?_
    refine rp 96 (.slice bx y.vn dx) ?_
    refine rp 97 (.int .i64 y.vn) ?_
    refine rp 98 (.int .i64 0) ?_
    refine rw_nil ?_
    refine nw_then ?_
    refine cw_block ?_
    refine cw_loop (X := Nat) (fun j => [(98, .int .i64 ((j : Nat) : Int)), (97, .int .i64 y.vn), (10, .bool false), (1, .slice aL2 nL2 cL2), (9, .slice bx y.vn dx), (8, .slice bk y.kn dk)]) (fun j v => Tm w.heap.size S0 vk v ∧ Spo v (.slice bk y.kn dk) y.kn w.heap.size S0 ∧ Spo v (.slice bx y.vn dx) y.vn w.heap.size S0 ∧ j ≤ y.vn) (fun j => y.vn - j) 0 (by exact ⟨fun _ => by kernel_rfl, ⟨fun _ => by kernel_rfl, ⟨fun _ => by kernel_rfl, ⟨fun _ => by kernel_rfl, ⟨fun _ => by kernel_rfl, ⟨fun _ => by kernel_rfl, trivial⟩⟩⟩⟩⟩⟩) ⟨Tm.refl _ _ _, hzk, hzx, Nat.zero_le _⟩ ?_
    rintro j vx ⟨hm, hzk', hzx', hj⟩
    by_cases hlt : j < y.vn
    · skip
      rcases id hzx' with ⟨_, _, _, q0⟩ | ⟨g1, c1, cur1, q1, hr1, hsz1, hlo1, hhi1⟩
      · omega
      · skip
        cases q1
        refine cw_seq ?_
        refine cw_region ?_
        refine rv 99 (.bool true) (fun _ => ol_conv (v := .bool (decide (((j : Nat) : Int) < (y.vn : Int)))) (by kernel_rfl) (congrArg Value.bool (decide_eq_true (by omega)))) ?_
        refine rw_nil ?_
        refine nw_then ?_
        refine cw_seq ?_
        refine cw_cond_t (fun _ => by kernel_rfl) ?_
        refine cw_skip ?_
        refine nw_then ?_
        refine cw_seq ?_
        refine cw_block ?_
        refine cw_seq ?_
        refine cw_region ?_
        refine rp 100 (.int .i64 ((j : Nat) : Int)) ?_
        refine rp 19 (.int .i64 ((j : Nat) : Int)) ?_
        refine rw_nil ?_
        refine nw_then ?_
        refine cw_region ?_
        refine rp 101 (.slice (some ⟨g1, 0, none⟩) y.vn dx) ?_
        refine rp 102 (.int .i64 ((j : Nat) : Int)) ?_
        refine rv 103 (.pointer (some ⟨g1, 0 + j * 1, none⟩)) (fun _ => ol_index 27 _ _ g1 0 j y.vn dx 1 5 rfl (by kernel_rfl) (by kernel_rfl) hlt Tryz.underlying27 (by kernel_rfl)) ?_
        refine rw_set1 g1 (0 + j * 1) (.int .u8 99) (fun _ => by kernel_rfl) (fun _ => ol_setC 5 _ _ g1 (0 + j * 1) _ 5 _ hr1 rfl (by kernel_rfl) (by kernel_rfl) (by omega) rfl rfl (by kernel_rfl)) ?_
        intro vS hset
        refine rw_nil ?_
        refine nw_block ?_
        refine nw_then ?_
        refine cw_region ?_
        refine rv 104 (.int .i64 (((j : Nat) : Int) + 1)) (fun _ => ol_conv (v := .int .i64 (IntKind.i64.wrap (((j : Nat) : Int) + 1))) (by kernel_rfl) (congrArg (Value.int .i64) (wrap64 (by omega) (by omega)))) ?_
        refine rp 98 (.int .i64 (((j : Nat) : Int) + 1)) ?_
        refine rw_nil ?_
        exact nw_round (E := fun j => [(98, .int .i64 ((j : Nat) : Int)), (97, .int .i64 y.vn), (10, .bool false), (1, .slice aL2 nL2 cL2), (9, .slice (some ⟨g1, 0, none⟩) y.vn dx), (8, .slice bk y.kn dk)]) (R := fun j v => Tm w.heap.size S0 vk v ∧ Spo v (.slice bk y.kn dk) y.kn w.heap.size S0 ∧ Spo v (.slice (some ⟨g1, 0, none⟩) y.vn dx) y.vn w.heap.size S0 ∧ j ≤ y.vn) (μ := fun j => y.vn - j) (x := j) (j + 1) (by exact ⟨fun _ => by kernel_rfl, ⟨fun _ => by kernel_rfl, ⟨fun _ => by kernel_rfl, ⟨fun _ => by kernel_rfl, ⟨fun _ => by kernel_rfl, ⟨fun _ => by kernel_rfl, trivial⟩⟩⟩⟩⟩⟩) ⟨hm.trans (Tm.of hset.touch hlo1 hhi1), hzk'.set hset hr1, hzx'.set hset hr1, by omega⟩ (by show y.vn - (j + 1) < y.vn - j; omega)
    have hjn : j = y.vn := by omega
    replace hzk := hzk'
    replace hzx := hzx'
    refine cw_seq ?_
    refine cw_region ?_
    refine rv 99 (.bool false) (fun _ => ol_conv (v := .bool (decide (((j : Nat) : Int) < (y.vn : Int)))) (by kernel_rfl) (congrArg Value.bool (decide_eq_false (by omega)))) ?_
    refine rw_nil ?_
    refine nw_then ?_
    refine cw_seq ?_
    refine cw_cond_f (fun _ => by kernel_rfl) ?_
    refine cw_exit ?_
    refine nw_exit_then ?_
    refine nw_exit_then ?_
    refine nw_exit_here ?_
    refine nw_then ?_
    refine cw_seq ?_
    refine cw_region ?_
    refine rp 105 (.slice aL2 nL2 cL2) ?_
    refine rp 106 (.bool false) ?_
    refine rp 6 (.slice aL2 nL2 cL2) ?_
    refine rp 7 (.bool false) ?_
    refine rw_nil ?_
    refine nw_then ?_
    refine cw_ret ?_
    have hM := hm1.trans hm
    exact nw_ret_body (.tuple #[.slice aL2 nL2 cL2, .bool false]) (fun _ => by kernel_rfl) ⟨_, rfl, ⟨aL2, nL2, cL2, vsL2, false, rfl, by rw [show chL l y = delL l y.k from if_neg hz]; exact (hPn.tm hM (fun b hb => hb.imp (fun h => h.2) id)).mono (fun b hb => hb.imp (fun h => h.1) (fun h => by omega)), fun hR => absurd (show bD = bR from by rw [← hbD, ← hbR]; split; exact (hR.isAt hk.b (by assumption)).symm; rfl) hbb⟩, by rw [show chT t y = delT t y.k from if_neg hz]; exact (hTt.tm hM (fun b hb => hb.imp (fun h => h.2) id) (.inl hgl)).mono (fun b hb => hb.imp (fun h => h.1) (fun h => by omega)), hM.after hto1⟩
theorem changes_any {K0 : Nat → Prop} {w : World} {g : Nat} {t : Tr} (hT : Tri K0 w g t) {a : Option Addr} {n c : Nat} {vs : List (Value × Value)} {l : PList} (hP : PAt K0 w a n c vs l) {y : Opx} (hk : Ag w y.ka y.kn y.kc y.k) (hx : Ag w y.va y.vn y.vc y.x) (hbn : n ≤ 2600000000000) (bk0 : y.kn ≤ 140737488355328) (bx0 : y.vn ≤ 140737488355328) (hlen : ∀ (j : Nat) k x, l[j]? = some (k, x) → k.length ≤ 1000000) :
    Calls Tryz.prog 5 #[.pointer (some ⟨g, 0, none⟩), .slice a n c, .agg #[.int .i64 y.z, .slice y.ka y.kn y.kc, .slice y.va y.vn y.vc]] w fun e w' => ∃ u, e = .returned u ∧ (∃ a' n' c' vs' b, u = .tuple #[.slice a' n' c', .bool b] ∧ PAt (fun b => K0 b ∨ w.heap.size ≤ b) w' a' n' c' vs' (chL l y) ∧ (Rel t l → b = true)) ∧ Tri (fun b => K0 b ∨ w.heap.size ≤ b) w' g (chT t y) ∧ Touch g w w' := by
  by_cases hz : y.z = 0
  · exact changes_put hT hP hk hx hbn bk0 bx0 hlen hz
  · exact changes_del hT hP hk hx hbn bk0 bx0 hlen hz
end Go.Proofs.YtalhnnjpjaeakabGreat
/- A range over a function that hands two slices of bytes in new blocks: what holds ahead of each round and behind it. -/
namespace Go.Proofs.YtalhnnjpjaeakabGreat
open Go.RowKit
open Tr
set_option linter.unusedVariables false
set_option maxRecDepth 100000
theorem KpU.putObj {U : Nat → Prop} (M : Nat) {W : World} {l : Nat} {o : Obj} (o' : Obj) (hl : W.heap[l]? = some o) (ho : o.isCells = false) : KpU U M W (W.putObj l o') := ⟨by simp, fun k cs T fr _ _ hh => (World.putObj_heap_other (fun e => by subst e; rw [hh] at hl; cases hl; cases ho)).trans hh⟩
theorem cw_rangeV {m : Nat} {n : Nat} {Q : Exit → Act → World → Prop} {env : Env} {w : World} {g : Operand} {p q : Tmp} {assign body : Code} (gf : Nat) (lb : Array Value) (hg : ∀ fb, ev env fb g = .func (.func gf) #[] lb) (hm : 1 ≤ m) (hp : p < n) (hq : q < n) (eg : ∀ args w, (callFunc gf args).run Tryz.prog w = .ok (.enter gf args) w)
    {U : Nat → Prop} {L : PList} (hit : ∀ (l : Nat) (J : PList → World → Prop) (W : World), Below w.heap.size w W → Vis l W.heap.size L U J (fun _ => False) → J [] W → Calls Tryz.prog gf (#[.func (.yield l) #[] #[]] ++ lb) W fun e W' => ∃ u, e = .returned u ∧ J L W')
    (hU : ∀ b, U b → b < w.heap.size)
    (I : PList → World → Prop) (hI : OwnFrom w.heap.size I) (h0 : I [] w) (Ax : Value → Value → Env → Prop)
    (hassign : ∀ (l : Nat) (u v : Value) (W : World), CW (some l) (m - 1 - 1) Tryz.prog [] n (Exit.then (fun a' W' => W' = W ∧ ∃ e, Frm [] n e a' ∧ Ax u v e) (fun _ _ _ => False)) assign ((q, v) :: (p, u) :: env) W)
    (hbody : ∀ (l : Nat) (pre : PList) (W : World) (M : Nat) (a a' : Option Addr) (n1 c1 n2 c2 : Nat) (k x : List Int) (e : Env), w.heap.size ≤ l → (∃ r, W.heap[l]? = some (.loop r)) → I pre W → (pre ++ [(k, x)]) <+: L → w.heap.size < M → M ≤ W.heap.size → Sk (fun b => M ≤ b) W a n1 c1 k → Sk (fun b => M ≤ b) W a' n2 c2 x → Ax (.slice a n1 c1) (.slice a' n2 c2) e →
      CW (some l) (m - 1 - 1) Tryz.prog [] n (ownPostG w.heap.size (KpU U M) I (fun _ _ _ => False) (pre ++ [(k, x)]) W) body e W)
    (hdone : ∀ (D : Nat) (W : World), w.heap.size ≤ D → I L W → W.heap[D]? = some (.deferred (some [])) → NW [{ target := .collected D, args := #[] }] n Q .normal env W) :
    CW none m Tryz.prog [] n Q (.rangeFunc g #[p, q] assign body) env w := fun a ha => by
  refine wpIn_rangeFunc (F := Fence.wide) ?_
  intro fn hfn
  obtain ⟨rec, hrec⟩ : ∃ rec : LoopState → Option Code → Loop, rec = fun st pe => { state := st, pending := pe, fn, tmps := a.tmps, params := #[p, q], assign, body, defers := w.heap.size } := ⟨_, rfl⟩
  obtain ⟨D, hD⟩ : ∃ D, w.heap.size = D := ⟨_, rfl⟩
  obtain ⟨W1, hW1⟩ : ∃ W1, (w.alloc (.deferred (some []))).alloc (.loop (rec .ready none)) = W1 := ⟨_, rfl⟩
  have hL1 : W1.heap[D + 1]? = some (.loop (rec .ready none)) := by
    rw [← hW1, ← hD]; have := World.alloc_heap_new (w.alloc (.deferred (some []))) (.loop (rec .ready none)); rwa [World.size_alloc] at this
  have hK1 : W1.heap[D]? = some (.deferred (some [])) := by
    rw [← hW1, ← hD]; exact (Below.heap_alloc _ _ _ (by simp)).trans (World.alloc_heap_new w _)
  have hI1 : I [] W1 := by rw [← hW1]; exact hI.alloc _ (hI.alloc _ h0)
  have hs1 : W1.heap.size = D + 2 := by rw [← hW1]; simp [hD]
  have hb1 : Below w.heap.size w W1 := by
    rw [← hW1]; exact ((Below.refl _ w).alloc (Nat.le_refl _) _).alloc (by simp) _
  refine ⟨D + 1, [{ target := .collected D, args := #[] }], W1, { target := .fn (.func gf) lb, args := #[.func (.yield (D + 1)) #[] #[]] }, W1, gf, #[.func (.yield (D + 1)) #[] #[]] ++ lb, W1, ?_, ?_, ?_, ?_, fun _ => hm, ?_⟩
  · rw [← hW1, hrec, ← hD]; exact run_enterLoop_outer _ _ _ _ _
  · simp only [resolve, show a.eval g = .func (.func gf) #[] lb from by rw [ha.ev]; exact hg _]
    simp [go_sem]
  · intro f' hf'; exact trivial
  · simp [invoke, go_sem, eg]
  · refine callsIn_wide.2 ?_
    have V : Vis (D + 1) W1.heap.size L U (fun pre W => I pre W ∧ W.heap[D + 1]? = some (.loop (rec .ready none)) ∧ W.heap[D]? = some (.deferred (some []))) (fun _ => False) := by
      refine ⟨?_, fun h _ => h, fun b hu => Nat.lt_of_lt_of_le (hU b hu) hb1.size, ?_⟩
      · rintro pre A B ⟨h1, h2, h3⟩ hAB
        exact ⟨hI pre A B none h1 (grown_none hAB) (fun r e => by cases e), (hAB.block _ (lt_of_get h2)).trans h2, (hAB.block _ (lt_of_get h3)).trans h3⟩
      · rintro pre W M b1 b2 n1 c1 n2 c2 k x ⟨hi, hl, hk⟩ hN hM0 hM hs hs'
        have hlt : D + 1 < W.heap.size := lt_of_get hl
        have hy := run_yield (P := Tryz.prog) (args := #[.slice b1 n1 c1, .slice b2 n2 c2]) hl (by rw [hrec]; rfl)
        rw [hrec] at hy
        refine yield_any (m := m - 1 - 1) ⟨fn, _, assign, body, hy, roundIn_of_wpIn (F := Fence.wide) (n := m - 1 - 1) hfn ?_⟩
        have hfr : Frm [] n ((q, .slice b2 n2 c2) :: (p, .slice b1 n1 c1) :: env) { tmps := ((#[p, q] : Array Tmp).zip #[.slice b1 n1 c1, .slice b2 n2 c2]).foldl (fun t (p, v) => t.setIfInBounds p v) a.tmps, defers := [] } := by
          have := fr_put (fr_put (⟨rfl, ha.sz, ha.get⟩ : Frm [] n env { tmps := a.tmps, defers := [] }) hp (.slice b1 n1 c1)) hq (.slice b2 n2 c2)
          have e : ((#[p, q] : Array Tmp).zip #[Value.slice b1 n1 c1, .slice b2 n2 c2]).foldl (fun t (p, v) => t.setIfInBounds p v) a.tmps = (a.tmps.setIfInBounds p (.slice b1 n1 c1)).setIfInBounds q (.slice b2 n2 c2) := by simp
          rw [e]
          exact this
        refine wpIn_mono (hassign (D + 1) (.slice b1 n1 c1) (.slice b2 n2 c2) W _ hfr) ?_
        intro ex a' W' hq1
        cases ex with
        | normal =>
          obtain ⟨rfl, e, hF, hA⟩ := hq1
          refine ⟨_, run_beginRound hl (by rw [hrec]), ?_⟩
          have hkb : KpU U W'.heap.size W' (W'.putObj (D + 1) (.loop { rec .ready none with state := .busy })) := KpU.putObj _ _ hl rfl
          have hl2 : (W'.putObj (D + 1) (.loop { rec .ready none with state := .busy })).heap[D + 1]? = some (.loop { rec .ready none with state := .busy }) := World.putObj_heap_same hlt
          have hk2 : (W'.putObj (D + 1) (.loop { rec .ready none with state := .busy })).heap[D]? = some (.deferred (some [])) := (World.putObj_heap_other (by omega)).trans hk
          have hUM : ∀ b, M ≤ b → ¬ U b := fun b hb hu => by have := hU b hu; omega
          refine wpIn_mono (hbody (D + 1) pre _ M b1 b2 n1 c1 n2 c2 k x e (by omega) ⟨_, hl2⟩ (hI.putObj _ hi (by omega) hl rfl) hN (by omega) (by simpa using hM) (hs.kp hkb (Nat.le_refl _) hUM) (hs'.kp hkb (Nat.le_refl _) hUM) hA a' hF) ?_
          intro ex a3 W3 hp3
          cases ex with
          | normal =>
            obtain ⟨hk3, hkp3, hi3⟩ := hp3
            have hl3 := hk3.same _ _ (by omega) hl2 rfl
            have hd3 := hk3.same _ _ (by omega) hk2 rfl
            have hr := run_endRound (P := Tryz.prog) none hl3
            refine ⟨_, _, hr, .inl ⟨rfl, ⟨hI.putObj _ hi3 (by omega) hl3 rfl, ?_, ?_⟩, ?_⟩⟩
            · rw [hrec]; exact World.putObj_heap_same (lt_of_get hl3)
            · exact (World.putObj_heap_other (by omega)).trans hd3
            · exact ((KpU.putObj M _ hl rfl).trans hkp3 (Nat.le_refl _)).trans (KpU.putObj M _ hl3 rfl) (Nat.le_refl _)
          | exit id => exact hp3.2.elim
          | goto l => exact hp3.2.elim
          | ret => exact hp3.2.elim
          | panic ch => exact hp3.elim
          | outgrown => exact hp3.elim
        | exit id => exact hq1.elim
        | goto l => exact hq1.elim
        | ret => exact hq1.elim
        | panic ch => exact hq1.elim
        | outgrown => exact hq1.elim
    refine (hit (D + 1) _ W1 hb1 V ⟨hI1, hL1, hK1⟩).mono ?_
    rintro e W2 ⟨u, rfl, hi, hl, hk⟩
    refine ⟨none, _, by have := run_endLoop (P := Tryz.prog) hl (by rw [hrec]; simp); rw [hrec] at this; exact this, ?_⟩
    refine hdone D _ (by omega) (hI.putObj _ hi (by omega) hl rfl) ((World.putObj_heap_other (by omega)).trans hk) _ ⟨?_, ha.sz, ha.get⟩
    show _ :: a.defers = _
    rw [ha.df]
end Go.Proofs.YtalhnnjpjaeakabGreat
