/- A value put into a branch. -/
import Derived.Test.YtefhepcplempkaaGreatG03
import Derived.Test.YtefhepcplempkaaGreatG00
set_option linter.unusedVariables false
set_option maxRecDepth 100000
namespace Go.Proofs.YtefhepcplempkaaGreat
open Go.RowKit
open Tr
def NoInt (cells : Array Value) : Prop := ∀ (j : Nat) (v : Value), cells[j]? = some v -> ∀ kd z, v ≠ .int kd z
structure Bs (w w' : World) (g : Nat) : Prop where
 other : ∀ k, k ≠ g -> w'.heap[k]? = w.heap[k]?
 no : ∀ o kd z, w.cell? ⟨g, o, none⟩ ≠ some (.int kd z)
theorem Bs.of {w w' : World} {g o : Nat} {cells : Array Value} {T : TypeId} {v : Value} (h : Rw g w cells T) (hn : NoInt cells) (hs : Set1 w w' g o v) : Bs w w' g :=
 ⟨fun k hk => hs.other hk, fun o kd z e => by rw [cell_of_row _ _ _ _ _ _ h] at e; exact hn _ _ e kd z rfl⟩
theorem Sk.bs {K : Nat -> Prop} {w w' : World} {g : Nat} {a : Option Addr} {n c : Nat} {bs : List Int} (h : Sk K w a n c bs) (hb : Bs w w' g) : Sk K w' a n c bs := by
 refine ⟨⟨?_, h.ag.nil, h.ag.l, h.ag.b⟩, h.k⟩
 rcases h.ag.i with h1 | ⟨gb, off, h1, h2, h3, h4, h5, h7⟩
 ·exact .inl h1
 ·refine .inr ⟨gb, off, h1, h2, h3, h4, h5, fun j hj => ?_⟩
  have hne : gb ≠ g := fun e => by
   subst e
   exact hb.no _ _ _ (h7 j hj)
  rw [<- h7 j hj]
  exact World.cell?_of_block (hb.other gb hne)
theorem TA.bs {K : Nat -> Prop} {w w' : World} {g : Nat} (hb : Bs w w' g) : ∀ {t : Tr} {v : Value}, TA K w t v -> TA K w' t v := by
 intro t
 induction t with
 | no => intro v h; exact h
 | leaf p x => rintro v ⟨a, n, c, a', n', c', h1, h2, h3, h4⟩; exact ⟨a, n, c, a', n', c', h1, h2.bs hb, h3.bs hb, h4⟩
 | ext p t ih => rintro v ⟨a, n, c, u, h1, h2, h3⟩; exact ⟨a, n, c, u, h1, h2.bs hb, ih h3⟩
 | br k x ih => rintro v ⟨vs, a, n, c, h1, h2, h3, h4⟩; exact ⟨vs, a, n, c, h1, fun i hi => ih i (h2 i hi), h3.bs hb, h4⟩
theorem TK.bs {K : Nat -> Prop} {w w' : World} {g : Nat} {k : Nat -> Tr} {vs : Nat -> Value} (h : TK K w k vs) (hb : Bs w w' g) : TK K w' k vs := fun i hi => (h i hi).bs hb
theorem Bl.set {w0 w w' : World} {g o : Nat} {v : Value} (h : Bl w0 w) (hs : Set1 w w' g o v) (hg : w0.heap.size <= g) : Bl w0 w' := hs.touch.below h hg h.size
theorem Rw.set {g o : Nat} {w w' : World} {cells cells' : Array Value} {T : TypeId} {v : Value} (h : Rw g w cells T) (hs : Set1 w w' g o v) (e : cells.setIfInBounds o v = cells') : Rw g w' cells' T := by
 rw [<- e, Rw, hs.hw]; exact heap_setCell_same _ _ _ _ _ _ h
theorem Rw.apart {g g' o : Nat} {w w' : World} {cells : Array Value} {T : TypeId} {v : Value} (h : Rw g w cells T) (hs : Set1 w w' g' o v) (e : g ≠ g') : Rw g w' cells T := (hs.other e).trans h
theorem TA.noint {K : Nat -> Prop} {w : World} {t : Tr} {v : Value} (h : TA K w t v) (kd : IntKind) (z : Int) : v ≠ .int kd z := by
 cases t with
 | no => rw [show v = .nilIface from h]; simp
 | leaf p x => obtain ⟨_, _, _, _, _, _, rfl, _⟩ := h; simp
 | ext p t => obtain ⟨_, _, _, _, rfl, _⟩ := h; simp
 | br k x => obtain ⟨_, _, _, _, rfl, _⟩ := h; simp
theorem TK.noint {K : Nat -> Prop} {w : World} {k : Nat -> Tr} {vs : Nat -> Value} (h : TK K w k vs) (a : Option Addr) (n c : Nat) : NoInt (brc vs (.slice a n c)) := by
 intro j v hj kd z
 by_cases h16 : j < 16
 ·rw [Zmf _ _ _ h16] at hj
  cases hj
  exact (h j h16).noint kd z
 ·have hl : j < (brc vs (.slice a n c)).size := (Array.getElem?_eq_some_iff.1 hj).1
  have hl : j < 17 := hl
  obtain rfl : j = 16 := by omega
  rw [show (brc vs (.slice a n c))[16]? = some (.slice a n c) from rfl] at hj
  cases hj
  simp
theorem TK.put {K : Nat -> Prop} {w : World} {k : Nat -> Tr} {vs : Nat -> Value} (h : TK K w k vs) {i : Nat} {t : Tr} {v : Value} (ht : TA K w t v) : TK K w (upd k i t) (updv vs i v) := fun j hj => by
 unfold Tr.upd updv
 by_cases e : j = i
 ·rw [if_pos e, if_pos e]; exact ht
 ·rw [if_neg e, if_neg e]; exact h j hj
theorem TK.none (K : Nat -> Prop) (w : World) : TK K w nk (fun _ => .nilIface) := fun _ _ => rfl
theorem Zbo {ρ : Operand -> Value} {w : World} {o : Oper} (T : TypeId) (x y : Operand) (g j : Nat) (cells : Array Value) (E : TypeId) (v : Value) (h : Rw g w cells E) (ho : o.op = .store T x y) (hx : ρ x = .pointer (some ⟨g, j, none⟩)) (hy : ρ y = v) (hj : j < cells.size) (h1 : v.cells = #[v]) (h2 : v.oneCell' = true) (hi : (Tryz.prog.info? T).map (·.size) = some 1) :
  (execOp ρ o).run Tryz.prog w = .ok .skip (w.setCell ⟨g, j, none⟩ v) := by
 have hc : w.cell? ⟨g, j, none⟩ = some cells[j] := by rw [cell_of_row _ _ _ _ _ _ h]; exact Array.getElem?_eq_getElem hj
 have hf : w.frozen? ⟨g, j, none⟩ = false := frozen_of_row _ _ _ _ _ h
 have hs : (sizeOf T).run Tryz.prog w = .ok 1 w := by
  cases hq : Tryz.prog.info? T with
  | none => simp [hq] at hi
  | some z => simp [hq] at hi; simp [sizeOf, typeInfo, hq, hi]
 unfold execOp
 rw [ho]
 simp only [hx, hy, Instr.storeAt, Instr.sureAddr, storeVar, h1, Sem.run_bind, Sem.run_pure, Result.andThen_ok, hs]
 go_simp
 rw [run_store _ _ _ _ _ h2]
 simp [hc, hf]
theorem TA.cells {K : Nat -> Prop} {w : World} {t : Tr} {v : Value} (h : TA K w t v) : v.cells = #[v] := by
 cases t with
 | no => rw [show v = .nilIface from h]; rfl
 | leaf p x => obtain ⟨_, _, _, _, _, _, rfl, _⟩ := h; rfl
 | ext p t => obtain ⟨_, _, _, _, rfl, _⟩ := h; rfl
 | br k x => obtain ⟨_, _, _, _, rfl, _⟩ := h; rfl
def WS (t : Tr) : Prop := ∀ {K : Nat -> Prop} {w : World} {v : Value} {a : Option Addr} {n c : Nat} {q : List Int} {a' : Option Addr} {n' c' : Nat} {x : List Int} {B : Nat}, Ok B t -> B <= 64 -> q.length <= B -> Nb q -> TA K w t v -> Sk K w a n c q -> Sk K w a' n' c' x -> n' <= 256 -> (∀ b, w.heap.size <= b -> K b) -> MC "pergola/trie.with" v #[.slice a n c, .slice a' n' c'] w (TRs K w (put t q x))
set_option maxHeartbeats 1000000 in
theorem Zzr {K : Nat -> Prop} {w : World} {aq : Option Addr} {nq cq : Nat} {q : List Int} (hq : Sk K w aq nq cq q) {ax : Option Addr} {nx cx : Nat} {x : List Int} (hx : Sk K w ax nx cx x) (hx2 : nx <= 256) :
  Calls Tryz.prog 51 #[.nilIface, .slice aq nq cq, .slice ax nx cx] w fun e w' => ∃ u, e = .returned u /\ TRs K w (put no q x) u w' := by
 have hB := Bl.refl w
 refine Zaj Tryz.func51 rfl 17 rfl ?_
 show CW _ _ _ _ _ _ _ [(0, .nilIface), (1, .slice aq nq cq), (2, .slice ax nx cx)] _
 refine Zac <| Zaa <| rp 6 (.nilIface) <| Zad <| Zab <| Zac <| Zac <| Zaa <| rp 7 (.nilIface) <| rp 8 (.bool true) <| Zad <| Zab ?_
 refine Zak (fun _ => by kernel_rfl) <| Zac <| Zaa <| rp 9 (.slice aq nq cq) <| rp 10 (.slice ax nx cx) <| rp 11 (.agg #[.slice aq nq cq, .slice ax nx cx]) <| rp 12 (.iface 131 (.agg #[.slice aq nq cq, .slice ax nx cx])) <| rp 6 (.iface 131 (.agg #[.slice aq nq cq, .slice ax nx cx])) <| Zad <| Zab <| Zap <| Zaq ?_
 exact Zae (.iface 131 (.agg #[.slice aq nq cq, .slice ax nx cx])) (fun _ => by kernel_rfl) ⟨_, rfl, ⟨_, _, _, _, _, _, rfl, hq, hx, hx2⟩, hB⟩
set_option maxHeartbeats 1000000 in
theorem Zxe {K : Nat -> Prop} {w : World} {aq : Option Addr} {nq cq : Nat} {ax : Option Addr} {nx cx : Nat} {t : Tr} {T0 : TypeId} {v0 : Value} (hm : MC "pergola/trie.with" (.iface T0 v0) #[.slice aq nq cq, .slice ax nx cx] w (TRs K w t)) :
  Calls Tryz.prog 51 #[.iface T0 v0, .slice aq nq cq, .slice ax nx cx] w fun e w' => ∃ u, e = .returned u /\ TRs K w t u w' := by
 have hB := Bl.refl w
 refine Zaj Tryz.func51 rfl 17 rfl ?_
 show CW _ _ _ _ _ _ _ [(0, .iface T0 v0), (1, .slice aq nq cq), (2, .slice ax nx cx)] _
 refine Zac <| Zaa <| rp 6 (.nilIface) <| Zad <| Zab <| Zac <| Zac <| Zaa <| rp 7 (.iface T0 v0) <| rp 8 (.bool false) <| Zad <| Zab ?_
 refine Zai (fun _ => by kernel_rfl) <| Zan <| Zab <| Zac <| Zaa <| rp 13 (.iface T0 v0) <| rp 14 (.slice aq nq cq) <| rp 15 (.slice ax nx cx) ?_
 obtain ⟨T3, x4, f5, he6, hi1, hc2⟩ := hm
 refine Zao 16 f5 (#[x4] ++ #[.slice aq nq cq, .slice ax nx cx]) (fun _ => by kernel_rfl) (fun _ => hi1 _ _ _ _ _ _ _ rfl (by kernel_rfl) (by kernel_rfl)) (R := TRs K w t) ?_ ?_
 ·exact hc2
 rintro vR u1 ⟨ht, hb⟩
 replace hB := hB.go hb
 refine rp 6 (vR) <| Zad <| Zab <| Zap ?_
 exact Zae vR (fun _ => by kernel_rfl) ⟨_, rfl, ht, hB⟩
theorem Zc8 {K : Nat -> Prop} {w : World} {t : Tr} {v : Value} {aq : Option Addr} {nq cq : Nat} {q : List Int} (hF : t = no \/ ∃ B, Ok B t /\ B <= 64 /\ q.length <= B /\ WS t) (ht : TA K w t v) (hq : Sk K w aq nq cq q) (hnb : Nb q) {ax : Option Addr} {nx cx : Nat} {x : List Int} (hx : Sk K w ax nx cx x) (hx2 : nx <= 256) (hK : ∀ b, w.heap.size <= b -> K b) :
  Calls Tryz.prog 51 #[v, .slice aq nq cq, .slice ax nx cx] w fun e w' => ∃ u, e = .returned u /\ TRs K w (put t q x) u w' := by
 rcases hF with rfl | ⟨B, hO, h64, hl, hF⟩
 ·rw [show v = .nilIface from ht]
  exact Zzr hq hx hx2
 ·have hm := hF hO h64 hl hnb ht hq hx hx2 hK
  obtain ⟨T, y, f, rfl, _⟩ := id hm
  exact Zxe hm
set_option maxHeartbeats 1000000 in
theorem Zsk {K : Nat -> Prop} {w : World} {a : Option Addr} {n c : Nat} {y : List Int} {k : Nat -> Tr} {vs : Nat -> Value} (hk : TK K w k vs) (hy : Sk K w a n c y) (hn2 : n <= 256) {ax : Option Addr} {nx cx : Nat} {x : List Int} (hx : Sk K w ax nx cx x) (hx2 : nx <= 256) (hK : ∀ b, w.heap.size <= b -> K b) {aq : Option Addr} {nq cq : Nat} {q : List Int} (hq : Sk K w aq nq cq q) (hnq : nq = 0) :
  Calls Tryz.prog 184 #[.agg (brc vs (.slice a n c)), .slice aq nq cq, .slice ax nx cx] w fun e w' => ∃ u, e = .returned u /\ TRs K w (put (br k y) q x) u w' := by
 have hB := Bl.refl w
 refine Zaj Tryz.func184 rfl 31 rfl ?_
 show CW _ _ _ _ _ _ _ [(0, .agg (brc vs (.slice a n c))), (1, .slice aq nq cq), (2, .slice ax nx cx)] _
 refine Zac <| Zaa <| Zax 3 (brc vs (.slice a n c)) 221 (fun _ => by kernel_rfl) (fun _ => by kernel_rfl) ?_
 intro w1 g2 hn3
 replace hB := hB.go hn3.below
 replace hy := hy.go hn3.below
 replace hx := hx.go hn3.below
 replace hk := hk.go hn3.below
 replace hq := hq.go hn3.below
 have hr4 : Rw g2 w1 (brc vs (.slice a n c)) 221 := hn3.row
 refine rp 6 (.nilIface) <| Zad ?_
 have hgs := hn3.hg
 refine Zab <| Zac <| Zac <| Zaa <| rp 8 (.slice aq nq cq) <| rp 9 (.int .i64 nq) <| rv 10 (.bool true) (fun _ => Zag (v := .bool ((nq : Int) == (0 : Int))) (by kernel_rfl) (congrArg Value.bool (beq_iff_eq.2 (by omega)))) <| Zad <| Zab <| Zak (fun _ => by kernel_rfl) <| Zac <| Zaa ?_
 refine rp 11 (.slice ax nx cx) <| rp 12 (.pointer (some ⟨g2, 16, none⟩)) <| Ziz g2 16 (.slice ax nx cx) (fun _ => by kernel_rfl) (fun _ => Zbo 23 _ _ g2 16 _ 221 _ hr4 rfl (by kernel_rfl) (by kernel_rfl) (by show 16 < 17; omega) rfl rfl (by kernel_rfl)) ?_
 intro w5 hp6
 have hbs : Bs w1 w5 g2 := Bs.of hr4 (hk.noint _ _ _) hp6
 replace hy := hy.bs hbs
 replace hx := hx.bs hbs
 replace hk := hk.bs hbs
 replace hq := hq.bs hbs
 replace hB := hB.set hp6 (by omega)
 replace hr4 : Rw g2 w5 (brc vs (.slice ax nx cx)) 221 := hr4.set hp6 (rfl)
 refine Zad <| Zab <| Zac <| Zaa <| rv 13 (.agg (brc vs (.slice ax nx cx))) (fun _ => Zb8 221 _ _ _ _ _ _ rfl (by kernel_rfl) hr4 Tryz.underlying221 rfl (by kernel_rfl)) <| rp 14 (.iface 221 (.agg (brc vs (.slice ax nx cx)))) <| rp 6 (.iface 221 (.agg (brc vs (.slice ax nx cx)))) <| Zad <| Zab <| Zap <| Zaq ?_
 exact Zae (.iface 221 (.agg (brc vs (.slice ax nx cx)))) (fun _ => by kernel_rfl) ⟨_, rfl, (by have e : q = [] := List.eq_nil_of_length_eq_zero (by have := hq.len; omega); subst e; exact ⟨vs, _, _, _, rfl, hk, hx, hx2⟩), hB⟩
set_option maxHeartbeats 1000000 in
theorem Zpd {K : Nat -> Prop} {w : World} {a : Option Addr} {n c : Nat} {y : List Int} {k : Nat -> Tr} {vs : Nat -> Value} (hk : TK K w k vs) (hy : Sk K w a n c y) (hn2 : n <= 256) {ax : Option Addr} {nx cx : Nat} {x : List Int} (hx : Sk K w ax nx cx x) (hx2 : nx <= 256) (hK : ∀ b, w.heap.size <= b -> K b) {gq oq nq cq i : Nat} {r : List Int} (hi : i < 16) (hq : Sk K w (some ⟨gq, oq, none⟩) nq cq (((i : Nat) : Int) :: r)) (hnq : 0 < nq) (hc0 : w.cell? ⟨gq, oq + 0 * 1, none⟩ = some (.int .u8 ((i : Nat) : Int))) (hF : k i = no \/ ∃ B, Ok B (k i) /\ B <= 64 /\ r.length <= B /\ WS (k i)) (hnb : Nb r) :
  Calls Tryz.prog 184 #[.agg (brc vs (.slice a n c)), .slice (some ⟨gq, oq, none⟩) nq cq, .slice ax nx cx] w fun e w' => ∃ u, e = .returned u /\ TRs K w (br (upd k i (put (k i) r x)) y) u w' := by
 have hB := Bl.refl w
 refine Zaj Tryz.func184 rfl 31 rfl ?_
 show CW _ _ _ _ _ _ _ [(0, .agg (brc vs (.slice a n c))), (1, .slice (some ⟨gq, oq, none⟩) nq cq), (2, .slice ax nx cx)] _
 refine Zac <| Zaa <| Zax 3 (brc vs (.slice a n c)) 221 (fun _ => by kernel_rfl) (fun _ => by kernel_rfl) ?_
 intro w1 g2 hn3
 replace hB := hB.go hn3.below
 replace hy := hy.go hn3.below
 replace hx := hx.go hn3.below
 replace hk := hk.go hn3.below
 replace hq := hq.go hn3.below
 have hr4 : Rw g2 w1 (brc vs (.slice a n c)) 221 := hn3.row
 refine rp 6 (.nilIface) <| Zad ?_
 have hgs := hn3.hg
 refine Zab <| Zac <| Zac <| Zaa <| rp 8 (.slice (some ⟨gq, oq, none⟩) nq cq) <| rp 9 (.int .i64 nq) <| rv 10 (.bool false) (fun _ => Zag (v := .bool ((nq : Int) == (0 : Int))) (by kernel_rfl) (congrArg Value.bool (beq_eq_false_iff_ne.2 (by omega)))) <| Zad <| Zab <| Zai (fun _ => by kernel_rfl) <| Zan <| Zab ?_
 refine Zac <| Zaa <| rp 15 (.slice (some ⟨gq, oq, none⟩) nq cq) <| rv 16 (.pointer (some ⟨gq, oq + 0 * 1, none⟩)) (fun _ => Zau 23 _ _ gq oq 0 nq cq 1 5 rfl (by kernel_rfl) (by kernel_rfl) (by omega) Tryz.underlying23 (by kernel_rfl)) <| rv 17 (.int .u8 ((i : Nat) : Int)) (fun _ => Zah 5 _ ⟨gq, oq + 0 * 1, none⟩ _ _ rfl (by kernel_rfl) ((hB.cell (p := ⟨gq, oq + 0 * 1, none⟩) (block_lt_of_cell hc0)).trans hc0) Tryz.underlying5 rfl) <| rp 7 (.int .u8 ((i : Nat) : Int)) <| Zad <| Zab <| Zac <| Zaz (fun _ => True) (by kernel_rfl) (trivial) ?_
 replace hB := hB.drew
 replace hy := hy.drew
 replace hx := hx.drew
 replace hk := hk.drew
 replace hq := hq.drew
 replace hr4 := hr4.drew
 refine dt 0 18 (.int .u8 ((i : Nat) : Int)) (fun v hv _ => by kernel_rfl) trivial <| dt 1 19 (.int .u8 ((i : Nat) : Int)) (fun v hv _ => by kernel_rfl) trivial <| dt 2 20 (.pointer (some ⟨g2, 0, none⟩)) (fun v hv _ => by kernel_rfl) trivial <| dt 3 21 (.pointer (some ⟨g2, 0 + i * 1, none⟩)) (fun v hv _ => Zg7 (kd := .u8) 219 _ _ g2 0 i 16 1 74 rfl (by kernel_rfl) (by kernel_rfl) hi (by omega) Tryz.underlying219 (by kernel_rfl)) trivial <| dt 5 23 (.slice (some ⟨gq, oq, none⟩) nq cq) (fun v hv _ => by kernel_rfl) trivial ?_
 obtain ⟨a5, n6, c7, hr8, hs9⟩ := hq.cutFrom 1 (by have := hq.len; omega)
 refine dt 6 24 (.slice a5 n6 c7) (fun v hv => (fun _ => hr8 _ _ _ _ _ _ rfl (by kernel_rfl) (by kernel_rfl) rfl)) trivial <| dt 7 25 (.slice ax nx cx) (fun v hv _ => by kernel_rfl) trivial <| dt 9 27 (.pointer (some ⟨g2, 0, none⟩)) (fun v hv _ => by kernel_rfl) trivial <| Zaf [4] (by kernel_rfl) (by simp) ?_
 refine ar_v 4 22 (vs i) rfl (fun _ => by kernel_rfl) (fun _ => Zah 74 _ ⟨g2, 0 + i * 1, none⟩ _ _ rfl (by kernel_rfl) (by rw [Nat.zero_add, Nat.mul_one, cell_of_row _ _ _ _ _ _ hr4, Zmf _ _ _ hi]) Tryz.underlying74 rfl) trivial ?_ Zam
 refine Zaf [8] (by kernel_rfl) (by simp) ?_
 refine Zat 8 26 51 #[vs i, .slice a5 n6 c7, .slice ax nx cx] rfl (fun _ => by kernel_rfl) (fun _ => by kernel_rfl) (R := TRs K (w1.drew) (put (k i) r x)) ((Zc8 hF (hk i hi) hs9 hnb hx hx2 (fun b hb => hK b (Nat.le_trans hB.size hb)))) (fun u w' h => trivial) ?_ Zam
 rintro vR u10 ⟨ht, hb11⟩
 replace hB := hB.go hb11
 replace hy := hy.go hb11
 replace hx := hx.go hb11
 replace hk := hk.go hb11
 replace hq := hq.go hb11
 replace hr4 := hr4.go hb11
 replace hs9 := hs9.go hb11
 refine dt 10 28 (.pointer (some ⟨g2, 0 + i * 1, none⟩)) (fun v hv _ => Zg7 (kd := .u8) 219 _ _ g2 0 i 16 1 74 rfl (by kernel_rfl) (by kernel_rfl) hi (by omega) Tryz.underlying219 (by kernel_rfl)) trivial <| Zaf [11] (by kernel_rfl) (by simp) ?_
 refine Zb5 11 g2 (0 + i * 1) vR rfl (fun _ => by kernel_rfl) (fun _ => Zbo 74 _ _ g2 (0 + i * 1) _ 221 _ hr4 rfl (by kernel_rfl) (by kernel_rfl) (by show 0 + i * 1 < 17; omega) ht.cells ht.one (by kernel_rfl)) (fun w' h => trivial) ?_ Zam
 intro w12 hp13
 have hbs : Bs u10 w12 g2 := Bs.of hr4 (hk.noint _ _ _) hp13
 replace hy := hy.bs hbs
 replace hx := hx.bs hbs
 replace hk := hk.bs hbs
 replace hq := hq.bs hbs
 replace hs9 := hs9.bs hbs
 replace ht := ht.bs hbs
 replace hB := hB.set hp13 (by omega)
 replace hr4 : Rw g2 w12 (brc (updv vs i vR) (.slice a n c)) 221 := hr4.set hp13 (by rw [Nat.zero_add, Nat.mul_one]; exact Zsr _ _ _ _ hi)
 refine Zas (by kernel_rfl) <| Zab <| Zac <| Zaa <| rv 29 (.agg (brc (updv vs i vR) (.slice a n c))) (fun _ => Zb8 221 _ _ _ _ _ _ rfl (by kernel_rfl) hr4 Tryz.underlying221 rfl (by kernel_rfl)) <| rp 30 (.iface 221 (.agg (brc (updv vs i vR) (.slice a n c)))) <| rp 6 (.iface 221 (.agg (brc (updv vs i vR) (.slice a n c)))) <| Zad <| Zab <| Zap ?_
 exact Zae (.iface 221 (.agg (brc (updv vs i vR) (.slice a n c)))) (fun _ => by kernel_rfl) ⟨_, rfl, ⟨updv vs i vR, _, _, _, rfl, hk.put ht, hy, hn2⟩, hB⟩
theorem Zfc {K : Nat -> Prop} {w : World} {a : Option Addr} {n c : Nat} {y : List Int} {k : Nat -> Tr} {vs : Nat -> Value} (hk : TK K w k vs) (hy : Sk K w a n c y) (hn2 : n <= 256) {ax : Option Addr} {nx cx : Nat} {x : List Int} (hx : Sk K w ax nx cx x) (hx2 : nx <= 256) (hK : ∀ b, w.heap.size <= b -> K b) {aq : Option Addr} {nq cq : Nat} {q : List Int} (hq : Sk K w aq nq cq q) (hnb : Nb q)
  (hF : ∀ (i : Nat) (r : List Int), q = ((i : Nat) : Int) :: r -> k i = no \/ ∃ B, Ok B (k i) /\ B <= 64 /\ r.length <= B /\ WS (k i)) :
  Calls Tryz.prog 184 #[.agg (brc vs (.slice a n c)), .slice aq nq cq, .slice ax nx cx] w fun e w' => ∃ u, e = .returned u /\ TRs K w (put (br k y) q x) u w' := by
 cases q with
 | nil => exact Zsk hk hy hn2 hx hx2 hK hq hq.len.symm
 | cons i r =>
  obtain ⟨g, o, rfl, hc, hn⟩ := hq.head
  have hi := hnb.head
  obtain ⟨j, rfl⟩ := Int.eq_ofNat_of_zero_le hi.1
  exact Zpd hk hy hn2 hx hx2 hK (by omega) hq hn hc (hF j r rfl) hnb.tail
theorem Zmj (k : Nat -> Tr) (y q v : List Int) (h : ∀ i r, q = i :: r -> k i.toNat = no) : put (br k y) q v = add k y q v := by
 cases q with
 | nil => rfl
 | cons i r => simp only [put, add, h i r rfl]
theorem Zvx (k : Nat -> Tr) (y q v : List Int) : ∃ k' y', put (br k y) q v = br k' y' := by
 cases q with
 | nil => exact ⟨_, _, rfl⟩
 | cons i r => exact ⟨_, _, rfl⟩
theorem Zvn (p : List Int) {t : Tr} (h : t ≠ no) : und p t ≠ no := by
 cases t with
 | no => exact absurd rfl h
 | leaf q v => simp [und]
 | ext q c => simp [und]
 | br k v => simp only [und]; split <;> simp
theorem Zzs (t : Tr) (q v : List Int) : put t q v ≠ no := by
 cases t with
 | no => simp [put]
 | leaf p x =>
  simp only [put]
  split
  ·simp
  ·refine Zvn _ ?_
   cases p.drop (Ni.com p q) <;> cases q.drop (Ni.com p q) <;> simp [addT, add]
 | ext p c =>
  simp only [put]
  split
  ·simp
  ·refine Zvn _ ?_
   cases q.drop (Ni.com p q) <;> simp [add]
 | br k x => cases q <;> simp [put]
theorem Zuh {p q x v : List Int} (hne : q ≠ p) (hp : Nb p) (hq : Nb q) : ∃ k1 y1, put (br nk []) (p.drop (Ni.com p q)) x = br k1 y1 /\ (∀ (i : Nat) (r : List Int), q.drop (Ni.com p q) = ((i : Nat) : Int) :: r -> k1 i = no) ∧
  put (leaf p x) q v = und (q.take (Ni.com p q)) (put (br k1 y1) (q.drop (Ni.com p q)) v) := by
 obtain ⟨Q, a, b, ep, eq, ec, hd⟩ := Zdx p q
 have ea : p.drop (Ni.com p q) = a := by
  rw [ec]
  conv => lhs; rw [ep]
  simp
 have eb : q.drop (Ni.com p q) = b := by
  rw [ec]
  conv => lhs; rw [eq]
  simp
 have hb : Nb b := by rw [<- eb]; exact hq.drop _
 have ha : Nb a := by rw [<- ea]; exact hp.drop _
 simp only [put]
 rw [if_neg hne, ea, eb]
 cases a with
 | nil =>
  refine ⟨nk, x, rfl, fun _ _ _ => rfl, ?_⟩
  simp only [add, addT]
  rw [Zmj nk x b v (fun _ _ _ => rfl)]
  rfl
 | cons i a' =>
  have hfree : ∀ (j : Int) (r : List Int), b = j :: r -> upd nk i.toNat (leaf a' x) j.toNat = no := by
   intro j r e
   rcases hd with h | h | ⟨i1, a1, j1, b1, e1, e2, hij⟩
   ·cases h
   ·rw [h] at e; cases e
   ·cases e1
    rw [e] at e2
    cases e2
    rw [Za4]
    ·rfl
    ·intro h
     have h1 := ha.head
     rw [e] at hb
     have h2 := hb.head
     exact hij (by omega)
  refine ⟨upd nk i.toNat (leaf a' x), [], rfl, fun j r e => hfree _ r e, ?_⟩
  simp only [add, addT]
  rw [Zmj _ _ b v hfree]
  rfl
theorem Zyf {p q v : List Int} {c : Tr} (hlt : Ni.com p q < p.length) (hq : Nb q) (i : Nat) (hi : p.getD (Ni.com p q) 0 = ((i : Nat) : Int)) :
  (∀ (j : Nat) (r : List Int), q.drop (Ni.com p q) = ((j : Nat) : Int) :: r -> upd nk i (und (p.drop (Ni.com p q + 1)) c) j = no) ∧
  put (ext p c) q v = und (q.take (Ni.com p q)) (put (br (upd nk i (und (p.drop (Ni.com p q + 1)) c)) []) (q.drop (Ni.com p q)) v) := by
 have hfree : ∀ (j : Int) (r : List Int), q.drop (Ni.com p q) = j :: r -> upd nk i (und (p.drop (Ni.com p q + 1)) c) j.toNat = no := by
  intro j r e
  have hl : Ni.com p q < q.length := by
   have := congrArg List.length e
   rw [List.length_drop, List.length_cons] at this
   omega
  have hs := Ni.com_stop p q hlt hl
  have hj : q.getD (Ni.com p q) 0 = j := by
   rw [List.drop_eq_getElem_cons hl] at e
   injection e with e1 e2
   rw [<- e1]
   simp [List.getD, List.getElem?_eq_getElem hl]
  rw [hi, hj] at hs
  have hb : Nb (q.drop (Ni.com p q)) := hq.drop _
  rw [e] at hb
  have h2 := hb.head
  rw [Za4]
  ·rfl
  ·intro h
   exact hs (by omega)
 refine ⟨fun j r e => hfree _ r e, ?_⟩
 simp only [put]
 rw [if_neg (by omega), hi, Zmj _ _ _ _ hfree]
 rfl
theorem Sx.apart {g g' o : Nat} {cells : Array Value} {T : TypeId} {p : Addr} {x v : Value} {w w' : World} (h : Sx g cells T p x w) (hs : Set1 w w' g' o v) (h1 : g ≠ g') (h2 : p.block ≠ g') : Sx g cells T p x w' :=
 ⟨h.r.apart hs h1, (World.cell?_of_block (hs.other h2)).trans h.c⟩
theorem Sk.nth {K : Nat -> Prop} {w : World} {a : Option Addr} {n c : Nat} {bs : List Int} (h : Sk K w a n c bs) {m : Nat} (hm : m < n) : ∃ g o, a = some ⟨g, o, none⟩ /\ w.cell? ⟨g, o + m * 1, none⟩ = some (.int .u8 (bs.getD m 0)) := by
 have hl := h.len
 rcases h.ag.i with ⟨h1, h2⟩ | ⟨gb, off, h1, h2, h3, h4, h5, h7⟩
 ·omega
 ·exact ⟨gb, off, h1, by rw [Nat.mul_one]; exact h7 m (by omega)⟩
set_option maxHeartbeats 4000000 in
theorem Zrd {K : Nat -> Prop} {w : World} {a a' : Option Addr} {n c n' c' : Nat} {p x0 : List Int} (hp : Sk K w a n c p) (h0 : Sk K w a' n' c' x0) (h02 : n' <= 256) {aq : Option Addr} {nq cq : Nat} {q : List Int} (hq : Sk K w aq nq cq q) {ax : Option Addr} {nx cx : Nat} {x : List Int} (hx : Sk K w ax nx cx x) (hx2 : nx <= 256) (hK : ∀ b, w.heap.size <= b -> K b) (hnp : Nb p) (hnb : Nb q) (hl1 : p.length <= 64) (hl2 : q.length <= 64) :
  Calls Tryz.prog 181 #[.agg #[.slice a n c, .slice a' n' c'], .slice aq nq cq, .slice ax nx cx] w fun e w' => ∃ u, e = .returned u /\ TRs K w (put (leaf p x0) q x) u w' := by
 have hB := Bl.refl w
 have lp := hp.len
 have lq := hq.len
 refine Zaj Tryz.func181 rfl 43 rfl ?_
 show CW _ _ _ _ _ _ _ [(0, .agg #[.slice a n c, .slice a' n' c']), (1, .slice aq nq cq), (2, .slice ax nx cx)] _
 refine Zac <| Zaa <| Zax 3 (#[.slice a n c, .slice a' n' c']) 131 (fun _ => by kernel_rfl) (fun _ => by kernel_rfl) ?_
 intro w1 g2 hn3
 replace hB := hB.go hn3.below
 replace hp := hp.go hn3.below
 replace h0 := h0.go hn3.below
 replace hq := hq.go hn3.below
 replace hx := hx.go hn3.below
 have hr4 : Rw g2 w1 (#[.slice a n c, .slice a' n' c']) 131 := hn3.row
 refine rp 6 (.nilIface) <| Zad <| Zab <| Zac <| Zac <| Zaa <| rp 8 (.slice aq nq cq) <| rp 9 (.pointer (some ⟨g2, 0, none⟩)) <| rv 10 (.slice a n c) (fun _ => Zah 23 _ ⟨g2, 0, none⟩ _ _ rfl (by kernel_rfl) (by rw [cell_of_row _ _ _ _ _ _ hr4]; rfl) Tryz.underlying23 rfl) <| Zao 11 48 #[.slice aq nq cq, .slice a n c] (fun _ => by kernel_rfl) (fun _ => by kernel_rfl) (R := fun u w' => u = .bool (decide (q = p)) /\ Bl (w1) w') ((Ze7 hq hp)) ?_
 rintro _ u5 ⟨rfl, hb6⟩
 replace hB := hB.go hb6
 replace hp := hp.go hb6
 replace h0 := h0.go hb6
 replace hq := hq.go hb6
 replace hx := hx.go hb6
 replace hr4 := hr4.go hb6
 refine Zad <| Zab ?_
 by_cases hqp : q = p
 ·skip
  rw [show decide (q = p) = true from decide_eq_true hqp]
  refine Zak (fun _ => by kernel_rfl) <| Zac <| Zaa <| rp 12 (.slice aq nq cq) <| rp 13 (.slice ax nx cx) <| rp 14 (.agg #[.slice aq nq cq, .slice ax nx cx]) <| rp 15 (.iface 131 (.agg #[.slice aq nq cq, .slice ax nx cx])) <| rp 6 (.iface 131 (.agg #[.slice aq nq cq, .slice ax nx cx])) <| Zad <| Zab <| Zap <| Zaq ?_
  exact Zae (.iface 131 (.agg #[.slice aq nq cq, .slice ax nx cx])) (fun _ => by kernel_rfl) ⟨_, rfl, (by simp only [put]; rw [if_pos hqp]; exact ⟨_, _, _, _, _, _, rfl, hq, hx, hx2⟩), hB⟩
 ·skip
  rw [show decide (q = p) = false from decide_eq_false hqp]
  obtain ⟨k1, y1, e1, hfree, e3⟩ := Zuh (x := x0) (v := x) hqp hnp hnb
  obtain ⟨k2, y2, e2⟩ := Zvx k1 y1 (q.drop (Ni.com p q)) x
  have hm12 := Ni.com_le p q
  obtain ⟨m, hm⟩ : ∃ m, Ni.com p q = m := ⟨_, rfl⟩
  rw [hm] at e1 hfree e3 e2 hm12
  obtain ⟨hm1, hm2⟩ := hm12
  refine Zai (fun _ => by kernel_rfl) <| Zan <| Zab <| Zac <| Zaa <| rp 16 (.pointer (some ⟨g2, 0, none⟩)) <| rv 17 (.slice a n c) (fun _ => Zah 23 _ ⟨g2, 0, none⟩ _ _ rfl (by kernel_rfl) (by rw [cell_of_row _ _ _ _ _ _ hr4]; rfl) Tryz.underlying23 rfl) <| rp 18 (.slice aq nq cq) <| Zao 19 81 #[.slice a n c, .slice aq nq cq] (fun _ => by kernel_rfl) (fun _ => by kernel_rfl) (R := fun u w' => u = .int .i64 ((m : Nat) : Int) /\ Bl (u5) w') (((Ni.common_any _ _ _ _ _ _ p q _ hp.ag hq.ag (by omega) (by omega)).mono (fun e w' h => ⟨_, by rw [h.1, hm], rfl, h.2⟩))) ?_
  rintro _ u7 ⟨rfl, hb8⟩
  replace hB := hB.go hb8
  replace hp := hp.go hb8
  replace h0 := h0.go hb8
  replace hq := hq.go hb8
  replace hx := hx.go hb8
  replace hr4 := hr4.go hb8
  refine rp 7 (.int .i64 ((m : Nat) : Int)) <| Zad <| Zab <| Zac <| Zaz (fun v => Rw g2 v (#[.slice a n c, .slice a' n' c']) 131) (by kernel_rfl) (hr4.drew) ?_
  replace hB := hB.drew
  replace hp := hp.drew
  replace h0 := h0.drew
  replace hq := hq.drew
  replace hx := hx.drew
  replace hr4 := hr4.drew
  refine dt 0 20 (.agg (brc (fun _ => .nilIface) (.slice none 0 0))) (fun v hv => (fun _ => by kernel_rfl)) hr4 <| dt 1 21 (.pointer (some ⟨g2, 0, none⟩)) (fun v hv _ => by kernel_rfl) hr4 <| dt 2 22 (.slice a n c) (fun v hv _ => Zah 23 _ ⟨g2, 0, none⟩ _ _ rfl (by kernel_rfl) (by rw [cell_of_row _ _ _ _ _ _ hv]; rfl) Tryz.underlying23 rfl) hr4 <| dt 3 23 (.int .i64 ((m : Nat) : Int)) (fun v hv _ => by kernel_rfl) hr4 ?_
  obtain ⟨a9, n10, c11, hr12, hs13⟩ := hp.cutFrom m (by have := hp.len; omega)
  refine dt 4 24 (.slice a9 n10 c11) (fun v hv => (fun _ => hr12 _ _ _ _ _ _ rfl (by kernel_rfl) (by kernel_rfl) rfl)) hr4 <| dt 5 25 (.pointer (some ⟨g2, 1, none⟩)) (fun v hv _ => by kernel_rfl) hr4 <| dt 6 26 (.slice a' n' c') (fun v hv _ => Zah 23 _ ⟨g2, 1, none⟩ _ _ rfl (by kernel_rfl) (by rw [cell_of_row _ _ _ _ _ _ hv]; rfl) Tryz.underlying23 rfl) hr4 <| dt 8 28 (.slice aq nq cq) (fun v hv _ => by kernel_rfl) hr4 <| dt 9 29 (.int .i64 ((m : Nat) : Int)) (fun v hv _ => by kernel_rfl) hr4 ?_
  obtain ⟨a14, n15, c16, hr17, hs18⟩ := hq.cutFrom m (by have := hq.len; omega)
  refine dt 10 30 (.slice a14 n15 c16) (fun v hv => (fun _ => hr17 _ _ _ _ _ _ rfl (by kernel_rfl) (by kernel_rfl) rfl)) hr4 <| dt 11 31 (.slice ax nx cx) (fun v hv _ => by kernel_rfl) hr4 <| dt 16 36 (.slice aq nq cq) (fun v hv _ => by kernel_rfl) hr4 <| dt 17 37 (.int .i64 ((m : Nat) : Int)) (fun v hv _ => by kernel_rfl) hr4 ?_
  obtain ⟨a19, n20, c21, hr22, hs23⟩ := hq.cutTo m (by have := hq.len; omega)
  refine dt 18 38 (.slice a19 n20 c21) (fun v hv => (fun _ => hr22 _ _ _ _ _ _ rfl (by kernel_rfl) (by kernel_rfl) rfl)) hr4 <| Zaf [7] (by kernel_rfl) (by simp) ?_
  refine Zat 7 27 184 #[.agg (brc (fun _ => .nilIface) (.slice none 0 0)), .slice a9 n10 c11, .slice a' n' c'] rfl (fun _ => by kernel_rfl) (fun _ => by kernel_rfl) (R := TRs K (u7.drew) (br k1 y1)) ((by rw [<- e1]; exact Zfc (TK.none K _) (Sk.nil K _) (by omega) h0 h02 (fun b hb => hK b (Nat.le_trans hB.size hb)) hs13 (hnp.drop _) (fun i r e => .inl rfl))) (fun u w' h => hr4.go h.2) ?_ Zam
  rintro _ u24 ⟨⟨vs1, a1, n1, c1, rfl, hk1, hy1, hn1⟩, hb25⟩
  replace hB := hB.go hb25
  replace hp := hp.go hb25
  replace h0 := h0.go hb25
  replace hq := hq.go hb25
  replace hx := hx.go hb25
  replace hr4 := hr4.go hb25
  replace hs13 := hs13.go hb25
  replace hs18 := hs18.go hb25
  replace hs23 := hs23.go hb25
  replace hk1 : TK K u24 k1 vs1 := hk1
  refine dt 12 32 (.func (.method "pergola/trie.with") #[.iface 221 (.agg (brc vs1 (.slice a1 n1 c1)))] #[]) (fun v hv => (fun _ => by kernel_rfl)) hr4 <| dt 13 33 (.func (.method "pergola/trie.with") #[.iface 221 (.agg (brc vs1 (.slice a1 n1 c1)))] #[]) (fun v hv => (fun _ => by kernel_rfl)) hr4 <| dt 14 34 (.iface 221 (.agg (brc vs1 (.slice a1 n1 c1)))) (fun v hv _ => by kernel_rfl) hr4 <| Zaf [15] (by kernel_rfl) (by simp) ?_
  obtain ⟨T30, x31, f32, he33, hi28, hc29⟩ := (show MC "pergola/trie.with" (.iface 221 (.agg (brc vs1 (.slice a1 n1 c1)))) #[.slice a14 n15 c16, .slice ax nx cx] (u24) (TRs K (u24) (br k2 y2)) from ⟨_, _, _, rfl, Zk5 _, by rw [<- e2]; exact Zfc hk1 hy1 hn1 hx hx2 (fun b hb => hK b (Nat.le_trans hB.size hb)) hs18 (hnb.drop _) (fun i r e => .inl (hfree i r e))⟩)
  refine Zat 15 35 f32 (#[x31] ++ #[.slice a14 n15 c16, .slice ax nx cx]) rfl (fun _ => by kernel_rfl) (fun _ => hi28 _ _ _ _ _ _ _ rfl (by kernel_rfl) (by kernel_rfl)) (R := TRs K (u24) (br k2 y2)) ?_ (fun u w' h => hr4.go h.2) ?_ Zam
  ·exact hc29
  rintro _ u26 ⟨⟨vs2, a2, n2, c2, rfl, hk2, hy2, hn2⟩, hb27⟩
  replace hB := hB.go hb27
  replace hp := hp.go hb27
  replace h0 := h0.go hb27
  replace hq := hq.go hb27
  replace hx := hx.go hb27
  replace hr4 := hr4.go hb27
  replace hs13 := hs13.go hb27
  replace hs18 := hs18.go hb27
  replace hs23 := hs23.go hb27
  replace hk1 := hk1.go hb27
  replace hy1 := hy1.go hb27
  replace hk2 : TK K u26 k2 vs2 := hk2
  refine dt 19 39 (.func (.method "pergola/trie.under") #[.iface 221 (.agg (brc vs2 (.slice a2 n2 c2)))] #[]) (fun v hv => (fun _ => by kernel_rfl)) hr4 <| dt 20 40 (.func (.method "pergola/trie.under") #[.iface 221 (.agg (brc vs2 (.slice a2 n2 c2)))] #[]) (fun v hv => (fun _ => by kernel_rfl)) hr4 <| dt 21 41 (.iface 221 (.agg (brc vs2 (.slice a2 n2 c2)))) (fun v hv _ => by kernel_rfl) hr4 <| Zaf [22] (by kernel_rfl) (by simp) ?_
  obtain ⟨T38, x39, f40, he41, hi36, hc37⟩ := (Zwn (show TA K (u26) (br k2 y2) _ from ⟨vs2, _, _, _, rfl, hk2, hy2, hn2⟩) hs23)
  refine Zat 22 42 f40 (#[x39] ++ #[.slice a19 n20 c21]) rfl (fun _ => by kernel_rfl) (fun _ => hi36 _ _ _ _ _ _ _ rfl (by kernel_rfl) (by kernel_rfl)) (R := TRs K (u26) (und (q.take m) (br k2 y2))) ?_ (fun u w' h => hr4.go h.2) ?_ Zam
  ·exact hc37
  rintro vR u34 ⟨ht, hb35⟩
  replace hB := hB.go hb35
  replace hp := hp.go hb35
  replace h0 := h0.go hb35
  replace hq := hq.go hb35
  replace hx := hx.go hb35
  replace hr4 := hr4.go hb35
  replace hs13 := hs13.go hb35
  replace hs18 := hs18.go hb35
  replace hs23 := hs23.go hb35
  replace hk1 := hk1.go hb35
  replace hy1 := hy1.go hb35
  replace hk2 := hk2.go hb35
  replace hy2 := hy2.go hb35
  refine dt 23 6 (vR) (fun v hv _ => by kernel_rfl) hr4 <| Zas (by kernel_rfl) <| Zab <| Zap ?_
  exact Zae vR (fun _ => by kernel_rfl) ⟨_, rfl, (by rw [e3, e2]; exact ht), hB⟩
set_option maxHeartbeats 4000000 in
theorem Zuu {K : Nat -> Prop} {w : World} {a : Option Addr} {n c B : Nat} {p : List Int} {t : Tr} {Tu : TypeId} {xu : Value} (hp : Sk K w a n c p) (ht0 : TA K w t (.iface Tu xu)) (hOt : Ok B t) {aq : Option Addr} {nq cq : Nat} {q : List Int} (hq : Sk K w aq nq cq q) {ax : Option Addr} {nx cx : Nat} {x : List Int} (hx : Sk K w ax nx cx x) (hx2 : nx <= 256) (hK : ∀ b, w.heap.size <= b -> K b) {m : Nat} (hm : Ni.com p q = m) (hnb : Nb q) (hl1 : p.length <= 64) (hl2 : q.length <= p.length + B) (h64 : p.length + B <= 64) (hmn : m = n) (hF : WS t) :
  Calls Tryz.prog 199 #[.agg #[.slice a n c, .iface Tu xu], .slice aq nq cq, .slice ax nx cx] w fun e w' => ∃ u, e = .returned u /\ TRs K w (put (ext p t) q x) u w' := by
 have hB := Bl.refl w
 have lp := hp.len
 have lq := hq.len
 have hm12 := Ni.com_le p q
 rw [hm] at hm12
 obtain ⟨hm1, hm2⟩ := hm12
 refine Zaj Tryz.func199 rfl 61 rfl ?_
 show CW _ _ _ _ _ _ _ [(0, .agg #[.slice a n c, .iface Tu xu]), (1, .slice aq nq cq), (2, .slice ax nx cx)] _
 refine Zac <| Zaa <| Zax 3 (#[.slice a n c, .iface Tu xu]) 226 (fun _ => by kernel_rfl) (fun _ => by kernel_rfl) ?_
 intro w1 g2 hn3
 replace hB := hB.go hn3.below
 replace hp := hp.go hn3.below
 replace hq := hq.go hn3.below
 replace hx := hx.go hn3.below
 replace ht0 := ht0.go hn3.below
 have hr4 : Rw g2 w1 (#[.slice a n c, .iface Tu xu]) 226 := hn3.row
 refine rp 6 (.nilIface) <| Zad ?_
 have hgs := hn3.hg
 refine Zab <| Zac <| Zaa <| rp 9 (.pointer (some ⟨g2, 0, none⟩)) <| rv 10 (.slice a n c) (fun _ => Zah 23 _ ⟨g2, 0, none⟩ _ _ rfl (by kernel_rfl) (by rw [cell_of_row _ _ _ _ _ _ hr4]; rfl) Tryz.underlying23 rfl) <| rp 11 (.slice aq nq cq) <| Zao 12 81 #[.slice a n c, .slice aq nq cq] (fun _ => by kernel_rfl) (fun _ => by kernel_rfl) (R := fun u w' => u = .int .i64 ((m : Nat) : Int) /\ Bl (w1) w') (((Ni.common_any _ _ _ _ _ _ p q _ hp.ag hq.ag (by omega) (by omega)).mono (fun e w' h => ⟨_, by rw [h.1, hm], rfl, h.2⟩))) ?_
 rintro _ u5 ⟨rfl, hb6⟩
 replace hB := hB.go hb6
 replace hp := hp.go hb6
 replace hq := hq.go hb6
 replace hx := hx.go hb6
 replace ht0 := ht0.go hb6
 replace hr4 := hr4.go hb6
 refine rp 7 (.int .i64 ((m : Nat) : Int)) <| Zad <| Zab <| Zac <| Zac <| Zaa <| rp 13 (.int .i64 ((m : Nat) : Int)) <| rp 14 (.pointer (some ⟨g2, 0, none⟩)) <| rv 15 (.slice a n c) (fun _ => Zah 23 _ ⟨g2, 0, none⟩ _ _ rfl (by kernel_rfl) (by rw [cell_of_row _ _ _ _ _ _ hr4]; rfl) Tryz.underlying23 rfl) <| rp 16 (.int .i64 n) <| rv 17 (.bool true) (fun _ => Zag (v := .bool (((m : Nat) : Int) == (n : Int))) (by kernel_rfl) (congrArg Value.bool (beq_iff_eq.2 (by omega)))) <| Zad ?_
 refine Zab <| Zak (fun _ => by kernel_rfl) <| Zac <| Zaz (fun v => Rw g2 v (#[.slice a n c, .iface Tu xu]) 226) (by kernel_rfl) (hr4.drew) ?_
 replace hB := hB.drew
 replace hp := hp.drew
 replace hq := hq.drew
 replace hx := hx.drew
 replace ht0 := ht0.drew
 replace hr4 := hr4.drew
 refine dt 0 18 (.pointer (some ⟨g2, 0, none⟩)) (fun v hv _ => by kernel_rfl) hr4 <| dt 1 19 (.slice a n c) (fun v hv _ => Zah 23 _ ⟨g2, 0, none⟩ _ _ rfl (by kernel_rfl) (by rw [cell_of_row _ _ _ _ _ _ hv]; rfl) Tryz.underlying23 rfl) hr4 <| dt 2 20 (.pointer (some ⟨g2, 1, none⟩)) (fun v hv _ => by kernel_rfl) hr4 <| dt 3 21 (.iface Tu xu) (fun v hv _ => Zah 74 _ ⟨g2, 1, none⟩ _ _ rfl (by kernel_rfl) (by rw [cell_of_row _ _ _ _ _ _ hv]; rfl) Tryz.underlying74 rfl) hr4 <| dt 4 22 (.slice aq nq cq) (fun v hv _ => by kernel_rfl) hr4 <| dt 5 23 (.int .i64 ((m : Nat) : Int)) (fun v hv _ => by kernel_rfl) hr4 ?_
 obtain ⟨a7, n8, c9, hr10, hs11⟩ := hq.cutFrom m (by have := hq.len; omega)
 refine dt 6 24 (.slice a7 n8 c9) (fun v hv => (fun _ => hr10 _ _ _ _ _ _ rfl (by kernel_rfl) (by kernel_rfl) rfl)) hr4 <| dt 7 25 (.slice ax nx cx) (fun v hv _ => by kernel_rfl) hr4 <| dt 8 26 (.iface Tu xu) (fun v hv => (fun _ => by kernel_rfl)) hr4 <| dt 9 27 (.iface Tu xu) (fun v hv _ => by kernel_rfl) hr4 <| Zaf [10] (by kernel_rfl) (by simp) ?_
 obtain ⟨T16, x17, f18, he19, hi14, hc15⟩ := (hF hOt (by omega) (by rw [List.length_drop]; omega) (hnb.drop _) ht0 hs11 hx hx2 (fun b hb => hK b (Nat.le_trans hB.size hb)))
 refine Zat 10 28 f18 (#[x17] ++ #[.slice a7 n8 c9, .slice ax nx cx]) rfl (fun _ => by kernel_rfl) (fun _ => hi14 _ _ _ _ _ _ _ rfl (by kernel_rfl) (by kernel_rfl)) (R := TRs K (u5.drew) (put t (q.drop m) x)) ?_ (fun u w' h => hr4.go h.2) ?_ Zam
 ·exact hc15
 rintro vR u12 ⟨ht, hb13⟩
 obtain ⟨T2, x2, rfl⟩ := ht.iface (Zzs _ _ _)
 replace hB := hB.go hb13
 replace hp := hp.go hb13
 replace hq := hq.go hb13
 replace hx := hx.go hb13
 replace ht0 := ht0.go hb13
 replace hr4 := hr4.go hb13
 replace hs11 := hs11.go hb13
 refine dt 11 29 (.agg #[.slice a n c, .iface T2 x2]) (fun v hv => (fun _ => by kernel_rfl)) hr4 <| dt 12 30 (.iface 226 (.agg #[.slice a n c, .iface T2 x2])) (fun v hv _ => by kernel_rfl) hr4 <| dt 13 6 (.iface 226 (.agg #[.slice a n c, .iface T2 x2])) (fun v hv _ => by kernel_rfl) hr4 <| Zas (by kernel_rfl) <| Zab <| Zap <| Zaq ?_
 exact Zae (.iface 226 (.agg #[.slice a n c, .iface T2 x2])) (fun _ => by kernel_rfl) ⟨_, rfl, (by simp only [put]; rw [if_pos (by omega)]; have e : m = p.length := (by omega); subst e; exact ⟨_, _, _, _, rfl, hp, ht⟩), hB⟩
set_option maxHeartbeats 4000000 in
theorem Zo5 {K : Nat -> Prop} {w : World} {gp op i : Nat} (hi : i < 16) {n c B : Nat} {p : List Int} {t : Tr} {Tu : TypeId} {xu : Value} (hp : Sk K w (some ⟨gp, op, none⟩) n c p) (ht0 : TA K w t (.iface Tu xu)) (hOt : Ok B t) {aq : Option Addr} {nq cq : Nat} {q : List Int} (hq : Sk K w aq nq cq q) {ax : Option Addr} {nx cx : Nat} {x : List Int} (hx : Sk K w ax nx cx x) (hx2 : nx <= 256) (hK : ∀ b, w.heap.size <= b -> K b) {m : Nat} (hm : Ni.com p q = m) (hnb : Nb q) (hl1 : p.length <= 64) (hl2 : q.length <= p.length + B) (h64 : p.length + B <= 64) (hmn : m < n) (hpi : p.getD (Ni.com p q) 0 = ((i : Nat) : Int)) (hcm : w.cell? ⟨gp, op + m * 1, none⟩ = some (.int .u8 ((i : Nat) : Int))) :
  Calls Tryz.prog 199 #[.agg #[.slice (some ⟨gp, op, none⟩) n c, .iface Tu xu], .slice aq nq cq, .slice ax nx cx] w fun e w' => ∃ u, e = .returned u /\ TRs K w (put (ext p t) q x) u w' := by
 have hB := Bl.refl w
 have lp := hp.len
 have lq := hq.len
 have hm12 := Ni.com_le p q
 obtain ⟨hfree, e3⟩ := Zyf (c := t) (v := x) (by omega) hnb i hpi
 obtain ⟨k2, y2, e2⟩ := Zvx (upd nk i (und (p.drop (Ni.com p q + 1)) t)) [] (q.drop (Ni.com p q)) x
 rw [hm] at hfree e3 e2
 rw [hm] at hm12
 obtain ⟨hm1, hm2⟩ := hm12
 refine Zaj Tryz.func199 rfl 61 rfl ?_
 show CW _ _ _ _ _ _ _ [(0, .agg #[.slice (some ⟨gp, op, none⟩) n c, .iface Tu xu]), (1, .slice aq nq cq), (2, .slice ax nx cx)] _
 refine Zac <| Zaa <| Zax 3 (#[.slice (some ⟨gp, op, none⟩) n c, .iface Tu xu]) 226 (fun _ => by kernel_rfl) (fun _ => by kernel_rfl) ?_
 intro w1 g2 hn3
 replace hB := hB.go hn3.below
 replace hp := hp.go hn3.below
 replace hq := hq.go hn3.below
 replace hx := hx.go hn3.below
 replace ht0 := ht0.go hn3.below
 have hr4 : Rw g2 w1 (#[.slice (some ⟨gp, op, none⟩) n c, .iface Tu xu]) 226 := hn3.row
 refine rp 6 (.nilIface) <| Zad ?_
 have hgs := hn3.hg
 refine Zab <| Zac <| Zaa <| rp 9 (.pointer (some ⟨g2, 0, none⟩)) <| rv 10 (.slice (some ⟨gp, op, none⟩) n c) (fun _ => Zah 23 _ ⟨g2, 0, none⟩ _ _ rfl (by kernel_rfl) (by rw [cell_of_row _ _ _ _ _ _ hr4]; rfl) Tryz.underlying23 rfl) <| rp 11 (.slice aq nq cq) <| Zao 12 81 #[.slice (some ⟨gp, op, none⟩) n c, .slice aq nq cq] (fun _ => by kernel_rfl) (fun _ => by kernel_rfl) (R := fun u w' => u = .int .i64 ((m : Nat) : Int) /\ Bl (w1) w') (((Ni.common_any _ _ _ _ _ _ p q _ hp.ag hq.ag (by omega) (by omega)).mono (fun e w' h => ⟨_, by rw [h.1, hm], rfl, h.2⟩))) ?_
 rintro _ u5 ⟨rfl, hb6⟩
 replace hB := hB.go hb6
 replace hp := hp.go hb6
 replace hq := hq.go hb6
 replace hx := hx.go hb6
 replace ht0 := ht0.go hb6
 replace hr4 := hr4.go hb6
 refine rp 7 (.int .i64 ((m : Nat) : Int)) <| Zad <| Zab <| Zac <| Zac <| Zaa <| rp 13 (.int .i64 ((m : Nat) : Int)) <| rp 14 (.pointer (some ⟨g2, 0, none⟩)) <| rv 15 (.slice (some ⟨gp, op, none⟩) n c) (fun _ => Zah 23 _ ⟨g2, 0, none⟩ _ _ rfl (by kernel_rfl) (by rw [cell_of_row _ _ _ _ _ _ hr4]; rfl) Tryz.underlying23 rfl) <| rp 16 (.int .i64 n) <| rv 17 (.bool false) (fun _ => Zag (v := .bool (((m : Nat) : Int) == (n : Int))) (by kernel_rfl) (congrArg Value.bool (beq_eq_false_iff_ne.2 (by omega)))) <| Zad ?_
 refine Zab <| Zai (fun _ => by kernel_rfl) <| Zan <| Zab <| Zac ?_
 have hB4 := lt_of_get hr4
 refine Zaa <| Zax 8 (brc (fun _ => .nilIface) (.slice none 0 0)) 221 (fun _ => by kernel_rfl) (fun _ => by kernel_rfl) ?_
 intro w7 g8 hn9
 replace hB := hB.go hn9.below
 replace hp := hp.go hn9.below
 replace hq := hq.go hn9.below
 replace hx := hx.go hn9.below
 replace ht0 := ht0.go hn9.below
 replace hr4 := hr4.go hn9.below
 have hr10 : Rw g8 w7 (brc (fun _ => .nilIface) (.slice none 0 0)) 221 := hn9.row
 have hg8 := hn9.hg
 have hB8 := hB.size
 refine Zad <| Zab <| Zac ?_
 have hg8n : g2 < g8 := by omega
 have hgp : gp < w.heap.size := block_lt_of_cell hcm
 have hS : Sx g2 (#[.slice (some ⟨gp, op, none⟩) n c, .iface Tu xu]) 226 ⟨gp, op + m * 1, none⟩ (.int .u8 ((i : Nat) : Int)) w7 := ⟨hr4, (hB.cell (p := ⟨gp, op + m * 1, none⟩) (block_lt_of_cell hcm)).trans hcm⟩
 refine Zaz (fun v => Sx g2 (#[.slice (some ⟨gp, op, none⟩) n c, .iface Tu xu]) 226 ⟨gp, op + m * 1, none⟩ (.int .u8 ((i : Nat) : Int)) v) (by kernel_rfl) (hS.drew) ?_
 replace hB := hB.drew
 replace hp := hp.drew
 replace hq := hq.drew
 replace hx := hx.drew
 replace ht0 := ht0.drew
 replace hr4 := hr4.drew
 replace hr10 := hr10.drew
 replace hS := hS.drew
 refine dt 0 31 (.pointer (some ⟨g2, 0, none⟩)) (fun v hv _ => by kernel_rfl) hS <| dt 1 32 (.slice (some ⟨gp, op, none⟩) n c) (fun v hv _ => Zah 23 _ ⟨g2, 0, none⟩ _ _ rfl (by kernel_rfl) (by rw [cell_of_row _ _ _ _ _ _ hv.r]; rfl) Tryz.underlying23 rfl) hS <| dt 2 33 (.int .i64 ((m : Nat) : Int)) (fun v hv _ => by kernel_rfl) hS <| dt 3 34 (.pointer (some ⟨gp, op + m * 1, none⟩)) (fun v hv _ => Zau 23 _ _ gp op m n c 1 5 rfl (by kernel_rfl) (by kernel_rfl) (by omega) Tryz.underlying23 (by kernel_rfl)) hS <| dt 4 35 (.int .u8 ((i : Nat) : Int)) (fun v hv _ => Zah 5 _ _ _ _ rfl (by kernel_rfl) hv.c Tryz.underlying5 rfl) hS <| dt 5 36 (.pointer (some ⟨g2, 1, none⟩)) (fun v hv _ => by kernel_rfl) hS <| dt 6 37 (.iface Tu xu) (fun v hv _ => Zah 74 _ ⟨g2, 1, none⟩ _ _ rfl (by kernel_rfl) (by rw [cell_of_row _ _ _ _ _ _ hv.r]; rfl) Tryz.underlying74 rfl) hS <| dt 7 38 (.pointer (some ⟨g2, 0, none⟩)) (fun v hv _ => by kernel_rfl) hS <| dt 8 39 (.slice (some ⟨gp, op, none⟩) n c) (fun v hv _ => Zah 23 _ ⟨g2, 0, none⟩ _ _ rfl (by kernel_rfl) (by rw [cell_of_row _ _ _ _ _ _ hv.r]; rfl) Tryz.underlying23 rfl) hS <| dt 9 40 (.int .i64 ((m : Nat) : Int)) (fun v hv _ => by kernel_rfl) hS <| dt 10 41 (.int .i64 ((m + 1 : Nat) : Int)) (fun v hv _ => Zag (v := .int .i64 (IntKind.i64.wrap (((m : Nat) : Int) + 1))) (by kernel_rfl) (congrArg (Value.int .i64) (by rw [Zbc (by omega) (by omega)]; rfl))) hS ?_
 obtain ⟨a11, n12, c13, hr14, hs15⟩ := hp.cutFrom (m + 1) (by have := hp.len; omega)
 refine dt 11 42 (.slice a11 n12 c13) (fun v hv => (fun _ => hr14 _ _ _ _ _ _ rfl (by kernel_rfl) (by kernel_rfl) rfl)) hS <| dt 12 43 (.iface Tu xu) (fun v hv => (fun _ => by kernel_rfl)) hS <| dt 13 44 (.iface Tu xu) (fun v hv _ => by kernel_rfl) hS <| dt 15 46 (.pointer (some ⟨g8, 0, none⟩)) (fun v hv _ => by kernel_rfl) hS <| Zaf [14] (by kernel_rfl) (by simp) ?_
 obtain ⟨T20, x21, f22, he23, hi18, hc19⟩ := (Zzb t hOt ht0 hs15 (by rw [List.length_drop]; omega) (by omega) (fun b hb => hK b (Nat.le_trans hB.size hb)))
 refine Zat 14 45 f22 (#[x21] ++ #[.slice a11 n12 c13]) rfl (fun _ => by kernel_rfl) (fun _ => hi18 _ _ _ _ _ _ _ rfl (by kernel_rfl) (by kernel_rfl)) (R := TRs K (w7.drew) (und (p.drop (m + 1)) t)) ?_ (fun u w' h => hS.go h.2) ?_ Zam
 ·exact hc19
 rintro vU u16 ⟨htU, hb17⟩
 replace hB := hB.go hb17
 replace hp := hp.go hb17
 replace hq := hq.go hb17
 replace hx := hx.go hb17
 replace ht0 := ht0.go hb17
 replace hr4 := hr4.go hb17
 replace hr10 := hr10.go hb17
 replace hS := hS.go hb17
 replace hs15 := hs15.go hb17
 refine dt 16 47 (.pointer (some ⟨g8, 0 + i * 1, none⟩)) (fun v hv _ => Zg7 (kd := .u8) 219 _ _ g8 0 i 16 1 74 rfl (by kernel_rfl) (by kernel_rfl) hi (by omega) Tryz.underlying219 (by kernel_rfl)) hS <| Zaf [17] (by kernel_rfl) (by simp) ?_
 refine Zb5 17 g8 (0 + i * 1) vU rfl (fun _ => by kernel_rfl) (fun _ => Zbo 74 _ _ g8 (0 + i * 1) _ 221 _ hr10 rfl (by kernel_rfl) (by kernel_rfl) (by show 0 + i * 1 < 17; omega) htU.cells htU.one (by kernel_rfl)) (fun w' h => hS.apart h (by omega) (by show gp ≠ _; omega)) ?_ Zam
 intro w24 hp25
 replace hS := hS.apart hp25 (by omega) (by show gp ≠ _; omega)
 have hbs : Bs u16 w24 g8 := Bs.of hr10 ((TK.none K u16).noint _ _ _) hp25
 replace hp := hp.bs hbs
 replace hq := hq.bs hbs
 replace hx := hx.bs hbs
 replace ht0 := ht0.bs hbs
 replace hr4 := hr4.apart hp25 (by omega)
 replace hs15 := hs15.bs hbs
 replace htU := htU.bs hbs
 replace hB := hB.set hp25 (by omega)
 replace hr10 : Rw g8 w24 (brc (updv (fun _ => .nilIface) i vU) (.slice none 0 0)) 221 := hr10.set hp25 (by rw [Nat.zero_add, Nat.mul_one]; exact Zsr _ _ _ _ hi)
 have hkF : TK K w24 (upd nk i (und (p.drop (m + 1)) t)) (updv (fun _ => .nilIface) i vU) := (TK.none K _).put htU
 refine Zas (by kernel_rfl) <| Zab <| Zac <| Zaz (fun v => Rw g8 v (brc (updv (fun _ => .nilIface) i vU) (.slice none 0 0)) 221) (by kernel_rfl) (hr10.drew) ?_
 replace hB := hB.drew
 replace hp := hp.drew
 replace hq := hq.drew
 replace hx := hx.drew
 replace ht0 := ht0.drew
 replace hr4 := hr4.drew
 replace hr10 := hr10.drew
 replace hs15 := hs15.drew
 replace htU := htU.drew
 replace hkF := hkF.drew
 refine dt 0 48 (.agg (brc (updv (fun _ => .nilIface) i vU) (.slice none 0 0))) (fun v hv _ => Zb8 221 _ _ _ _ _ _ rfl (by kernel_rfl) hv Tryz.underlying221 rfl (by kernel_rfl)) hr10 <| dt 1 49 (.slice aq nq cq) (fun v hv _ => by kernel_rfl) hr10 <| dt 2 50 (.int .i64 ((m : Nat) : Int)) (fun v hv _ => by kernel_rfl) hr10 ?_
 obtain ⟨a26, n27, c28, hr29, hs30⟩ := hq.cutFrom m (by have := hq.len; omega)
 refine dt 3 51 (.slice a26 n27 c28) (fun v hv => (fun _ => hr29 _ _ _ _ _ _ rfl (by kernel_rfl) (by kernel_rfl) rfl)) hr10 <| dt 4 52 (.slice ax nx cx) (fun v hv _ => by kernel_rfl) hr10 <| dt 6 54 (.slice aq nq cq) (fun v hv _ => by kernel_rfl) hr10 <| dt 7 55 (.int .i64 ((m : Nat) : Int)) (fun v hv _ => by kernel_rfl) hr10 ?_
 obtain ⟨a31, n32, c33, hr34, hs35⟩ := hq.cutTo m (by have := hq.len; omega)
 refine dt 8 56 (.slice a31 n32 c33) (fun v hv => (fun _ => hr34 _ _ _ _ _ _ rfl (by kernel_rfl) (by kernel_rfl) rfl)) hr10 <| Zaf [5] (by kernel_rfl) (by simp) ?_
 refine Zat 5 53 184 #[.agg (brc (updv (fun _ => .nilIface) i vU) (.slice none 0 0)), .slice a26 n27 c28, .slice ax nx cx] rfl (fun _ => by kernel_rfl) (fun _ => by kernel_rfl) (R := TRs K (w24.drew) (br k2 y2)) ((by rw [<- e2]; exact Zfc hkF (Sk.nil K _) (by omega) hx hx2 (fun b hb => hK b (Nat.le_trans hB.size hb)) hs30 (hnb.drop _) (fun i r e => .inl (hfree i r e)))) (fun u w' h => hr10.go h.2) ?_ Zam
 rintro _ u36 ⟨⟨vs2, a2, n2, c2, rfl, hk2, hy2, hn2⟩, hb37⟩
 replace hB := hB.go hb37
 replace hp := hp.go hb37
 replace hq := hq.go hb37
 replace hx := hx.go hb37
 replace ht0 := ht0.go hb37
 replace hr4 := hr4.go hb37
 replace hr10 := hr10.go hb37
 replace hs15 := hs15.go hb37
 replace htU := htU.go hb37
 replace hkF := hkF.go hb37
 replace hs30 := hs30.go hb37
 replace hs35 := hs35.go hb37
 replace hk2 : TK K u36 k2 vs2 := hk2
 refine dt 9 57 (.func (.method "pergola/trie.under") #[.iface 221 (.agg (brc vs2 (.slice a2 n2 c2)))] #[]) (fun v hv => (fun _ => by kernel_rfl)) hr10 <| dt 10 58 (.func (.method "pergola/trie.under") #[.iface 221 (.agg (brc vs2 (.slice a2 n2 c2)))] #[]) (fun v hv => (fun _ => by kernel_rfl)) hr10 <| dt 11 59 (.iface 221 (.agg (brc vs2 (.slice a2 n2 c2)))) (fun v hv _ => by kernel_rfl) hr10 <| Zaf [12] (by kernel_rfl) (by simp) ?_
 obtain ⟨T42, x43, f44, he45, hi40, hc41⟩ := (Zwn (show TA K (u36) (br k2 y2) _ from ⟨vs2, _, _, _, rfl, hk2, hy2, hn2⟩) hs35)
 refine Zat 12 60 f44 (#[x43] ++ #[.slice a31 n32 c33]) rfl (fun _ => by kernel_rfl) (fun _ => hi40 _ _ _ _ _ _ _ rfl (by kernel_rfl) (by kernel_rfl)) (R := TRs K (u36) (und (q.take m) (br k2 y2))) ?_ (fun u w' h => hr10.go h.2) ?_ Zam
 ·exact hc41
 rintro vR u38 ⟨ht, hb39⟩
 replace hB := hB.go hb39
 replace hp := hp.go hb39
 replace hq := hq.go hb39
 replace hx := hx.go hb39
 replace ht0 := ht0.go hb39
 replace hr4 := hr4.go hb39
 replace hr10 := hr10.go hb39
 replace hs15 := hs15.go hb39
 replace htU := htU.go hb39
 replace hkF := hkF.go hb39
 replace hs30 := hs30.go hb39
 replace hs35 := hs35.go hb39
 replace hk2 := hk2.go hb39
 replace hy2 := hy2.go hb39
 refine dt 13 6 (vR) (fun v hv _ => by kernel_rfl) hr10 <| Zas (by kernel_rfl) <| Zab <| Zap ?_
 exact Zae vR (fun _ => by kernel_rfl) ⟨_, rfl, (by rw [e3, e2]; exact ht), hB⟩
theorem Zy6 (t : Tr) : WS t := by
 induction t with
 | no => intro K w v a n c q a' n' c' x B hO; exact hO.elim
 | leaf p x0 =>
  intro K w v a n c q a' n' c' x B hO h64 hl hnb ht hq hx hx2 hK
  obtain ⟨a1, n1, c1, a2, n2, c2, rfl, h1, h2, h3⟩ := ht
  exact ⟨_, _, _, rfl, Zrl _, Zrd h1 h2 h3 hq hx hx2 hK hO.1 hnb (Nat.le_trans hO.2.1 h64) (Nat.le_trans hl h64)⟩
 | ext p t ih =>
  intro K w v a n c q a' n' c' x B hO h64 hl hnb ht hq hx hx2 hK
  obtain ⟨a1, n1, c1, u, rfl, h1, h2⟩ := ht
  obtain ⟨o1, o2, o3, o4, o5⟩ := hO
  obtain ⟨Tu, xu, rfl⟩ := h2.iface (fun e => by rw [e] at o4; simp [isBr] at o4)
  have lp := h1.len
  have hcl := Ni.com_le p q
  refine ⟨_, _, _, rfl, Zrm _, ?_⟩
  by_cases hm : Ni.com p q = n1
  ·exact Zuu h1 h2 o5 hq hx hx2 hK rfl hnb (by omega) (by omega) (by omega) hm ih
  ·obtain ⟨g, o, rfl, hc⟩ := h1.nth (m := Ni.com p q) (by omega)
   have hmem : p.getD (Ni.com p q) 0 ∈ p := by
    rw [List.getD_eq_getElem?_getD, List.getElem?_eq_getElem (by omega)]
    exact List.getElem_mem _
   have hi := o1 _ hmem
   obtain ⟨i, hi2⟩ := Int.eq_ofNat_of_zero_le hi.1
   rw [hi2] at hc hi
   exact Zo5 (i := i) (by omega) h1 h2 o5 hq hx hx2 hK rfl hnb (by omega) (by omega) (by omega) (by omega) hi2 hc
 | br k y ih =>
  intro K w v a n c q a' n' c' x B hO h64 hl hnb ht hq hx hx2 hK
  obtain ⟨vs, a1, n1, c1, rfl, h1, h2, h3⟩ := ht
  refine ⟨_, _, _, rfl, Zk5 _, Zfc h1 h2 h3 hx hx2 hK hq hnb ?_⟩
  rintro i r rfl
  rcases hO.1 i with h | ⟨_, h0, h⟩
  ·exact .inl h
  ·exact .inr ⟨_, h, by omega, by rw [List.length_cons] at hl; omega, ih i⟩
def bra (vs : Nat -> Value) : Array Value := #[vs 0, vs 1, vs 2, vs 3, vs 4, vs 5, vs 6, vs 7, vs 8, vs 9, vs 10, vs 11, vs 12, vs 13, vs 14, vs 15]
theorem Zqt {w : World} {g : Nat} {vs : Nat -> Value} {s : Value} {ρ : Operand -> Value} {o : Oper} (h : Rw g w (brc vs s) 221) (x : Operand) (ho : o.op = .load 219 x) (hx : ρ x = .pointer (some ⟨g, 0, none⟩)) : (execOp ρ o).run Tryz.prog w = .ok (.value (.agg (bra vs))) w := by
 refine Zvz 219 x g 0 [vs 0, vs 1, vs 2, vs 3, vs 4, vs 5, vs 6, vs 7, vs 8, vs 9, vs 10, vs 11, vs 12, vs 13, vs 14, vs 15] _ ho hx ?_ Tryz.underlying219 rfl (by kernel_rfl)
 intro j v hj
 have hl : j < 16 := (List.getElem?_eq_some_iff.1 hj).1
 rw [Nat.zero_add, cell_of_row _ _ _ _ _ _ h, Zmf _ _ _ hl]
 match j, hl, hj with
 | 0, _, hj => exact hj
 | 1, _, hj => exact hj
 | 2, _, hj => exact hj
 | 3, _, hj => exact hj
 | 4, _, hj => exact hj
 | 5, _, hj => exact hj
 | 6, _, hj => exact hj
 | 7, _, hj => exact hj
 | 8, _, hj => exact hj
 | 9, _, hj => exact hj
 | 10, _, hj => exact hj
 | 11, _, hj => exact hj
 | 12, _, hj => exact hj
 | 13, _, hj => exact hj
 | 14, _, hj => exact hj
 | 15, _, hj => exact hj
 | n + 16, hl, _ => omega
theorem Zz9 (vs : Nat -> Value) (w : World) : ∀ j : Nat, j < 16 -> (Instr.index 219 (.agg (bra vs)) (.int .i64 ((j : Nat) : Int))).run Tryz.prog w = .ok (vs j) w
 | 0, _ => by kernel_rfl
 | 1, _ => by kernel_rfl
 | 2, _ => by kernel_rfl
 | 3, _ => by kernel_rfl
 | 4, _ => by kernel_rfl
 | 5, _ => by kernel_rfl
 | 6, _ => by kernel_rfl
 | 7, _ => by kernel_rfl
 | 8, _ => by kernel_rfl
 | 9, _ => by kernel_rfl
 | 10, _ => by kernel_rfl
 | 11, _ => by kernel_rfl
 | 12, _ => by kernel_rfl
 | 13, _ => by kernel_rfl
 | 14, _ => by kernel_rfl
 | 15, _ => by kernel_rfl
 | n + 16, h => by omega
theorem Zks {ρ : Operand -> Value} {w : World} {o : Oper} (x y : Operand) (vs : Nat -> Value) (j : Nat) (hj : j < 16) (ho : o.op = .index 219 x y) (hx : ρ x = .agg (bra vs)) (hy : ρ y = .int .i64 ((j : Nat) : Int)) : (execOp ρ o).run Tryz.prog w = .ok (.value (vs j)) w := by
 unfold execOp
 rw [ho]
 simp only [hx, hy, Sem.run_bind, Zz9 vs w j hj, Result.andThen_ok, Sem.run_pure]
theorem Zzw {K : Nat -> Prop} {w0 w : World} {t : Tr} {v : Value} (h : TA K w0 t v) {ρ : Operand -> Value} {o : Oper} (i : Nat) (r : TypeId) (ho : o.op = .binOp .neq 74 (.tmp i) (.const .nilIface) r) (hx : ρ (.tmp i) = v) (hy : ρ (.const .nilIface) = .nilIface) : (execOp ρ o).run Tryz.prog w = .ok (.value (.bool (!t.isNo))) w := by
 unfold execOp
 rw [ho]
 simp only [hx, hy]
 cases t with
 | no => rw [show v = .nilIface from h]; kernel_rfl
 | leaf p x => obtain ⟨_, _, _, _, _, _, rfl, _⟩ := h; kernel_rfl
 | ext p t => obtain ⟨_, _, _, _, rfl, _⟩ := h; kernel_rfl
 | br k x => obtain ⟨_, _, _, _, rfl, _⟩ := h; kernel_rfl
theorem Zy7 {n : Nat} (h : n < 16) : IntKind.u8.wrap (n : Int) = n := by unfold IntKind.wrap; simp [IntKind.bits, IntKind.signed]; omega
def DS (t : Tr) : Prop := ∀ {K : Nat -> Prop} {w : World} {v : Value} {a : Option Addr} {n c : Nat} {q : List Int} {B : Nat}, Ok B t -> B <= 64 -> Nb q -> Tr.get t q ≠ [] -> TA K w t v -> Sk K w a n c q -> (∀ b, w.heap.size <= b -> K b) -> MC "pergola/trie.without" v #[.slice a n c] w (TRs K w (del t q))
end Go.Proofs.YtefhepcplempkaaGreat
