/- What Common answers. -/
import Derived.Test.YtefhepcplempkaaGreatG02
import Derived.Test.YtefhepcplempkaaGreatG13
import Derived.Test.YtefhepcplempkaaGreatG01
set_option linter.unusedVariables false
set_option maxRecDepth 100000
namespace Go.Proofs.YtefhepcplempkaaGreat.Ni
open Go.RowKit
set_option maxHeartbeats 1000000 in
theorem common_any (a1 a2 : Option Addr) (n1 c1 n2 c2 : Nat) (p q : List Int) (w : World) (h1 : Ag w a1 n1 c1 p) (h2 : Ag w a2 n2 c2 q) (hn1 : n1 <= 140737488355328) (hn2 : n2 <= 140737488355328) :
  Calls Tryz.prog 81 #[.slice a1 n1 c1, .slice a2 n2 c2] w fun e w' => e = .returned (.int .i64 (com p q : Nat)) /\ Below w.heap.size w w' := by
 have HL1 := Hid.mk h1.l
 have HL2 := Hid.mk h2.l
 have HC1 := Hid.mk (fun h => ag_head h1 h)
 have HC2 := Hid.mk (fun h => ag_head h2 h)
 clear h1 h2
 obtain ⟨res, hres⟩ : ∃ r, com p q = r := ⟨_, rfl⟩
 rw [hres]
 have HRES := Hid.mk hres
 clear hres
 go_enter Tryz.func81, Tryz.ntmps81
 go_wp2_with fail
 go_loopw [5] (fun i v => ∃ j : Nat, j <= n1 /\ j <= n2 /\ i = .int .i64 j /\ p.take j = q.take j /\ Below w.heap.size w v) (fun i _ => n1 - (intOf i).toNat)
 case atStart => exact ⟨0, by omega, by omega, rfl, rfl, Below.refl _ _⟩
 case round =>
  obtain ⟨j, hj1, hj2, rfl, htk, hb⟩ := hrel
  have HTK := Hid.mk htk
  have HBW := Hid.mk hb
  clear htk hb
  have HD : Hid ((j = p.length \/ j = q.length \/ p.getD j 0 ≠ q.getD j 0) -> res = j) := Hid.mk (fun h => HRES.out.symm.trans (Zob p q j (by have := HL1.out; omega) (by have := HL2.out; omega) HTK.out h))
  by_cases hlt1 : j < n1
  case neg =>
   have hji : ¬ (j : Int) < n1 := by omega
   have e := HD.out (.inl (by have := HL1.out; omega))
   subst e
   go_wp2_with fail
   go_region
   all_goals
    go_wp2_with fail
    go_ret
    exact ⟨rfl, HBW.out.drew⟩
  have hji1 : (j : Int) < n1 := by omega
  by_cases hlt2 : j < n2
  case neg =>
   have hji : ¬ (j : Int) < n2 := by omega
   have e := HD.out (.inr (.inl (by have := HL2.out; omega)))
   subst e
   go_wp2_with fail
   go_region
   all_goals
    go_wp2_with fail
    go_ret
    exact ⟨rfl, HBW.out.drew⟩
  have hji2 : (j : Int) < n2 := by omega
  obtain ⟨g1, o1, rfl, hnc1, hcm1, hcs1⟩ := HC1.out (by omega)
  obtain ⟨g2, o2, rfl, hnc2, hcm2, hcs2⟩ := HC2.out (by omega)
  unfold maxLen at hcm1 hcm2
  have hcell1 := (HBW.out.cell (p := ⟨g1, o1 + j, none⟩) (block_lt_of_cell (hcs1 j hlt1))).trans (hcs1 j hlt1)
  have hcell2 := (HBW.out.cell (p := ⟨g2, o2 + j, none⟩) (block_lt_of_cell (hcs2 j hlt2))).trans (hcs2 j hlt2)
  have HT1 := Hid.mk (take_snoc (b := p) (i := j) (by have := HL1.out; omega))
  have HT2 := Hid.mk (take_snoc (b := q) (i := j) (by have := HL2.out; omega))
  generalize p.getD j 0 = x at *
  generalize q.getD j 0 = y at *
  clear hcs1 hcs2
  by_cases hxy : x = y
  ·subst hxy
   have hq : (x == x) = true := by simp
   go_wp2_with fail
   go_region
   all_goals
    go_wp2_with fail
    exact ⟨⟨j + 1, by omega, by omega, by simp, by rw [HT1.out, HT2.out, HTK.out], HBW.out.drew⟩, by simp [intOf]; omega⟩
  ·have e := HD.out (.inr (.inr hxy))
   subst e
   have hq : (x == y) = false := by simpa using hxy
   clear hxy
   go_wp2_with fail
   go_region
   all_goals
    go_wp2_with fail
    go_ret
    exact ⟨rfl, HBW.out.drew⟩
end Go.Proofs.YtefhepcplempkaaGreat.Ni
namespace Go.Proofs.YtefhepcplempkaaGreat
open Go.RowKit
open Tr
theorem Sk.head {K : Nat -> Prop} {w : World} {a : Option Addr} {n c : Nat} {i : Int} {r : List Int} (h : Sk K w a n c (i :: r)) : ∃ g o, a = some ⟨g, o, none⟩ /\ w.cell? ⟨g, o + 0 * 1, none⟩ = some (.int .u8 i) /\ 0 < n := by
 have hl := h.len
 rw [List.length_cons] at hl
 rcases h.ag.i with ⟨h1, h2⟩ | ⟨gb, off, h1, h2, h3, h4, h5, h7⟩
 ·omega
 ·exact ⟨gb, off, h1, by rw [show off + 0 * 1 = off + 0 from by omega, h7 0 (by simp)]; rfl, h3⟩
def TK (K : Nat -> Prop) (w : World) (k : Nat -> Tr) (vs : Nat -> Value) : Prop := ∀ i, i < 16 -> TA K w (k i) (vs i)
structure Sx (g : Nat) (cells : Array Value) (T : TypeId) (p : Addr) (x : Value) (w : World) : Prop where
 r : Rw g w cells T
 c : w.cell? p = some x
def RS (K : Nat -> Prop) (w : World) (x : List Int) : Value -> World -> Prop := fun u w' => (∃ a n c, u = .slice a n c /\ Sk K w' a n c x) /\ Bl w w'
def TRs (K : Nat -> Prop) (w : World) (t : Tr) : Value -> World -> Prop := fun u w' => TA K w' t u /\ Bl w w'
def FS (t : Tr) : Prop := ∀ {K : Nat -> Prop} {w : World} {v : Value} {a : Option Addr} {n c : Nat} {q : List Int} {B : Nat}, Ok B t -> TA K w t v -> Sk K w a n c q -> Nb q -> MC "pergola/trie.find" v #[.slice a n c] w (RS K w (Tr.get t q))
theorem Sk.mono {K K' : Nat -> Prop} {w : World} {a : Option Addr} {n c : Nat} {bs : List Int} (h : Sk K w a n c bs) (hK : ∀ b, K b -> K' b) : Sk K' w a n c bs := ⟨h.ag, fun x hx hn => hK _ (h.k x hx hn)⟩
theorem TA.iface {K : Nat -> Prop} {w : World} {t : Tr} {v : Value} (h : TA K w t v) (hne : t ≠ no) : ∃ T x, v = .iface T x := by
 cases t with
 | no => exact absurd rfl hne
 | leaf p x => obtain ⟨_, _, _, _, _, _, rfl, _⟩ := h; exact ⟨_, _, rfl⟩
 | ext p t => obtain ⟨_, _, _, _, rfl, _⟩ := h; exact ⟨_, _, rfl⟩
 | br k x => obtain ⟨_, _, _, _, rfl, _⟩ := h; exact ⟨_, _, rfl⟩
def US (t : Tr) : Prop := ∀ {K : Nat -> Prop} {w : World} {v : Value} {a : Option Addr} {n c : Nat} {q : List Int} {B : Nat}, Ok B t -> TA K w t v -> Sk K w a n c q -> q.length <= 64 -> B <= 64 -> (∀ b, w.heap.size <= b -> K b) -> MC "pergola/trie.under" v #[.slice a n c] w (TRs K w (und q t))
def NoInt (cells : Array Value) : Prop := ∀ (j : Nat) (v : Value), cells[j]? = some v -> ∀ kd z, v ≠ .int kd z
structure Bs (w w' : World) (g : Nat) : Prop where
 other : ∀ k, k ≠ g -> w'.heap[k]? = w.heap[k]?
 no : ∀ o kd z, w.cell? ⟨g, o, none⟩ ≠ some (.int kd z)
theorem Bs.of {w w' : World} {g o : Nat} {cells : Array Value} {T : TypeId} {v : Value} (h : Rw g w cells T) (hn : NoInt cells) (hs : Set1 w w' g o v) : Bs w w' g :=
 ⟨fun k hk => hs.other hk, fun o kd z e => by rw [cell_of_row _ _ _ _ _ _ h] at e; exact hn _ _ e kd z rfl⟩
theorem Sk.bs {K : Nat -> Prop} {w w' : World} {g : Nat} {a : Option Addr} {n c : Nat} {bs : List Int} (h : Sk K w a n c bs) (hb : Bs w w' g) : Sk K w' a n c bs := by
 refine ⟨⟨?_, h.ag.nil, h.ag.l, h.ag.b⟩, h.k⟩
 rcases h.ag.i with h1 | ⟨gb, off, h1, h2, h3, h4, h5, h7⟩
 ·exact .inl h1
 ·refine .inr ⟨gb, off, h1, h2, h3, h4, h5, fun j hj => ?_⟩
  have hne : gb ≠ g := fun e => by
   subst e
   exact hb.no _ _ _ (h7 j hj)
  rw [<- h7 j hj]
  exact World.cell?_of_block (hb.other gb hne)
theorem TA.bs {K : Nat -> Prop} {w w' : World} {g : Nat} (hb : Bs w w' g) : ∀ {t : Tr} {v : Value}, TA K w t v -> TA K w' t v := by
 intro t
 induction t with
 | no => intro v h; exact h
 | leaf p x => rintro v ⟨a, n, c, a', n', c', h1, h2, h3, h4⟩; exact ⟨a, n, c, a', n', c', h1, h2.bs hb, h3.bs hb, h4⟩
 | ext p t ih => rintro v ⟨a, n, c, u, h1, h2, h3⟩; exact ⟨a, n, c, u, h1, h2.bs hb, ih h3⟩
 | br k x ih => rintro v ⟨vs, a, n, c, h1, h2, h3, h4⟩; exact ⟨vs, a, n, c, h1, fun i hi => ih i (h2 i hi), h3.bs hb, h4⟩
theorem Rw.set {g o : Nat} {w w' : World} {cells cells' : Array Value} {T : TypeId} {v : Value} (h : Rw g w cells T) (hs : Set1 w w' g o v) (e : cells.setIfInBounds o v = cells') : Rw g w' cells' T := by
 rw [<- e, Rw, hs.hw]; exact heap_setCell_same _ _ _ _ _ _ h
theorem TA.noint {K : Nat -> Prop} {w : World} {t : Tr} {v : Value} (h : TA K w t v) (kd : IntKind) (z : Int) : v ≠ .int kd z := by
 cases t with
 | no => rw [show v = .nilIface from h]; simp
 | leaf p x => obtain ⟨_, _, _, _, _, _, rfl, _⟩ := h; simp
 | ext p t => obtain ⟨_, _, _, _, rfl, _⟩ := h; simp
 | br k x => obtain ⟨_, _, _, _, rfl, _⟩ := h; simp
theorem Zf2 {ρ : Operand -> Value} {w : World} {o : Oper} (T : TypeId) (x y : Operand) (g j : Nat) (cells : Array Value) (E : TypeId) (v : Value) (h : Rw g w cells E) (ho : o.op = .store T x y) (hx : ρ x = .pointer (some ⟨g, j, none⟩)) (hy : ρ y = v) (hj : j < cells.size) (h1 : v.cells = #[v]) (h2 : v.oneCell' = true) (hi : (Tryz.prog.info? T).map (·.size) = some 1) :
  (execOp ρ o).run Tryz.prog w = .ok .skip (w.setCell ⟨g, j, none⟩ v) := by
 have hc : w.cell? ⟨g, j, none⟩ = some cells[j] := by rw [cell_of_row _ _ _ _ _ _ h]; exact Array.getElem?_eq_getElem hj
 have hf : w.frozen? ⟨g, j, none⟩ = false := frozen_of_row _ _ _ _ _ h
 have hs : (sizeOf T).run Tryz.prog w = .ok 1 w := by
  cases hq : Tryz.prog.info? T with
  | none => simp [hq] at hi
  | some z => simp [hq] at hi; simp [sizeOf, typeInfo, hq, hi]
 unfold execOp
 rw [ho]
 simp only [hx, hy, Instr.storeAt, Instr.sureAddr, storeVar, h1, Sem.run_bind, Sem.run_pure, Result.andThen_ok, hs]
 go_simp
 rw [run_store _ _ _ _ _ h2]
 simp [hc, hf]
theorem TA.cells {K : Nat -> Prop} {w : World} {t : Tr} {v : Value} (h : TA K w t v) : v.cells = #[v] := by
 cases t with
 | no => rw [show v = .nilIface from h]; rfl
 | leaf p x => obtain ⟨_, _, _, _, _, _, rfl, _⟩ := h; rfl
 | ext p t => obtain ⟨_, _, _, _, rfl, _⟩ := h; rfl
 | br k x => obtain ⟨_, _, _, _, rfl, _⟩ := h; rfl
def WS (t : Tr) : Prop := ∀ {K : Nat -> Prop} {w : World} {v : Value} {a : Option Addr} {n c : Nat} {q : List Int} {a' : Option Addr} {n' c' : Nat} {x : List Int} {B : Nat}, Ok B t -> B <= 64 -> q.length <= B -> Nb q -> TA K w t v -> Sk K w a n c q -> Sk K w a' n' c' x -> n' <= 256 -> (∀ b, w.heap.size <= b -> K b) -> MC "pergola/trie.with" v #[.slice a n c, .slice a' n' c'] w (TRs K w (put t q x))
set_option maxHeartbeats 1000000 in
theorem Zxr {K : Nat -> Prop} {w : World} {aq : Option Addr} {nq cq : Nat} {q : List Int} (hq : Sk K w aq nq cq q) {ax : Option Addr} {nx cx : Nat} {x : List Int} (hx : Sk K w ax nx cx x) (hx2 : nx <= 256) :
  Calls Tryz.prog 51 #[.nilIface, .slice aq nq cq, .slice ax nx cx] w fun e w' => ∃ u, e = .returned u /\ TRs K w (put no q x) u w' := by
 have hB := Bl.refl w
 refine Zat Tryz.func51 rfl 17 rfl ?_
 show CW _ _ _ _ _ _ _ [(0, .nilIface), (1, .slice aq nq cq), (2, .slice ax nx cx)] _
 refine Zac <| Zaa <| rp 6 (.nilIface) <| Zad <| Zab <| Zac <| Zac <| Zaa <| rp 7 (.nilIface) <| rp 8 (.bool true) <| Zad <| Zab ?_
 refine Zam (fun _ => by kernel_rfl) <| Zac <| Zaa <| rp 9 (.slice aq nq cq) <| rp 10 (.slice ax nx cx) <| rp 11 (.agg #[.slice aq nq cq, .slice ax nx cx]) <| rp 12 (.iface 131 (.agg #[.slice aq nq cq, .slice ax nx cx])) <| rp 6 (.iface 131 (.agg #[.slice aq nq cq, .slice ax nx cx])) <| Zad <| Zab <| Zao <| Zah ?_
 exact Zae (.iface 131 (.agg #[.slice aq nq cq, .slice ax nx cx])) (fun _ => by kernel_rfl) ⟨_, rfl, ⟨_, _, _, _, _, _, rfl, hq, hx, hx2⟩, hB⟩
set_option maxHeartbeats 1000000 in
theorem Zv4 {K : Nat -> Prop} {w : World} {aq : Option Addr} {nq cq : Nat} {ax : Option Addr} {nx cx : Nat} {t : Tr} {T0 : TypeId} {v0 : Value} (hm : MC "pergola/trie.with" (.iface T0 v0) #[.slice aq nq cq, .slice ax nx cx] w (TRs K w t)) :
  Calls Tryz.prog 51 #[.iface T0 v0, .slice aq nq cq, .slice ax nx cx] w fun e w' => ∃ u, e = .returned u /\ TRs K w t u w' := by
 have hB := Bl.refl w
 refine Zat Tryz.func51 rfl 17 rfl ?_
 show CW _ _ _ _ _ _ _ [(0, .iface T0 v0), (1, .slice aq nq cq), (2, .slice ax nx cx)] _
 refine Zac <| Zaa <| rp 6 (.nilIface) <| Zad <| Zab <| Zac <| Zac <| Zaa <| rp 7 (.iface T0 v0) <| rp 8 (.bool false) <| Zad <| Zab ?_
 refine Zag (fun _ => by kernel_rfl) <| Zar <| Zab <| Zac <| Zaa <| rp 13 (.iface T0 v0) <| rp 14 (.slice aq nq cq) <| rp 15 (.slice ax nx cx) ?_
 obtain ⟨T3, x4, f5, he6, hi1, hc2⟩ := hm
 refine Zav 16 f5 (#[x4] ++ #[.slice aq nq cq, .slice ax nx cx]) (fun _ => by kernel_rfl) (fun _ => hi1 _ _ _ _ _ _ _ rfl (by kernel_rfl) (by kernel_rfl)) (R := TRs K w t) ?_ ?_
 ·exact hc2
 rintro vR u1 ⟨ht, hb⟩
 replace hB := hB.go hb
 refine rp 6 (vR) <| Zad <| Zab <| Zao ?_
 exact Zae vR (fun _ => by kernel_rfl) ⟨_, rfl, ht, hB⟩
theorem Zew {K : Nat -> Prop} {w : World} {t : Tr} {v : Value} {aq : Option Addr} {nq cq : Nat} {q : List Int} (hF : t = no \/ ∃ B, Ok B t /\ B <= 64 /\ q.length <= B /\ WS t) (ht : TA K w t v) (hq : Sk K w aq nq cq q) (hnb : Nb q) {ax : Option Addr} {nx cx : Nat} {x : List Int} (hx : Sk K w ax nx cx x) (hx2 : nx <= 256) (hK : ∀ b, w.heap.size <= b -> K b) :
  Calls Tryz.prog 51 #[v, .slice aq nq cq, .slice ax nx cx] w fun e w' => ∃ u, e = .returned u /\ TRs K w (put t q x) u w' := by
 rcases hF with rfl | ⟨B, hO, h64, hl, hF⟩
 ·rw [show v = .nilIface from ht]
  exact Zxr hq hx hx2
 ·have hm := hF hO h64 hl hnb ht hq hx hx2 hK
  obtain ⟨T, y, f, rfl, _⟩ := id hm
  exact Zv4 hm
end Go.Proofs.YtefhepcplempkaaGreat
