/- What Key answers. -/
import Derived.Test.YtdkpilgelgjieaaGreatG15
import Derived.Test.YtdkpilgelgjieaaGreatG02
import Derived.Test.YtdkpilgelgjieaaGreatG01
set_option linter.unusedVariables false
set_option maxRecDepth 100000
namespace Go.Proofs.YtdkpilgelgjieaaGreat.Ni
open Go.RowKit
theorem Zzo (p : List Int) (m i : Nat) (hm : (kk p).length = m) (hi : i < m) : ((kk p).take i ++ List.replicate (m - i) (0 : Int)).set i ((kk p).getD i 0) = (kk p).take (i + 1) ++ List.replicate (m - (i + 1)) (0 : Int) := by
 rw [take_snoc (by omega), List.append_assoc]
 have e : ((kk p).take i).length = i := by rw [List.length_take]; omega
 rw [List.set_append_right _ _ (by omega), e, Nat.sub_self, show m - i = (m - (i + 1)) + 1 from by omega, List.replicate_succ]
 rfl
set_option maxHeartbeats 2000000 in
theorem Zx3 (a : Option Addr) (n c : Nat) (p : List Int) (w : World) (h : Ag w a n c p) (hn : n <= 140737488355328) :
  Calls Tryz.prog 45 #[.slice a n c] w fun e w' => (∃ a' m, e = .returned (.tuple #[.slice a' m m, .bool (keyP p).2]) /\ Ag w' a' m m (keyP p).1) /\ Below w.heap.size w w' := by
 have hl := h.l
 by_cases he : n % 2 = 0
 case neg =>
  rw [Ziv (fun hh => he (by rw [<- hl]; exact hh.2))]
  simp only
  have hei : (n : Int) % 2 = 1 := by omega
  clear h hl he
  go_enter Tryz.func45, Tryz.ntmps45
  go_wp2_with fail
  go_ret2
  exact ⟨⟨none, 0, rfl, ag_nil _⟩, Below.refl _ _⟩
 have hei : (n : Int) % 2 = 0 := by omega
 have hr := right_any a n c p w h hn
 by_cases hrt : rightP p = true
 case neg =>
  rw [Ziv (fun hh => hrt hh.1)]
  simp only
  rw [show rightP p = false from by simpa using hrt] at hr
  clear h hl he hrt
  go_enter Tryz.func45, Tryz.ntmps45
  go_wp2_with fail
  refine hr.mono ?_
  rintro e w1 ⟨rfl, rfl⟩
  clear hr
  go_wp2_with fail
  go_ret2
  exact ⟨⟨none, 0, rfl, ag_nil _⟩, Below.refl _ _⟩
 rw [Zhm hrt (by omega)]
 simp only
 rw [hrt] at hr
 obtain ⟨m, hm⟩ : ∃ m, n / 2 = m := ⟨_, rfl⟩
 have hmn : n = 2 * m := by omega
 subst hmn
 clear hm he hei
 have HKL : Hid ((kk p).length = m) := Hid.mk (by rw [Zow]; omega)
 have HKB := Hid.mk (Zsq p h.b hrt)
 have HL := Hid.mk hl
 have HB := Hid.mk h.b
 have HRT := Hid.mk hrt
 have HC := Hid.mk (fun h0 => ag_head h h0)
 have hmk := run_make_row' (P := Tryz.prog) 32 5 (.int .u8 0) 1 Tryz.underlying32 info5b rfl .i64 .i64 m (by omega) (by omega)
 have hrow : Row w.heap.size (w.alloc (.cells (madeCells #[.int .u8 0] m) 5)) (List.replicate m 0) := by
  unfold Row; rw [heap_alloc_new, made_bytes]
 have hbw : Below w.heap.size w (w.alloc (.cells (madeCells #[.int .u8 0] m) 5)) := (Below.refl _ _).alloc (Nat.le_refl _) _
 have HR := Hid.mk hrow
 have HBW := Hid.mk hbw
 have hm2 : (2 * m : Nat) % 2 = 0 := by omega
 have hm3 : ((2 * m : Nat) : Int) % 2 = 0 := by omega
 have hm4 : ((2 * m : Nat) : Int) / 2 = m := by omega
 clear hrow hbw h hl hrt
 go_enter Tryz.func45, Tryz.ntmps45
 go_wp2_with fail
 refine hr.mono ?_
 rintro e w1 ⟨rfl, rfl⟩
 clear hr
 go_wp2_with fail
 go_loopw [21] (fun i v => ∃ k : Nat, k <= m /\ i = .int .i64 k /\ Row w1.heap.size v ((kk p).take k ++ List.replicate (m - k) 0) /\ Below w1.heap.size w1 v) (fun i _ => m - (intOf i).toNat)
 case atStart => exact ⟨0, by omega, rfl, by rw [List.take_zero, List.nil_append, Nat.sub_zero]; exact HR.out, HBW.out⟩
 case round =>
  clear HR HBW
  obtain ⟨k, hk, rfl, hrow, hb⟩ := hrel
  by_cases hlt : k < m
  ·have hki : (k : Int) < m := by omega
   have hlen : ((kk p).take k ++ List.replicate (m - k) (0 : Int)).length = m := by rw [List.length_append, List.length_replicate, List.length_take, HKL.out]; omega
   have hcell := hrow.cell (i := k) (by omega)
   have hfz := hrow.frozen k
   have hset := hrow.set k ((kk p).getD k 0)
   rw [Zzo p m k HKL.out hlt] at hset
   have hget := Zsr p k (by have := HL.out; omega)
   obtain ⟨g, off, rfl, hnc, hcm, hcs⟩ := HC.out (by omega)
   unfold maxLen at hcm
   have hc1 := (hb.cell (p := ⟨g, off + (2 * k), none⟩) (block_lt_of_cell (hcs (2 * k) (by omega)))).trans (hcs (2 * k) (by omega))
   have hc2 := (hb.cell (p := ⟨g, off + (2 * k + 1), none⟩) (block_lt_of_cell (hcs (2 * k + 1) (by omega)))).trans (hcs (2 * k + 1) (by omega))
   have hx0 := (HB.out _ (getD_mem (l := p) (i := 2 * k) (by have := HL.out; omega))).1
   have hy0 := (HB.out _ (getD_mem (l := p) (i := 2 * k + 1) (by have := HL.out; omega))).1
   have hx1 := Zhb HRT.out (i := 2 * k) (by have := HL.out; omega)
   have hy1 := Zhb HRT.out (i := 2 * k + 1) (by have := HL.out; omega)
   generalize ((kk p).take k ++ List.replicate (m - k) (0 : Int)).getD k 0 = z at hcell
   generalize p.getD (2 * k) 0 = x at *
   generalize p.getD (2 * k + 1) 0 = y at *
   rw [hget] at hset
   have hor := or16 hx0 hx1 hy0 hy1
   have hkm : 2 * k + 1 < 2 * m := by omega
   have hk1 : (2 * (k : Int)) < ((2 * m : Nat) : Int) := by omega
   have hk2 : (2 * (k : Int) + 1) < ((2 * m : Nat) : Int) := by omega
   have ht1 : (2 * (k : Int)).toNat = 2 * k := by omega
   have ht2 : (2 * (k : Int) + 1).toNat = 2 * k + 1 := by omega
   have HS := Hid.mk hset
   have HBB := Hid.mk hb
   clear hset hb hrow hlen hget hcs
   go_wp2_with fail
   go_region
   all_goals
    go_wp2_with fail
    exact ⟨⟨k + 1, by omega, by simp, HS.out, (HBB.out.setCell (Nat.le_refl _) _).drew⟩, by simp [intOf]; omega⟩
  ·have hki : ¬ (k : Int) < m := by omega
   have e : k = m := by omega
   subst e
   rw [Nat.sub_self, List.replicate_zero, List.append_nil, List.take_of_length_le (by rw [HKL.out]; exact Nat.le_refl _)] at hrow
   have HS := Hid.mk hrow
   have HBB := Hid.mk hb
   clear hrow hb
   go_wp2_with fail
   go_ret2
   exact ⟨⟨_, _, rfl, row_ag HS.out HKL.out HKB.out (by omega)⟩, HBB.out⟩
end Go.Proofs.YtdkpilgelgjieaaGreat.Ni
namespace Go.Proofs.YtdkpilgelgjieaaGreat.Ni
open Go.RowKit
end Go.Proofs.YtdkpilgelgjieaaGreat.Ni
namespace Go.Proofs.YtdkpilgelgjieaaGreat
open Go.RowKit
open Tr
def Pr (cs : Array Value) : Prop := ∃ (j : Nat) (v : Value), cs[j]? = some v /\ ∀ a n c, v ≠ .slice a n c
structure KpU (U : Nat -> Prop) (M : Nat) (A B : World) : Prop where
 size : A.heap.size <= B.heap.size
 keep : ∀ k cs T fr, k < M -> ¬ U k -> Pr cs -> A.heap[k]? = some (.cells cs T fr) -> B.heap[k]? = some (.cells cs T fr)
abbrev PList := List (List Int × List Int)
structure Vis (l B0 : Nat) (Z : PList) (U : Nat -> Prop) (J : PList -> World -> Prop) (Jx : World -> Prop) : Prop where
 go : ∀ {pre : PList} {W W' : World}, J pre W -> Below W.heap.size W W' -> J pre W'
 gx : ∀ {W W' : World}, Jx W -> Below W.heap.size W W' -> Jx W'
 lo : ∀ b, U b -> b < B0
 y : ∀ {pre : PList} {W : World} {M : Nat} {a a' : Option Addr} {n c n' c' : Nat} {k x : List Int}, J pre W -> (pre ++ [(k, x)]) <+: Z -> B0 <= M -> M <= W.heap.size -> Sk (fun b => M <= b) W a n c k -> Sk (fun b => M <= b) W a' n' c' x →
  YieldAt Fence.wide 0 Tryz.prog l #[.slice a n c, .slice a' n' c'] W fun e W' => (e = .returned (.bool true) /\ J (pre ++ [(k, x)]) W' /\ KpU U M W W') \/ (e = .returned (.bool false) /\ Jx W')
def RE (U : Nat -> Prop) (J : PList -> World -> Prop) (Jx : World -> Prop) (w : World) (L : PList) : Value -> World -> Prop := fun u w' => (u = .bool true /\ J L w' /\ KpU U w.heap.size w w') \/ (u = .bool false /\ Jx w')
def entsF (p : List Int) : Tr -> PList
 | no => []
 | leaf q x => [((Ni.keyP (p ++ q)).1, x)]
 | ext q c => entsF (p ++ q) c
 | br k x => (if x = [] then [] else [((Ni.keyP p).1, x)]) ++ (List.range 16).flatMap fun i => if (k i).isNo then [] else entsF (p ++ [((i : Nat) : Int)]) (k i)
def fvE (gY : Nat) : Value := .func (.func 44) #[] #[.pointer (some ⟨gY, 0, none⟩)]
def RB (U : Nat -> Prop) (J : PList -> World -> Prop) (Jx : World -> Prop) (w : World) (L : PList) : Value -> World -> Prop := fun u w' => ∃ b, u = .bool b /\ (b = true -> J L w' /\ KpU U w.heap.size w w') /\ (b = false -> Jx w')
def EC (l B0 : Nat) (Z : PList) (U : Nat -> Prop) (J : PList -> World -> Prop) (Jx : World -> Prop) (t : Tr) : Prop := ∀ {K K' : Nat -> Prop} {w : World} {v : Value} {a : Option Addr} {n c B gY : Nat} {q : List Int} {pre : PList}, Tr.Ok B t -> n + B <= 64 -> TA K w t v -> (∀ b, K b -> ¬ U b) -> Sk K' w a n c q -> (∀ b, K' b -> ¬ U b) -> Rw gY w #[.func (.yield l) #[] #[]] 56 -> ¬ U gY -> J pre w -> (pre ++ entsF q t) <+: Z -> B0 <= w.heap.size →
 MC "pergola/trie.each" v #[.slice a n c, .func (.func 44) #[] #[.pointer (some ⟨gY, 0, none⟩)]] w (RB U J Jx w (pre ++ entsF q t))
def flK (q : List Int) (k : Nat -> Tr) (j : Nat) : PList := (List.range j).flatMap fun i => if (k i).isNo then [] else entsF (q ++ [((i : Nat) : Int)]) (k i)
end Go.Proofs.YtdkpilgelgjieaaGreat
namespace Go.Proofs.YtdkpilgelgjieaaGreat
open Go.RowKit
open Go.ChangeMaps (setBlock)
section
variable {r : Option Nat} {m : Nat} {P : Program} {ds : List Deferred} {n : Nat} {Q : Exit → Act → World → Prop} {env : Env} {w w' : World} {ops : Array Oper} {l : List Oper} {o : Oper}
end
end Go.Proofs.YtdkpilgelgjieaaGreat
