/- All keys and values of any tree, one by one. -/
import Derived.Test.YtefhepcplempkaaGreatG29
import Derived.Test.YtefhepcplempkaaGreatG01
import Derived.Test.YtefhepcplempkaaGreatG18
set_option linter.unusedVariables false
set_option maxRecDepth 100000
namespace Go.Proofs.YtefhepcplempkaaGreat
open Go.RowKit
open Tr
def RB (U : Nat -> Prop) (J : PList -> World -> Prop) (Jx : World -> Prop) (w : World) (L : PList) : Value -> World -> Prop := fun u w' => ∃ b, u = .bool b /\ (b = true -> J L w' /\ KpU U w.heap.size w w') /\ (b = false -> Jx w')
theorem RE.rb {U : Nat -> Prop} {J : PList -> World -> Prop} {Jx : World -> Prop} {w : World} {L : PList} {u : Value} {w' : World} (h : RE U J Jx w L u w') : RB U J Jx w L u w' := by
 rcases h with ⟨rfl, h1, h2⟩ | ⟨rfl, h⟩
 ·exact ⟨true, rfl, fun _ => ⟨h1, h2⟩, fun e => by cases e⟩
 ·exact ⟨false, rfl, (fun e => by cases e), fun _ => h⟩
theorem Zkn {l B0 : Nat} {Z : PList} {U : Nat -> Prop} {J : PList -> World -> Prop} {Jx : World -> Prop} (V : Vis l B0 Z U J Jx) {K K' : Nat -> Prop} {w : World} {a a' : Option Addr} {n c n' c' : Nat} {p x : List Int} (hp : Sk K w a n c p) (hx : Sk K' w a' n' c' x) (hn : n <= 1000) (hn' : n' <= 1000) {gY : Nat} (hY : Rw gY w #[.func (.yield l) #[] #[]] 71) {pre : PList} (hJ : J pre w) (hN : (pre ++ [((Ni.keyP p).1, x)]) <+: Z) (hB0 : B0 <= w.heap.size) :
  Calls Tryz.prog 77 #[.slice a n c, .slice a' n' c', .pointer (some ⟨gY, 0, none⟩)] w fun e w' => ∃ u, e = .returned u /\ RB U J Jx w (pre ++ [((Ni.keyP p).1, x)]) u w' :=
 (Zye V hp hx hn hn' hY hJ hN hB0).mono (fun e w' ⟨u, e1, e2⟩ => ⟨u, e1, e2.rb⟩)
def EC (l B0 : Nat) (Z : PList) (U : Nat -> Prop) (J : PList -> World -> Prop) (Jx : World -> Prop) (t : Tr) : Prop := ∀ {K K' : Nat -> Prop} {w : World} {v : Value} {a : Option Addr} {n c B gY : Nat} {q : List Int} {pre : PList}, Tr.Ok B t -> n + B <= 64 -> TA K w t v -> (∀ b, K b -> ¬ U b) -> Sk K' w a n c q -> (∀ b, K' b -> ¬ U b) -> Rw gY w #[.func (.yield l) #[] #[]] 71 -> ¬ U gY -> J pre w -> (pre ++ entsF q t) <+: Z -> B0 <= w.heap.size →
 MC "pergola/trie.each" v #[.slice a n c, .func (.func 77) #[] #[.pointer (some ⟨gY, 0, none⟩)]] w (RB U J Jx w (pre ++ entsF q t))
theorem Zrm (x : Value) : Iv "pergola/trie.each" (.iface 131 x) 177 x := Zx3 fun w vs => by kernel_rfl
def flK (q : List Int) (k : Nat -> Tr) (j : Nat) : PList := (List.range j).flatMap fun i => if (k i).isNo then [] else entsF (q ++ [((i : Nat) : Int)]) (k i)
set_option maxHeartbeats 2000000 in
theorem Zri {l B0 : Nat} {Z : PList} {U : Nat -> Prop} {J : PList -> World -> Prop} {Jx : World -> Prop} (V : Vis l B0 Z U J Jx) {K K' : Nat -> Prop} {w : World} {a a' : Option Addr} {n c n' c' : Nat} {p x : List Int} (hp : Sk K w a n c p) (hx : Sk K w a' n' c' x) (hn2 : n' <= 256) {aq : Option Addr} {nq cq : Nat} {q : List Int} (hq : Sk K' w aq nq cq q) {gY : Nat} (hY : Rw gY w #[.func (.yield l) #[] #[]] 71) {pre : PList} (hJ : J pre w) (hN : (pre ++ [((Ni.keyP (q ++ p)).1, x)]) <+: Z) (hB0 : B0 <= w.heap.size) (h64 : nq + n <= 64) :
  Calls Tryz.prog 177 #[.agg #[.slice a n c, .slice a' n' c'], .slice aq nq cq, .func (.func 77) #[] #[.pointer (some ⟨gY, 0, none⟩)]] w fun e w' => ∃ u, e = .returned u /\ RB U J Jx w (pre ++ entsF q (leaf p x)) u w' := by
 have hB := Bl.refl w
 have lp := hp.len
 have lq := hq.len
 refine Zat Tryz.func177 rfl 16 rfl ?_
 show CW _ _ _ _ _ _ _ [(0, .agg #[.slice a n c, .slice a' n' c']), (1, .slice aq nq cq), (2, .func (.func 77) #[] #[.pointer (some ⟨gY, 0, none⟩)])] _
 refine Zac <| Zaa <| Zbk 3 (#[.slice a n c, .slice a' n' c']) 131 (fun _ => by kernel_rfl) (fun _ => by kernel_rfl) ?_
 intro w1 g2 hn3
 replace hB := hB.go hn3.below
 replace hp := hp.go hn3.below
 replace hx := hx.go hn3.below
 replace hq := hq.go hn3.below
 replace hY := hY.go hn3.below
 replace hJ := V.go hJ hn3.below
 have hr4 : Rw g2 w1 (#[.slice a n c, .slice a' n' c']) 131 := hn3.row
 refine rp 6 (.bool false) <| Zad <| Zab <| Zac <| Za7 (fun _ => True) (by kernel_rfl) (trivial) ?_
 replace hB := hB.drew
 replace hp := hp.drew
 replace hx := hx.drew
 replace hq := hq.drew
 replace hY := hY.drew
 replace hJ := V.go hJ (Below.refl _ _).drew
 replace hr4 := hr4.drew
 refine dt 0 7 (.func (.func 77) #[] #[.pointer (some ⟨gY, 0, none⟩)]) (fun v hv _ => by kernel_rfl) trivial <| dt 1 8 (.slice aq nq cq) (fun v hv _ => by kernel_rfl) trivial <| dt 2 9 (.pointer (some ⟨g2, 0, none⟩)) (fun v hv _ => by kernel_rfl) trivial <| dt 6 13 (.pointer (some ⟨g2, 1, none⟩)) (fun v hv _ => by kernel_rfl) trivial <| Zak [3, 7] (by kernel_rfl) (by simp) ?_
 refine ar_v 3 10 (.slice a n c) rfl (fun _ => by kernel_rfl) (fun _ => Zai 23 _ ⟨g2, 0, none⟩ _ _ rfl (by kernel_rfl) (by rw [cell_of_row _ _ _ _ _ _ hr4]; rfl) Tryz.underlying23 rfl) trivial ?_ ?_
 ·skip
  refine Zak [4, 7] (by kernel_rfl) (by simp) ?_
  refine Zgd 4 11 #[.slice aq nq cq, .slice a n c] 23 2 rfl (fun _ => by kernel_rfl) (fun _ => by kernel_rfl) (fun w' g h => trivial) ?_ ?_
  ·skip
   intro w5 g6 hn7
   replace hB := hB.go hn7.below
   replace hp := hp.go hn7.below
   replace hx := hx.go hn7.below
   replace hq := hq.go hn7.below
   replace hY := hY.go hn7.below
   replace hJ := V.go hJ hn7.below
   replace hr4 := hr4.go hn7.below
   have hL : Rw g6 w5 #[.slice aq nq cq, .slice a n c] 23 := hn7.row
   refine Zak [5, 7] (by kernel_rfl) (by simp) ?_
   refine Za4 5 12 183 #[.slice (some ⟨g6, 0, none⟩) 2 2] rfl (fun _ => by kernel_rfl) (fun _ => by kernel_rfl) (R := fun u w' => ∃ a2 n2 c2, u = .slice a2 n2 c2 /\ Sk (fun b => (w5).heap.size <= b) w' a2 n2 c2 (q ++ p) /\ Bl (w5) w') (Zep hq hp hL (by omega) (by omega)) (fun u w' h => trivial) ?_ ?_
   ·skip
    rintro _ u8 ⟨a3, n3, c3, rfl, hs3, hb9⟩
    have hsB := hB.size
    replace hB := hB.go hb9
    replace hp := hp.go hb9
    replace hx := hx.go hb9
    replace hq := hq.go hb9
    replace hY := hY.go hb9
    replace hJ := V.go hJ hb9
    replace hr4 := hr4.go hb9
    replace hL := hL.go hb9
    refine Zak [7] (by kernel_rfl) (by simp) ?_
    refine ar_v 7 14 (.slice a' n' c') rfl (fun _ => by kernel_rfl) (fun _ => Zai 23 _ ⟨g2, 1, none⟩ _ _ rfl (by kernel_rfl) (by rw [cell_of_row _ _ _ _ _ _ hr4]; rfl) Tryz.underlying23 rfl) trivial ?_ Zaw
    refine Zak [8] (by kernel_rfl) (by simp) ?_
    have l3 := hs3.len
    rw [List.length_append] at l3
    refine Za4 8 15 77 #[.slice a3 n3 c3, .slice a' n' c', .pointer (some ⟨gY, 0, none⟩)] rfl (fun _ => by kernel_rfl) (fun _ => by kernel_rfl) (R := RB U J Jx (u8) (pre ++ [((Ni.keyP (q ++ p)).1, x)])) (Zkn V hs3 hx (by omega) (by omega) hY hJ hN (Nat.le_trans hB0 hB.size)) (fun u w' h => trivial) ?_ Zaw
    rintro _ u8 ⟨b8, rfl, hR8, hX8⟩
    have hBk := hB
    refine dt 9 6 (.bool b8) (fun v hv _ => by kernel_rfl) trivial <| Zax (by kernel_rfl) <| Zab <| Zao ?_
    exact Zae (.bool b8) (fun _ => by kernel_rfl) ⟨_, rfl, b8, rfl, fun e => ⟨(hR8 e).1, (KpU.of_below _ hBk).trans (hR8 e).2 hBk.size⟩, hX8⟩
   refine ar_v 7 14 (.slice a' n' c') rfl (fun _ => by kernel_rfl) (fun _ => Zai 23 _ ⟨g2, 1, none⟩ _ _ rfl (by kernel_rfl) (by rw [cell_of_row _ _ _ _ _ _ hr4]; rfl) Tryz.underlying23 rfl) trivial ?_ Zaw
   refine Zak [5] (by kernel_rfl) (by simp) ?_
   refine Za4 5 12 183 #[.slice (some ⟨g6, 0, none⟩) 2 2] rfl (fun _ => by kernel_rfl) (fun _ => by kernel_rfl) (R := fun u w' => ∃ a2 n2 c2, u = .slice a2 n2 c2 /\ Sk (fun b => (w5).heap.size <= b) w' a2 n2 c2 (q ++ p) /\ Bl (w5) w') (Zep hq hp hL (by omega) (by omega)) (fun u w' h => trivial) ?_ Zaw
   rintro _ u10 ⟨a3, n3, c3, rfl, hs3, hb11⟩
   have hsB := hB.size
   replace hB := hB.go hb11
   replace hp := hp.go hb11
   replace hx := hx.go hb11
   replace hq := hq.go hb11
   replace hY := hY.go hb11
   replace hJ := V.go hJ hb11
   replace hr4 := hr4.go hb11
   replace hL := hL.go hb11
   refine Zak [8] (by kernel_rfl) (by simp) ?_
   have l3 := hs3.len
   rw [List.length_append] at l3
   refine Za4 8 15 77 #[.slice a3 n3 c3, .slice a' n' c', .pointer (some ⟨gY, 0, none⟩)] rfl (fun _ => by kernel_rfl) (fun _ => by kernel_rfl) (R := RB U J Jx (u10) (pre ++ [((Ni.keyP (q ++ p)).1, x)])) (Zkn V hs3 hx (by omega) (by omega) hY hJ hN (Nat.le_trans hB0 hB.size)) (fun u w' h => trivial) ?_ Zaw
   rintro _ u8 ⟨b8, rfl, hR8, hX8⟩
   have hBk := hB
   refine dt 9 6 (.bool b8) (fun v hv _ => by kernel_rfl) trivial <| Zax (by kernel_rfl) <| Zab <| Zao ?_
   exact Zae (.bool b8) (fun _ => by kernel_rfl) ⟨_, rfl, b8, rfl, fun e => ⟨(hR8 e).1, (KpU.of_below _ hBk).trans (hR8 e).2 hBk.size⟩, hX8⟩
  refine ar_v 7 14 (.slice a' n' c') rfl (fun _ => by kernel_rfl) (fun _ => Zai 23 _ ⟨g2, 1, none⟩ _ _ rfl (by kernel_rfl) (by rw [cell_of_row _ _ _ _ _ _ hr4]; rfl) Tryz.underlying23 rfl) trivial ?_ Zaw
  refine Zak [4] (by kernel_rfl) (by simp) ?_
  refine Zgd 4 11 #[.slice aq nq cq, .slice a n c] 23 2 rfl (fun _ => by kernel_rfl) (fun _ => by kernel_rfl) (fun w' g h => trivial) ?_ Zaw
  intro w12 g13 hn14
  replace hB := hB.go hn14.below
  replace hp := hp.go hn14.below
  replace hx := hx.go hn14.below
  replace hq := hq.go hn14.below
  replace hY := hY.go hn14.below
  replace hJ := V.go hJ hn14.below
  replace hr4 := hr4.go hn14.below
  have hL : Rw g13 w12 #[.slice aq nq cq, .slice a n c] 23 := hn14.row
  refine Zak [5] (by kernel_rfl) (by simp) ?_
  refine Za4 5 12 183 #[.slice (some ⟨g13, 0, none⟩) 2 2] rfl (fun _ => by kernel_rfl) (fun _ => by kernel_rfl) (R := fun u w' => ∃ a2 n2 c2, u = .slice a2 n2 c2 /\ Sk (fun b => (w12).heap.size <= b) w' a2 n2 c2 (q ++ p) /\ Bl (w12) w') (Zep hq hp hL (by omega) (by omega)) (fun u w' h => trivial) ?_ Zaw
  rintro _ u15 ⟨a3, n3, c3, rfl, hs3, hb16⟩
  have hsB := hB.size
  replace hB := hB.go hb16
  replace hp := hp.go hb16
  replace hx := hx.go hb16
  replace hq := hq.go hb16
  replace hY := hY.go hb16
  replace hJ := V.go hJ hb16
  replace hr4 := hr4.go hb16
  replace hL := hL.go hb16
  refine Zak [8] (by kernel_rfl) (by simp) ?_
  have l3 := hs3.len
  rw [List.length_append] at l3
  refine Za4 8 15 77 #[.slice a3 n3 c3, .slice a' n' c', .pointer (some ⟨gY, 0, none⟩)] rfl (fun _ => by kernel_rfl) (fun _ => by kernel_rfl) (R := RB U J Jx (u15) (pre ++ [((Ni.keyP (q ++ p)).1, x)])) (Zkn V hs3 hx (by omega) (by omega) hY hJ hN (Nat.le_trans hB0 hB.size)) (fun u w' h => trivial) ?_ Zaw
  rintro _ u8 ⟨b8, rfl, hR8, hX8⟩
  have hBk := hB
  refine dt 9 6 (.bool b8) (fun v hv _ => by kernel_rfl) trivial <| Zax (by kernel_rfl) <| Zab <| Zao ?_
  exact Zae (.bool b8) (fun _ => by kernel_rfl) ⟨_, rfl, b8, rfl, fun e => ⟨(hR8 e).1, (KpU.of_below _ hBk).trans (hR8 e).2 hBk.size⟩, hX8⟩
 refine ar_v 7 14 (.slice a' n' c') rfl (fun _ => by kernel_rfl) (fun _ => Zai 23 _ ⟨g2, 1, none⟩ _ _ rfl (by kernel_rfl) (by rw [cell_of_row _ _ _ _ _ _ hr4]; rfl) Tryz.underlying23 rfl) trivial ?_ Zaw
 refine Zak [3] (by kernel_rfl) (by simp) ?_
 refine ar_v 3 10 (.slice a n c) rfl (fun _ => by kernel_rfl) (fun _ => Zai 23 _ ⟨g2, 0, none⟩ _ _ rfl (by kernel_rfl) (by rw [cell_of_row _ _ _ _ _ _ hr4]; rfl) Tryz.underlying23 rfl) trivial ?_ Zaw
 refine Zak [4] (by kernel_rfl) (by simp) ?_
 refine Zgd 4 11 #[.slice aq nq cq, .slice a n c] 23 2 rfl (fun _ => by kernel_rfl) (fun _ => by kernel_rfl) (fun w' g h => trivial) ?_ Zaw
 intro w17 g18 hn19
 replace hB := hB.go hn19.below
 replace hp := hp.go hn19.below
 replace hx := hx.go hn19.below
 replace hq := hq.go hn19.below
 replace hY := hY.go hn19.below
 replace hJ := V.go hJ hn19.below
 replace hr4 := hr4.go hn19.below
 have hL : Rw g18 w17 #[.slice aq nq cq, .slice a n c] 23 := hn19.row
 refine Zak [5] (by kernel_rfl) (by simp) ?_
 refine Za4 5 12 183 #[.slice (some ⟨g18, 0, none⟩) 2 2] rfl (fun _ => by kernel_rfl) (fun _ => by kernel_rfl) (R := fun u w' => ∃ a2 n2 c2, u = .slice a2 n2 c2 /\ Sk (fun b => (w17).heap.size <= b) w' a2 n2 c2 (q ++ p) /\ Bl (w17) w') (Zep hq hp hL (by omega) (by omega)) (fun u w' h => trivial) ?_ Zaw
 rintro _ u20 ⟨a3, n3, c3, rfl, hs3, hb21⟩
 have hsB := hB.size
 replace hB := hB.go hb21
 replace hp := hp.go hb21
 replace hx := hx.go hb21
 replace hq := hq.go hb21
 replace hY := hY.go hb21
 replace hJ := V.go hJ hb21
 replace hr4 := hr4.go hb21
 replace hL := hL.go hb21
 refine Zak [8] (by kernel_rfl) (by simp) ?_
 have l3 := hs3.len
 rw [List.length_append] at l3
 refine Za4 8 15 77 #[.slice a3 n3 c3, .slice a' n' c', .pointer (some ⟨gY, 0, none⟩)] rfl (fun _ => by kernel_rfl) (fun _ => by kernel_rfl) (R := RB U J Jx (u20) (pre ++ [((Ni.keyP (q ++ p)).1, x)])) (Zkn V hs3 hx (by omega) (by omega) hY hJ hN (Nat.le_trans hB0 hB.size)) (fun u w' h => trivial) ?_ Zaw
 rintro _ u8 ⟨b8, rfl, hR8, hX8⟩
 have hBk := hB
 refine dt 9 6 (.bool b8) (fun v hv _ => by kernel_rfl) trivial <| Zax (by kernel_rfl) <| Zab <| Zao ?_
 exact Zae (.bool b8) (fun _ => by kernel_rfl) ⟨_, rfl, b8, rfl, fun e => ⟨(hR8 e).1, (KpU.of_below _ hBk).trans (hR8 e).2 hBk.size⟩, hX8⟩
end Go.Proofs.YtefhepcplempkaaGreat
namespace Go.Proofs.YtefhepcplempkaaGreat
open Go.RowKit
open Go.ChangeMaps (setBlock)
section
variable {r : Option Nat} {m : Nat} {P : Program} {ds : List Deferred} {n : Nat} {Q : Exit → Act → World → Prop} {env : Env} {w w' : World} {ops : Array Oper} {l : List Oper} {o : Oper}
end
end Go.Proofs.YtefhepcplempkaaGreat
namespace Go.Proofs.YtefhepcplempkaaGreat
open Go.RowKit
open Tr
theorem Zpb {a b : World} (h : Below a.heap.size a b) : a.grownBy b none := ⟨h.os, h.tape, h.output, h.size, fun k hk _ => h.block k hk⟩
set_option maxHeartbeats 1000000 in
theorem Zw6 {w : World} {g : Nat} :
  Calls Tryz.prog 53 #[.pointer (some ⟨g, 0, none⟩)] w fun e w' => ∃ u, e = .returned u /\ (fun u w' => (∃ gB, u = .func (.func 76) #[] #[.pointer (some ⟨gB, 0, none⟩)] /\ Rw gB w' #[.pointer (some ⟨g, 0, none⟩)] 25 /\ w.heap.size <= gB) /\ Bl w w') u w' := by
 have hB := Bl.refl w
 refine Zat Tryz.func53 rfl 4 rfl ?_
 show CW _ _ _ _ _ _ _ [(0, .pointer (some ⟨g, 0, none⟩))] _
 refine Zac <| Zaa <| Zbk 1 (#[.pointer (some ⟨g, 0, none⟩)]) 25 (fun _ => by kernel_rfl) (fun _ => by kernel_rfl) ?_
 intro w1 g2 hn3
 replace hB := hB.go hn3.below
 have hr4 : Rw g2 w1 (#[.pointer (some ⟨g, 0, none⟩)]) 25 := hn3.row
 refine rp 2 (.nilFunc) <| Zad <| Zab <| Zac <| Zaa <| rp 3 (.func (.func 76) #[] #[.pointer (some ⟨g2, 0, none⟩)]) <| rp 2 (.func (.func 76) #[] #[.pointer (some ⟨g2, 0, none⟩)]) <| Zad <| Zab <| Zao ?_
 exact Zae (.func (.func 76) #[] #[.pointer (some ⟨g2, 0, none⟩)]) (fun _ => by kernel_rfl) ⟨_, rfl, ⟨g2, rfl, hr4, by rw [hn3.hg]; exact Nat.le_refl _⟩, hB⟩
def KpR (U : Nat -> Prop) (A B : World) : Prop := KpU U A.heap.size A B
def Cnt (w : World) (gN : Nat) (xs : List (Value × Value)) (W : World) : Prop := Rw gN W #[.int .i64 ((xs.length : Nat) : Int)] 3 /\ Bl w W
end Go.Proofs.YtefhepcplempkaaGreat
namespace Go.Proofs.YtefhepcplempkaaGreat
open Tr
open Ni (lessP)
def entsR : Tr -> PList
 | no => []
 | leaf q x => [(q, x)]
 | ext q c => (entsR c).map fun e => (q ++ e.1, e.2)
 | br k x => (if x = [] then [] else [([], x)]) ++ (List.range 16).flatMap fun i => (entsR (k i)).map fun e => (((i : Nat) : Int) :: e.1, e.2)
def SrtP (l : PList) : Prop := l.Pairwise fun e f => lessP e.1 f.1 = true
def Byk (k : List Int) : Prop := ∀ y ∈ k, 0 <= y /\ y < 256
def atN (k : List Int) : PList -> Nat
 | [] => 0
 | e :: r => if lessP e.1 k then atN k r + 1 else 0
def isAt (k : List Int) (l : PList) : Bool := match l[atN k l]? with
 | some e => decide (e.1 = k)
 | none => false
def putR (k x : List Int) : PList -> PList
 | [] => [(k, x)]
 | e :: r => if lessP e.1 k then e :: putR k x r else if e.1 = k then (k, x) :: r else (k, x) :: e :: r
def delR (k : List Int) : PList -> PList
 | [] => []
 | e :: r => if lessP e.1 k then e :: delR k r else if e.1 = k then r else e :: r
end Go.Proofs.YtefhepcplempkaaGreat
namespace Go.Proofs.YtefhepcplempkaaGreat
open Go.RowKit
open Tr
structure Opx where
 z : Int
 ka : Option Addr
 kn : Nat
 kc : Nat
 va : Option Addr
 vn : Nat
 vc : Nat
 k : List Int
 x : List Int
def Opx.cells (y : Opx) : Array Value := #[.int .i64 y.z, .slice y.ka y.kn y.kc, .slice y.va y.vn y.vc]
def An : Nat -> Prop := fun _ => True
structure OAt (w : World) (a : Option Addr) (n : Nat) (xs : List Opx) : Prop where
 len : xs.length = n
 row : ∀ j y, xs[j]? = some y -> ∃ g off, a = some ⟨g, off, none⟩ /\ w.rangeAt g (off + j * 3) y.cells.toList
 k : ∀ y ∈ xs, Ag w y.ka y.kn y.kc y.k
 x : ∀ y ∈ xs, Ag w y.va y.vn y.vc y.x
end Go.Proofs.YtefhepcplempkaaGreat
