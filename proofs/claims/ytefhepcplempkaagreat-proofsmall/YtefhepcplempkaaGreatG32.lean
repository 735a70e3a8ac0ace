/- What Verify tells of what Prove tells. -/
import Derived.Test.YtefhepcplempkaaGreatG30
import Derived.Test.YtefhepcplempkaaGreatG31
import Derived.Test.YtefhepcplempkaaGreatG24
import Derived.Test.YtefhepcplempkaaGreatG23
import Derived.Test.YtefhepcplempkaaGreatG15
import Derived.Test.YtefhepcplempkaaGreatG25
import Derived.Test.YtefhepcplempkaaGreatG00
set_option linter.unusedVariables false
set_option maxRecDepth 100000
namespace Go.Proofs.YtefhepcplempkaaGreat
open Go.RowKit
open Tr
open Di (dref)
theorem Zjd {kp pre r : List Int} (h : ¬ kp.take pre.length = pre) : ¬ kp.take (pre ++ r).length = pre ++ r := fun e => h (by
 have := congrArg (List.take pre.length) e
 rw [List.take_take, List.take_left, Nat.min_eq_left (by rw [List.length_append]; omega)] at this
 exact this)
theorem Zj2 {kp : List Int} : ∀ (t : Tr) {pre : List Int}, ¬ kp.take pre.length = pre -> wyN kp t pre = [] := by
 intro t
 induction t with
 | no => intro pre _; rfl
 | leaf _ _ => intro pre _; rfl
 | ext q c ih => intro pre h; rw [wyN, ih (Zjd h), wy1, if_neg (fun e => Zjd h e.2)]; rfl
 | br k x ih =>
  intro pre h
  rw [wyN, List.flatMap_eq_nil_iff]
  intro i _
  split
  ·rfl
  ·rw [ih i (Zjd h), wy1, if_neg (fun e => Zjd h e.2)]; rfl
theorem Ziu {kp pre : List Int} {t : Tr} (h : ¬ kp.take pre.length = pre) : wy1 kp pre t = [] := by rw [wy1, if_neg (fun e => h e.2)]
theorem Zqq (pre p q : List Int) : (pre ++ p).take (pre ++ q).length = pre ++ q ↔ p.take q.length = q := by
 rw [List.length_append, List.take_append, List.take_of_length_le (by omega : pre.length <= pre.length + q.length), show pre.length + q.length - pre.length = q.length from by omega]
 exact ⟨fun h => List.append_cancel_left h, fun h => by rw [h]⟩
theorem Zy4 (pre p : List Int) (k : Nat -> Tr) (x : List Int) {i : Nat} (hi : i < 16) : wyN (pre ++ ((i : Nat) : Int) :: p) (br k x) pre = if (k i).isNo then [] else wyN (pre ++ ((i : Nat) : Int) :: p) (k i) (pre ++ [((i : Nat) : Int)]) ++ wy1 (pre ++ ((i : Nat) : Int) :: p) (pre ++ [((i : Nat) : Int)]) (k i) := by
 rw [wyN]
 have : (fun j : Nat => if (k j).isNo then [] else wyN (pre ++ ((i : Nat) : Int) :: p) (k j) (pre ++ [((j : Nat) : Int)]) ++ wy1 (pre ++ ((i : Nat) : Int) :: p) (pre ++ [((j : Nat) : Int)]) (k j)) = fun j => if j = i then (if (k i).isNo then [] else wyN (pre ++ ((i : Nat) : Int) :: p) (k i) (pre ++ [((i : Nat) : Int)]) ++ wy1 (pre ++ ((i : Nat) : Int) :: p) (pre ++ [((i : Nat) : Int)]) (k i)) else [] := by
  funext j
  by_cases e : j = i
  ·subst e; simp
  ·rw [if_neg e]
   have hoff : ¬ (pre ++ ((i : Nat) : Int) :: p).take (pre ++ [((j : Nat) : Int)]).length = pre ++ [((j : Nat) : Int)] := by
    rw [Zqq]
    simp
    omega
   split
   ·rfl
   ·rw [Zj2 _ hoff, Ziu hoff]; rfl
 rw [this, Zno, if_pos hi]
theorem Zvi (pre : List Int) (k : Nat -> Tr) (x : List Int) : wyN pre (br k x) pre = [] := by
 rw [wyN, List.flatMap_eq_nil_iff]
 intro i _
 have hoff : ¬ pre.take (pre ++ [((i : Nat) : Int)]).length = pre ++ [((i : Nat) : Int)] := fun e => by
  have := congrArg List.length e
  simp at this
 split
 ·rfl
 ·rw [Zj2 _ hoff, Ziu hoff]; rfl
def Nv (r : PR) (t : Tr) (M M' : List (List Int)) : Prop := (r.k = 2 /\ r.d = dref (encT t) /\ M = encT t :: M') \/ (r.k = 1 /\ r.i = encT t /\ M = M')
theorem Zy3 : ∀ (t : Tr) {B : Nat}, Tr.Ok B t -> ∀ (kp pre : List Int), (wyN kp t pre).length <= B := by
 intro t
 have h1 : ∀ (kp pre : List Int) (t : Tr), (wy1 kp pre t).length <= 1 := fun kp pre t => by unfold wy1; split <;> simp
 induction t with
 | no => intro B h; exact h.elim
 | leaf _ _ => intro B _ kp pre; simp [wyN]
 | ext q c ih =>
  intro B hO kp pre
  have := ih hO.2.2.2.2 kp (pre ++ q)
  have := h1 kp (pre ++ q) c
  have := List.length_pos_iff.2 hO.2.1
  have := hO.2.2.1
  rw [wyN, List.length_append]; omega
 | br k x ih =>
  intro B hO kp pre
  by_cases hon : kp.take pre.length = pre
  ·obtain ⟨p, rfl⟩ : ∃ p, kp = pre ++ p := ⟨kp.drop pre.length, by have h9 := List.take_append_drop pre.length kp; rw [hon] at h9; exact h9.symm⟩
   cases p with
   | nil => rw [List.append_nil, Zvi]; simp
   | cons i p =>
    by_cases hi : 0 <= i /\ i < 16
    ·obtain ⟨m, rfl⟩ : ∃ m : Nat, i = ((m : Nat) : Int) := ⟨i.toNat, by omega⟩
     rw [Zy4 pre p k x (by omega)]
     split
     ·simp
     ·rename_i hno
      obtain ⟨_, o2, o3⟩ := (hO.1 m).resolve_left (fun e => hno (by rw [e]; rfl))
      have := ih m o3 (pre ++ ((m : Nat) : Int) :: p) (pre ++ [((m : Nat) : Int)])
      have := h1 (pre ++ ((m : Nat) : Int) :: p) (pre ++ [((m : Nat) : Int)]) (k m)
      rw [List.length_append]; omega
    ·rw [wyN, show ((List.range 16).flatMap fun j => if (k j).isNo then [] else wyN (pre ++ i :: p) (k j) (pre ++ [((j : Nat) : Int)]) ++ wy1 (pre ++ i :: p) (pre ++ [((j : Nat) : Int)]) (k j)) = [] from by
      rw [List.flatMap_eq_nil_iff]
      intro j hj
      have hoff : ¬ (pre ++ i :: p).take (pre ++ [((j : Nat) : Int)]).length = pre ++ [((j : Nat) : Int)] := by
       rw [Zqq]; rw [List.mem_range] at hj; simp; omega
      split
      ·rfl
      ·rw [Zj2 _ hoff, Ziu hoff]; rfl]
     simp
  ·rw [Zj2 _ hon]; simp
end Go.Proofs.YtefhepcplempkaaGreat
namespace Go.Proofs.YtefhepcplempkaaGreat
open Go.RowKit
open Tr
open Di (dref)
theorem alive_rel : Rel (leaf [6, 1] [1]) [([97], [1])] := by
 have h := Rel.nil.put (k := [97]) (x := [1]) (fun i hi => by simp at hi; omega)
 rw [Zir] at h
 exact h
theorem Zs1 : prvP (leaf [6, 1] [1]) [98] = [[196, 130, 32, 97, 1]] := by rw [<- Zlh]; rfl
theorem Zy2 : ∀ (kp : List Int) (t : Tr) (pre : List Int), ∀ b ∈ wyN kp t pre, b ∈ nmd t := by
 intro kp t
 have h1 : ∀ {pre : List Int} {t : Tr} {b : List Int}, b ∈ wy1 kp pre t -> b ∈ nm1 (encT t) := fun {pre t b} h => by
  unfold wy1 at h
  split at h
  ·rename_i hc
   unfold nm1; rw [if_neg (by omega)]; exact h
  ·cases h
 induction t with
 | no => intro pre b h; cases h
 | leaf _ _ => intro pre b h; cases h
 | ext q c ih =>
  intro pre b h
  rw [wyN, List.mem_append] at h
  simp only [nmd, List.mem_append]
  exact h.imp (ih _ b) h1
 | br k x ih =>
  intro pre b h
  simp only [wyN, List.mem_flatMap, List.mem_range] at h
  obtain ⟨i, hi, h⟩ := h
  simp only [nmd, List.mem_flatMap, List.mem_range]
  refine ⟨i, hi, ?_⟩
  split at h
  ·cases h
  ·rename_i hno
   rw [if_neg hno, List.mem_append]
   rw [List.mem_append] at h
   exact h.imp (ih i _ b) h1
theorem Zqj {K K1 : Nat -> Prop} {w : World} {g : Nat} {t : Tr} {L : PList} (hT : Tri K w g t) (hRel : Rel t L) (hLn : L.length <= 2932031007390) {a : Option Addr} {n c : Nat} {k : List Int} (hk : Sk K1 w a n c k) (hn : n <= 32) :
  Calls Tryz.prog 11 #[.pointer (some ⟨g, 0, none⟩), .slice a n c] w fun e w' => ∃ u, e = .returned u /\ (∃ v base, u = .tuple #[v, .int .i64 0] /\ w.heap.size <= base /\ OwnS w' base v (prvP t k)) /\ Bl w w' := by
 rcases hRel.ok with h | h
 ·exact Zt0 hT hRel hLn hk hn h
 ·exact Zko hT hRel hLn hk hn h (by obtain ⟨⟨v, _, h2⟩, _⟩ := hT; exact h2.vb) (by have := Zy3 t h (Ni.nib k) []; omega)
theorem Cut.skL {w : World} {base : Nat} {a : Option Addr} {n : Nat} {bs : List Int} (h : Ni.Cut w base a n bs) : Sk (fun _ => True) w a n n bs := ⟨h.ag, fun _ _ _ => trivial⟩
theorem Z0m {w w' : World} {b : List Int} {N : PN} (hd : ND b = some N) {e : Ending} (h : DPost w (ND b) e w') : ∃ u, e = .returned u /\ (∃ z : NV, u = .tuple #[.agg z.cells.toArray, .int .i64 0] /\ NodeAt (fun g => w.heap.size <= g) w' z N) /\ Bl w w' := by
 obtain ⟨hb, hm⟩ := h
 rw [hd] at hm
 obtain ⟨y, e1, hy⟩ := hm
 exact ⟨_, e1, ⟨y, rfl, hy.go (fun g hg _ => ⟨rfl, hg.1⟩)⟩, hb⟩
def OpL (w : World) (N : PN) : Value -> World -> Prop := fun u w' => (∃ (z : NV) (a : Option Addr) (c : Nat), u = .tuple #[.agg z.cells.toArray, .slice a 0 c, .bool true] /\ NodeAt (fun _ => True) w' z N) /\ Bl w w'
set_option maxHeartbeats 4000000 in
theorem Zxn {K K1 : Nat -> Prop} {w : World} {y : RV} {a : Option Addr} {n c : Nat} {b : List Int} {N : PN} (hy : RefAt K1 w y ⟨2, dref b, []⟩) (hL : Bt K w a n [b]) (hbl : b.length <= 140737488351232) (hd : ND b = some N) :
  Calls Tryz.prog 68 #[.agg y.cells.toArray, .slice a n c] w fun e w' => ∃ u, e = .returned u /\ OpL w N u w' := by
 have hB := Bl.refl w
 have hn1 : 1 = n := hL.len
 subst hn1
 have hyl := hy.len
 have hk2 := hy.1
 obtain ⟨g1, o1, a1, n1, c1, ea, hc1, hs1⟩ := hL.row 0 (by omega)
 subst ea
 rw [List.getD_cons_zero] at hs1
 have hl1 := hs1.len
 rw [Nat.zero_mul, Nat.add_zero] at hc1
 refine Zaj Tryz.func68 rfl 42 rfl ?_
 show CW _ _ _ _ _ _ _ [(0, .agg y.cells.toArray), (1, .slice (some ⟨g1, o1, none⟩) 1 c)] _
 refine Zac <| Zaa <| Zax 2 y.cells.toArray 65 (fun _ => by kernel_rfl) (fun _ => by kernel_rfl) ?_
 intro w1 gR hnR
 have hR : Rw gR w1 y.cells.toArray 65 := hnR.row
 replace hB := hB.go hnR.below
 replace hs1 := hs1.go hnR.below
 refine Zax 4 nz.cells.toArray 68 (fun _ => by kernel_rfl) (fun _ => by kernel_rfl) ?_
 intro w2 g4 hn4
 have h4 : Rw g4 w2 nz.cells.toArray 68 := hn4.row
 have hg4 : w.heap.size <= g4 := by rw [hn4.hg]; exact hB.size
 replace hB := hB.go hn4.below
 replace hs1 := hs1.go hn4.below
 replace hR := hR.go hn4.below
 have hV := Bl.refl w2
 have hR0 := hR
 have hc2 := (Below.cell hB (block_lt_of_cell hc1)).trans hc1
 refine rp 5 (.slice none 0 0) <| rp 6 (.bool false) <| Zad <| Zab <| Zac <| Zaa <| rp 10 (.pointer (some ⟨gR, 33, none⟩)) <| rv 11 (.slice y.a y.n y.c) (fun _ => Zah 23 _ ⟨gR, 33, none⟩ _ _ rfl (by kernel_rfl) (by rw [cell_of_row _ _ _ _ _ _ hR]; exact Zzq hyl) Tryz.underlying23 rfl) <| rp 7 (.slice y.a y.n y.c) <| Zad <| Zab <| Zac ?_
 refine Zac <| Zaa <| rp 12 (.pointer (some ⟨gR, 0, none⟩)) <| rv 13 (.int .i64 y.k) (fun _ => Zah 3 _ ⟨gR, 0, none⟩ _ _ rfl (by kernel_rfl) (by rw [cell_of_row _ _ _ _ _ _ hR]; exact r_at0 y) Tryz.underlying3 rfl) <| rv 14 (.bool true) (fun _ => Zag (v := .bool ((y.k : Int) == (2 : Int))) (by kernel_rfl) (congrArg Value.bool (beq_iff_eq.2 (by rw [hk2])))) <| Zad <| Zab <| Zak (fun _ => by kernel_rfl) <| Zac <| Zac <| Zaz (fun v => Bl w2 v) (by kernel_rfl) ((Bl.refl w2).drew) ?_
 replace hB := hB.drew
 replace hs1 := hs1.drew
 replace hR := hR.drew
 replace h4 := h4.drew
 replace hV := hV.drew
 refine dt 0 15 (.slice (some ⟨g1, o1, none⟩) 1 c) (fun v hv _ => by kernel_rfl) hV <| dt 1 16 (.int .i64 1) (fun v hv _ => by kernel_rfl) hV <| dt 2 17 (.bool false) (fun v hv _ => by kernel_rfl) hV <| dt 3 18 (.bool false) (fun v hv _ => by kernel_rfl) hV <| dt 4 19 (.slice (some ⟨g1, o1, none⟩) 1 c) (fun v hv _ => by kernel_rfl) hV <| dt 5 20 (.pointer (some ⟨g1, o1 + 0 * 1, none⟩)) (fun v hv _ => Zau 28 _ _ g1 o1 0 1 c 1 23 rfl (by kernel_rfl) (by kernel_rfl) (by omega) Tryz.underlying28 (by kernel_rfl)) hV <| dt 6 21 (.slice a1 n1 c1) (fun v hv _ => Zah 23 _ _ _ _ rfl (by kernel_rfl) ((Below.cell hv (block_lt_of_cell hc2)).trans hc2) Tryz.underlying23 rfl) hV <| dt 8 23 (.pointer (some ⟨gR, 1, none⟩)) (fun v hv _ => by kernel_rfl) hV <| dt 9 24 (.agg (B8 y.d)) (fun v hv _ => Zvz 35 _ gR 1 (y.d.map (Value.int .u8)) _ rfl (by kernel_rfl) (r_dig (Zod (hR0.go hv)) hyl) Tryz.underlying35 rfl (by rw [Zx8, List.length_map, hyl])) hV <| Zaf [7] (by kernel_rfl) (by simp) ?_
 refine Zat 7 22 39 #[.slice a1 n1 c1] rfl (fun _ => by kernel_rfl) (fun _ => by kernel_rfl) (R := fun u w' => u = .agg (B8 (dref b)) /\ Bl (w2.drew) w') ((Zjq a1 n1 c1 b (w2.drew) hs1.ag (by omega)).mono (fun e w' h => ⟨_, h.1, rfl, h.2⟩)) (fun u w' h => hV.go h.2) ?_ Zam
 rintro _ u3 ⟨rfl, hb3⟩
 replace hB := hB.go hb3
 replace hs1 := hs1.go hb3
 replace hR := hR.go hb3
 replace h4 := h4.go hb3
 replace hV := hV.go hb3
 refine dt 10 25 (.bool false) (fun v hv _ => Zag (Zxq (ds := dref b) (es := y.d) rfl (by kernel_rfl) (by kernel_rfl) (dref_len _) hyl) (by rw [hy.2.1]; simp)) hV <| dt 11 26 (.bool false) (fun v hv _ => by kernel_rfl) hV <| Zas (by kernel_rfl) <| Zab <| Zai (fun _ => by kernel_rfl) <| Zan <| Zab <| Zaz (fun v => Bl w2 v) (by kernel_rfl) (hV.drew) ?_
 replace hB := hB.drew
 replace hs1 := hs1.drew
 replace hR := hR.drew
 replace h4 := h4.drew
 replace hV := hV.drew
 refine dt 0 28 (.slice (some ⟨g1, o1, none⟩) 1 c) (fun v hv _ => by kernel_rfl) hV <| dt 1 29 (.pointer (some ⟨g1, o1 + 0 * 1, none⟩)) (fun v hv _ => Zau 28 _ _ g1 o1 0 1 c 1 23 rfl (by kernel_rfl) (by kernel_rfl) (by omega) Tryz.underlying28 (by kernel_rfl)) hV <| dt 2 30 (.slice a1 n1 c1) (fun v hv _ => Zah 23 _ _ _ _ rfl (by kernel_rfl) ((Below.cell hv (block_lt_of_cell hc2)).trans hc2) Tryz.underlying23 rfl) hV <| dt 3 31 (.slice (some ⟨g1, o1, none⟩) 1 c) (fun v hv _ => by kernel_rfl) hV <| dt 4 32 (.slice (if c = 1 then some ⟨g1, o1, none⟩ else (some ⟨g1, o1, none⟩ : Option Addr).map (·.add (1 * 1))) (1 - 1) (c - 1)) (fun v hv _ => Zxr 1 _ _ rfl (by kernel_rfl) (by kernel_rfl) rfl (by omega)) hV <| dt 5 7 (.slice a1 n1 c1) (fun v hv _ => by kernel_rfl) hV <| dt 6 1 (.slice (if c = 1 then some ⟨g1, o1, none⟩ else (some ⟨g1, o1, none⟩ : Option Addr).map (·.add (1 * 1))) (1 - 1) (c - 1)) (fun v hv _ => by kernel_rfl) hV <| Zas (by kernel_rfl) <| Zab <| Zac <| Zaa <| rp 34 (.slice a1 n1 c1) ?_
 have h40 := lt_of_get h4
 refine Zao 35 94 #[.slice a1 n1 c1] (fun _ => by kernel_rfl) (fun _ => by kernel_rfl) (R := fun u w' => (∃ z : NV, u = .tuple #[.agg z.cells.toArray, .int .i64 0] /\ NodeAt (fun g => (u3.drew).heap.size <= g) w' z N) /\ Bl (u3.drew) w') ((Zhc b a1 n1 c1 (u3.drew) hs1.ag (by omega)).mono (fun e w' h => Z0m hd h)) ?_
 rintro _ u4 ⟨⟨z, rfl, hz⟩, hb4⟩
 replace hB := hB.go hb4
 replace hs1 := hs1.go hb4
 replace hR := hR.go hb4
 replace h4 := h4.go hb4
 replace hV := hV.go hb4
 have hzl := hz.c.len
 have hBu := hB
 have h4u := h4
 refine rp 33 (.tuple #[.agg z.cells.toArray, .int .i64 0]) <| rp 36 (.agg z.cells.toArray) <| rp 37 (.int .i64 0) <| Zax 8 nz.cells.toArray 68 (fun _ => by kernel_rfl) (fun _ => by kernel_rfl) ?_
 intro w5 g8 hn8
 have h8 : Rw g8 w5 nz.cells.toArray 68 := hn8.row
 have hg8 := hn8.hg
 replace hB := hB.go hn8.below
 replace hs1 := hs1.go hn8.below
 replace hR := hR.go hn8.below
 replace h4 := h4.go hn8.below
 replace hV := hV.go hn8.below
 refine Zbm g8 z.cells.toArray (fun _ => by kernel_rfl) (fun _ => Za3 68 _ _ _ _ _ _ rfl (by kernel_rfl) (by kernel_rfl) h8 (by rw [Zc1, Zbn hzl]) (by rw [Zbn hzl]; rfl) (Zew _)) ?_
 intro w6 hp8
 replace h8 : Rw g8 w6 z.cells.toArray 68 := hp8.row h8
 have hb6 : Bl u4 w6 := hp8.below hn8.below (by rw [hg8]; exact Nat.le_refl _) hn8.below.size
 replace hB : Bl w w6 := hBu.go hb6
 replace h4 := h4u.go hb6
 refine rp 9 (.int .i64 0) <| Zad <| Zab <| Zac <| Zaa <| rv 38 (.agg z.cells.toArray) (fun _ => Zb8 68 _ _ _ _ _ _ rfl (by kernel_rfl) h8 Tryz.underlying68 rfl (by rw [Zc1, Zbn hzl])) <| rp 39 (.slice (if c = 1 then some ⟨g1, o1, none⟩ else (some ⟨g1, o1, none⟩ : Option Addr).map (·.add (1 * 1))) (1 - 1) (c - 1)) <| rp 40 (.int .i64 0) <| rp 41 (.bool true) <| Zbm g4 z.cells.toArray (fun _ => by kernel_rfl) (fun _ => Za3 68 _ _ _ _ _ _ rfl (by kernel_rfl) (by kernel_rfl) h4 (by rw [Zc1, Zbn hzl]) (by rw [Zbn hzl]; rfl) (Zew _)) ?_
 intro w7 hp4
 have hB7 : Bl w w7 := hp4.below hB hg4 hB.size
 have h4z : Rw g4 w7 z.cells.toArray 68 := hp4.row h4
 refine rp 5 (.slice (if c = 1 then some ⟨g1, o1, none⟩ else (some ⟨g1, o1, none⟩ : Option Addr).map (·.add (1 * 1))) (1 - 1) (c - 1)) <| rp 6 (.bool true) <| Zad <| Zab <| Zap ?_
 exact Zae (.tuple #[.agg z.cells.toArray, .slice (if c = 1 then some ⟨g1, o1, none⟩ else (some ⟨g1, o1, none⟩ : Option Addr).map (·.add (1 * 1))) (1 - 1) (c - 1), .bool true]) (fun _ => Zof rfl _ g4 z hzl (by kernel_rfl) (by kernel_rfl) (by kernel_rfl) h4z) ⟨_, rfl, ⟨z, _, _, rfl, hz.go (fun g hg hl => ⟨(hp4.other (by omega)).trans (Below.block hb6 g hl), trivial⟩)⟩, hB7⟩
set_option maxHeartbeats 4000000 in
theorem Zr3 {K : Nat -> Prop} {w : World} {z : NV} {N : PN} {a : Option Addr} {n c : Nat} (hz : NodeAt K w z N) (hk1 : N.k = 1) :
  Calls Tryz.prog 69 #[.agg z.cells.toArray, .slice a n c] w fun e w' => ∃ u, e = .returned u /\ (fun u w' => u = .tuple #[.agg rz.cells.toArray, .slice none 0 0, .bool false] /\ Bl w w') u w' := by
 have hB := Bl.refl w
 have hzl := hz.c.len
 have hz0 := hz
 refine Zaj Tryz.func69 rfl 48 rfl ?_
 show CW _ _ _ _ _ _ _ [(0, .agg z.cells.toArray), (1, .slice a n c)] _
 refine Zac <| Zaa <| Zax 2 z.cells.toArray 68 (fun _ => by kernel_rfl) (fun _ => by kernel_rfl) ?_
 intro w1 gN hnN
 have hN1 : Rw gN w1 z.cells.toArray 68 := hnN.row
 replace hB := hB.go hnN.below
 refine Zax 4 rz.cells.toArray 65 (fun _ => by kernel_rfl) (fun _ => by kernel_rfl) ?_
 intro w2 g4 hn4
 have h4 : Rw g4 w2 rz.cells.toArray 65 := hn4.row
 have hg4 : w.heap.size <= g4 := by rw [hn4.hg]; exact hB.size
 replace hB := hB.go hn4.below
 replace hN1 := hN1.go hn4.below
 refine rp 5 (.slice none 0 0) <| rp 6 (.bool false) <| Zad <| Zab <| Zac <| Zar <| Zac <| Zaa <| rp 9 (.pointer (some ⟨gN, 0, none⟩)) <| rv 10 (.int .i64 z.k) (fun _ => Zah 3 _ ⟨gN, 0, none⟩ _ _ rfl (by kernel_rfl) (by rw [cell_of_row _ _ _ _ _ _ hN1]; exact Zz3 z) Tryz.underlying3 rfl) <| rv 11 (.bool false) (fun _ => Zag (v := .bool ((z.k : Int) == (3 : Int))) (by kernel_rfl) (congrArg Value.bool (by rw [hz0.k, hk1]; rfl))) <| rp 12 (.bool false) ?_
 refine Zbb 13 (fun _ => by kernel_rfl) <| Zbb 14 (fun _ => by kernel_rfl) <| Zbb 15 (fun _ => by kernel_rfl) <| rp 16 (.bool false) <| rp 8 (.bool false) <| Zad <| Zab <| Zai (fun _ => by kernel_rfl) <| Zac <| Zaa <| rp 31 (.pointer (some ⟨gN, 0, none⟩)) <| rv 32 (.int .i64 z.k) (fun _ => Zah 3 _ ⟨gN, 0, none⟩ _ _ rfl (by kernel_rfl) (by rw [cell_of_row _ _ _ _ _ _ hN1]; exact Zz3 z) Tryz.underlying3 rfl) ?_
 refine rv 33 (.bool false) (fun _ => Zag (v := .bool ((z.k : Int) == (2 : Int))) (by kernel_rfl) (congrArg Value.bool (by rw [hz0.k, hk1]; rfl))) <| rp 34 (.bool false) <| Zbb 35 (fun _ => by kernel_rfl) <| Zbb 36 (fun _ => by kernel_rfl) <| Zbb 37 (fun _ => by kernel_rfl) <| Zbb 38 (fun _ => by kernel_rfl) <| rp 39 (.bool false) <| rp 30 (.bool false) <| Zad <| Zab <| Zai (fun _ => by kernel_rfl) <| Zan ?_
 refine Za0 <| Zab <| Zac <| Zaa <| rp 47 (.agg rz.cells.toArray) <| Zbm g4 rz.cells.toArray (fun _ => by kernel_rfl) (fun _ => Za3 65 _ _ _ _ _ _ rfl (by kernel_rfl) (by kernel_rfl) h4 (by rw [Zbx, Zbd Zp6]) rfl (Zcs _)) ?_
 intro w9 hp9
 have h9 : Rw g4 w9 rz.cells.toArray 65 := hp9.row h4
 replace hB : Bl w w9 := hp9.below hB hg4 hB.size
 refine rp 5 (.slice none 0 0) <| rp 6 (.bool false) <| Zad <| Zab <| Zap ?_
 exact Zae (.tuple #[.agg rz.cells.toArray, .slice none 0 0, .bool false]) (fun _ => Zoe rfl _ g4 rz Zp6 (by kernel_rfl) (by kernel_rfl) (by kernel_rfl) h9) ⟨_, rfl, rfl, hB⟩
theorem Zqb {w : World} {d : List Int} (hd : d.length = 32) (hdb : isB d) : RefAt (fun _ => True) w ⟨2, d, none, 0, 0⟩ ⟨2, d, []⟩ := ⟨rfl, rfl, hdb, hd, ⟨.inl ⟨rfl, rfl⟩, fun _ => ⟨rfl, rfl⟩, rfl, fun x hx => by cases hx⟩, Nat.zero_le _, fun _ _ _ _ => trivial⟩
set_option maxHeartbeats 4000000 in
theorem Zn8 {K K1 : Nat -> Prop} {w : World} {a al : Option Addr} {n c nl cl : Nat} {p b : List Int} {N : PN} (hp : Sk K1 w a n c p) (hL : Bt K w al nl [b]) (hbl : b.length <= 140737488351232) (hN : ND b = some N) (hk1 : N.k = 1) :
  Calls Tryz.prog 42 #[.agg (B8 (dref b)), .slice a n c, .slice al nl cl] w fun e w' => ∃ u, e = .returned u /\ (fun u w' => (∃ a' n' c', u = .tuple #[.slice a' n' c', .bool true] /\ Sk (fun _ => True) w' a' n' c' (vaP N p)) /\ Bl w w') u w' := by
 have hB := Bl.refl w
 have hd := dref_len b
 have hdb := Zjp b
 have hL0 := hL
 have hp0 := hp
 refine Zaj Tryz.func42 rfl 53 rfl ?_
 show CW _ _ _ _ _ _ _ [(0, .agg (B8 (dref b))), (1, .slice a n c), (2, .slice al nl cl)] _
 refine Zac <| Zaa <| Zax 3 (B8 (dref b)) 35 (fun _ => by kernel_rfl) (fun _ => by kernel_rfl) ?_
 intro w1 gD hnD
 have hD1 : Rw gD w1 (B8 (dref b)) 35 := hnD.row
 replace hB := hB.go hnD.below
 replace hp := hp.go hnD.below
 replace hL := hL.go hnD.below
 refine rp 6 (.slice none 0 0) <| rp 7 (.bool false) <| Zad <| Zab ?_
 refine Zux (X := Nat) 0 (fun gR => [(8, .pointer (some ⟨gR, 0, none⟩)), (1, .slice a n c), (2, .slice al nl cl), (9, .bool false)]) (fun gR v => Bl w v /\ Rw gR v (RV.cells ⟨2, dref b, none, 0, 0⟩).toArray 65) (fun _ => 0) rfl ?_ ?_
 ·intro Q' hQ
  refine Zac <| Zaa <| rv 15 (.agg (B8 (dref b))) (fun _ => Zb8 35 _ _ _ _ _ _ rfl (by kernel_rfl) hD1 Tryz.underlying35 rfl (Ze2 hd)) <| rv 16 (.agg (RV.cells ⟨2, dref b, none, 0, 0⟩).toArray) (fun _ => Zdb 65 _ [(0, .int .i64 2), (1, .agg (B8 (dref b)))] _ rfl (by kernel_rfl) (Zlf (dref b) hd)) <| Zax 8 rz.cells.toArray 65 (fun _ => by kernel_rfl) (fun _ => by kernel_rfl) ?_
  intro w2 gR hnR
  have hgR := hnR.hg
  have hz2 := hnR.below.size
  refine Zbm gR (RV.cells ⟨2, dref b, none, 0, 0⟩).toArray (fun _ => by kernel_rfl) (fun _ => Za3 65 _ _ _ _ _ _ rfl (by kernel_rfl) (by kernel_rfl) hnR.row (by rw [Zbx, Zbd hd]) (by rw [Zbd (y := ⟨2, dref b, none, 0, 0⟩) hd]; rfl) (Zcs _)) ?_
  intro w2 hpR
  have hRR : Rw gR w2 (RV.cells ⟨2, dref b, none, 0, 0⟩).toArray 65 := hpR.row hnR.row
  have hb2 : Bl w1 w2 := hpR.below hnR.below (by rw [hgR]; exact Nat.le_refl _) hnR.below.size
  replace hB := hB.go hb2
  replace hp := hp.go hb2
  replace hL := hL.go hb2
  replace hD1 := hD1.go hb2
  refine Zad <| Zab <| Zac <| Zaa <| rp 9 (.bool false) <| Zad <| Zab <| Zac <| Zuy <| Zab <| Zwc [(8, .pointer (some ⟨gR, 0, none⟩)), (1, .slice a n c), (2, .slice al nl cl), (9, .bool false)] (by exact ⟨fun _ => by kernel_rfl, ⟨fun _ => by kernel_rfl, ⟨fun _ => by kernel_rfl, ⟨fun _ => by kernel_rfl, trivial⟩⟩⟩⟩) ?_
  exact hQ gR _ ⟨hB, hRR⟩
 ·clear hB hp hL hD1
  rintro gR v ⟨hB, hRR⟩
  have hp := hp0.go hB
  have hL := hL0.go hB
  show CW _ _ _ _ _ _ _ [(8, .pointer (some ⟨gR, 0, none⟩)), (1, .slice a n c), (2, .slice al nl cl), (9, .bool false)] _
  refine Zac <| Zaa <| rv 18 (.agg (RV.cells ⟨2, dref b, none, 0, 0⟩).toArray) (fun _ => Zb8 65 _ _ _ _ _ _ rfl (by kernel_rfl) hRR Tryz.underlying65 rfl (by rw [Zbx, List.size_toArray, RV.len (x := ⟨2, dref b, none, 0, 0⟩) hd])) <| rp 19 (.slice al nl cl) <| Zao 20 68 #[.agg (RV.cells ⟨2, dref b, none, 0, 0⟩).toArray, .slice al nl cl] (fun _ => by kernel_rfl) (fun _ => by kernel_rfl) (R := OpL v N) (Zxn (Zqb hd hdb) hL hbl hN) ?_
  rintro _ u1 ⟨⟨z, a1, c1, rfl, hz⟩, hb1⟩
  replace hB := hB.go hb1
  replace hp := hp.go hb1
  replace hL := hL.go hb1
  have hzl := hz.c.len
  refine rp 17 (.tuple #[.agg z.cells.toArray, .slice a1 0 c1, .bool true]) <| rp 21 (.agg z.cells.toArray) <| rp 22 (.slice a1 0 c1) <| rp 23 (.bool true) <| Zax 10 nz.cells.toArray 68 (fun _ => by kernel_rfl) (fun _ => by kernel_rfl) ?_
  intro w3 gN hnN
  refine Zbm gN z.cells.toArray (fun _ => by kernel_rfl) (fun _ => Za3 68 _ _ _ _ _ _ rfl (by kernel_rfl) (by kernel_rfl) hnN.row (by rw [Zc1, Zbn hzl]) (by rw [Zbn hzl]; rfl) (Zew _)) ?_
  intro w4 hpN
  have hN1 : Rw gN w4 z.cells.toArray 68 := hpN.row hnN.row
  have hb4 : Bl u1 w4 := hpN.below hnN.below (by rw [hnN.hg]; exact Nat.le_refl _) hnN.below.size
  replace hz := hz.go (Zl3 hb4)
  replace hB := hB.go hb4
  replace hp := hp.go hb4
  replace hL := hL.go hb4
  refine rp 2 (.slice a1 0 c1) <| rp 11 (.bool true) <| Zad <| Zab <| Zac <| Zac <| Zaa <| rp 24 (.bool true) <| rp 25 (.bool false) <| rp 26 (.bool false) <| rp 27 (.bool false) <| rp 28 (.bool false) ?_
  refine Zbb 29 (fun _ => by kernel_rfl) <| Zbb 30 (fun _ => by kernel_rfl) <| Zbb 31 (fun _ => by kernel_rfl) <| rp 32 (.bool false) <| rp 33 (.bool false) <| Zad <| Zab <| Zai (fun _ => by kernel_rfl) <| Zan <| Zab <| Zac <| Zac ?_
  refine Zaa <| rv 35 (.agg z.cells.toArray) (fun _ => Zb8 68 _ _ _ _ _ _ rfl (by kernel_rfl) hN1 Tryz.underlying68 rfl (by rw [Zc1, Zbn hzl])) <| rp 36 (.slice a n c) <| Zao 37 69 #[.agg z.cells.toArray, .slice a n c] (fun _ => by kernel_rfl) (fun _ => by kernel_rfl) (R := fun u w' => u = .tuple #[.agg rz.cells.toArray, .slice none 0 0, .bool false] /\ Bl w4 w') (Zr3 hz hk1) ?_
  rintro _ u2 ⟨rfl, hb5⟩
  replace hz := hz.go (Zl3 hb5)
  replace hB := hB.go hb5
  replace hp := hp.go hb5
  replace hL := hL.go hb5
  replace hN1 := hN1.go hb5
  refine rp 34 (.tuple #[.agg rz.cells.toArray, .slice none 0 0, .bool false]) <| rp 38 (.agg rz.cells.toArray) <| rp 39 (.slice none 0 0) <| rp 40 (.bool false) <| Zax 12 rz.cells.toArray 65 (fun _ => by kernel_rfl) (fun _ => by kernel_rfl) ?_
  intro w5 gF hnF
  refine Zbm gF rz.cells.toArray (fun _ => by kernel_rfl) (fun _ => Za3 65 _ _ _ _ _ _ rfl (by kernel_rfl) (by kernel_rfl) hnF.row (by rw [Zbx, Zbd Zp6]) rfl (Zcs _)) ?_
  intro w6 hpF
  have hb6 : Bl u2 w6 := hpF.below hnF.below (by rw [hnF.hg]; exact Nat.le_refl _) hnF.below.size
  replace hz := hz.go (Zl3 hb6)
  replace hB := hB.go hb6
  replace hp := hp.go hb6
  replace hL := hL.go hb6
  replace hN1 := hN1.go hb6
  refine rp 13 (.slice none 0 0) <| rp 14 (.bool false) <| Zad <| Zab <| Zac <| Zaa <| rp 41 (.bool false) <| Zad <| Zab <| Zai (fun _ => by kernel_rfl) <| Zan <| Zab ?_
  refine Zac <| Zac <| Zaa <| rp 47 (.slice a1 0 c1) <| rp 48 (.int .i64 0) <| rp 49 (.bool false) <| Zad <| Zab <| Zai (fun _ => by kernel_rfl) <| Zan <| Zab <| Zac ?_
  refine Zaa <| rv 50 (.agg z.cells.toArray) (fun _ => Zb8 68 _ _ _ _ _ _ rfl (by kernel_rfl) hN1 Tryz.underlying68 rfl (by rw [Zc1, Zbn hzl])) <| rp 51 (.slice a n c) <| Zao 52 70 #[.agg z.cells.toArray, .slice a n c] (fun _ => by kernel_rfl) (fun _ => by kernel_rfl) (R := fun u w' => ∃ a' n' c', u = .slice a' n' c' /\ Sk (fun _ => True) w' a' n' c' (vaP N p) /\ Bl w6 w') (Zlo hz hp) ?_
  rintro _ u3 ⟨a3, n3, c3, rfl, hs3, hb7⟩
  replace hB := hB.go hb7
  replace hp := hp.go hb7
  replace hL := hL.go hb7
  replace hN1 := hN1.go hb7
  refine rp 6 (.slice a3 n3 c3) <| rp 7 (.bool true) <| Zad <| Zab <| Zap <| Zlz ?_
  exact Zae (.tuple #[.slice a3 n3 c3, .bool true]) (fun _ => by kernel_rfl) ⟨_, rfl, ⟨a3, n3, c3, rfl, hs3⟩, hB⟩
set_option maxHeartbeats 4000000 in
theorem Zj6 {K K1 : Nat -> Prop} {w : World} {a al : Option Addr} {n c nl cl : Nat} {k b : List Int} {N : PN} (hk : Sk K1 w a n c k) (hn32 : n <= 32) (hL : Bt K w al nl [b]) (hbl : b.length <= 140737488351232) (hN : ND b = some N) (hk1 : N.k = 1) :
  Calls Tryz.prog 17 #[.agg (B8 (dref b)), .slice a n c, .slice al nl cl] w fun e w' => ∃ u, e = .returned u /\ (fun u w' => (∃ a' n' c', u = .tuple #[.slice a' n' c', .bool (decide (0 < n')), .int .i64 0] /\ Sk (fun _ => True) w' a' n' c' (vaP N (Ni.nib k))) /\ Bl w w') u w' := by
 have hB := Bl.refl w
 have lk := hk.len
 have hd := dref_len b
 have hn1 : 1 = nl := hL.len
 refine Zaj Tryz.func17 rfl 38 rfl ?_
 show CW _ _ _ _ _ _ _ [(0, .agg (B8 (dref b))), (1, .slice a n c), (2, .slice al nl cl)] _
 refine Zac <| Zaa <| Zax 3 (B8 (dref b)) 35 (fun _ => by kernel_rfl) (fun _ => by kernel_rfl) ?_
 intro w1 gD hnD
 have hD1 : Rw gD w1 (B8 (dref b)) 35 := hnD.row
 replace hB := hB.go hnD.below
 replace hk := hk.go hnD.below
 replace hL := hL.go hnD.below
 have hV := Bl.refl w1
 refine rp 6 (.slice none 0 0) <| rp 7 (.bool false) <| rp 8 (.int .i64 0) <| Zad <| Zab <| Zac <| Zar <| Zac <| Zaa <| rp 12 (.slice a n c) <| Zao 13 26 #[.slice a n c] (fun _ => by kernel_rfl) (fun _ => by kernel_rfl) (R := fun u w' => u = .bool true /\ Bl (w1) w') ((isKey_any.mono (fun e w' ⟨u, e1, e2, e3⟩ => ⟨u, e1, by rw [e2, decide_eq_true (by omega)], e3⟩))) ?_
 rintro _ u1 ⟨rfl, hb1⟩
 replace hB := hB.go hb1
 replace hk := hk.go hb1
 replace hL := hL.go hb1
 replace hV := hV.go hb1
 refine rp 14 (.bool false) <| rp 11 (.bool false) <| Zad <| Zab <| Zai (fun _ => by kernel_rfl) <| Zac <| Zaz (fun v => Bl w1 v) (by kernel_rfl) (hV.drew) ?_
 replace hB := hB.drew
 replace hk := hk.drew
 replace hL := hL.drew
 replace hV := hV.drew
 refine dt 0 16 (.slice al nl cl) (fun v hv _ => by kernel_rfl) hV <| dt 1 17 (.int .i64 nl) (fun v hv _ => by kernel_rfl) hV <| dt 2 18 (.bool false) (fun v hv => (fun _ => Zag (v := .bool ((nl : Int) == (0 : Int))) (by kernel_rfl) (congrArg Value.bool (beq_eq_false_iff_ne.2 (by omega))))) hV <| dt 3 19 (.bool false) (fun v hv _ => by kernel_rfl) hV <| df 4 20 hV <| df 5 21 hV <| df 6 22 hV <| dt 7 23 (.bool false) (fun v hv _ => by kernel_rfl) hV <| dt 8 15 (.bool false) (fun v hv _ => by kernel_rfl) hV <| Zas (by kernel_rfl) <| Zab <| Zai (fun _ => by kernel_rfl) ?_
 refine Zan <| Za0 <| Zab <| Zac <| Zaz (fun v => Bl w1 v) (by kernel_rfl) (hV.drew) ?_
 replace hB := hB.drew
 replace hk := hk.drew
 replace hL := hL.drew
 replace hV := hV.drew
 refine dt 0 25 (.agg (B8 (dref b))) (fun v hv _ => Zb8 35 _ _ _ _ _ _ rfl (by kernel_rfl) (hD1.go hv) Tryz.underlying35 rfl (Ze2 hd)) hV <| dt 1 26 (.slice a n c) (fun v hv _ => by kernel_rfl) hV <| dt 3 28 (.slice al nl cl) (fun v hv _ => by kernel_rfl) hV <| Zaf [2] (by kernel_rfl) (by simp) ?_
 refine Zat 2 27 28 #[.slice a n c] rfl (fun _ => by kernel_rfl) (fun _ => by kernel_rfl) (R := fun u w' => (∃ a', u = .slice a' (2 * n) (2 * n) /\ Ni.Cut w' (u1.drew.drew).heap.size a' (2 * n) (Ni.nib k)) /\ Bl (u1.drew.drew) w') (((Ni.of_any a n c k (u1.drew.drew) hk.ag (by omega)).mono (fun e w' ⟨⟨a', e1, e2⟩, e3⟩ => ⟨_, e1, ⟨a', rfl, e2⟩, e3⟩))) (fun u w' h => hV.go h.2) ?_ Zam
 rintro _ u3 ⟨⟨a3, rfl, hc3⟩, hb3⟩
 replace hB := hB.go hb3
 replace hk := hk.go hb3
 replace hL := hL.go hb3
 replace hV := hV.go hb3
 have hp3 := Cut.skL hc3
 refine Zaf [4] (by kernel_rfl) (by simp) ?_
 refine Zat 4 29 42 #[.agg (B8 (dref b)), .slice a3 (2 * n) (2 * n), .slice al nl cl] rfl (fun _ => by kernel_rfl) (fun _ => by kernel_rfl) (R := fun u w' => (∃ a' n' c', u = .tuple #[.slice a' n' c', .bool true] /\ Sk (fun _ => True) w' a' n' c' (vaP N (Ni.nib k))) /\ Bl (u3) w') (Zn8 hp3 hL hbl hN hk1) (fun u w' h => hV.go h.2) ?_ Zam
 rintro _ u4 ⟨⟨a4, n4, c4, rfl, hs4⟩, hb4⟩
 replace hB := hB.go hb4
 replace hk := hk.go hb4
 replace hL := hL.go hb4
 replace hV := hV.go hb4
 refine dt 5 24 (.tuple #[.slice a4 n4 c4, .bool true]) (fun v hv _ => by kernel_rfl) hV <| dt 6 30 (.slice a4 n4 c4) (fun v hv _ => by kernel_rfl) hV <| dt 7 31 (.bool true) (fun v hv _ => by kernel_rfl) hV <| dt 8 9 (.slice a4 n4 c4) (fun v hv _ => by kernel_rfl) hV <| dt 9 10 (.bool true) (fun v hv _ => by kernel_rfl) hV <| Zas (by kernel_rfl) <| Zab <| Zac <| Zac <| Zaa <| rp 32 (.bool true) <| rp 33 (.bool false) ?_
 refine Zad <| Zab <| Zai (fun _ => by kernel_rfl) <| Zan <| Zab <| Zac <| Zaa <| rp 34 (.slice a4 n4 c4) <| rp 35 (.slice a4 n4 c4) <| rp 36 (.int .i64 n4) <| rv 37 (.bool (decide (0 < n4))) (fun _ => Zag (v := .bool (decide ((n4 : Int) > (0 : Int)))) (by kernel_rfl) (congrArg Value.bool (decide_eq_decide.2 (by omega)))) <| rp 6 (.slice a4 n4 c4) ?_
 refine rp 7 (.bool (decide (0 < n4))) <| rp 8 (.int .i64 0) <| Zad <| Zab <| Zap ?_
 exact Zae (.tuple #[.slice a4 n4 c4, .bool (decide (0 < n4)), .int .i64 0]) (fun _ => by kernel_rfl) ⟨_, rfl, ⟨a4, n4, c4, rfl, hs4⟩, hB⟩
end Go.Proofs.YtefhepcplempkaaGreat
