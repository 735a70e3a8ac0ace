/- The answers that the document fixes. -/
import Derived.Test.YtefhepcplempkaaGreatG25
import Derived.Test.YtefhepcplempkaaGreatG26
import Derived.Test.YtefhepcplempkaaGreatG18
import Derived.Test.YtefhepcplempkaaGreatG00
import Derived.Test.YtefhepcplempkaaGreatG23
set_option linter.unusedVariables false
set_option maxRecDepth 100000
namespace Go.Proofs.YtefhepcplempkaaGreat
open Go.RowKit
open Tr
open Di (dref)

theorem Zir : putT no [97] [1] = leaf [6, 1] [1] := by simp [putT, put, Ni.nib]
theorem Zlh : encT (leaf [6, 1] [1]) = [196, 130, 32, 97, 1] := by kernel_rfl
theorem Zpi : rootP (leaf [6, 1] [1]) = dref [196, 130, 32, 97, 1] := by rw [<- Zlh]; rfl
theorem Zn1 : ND [196, 130, 32, 97, 1] = some ⟨1, [6, 1], [1], r0, []⟩ := by kernel_rfl
end Go.Proofs.YtefhepcplempkaaGreat
namespace Go.Proofs.YtefhepcplempkaaGreat
open Go.RowKit
open Tr
open Ni (lessP)
theorem Sk.byte {K : Nat -> Prop} {w : World} {a : Option Addr} {n c : Nat} {p : List Int} (h : Sk K w a n c p) {j : Nat} (hj : j < n) : ∃ g off, a = some ⟨g, off, none⟩ /\ w.cell? ⟨g, off + j * 1, none⟩ = some (.int .u8 (p.getD j 0)) := by
 rcases h.ag.i with ⟨h1, h2⟩ | ⟨gb, off, h1, h2, h3, h4, h5, h7⟩
 ·omega
 ·exact ⟨gb, off, h1, by rw [Nat.mul_one]; exact h7 j (by have := h.len; omega)⟩
theorem Zhq {p : List Int} {j : Nat} (hj : j < p.length) : p.drop j = p.getD j 0 :: p.drop (j + 1) := by
 rw [List.drop_eq_getElem_cons hj]; simp [List.getD, hj]
theorem Zrf {p q : List Int} {j : Nat} (h1 : j < p.length) (h2 : j < q.length) : lessP (p.drop j) (q.drop j) = if p.getD j 0 = q.getD j 0 then lessP (p.drop (j + 1)) (q.drop (j + 1)) else decide (p.getD j 0 < q.getD j 0) := by
 rw [Zhq h1, Zhq h2]; rfl
theorem Zuc {p q : List Int} {j : Nat} (h : ¬ (j < p.length /\ j < q.length)) (h1 : j <= p.length) (h2 : j <= q.length) : lessP (p.drop j) (q.drop j) = decide (p.length < q.length) := by
 by_cases e : j = p.length
 ·rw [List.drop_eq_nil_of_le (by omega)]
  by_cases e2 : j < q.length
  ·rw [Zhq e2]
   rw [decide_eq_true (by omega)]; rfl
  ·rw [List.drop_eq_nil_of_le (by omega), decide_eq_false (by omega)]; rfl
 ·rw [show q.drop j = [] from List.drop_eq_nil_of_le (by omega), decide_eq_false (by omega)]
  cases p.drop j <;> rfl
structure Cl2 (w : World) (p p' : Addr) (v v' : Value) : Prop where
 cx : w.cell? p = some v
 cy : w.cell? p' = some v'
theorem Cl2.drew {w : World} {p p' : Addr} {v v' : Value} (h : Cl2 w p p' v v') : Cl2 w.drew p p' v v' := ⟨h.cx, h.cy⟩
theorem Cl2.go {w w' : World} {p p' : Addr} {v v' : Value} (h : Cl2 w p p' v v') (hb : Below w.heap.size w w') : Cl2 w' p p' v v' := ⟨(hb.cell (p := p) (block_lt_of_cell h.cx)).trans h.cx, (hb.cell (p := p') (block_lt_of_cell h.cy)).trans h.cy⟩
theorem Zu9 {k : List Int} {l : PList} {j : Nat} (hj : j < l.length) {e : List Int × List Int} (he : l[j]? = some e) : atN k (l.drop j) = if lessP e.1 k then atN k (l.drop (j + 1)) + 1 else 0 := by
 have : l.drop j = e :: l.drop (j + 1) := by
  rw [List.drop_eq_getElem_cons hj]
  rw [List.getElem?_eq_getElem hj] at he
  simp at he; rw [he]
 rw [this]; rfl
theorem Zx6 {k : List Int} {l : PList} {j : Nat} (h : atN k l = j) {e : List Int × List Int} (he : l[j]? = some e) : isAt k l = decide (e.1 = k) := by
 unfold isAt; rw [h, he]
theorem Znj {k : List Int} {l : PList} (h : atN k l = l.length) : isAt k l = false := by
 unfold isAt; rw [h, List.getElem?_eq_none (Nat.le_refl _)]
set_option maxHeartbeats 2000000 in
theorem Zs3 {K K' : Nat -> Prop} {w : World} {a a' : Option Addr} {n c n' c' : Nat} {p q : List Int} (hp : Sk K w a n c p) (hq : Sk K' w a' n' c' q) (hn : n <= 1000000) :
  Calls Tryz.prog 72 #[.slice a n c, .slice a' n' c'] w fun e w' => ∃ u, e = .returned u /\ (fun u w' => u = .bool (lessP p q) /\ Bl w w') u w' := by
 have hB := Bl.refl w
 have lp := hp.len
 have lq := hq.len
 refine Zaj Tryz.func72 rfl 41 rfl ?_
 show CW _ _ _ _ _ _ _ [(0, .slice a n c), (1, .slice a' n' c')] _
 refine Zac <| Zaa <| rp 4 (.bool false) <| Zad <| Zab <| Zac <| Zac <| Zaa <| rp 5 (.int .i64 0) <| Zad <| Zab <| Zar ?_
 refine Zby (X := Nat) (fun j => [(5, .int .i64 ((j : Nat) : Int)), (0, .slice a n c), (1, .slice a' n' c')]) (fun j v => Bl w v /\ j <= n /\ j <= n' /\ lessP (p.drop j) (q.drop j) = lessP p q) (fun j => n - j) 0 (by exact ⟨fun _ => by kernel_rfl, ⟨fun _ => by kernel_rfl, ⟨fun _ => by kernel_rfl, trivial⟩⟩⟩) ⟨hB, Nat.zero_le _, Nat.zero_le _, by simp⟩ ?_
 clear hB
 rintro j v ⟨hB, hj1, hj2, hL⟩
 by_cases hlt : j < n /\ j < n'
 ·skip
  obtain ⟨g1, o1, e1, hc1⟩ := (hp.go hB).byte hlt.1
  obtain ⟨g2, o2, e2, hc2⟩ := (hq.go hB).byte hlt.2
  subst e1
  subst e2
  have hst := Zrf (p := p) (q := q) (j := j) (by omega) (by omega)
  obtain ⟨x, ex⟩ : ∃ x, p.getD j 0 = x := ⟨_, rfl⟩
  obtain ⟨y, ey⟩ : ∃ y, q.getD j 0 = y := ⟨_, rfl⟩
  rw [ex, ey, hL] at hst
  rw [ex] at hc1
  rw [ey] at hc2
  have hS : Cl2 v ⟨g1, o1 + j * 1, none⟩ ⟨g2, o2 + j * 1, none⟩ (.int .u8 x) (.int .u8 y) := ⟨hc1, hc2⟩
  refine Zac <| Zac <| Zaa <| rp 6 (.int .i64 ((j : Nat) : Int)) <| rp 7 (.slice (some ⟨g1, o1, none⟩) n c) <| rp 8 (.int .i64 n) <| rv 9 (.bool true) (fun _ => Zag (v := .bool (decide (((j : Nat) : Int) < (n : Int)))) (by kernel_rfl) (congrArg Value.bool (decide_eq_true (by omega)))) <| rp 10 (.bool true) <| rp 11 (.int .i64 ((j : Nat) : Int)) <| rp 12 (.slice (some ⟨g2, o2, none⟩) n' c') <| rp 13 (.int .i64 n') <| rv 14 (.bool true) (fun _ => Zag (v := .bool (decide (((j : Nat) : Int) < (n' : Int)))) (by kernel_rfl) (congrArg Value.bool (decide_eq_true (by omega)))) ?_
  refine rp 15 (.bool true) <| Zad <| Zab <| Zak (fun _ => by kernel_rfl) <| Zan <| Zab <| Zac <| Zar <| Zac <| Zaz (fun v => Cl2 v ⟨g1, o1 + j * 1, none⟩ ⟨g2, o2 + j * 1, none⟩ (.int .u8 x) (.int .u8 y)) (by kernel_rfl) (hS.drew) ?_
  replace hB := hB.drew
  replace hS := hS.drew
  refine dt 0 18 (.slice (some ⟨g1, o1, none⟩) n c) (fun v hv _ => by kernel_rfl) hS <| dt 1 19 (.int .i64 ((j : Nat) : Int)) (fun v hv _ => by kernel_rfl) hS <| dt 2 20 (.pointer (some ⟨g1, o1 + j * 1, none⟩)) (fun v hv _ => Zau 23 _ _ g1 o1 j n c 1 5 rfl (by kernel_rfl) (by kernel_rfl) hlt.1 Tryz.underlying23 (by kernel_rfl)) hS <| dt 3 21 (.int .u8 x) (fun v hv _ => Zah 5 _ _ _ _ rfl (by kernel_rfl) hv.cx Tryz.underlying5 rfl) hS <| dt 4 22 (.slice (some ⟨g2, o2, none⟩) n' c') (fun v hv _ => by kernel_rfl) hS <| dt 5 23 (.int .i64 ((j : Nat) : Int)) (fun v hv _ => by kernel_rfl) hS <| dt 6 24 (.pointer (some ⟨g2, o2 + j * 1, none⟩)) (fun v hv _ => Zau 23 _ _ g2 o2 j n' c' 1 5 rfl (by kernel_rfl) (by kernel_rfl) hlt.2 Tryz.underlying23 (by kernel_rfl)) hS <| dt 7 25 (.int .u8 y) (fun v hv _ => Zah 5 _ _ _ _ rfl (by kernel_rfl) hv.cy Tryz.underlying5 rfl) hS <| dt 8 26 (.bool (!((x : Int) == (y : Int)))) (fun v hv _ => by kernel_rfl) hS <| Zas (by kernel_rfl) <| Zab ?_
  by_cases hxy : x = y
  ·skip
   rw [show (!((x : Int) == (y : Int))) = false from by simp [hxy]]
   refine Zai (fun _ => by kernel_rfl) <| Zan <| Za0 <| Zab <| Zaa <| rp 16 (.int .i64 ((j : Nat) : Int)) <| rv 17 (.int .i64 (((j : Nat) : Int) + 1)) (fun _ => Zag (v := .int .i64 (IntKind.i64.wrap (((j : Nat) : Int) + 1))) (by kernel_rfl) (congrArg (Value.int .i64) (Zbc (by omega) (by omega)))) <| rp 5 (.int .i64 (((j : Nat) : Int) + 1)) <| Zad ?_
   exact Za8 (E := fun j => [(5, .int .i64 ((j : Nat) : Int)), (0, .slice (some ⟨g1, o1, none⟩) n c), (1, .slice (some ⟨g2, o2, none⟩) n' c')]) (R := fun j v => Bl w v /\ j <= n /\ j <= n' /\ lessP (p.drop j) (q.drop j) = lessP p q) (μ := fun j => n - j) (x := j) (j + 1) (by exact ⟨fun _ => by kernel_rfl, ⟨fun _ => by kernel_rfl, ⟨fun _ => by kernel_rfl, trivial⟩⟩⟩) ⟨hB, by omega, by omega, by rw [hst, if_pos hxy]⟩ (by show n - (j + 1) < n - j; omega)
  ·skip
   rw [show (!((x : Int) == (y : Int))) = true from by simp [hxy]]
   refine Zak (fun _ => by kernel_rfl) <| Zac <| Zaz (fun v => Cl2 v ⟨g1, o1 + j * 1, none⟩ ⟨g2, o2 + j * 1, none⟩ (.int .u8 x) (.int .u8 y)) (by kernel_rfl) (hS.drew) ?_
   replace hB := hB.drew
   replace hS := hS.drew
   refine dt 0 27 (.slice (some ⟨g1, o1, none⟩) n c) (fun v hv _ => by kernel_rfl) hS <| dt 1 28 (.int .i64 ((j : Nat) : Int)) (fun v hv _ => by kernel_rfl) hS <| dt 2 29 (.pointer (some ⟨g1, o1 + j * 1, none⟩)) (fun v hv _ => Zau 23 _ _ g1 o1 j n c 1 5 rfl (by kernel_rfl) (by kernel_rfl) hlt.1 Tryz.underlying23 (by kernel_rfl)) hS <| dt 3 30 (.int .u8 x) (fun v hv _ => Zah 5 _ _ _ _ rfl (by kernel_rfl) hv.cx Tryz.underlying5 rfl) hS <| dt 4 31 (.slice (some ⟨g2, o2, none⟩) n' c') (fun v hv _ => by kernel_rfl) hS <| dt 5 32 (.int .i64 ((j : Nat) : Int)) (fun v hv _ => by kernel_rfl) hS <| dt 6 33 (.pointer (some ⟨g2, o2 + j * 1, none⟩)) (fun v hv _ => Zau 23 _ _ g2 o2 j n' c' 1 5 rfl (by kernel_rfl) (by kernel_rfl) hlt.2 Tryz.underlying23 (by kernel_rfl)) hS <| dt 7 34 (.int .u8 y) (fun v hv _ => Zah 5 _ _ _ _ rfl (by kernel_rfl) hv.cy Tryz.underlying5 rfl) hS <| dt 8 35 (.bool (decide ((x : Int) < (y : Int)))) (fun v hv _ => by kernel_rfl) hS <| dt 9 4 (.bool (decide ((x : Int) < (y : Int)))) (fun v hv _ => by kernel_rfl) hS <| Zas (by kernel_rfl) <| Zab ?_
   refine Zap <| Za6 <| Zaq <| Zaq <| Za6 <| Zaq ?_
   exact Zae (.bool (decide ((x : Int) < (y : Int)))) (fun _ => by kernel_rfl) ⟨_, rfl, by rw [hst, if_neg hxy], hB⟩
 have hen := Zuc (p := p) (q := q) (j := j) (by omega) (by omega) (by omega)
 rw [lp, lq] at hen
 by_cases hl1 : j < n
 ·skip
  refine Zac <| Zac <| Zaa <| rp 6 (.int .i64 ((j : Nat) : Int)) <| rp 7 (.slice a n c) <| rp 8 (.int .i64 n) <| rv 9 (.bool true) (fun _ => Zag (v := .bool (decide (((j : Nat) : Int) < (n : Int)))) (by kernel_rfl) (congrArg Value.bool (decide_eq_true (by omega)))) <| rp 10 (.bool true) <| rp 11 (.int .i64 ((j : Nat) : Int)) <| rp 12 (.slice a' n' c') <| rp 13 (.int .i64 n') <| rv 14 (.bool false) (fun _ => Zag (v := .bool (decide (((j : Nat) : Int) < (n' : Int)))) (by kernel_rfl) (congrArg Value.bool (decide_eq_false (by omega)))) ?_
  refine rp 15 (.bool false) <| Zad <| Zab <| Zai (fun _ => by kernel_rfl) <| Zbl <| Zal <| Zal <| Zay <| Zab <| Zac <| Zaa <| rp 36 (.slice a n c) ?_
  refine rp 37 (.int .i64 n) <| rp 38 (.slice a' n' c') <| rp 39 (.int .i64 n') <| rp 40 (.bool (decide ((n : Int) < (n' : Int)))) <| rp 4 (.bool (decide ((n : Int) < (n' : Int)))) <| Zad <| Zab <| Zap ?_
  exact Zae (.bool (decide ((n : Int) < (n' : Int)))) (fun _ => by kernel_rfl) ⟨_, rfl, by rw [<- hL, hen]; congr 1; exact decide_eq_decide.2 (by omega), hB⟩
 ·skip
  refine Zac <| Zac <| Zaa <| rp 6 (.int .i64 ((j : Nat) : Int)) <| rp 7 (.slice a n c) <| rp 8 (.int .i64 n) <| rv 9 (.bool false) (fun _ => Zag (v := .bool (decide (((j : Nat) : Int) < (n : Int)))) (by kernel_rfl) (congrArg Value.bool (decide_eq_false (by omega)))) <| rp 10 (.bool false) <| Zbb 11 (fun _ => by kernel_rfl) <| Zbb 12 (fun _ => by kernel_rfl) <| Zbb 13 (fun _ => by kernel_rfl) <| Zbb 14 (fun _ => by kernel_rfl) ?_
  refine rp 15 (.bool false) <| Zad <| Zab <| Zai (fun _ => by kernel_rfl) <| Zbl <| Zal <| Zal <| Zay <| Zab <| Zac <| Zaa <| rp 36 (.slice a n c) ?_
  refine rp 37 (.int .i64 n) <| rp 38 (.slice a' n' c') <| rp 39 (.int .i64 n') <| rp 40 (.bool (decide ((n : Int) < (n' : Int)))) <| rp 4 (.bool (decide ((n : Int) < (n' : Int)))) <| Zad <| Zab <| Zap ?_
  exact Zae (.bool (decide ((n : Int) < (n' : Int)))) (fun _ => by kernel_rfl) ⟨_, rfl, by rw [<- hL, hen]; congr 1; exact decide_eq_decide.2 (by omega), hB⟩
set_option maxHeartbeats 2000000 in
theorem Zwi {K K' : Nat -> Prop} {w : World} {a : Option Addr} {n c : Nat} {vs : List (Value × Value)} {l : PList} (hl : PAt K w a n c vs l) {ak : Option Addr} {nk ck : Nat} {k : List Int} (hk : Sk K' w ak nk ck k) (hb : n <= 2932031007390) (hlen : ∀ (j : Nat) k x, l[j]? = some (k, x) -> k.length <= 1000000) :
  Calls Tryz.prog 44 #[.slice a n c, .slice ak nk ck] w fun e w' => ∃ u, e = .returned u /\ (fun u w' => u = .tuple #[.int .i64 ((atN k l : Nat) : Int), .bool (isAt k l)] /\ Bl w w') u w' := by
 have hB := Bl.refl w
 have ll := hl.ll
 refine Zaj Tryz.func44 rfl 39 rfl ?_
 show CW _ _ _ _ _ _ _ [(0, .slice a n c), (1, .slice ak nk ck)] _
 refine Zac <| Zaa <| rp 4 (.int .i64 0) <| rp 5 (.bool false) <| Zad <| Zab <| Zac <| Zaa <| rp 6 (.int .i64 0) <| Zad <| Zab <| Zac ?_
 refine Zar <| Zby (X := Nat) (fun j => [(6, .int .i64 ((j : Nat) : Int)), (0, .slice a n c), (1, .slice ak nk ck)]) (fun j v => Bl w v /\ j <= n /\ atN k (l.drop j) + j = atN k l) (fun j => n - j) 0 (by exact ⟨fun _ => by kernel_rfl, ⟨fun _ => by kernel_rfl, ⟨fun _ => by kernel_rfl, trivial⟩⟩⟩) ⟨hB, Nat.zero_le _, by simp⟩ ?_
 clear hB
 rintro j v ⟨hB, hj1, hA⟩
 by_cases hlt : j < n
 ·skip
  obtain ⟨g, off, a1, n1, c1, a2, n2, c2, k1, x1, ea, hej, hc1, hc2, hs1, hs2⟩ := (hl.go hB).at hlt
  subst ea
  have hst := Zu9 (k := k) (l := l) (j := j) (by omega) hej
  have hS : Cl2 v ⟨g, off + j * 2, none⟩ ⟨g, off + j * 2 + 1, none⟩ (.slice a1 n1 c1) (.slice a2 n2 c2) := ⟨hc1, hc2⟩
  refine Zac <| Zac <| Zaa <| rp 8 (.int .i64 ((j : Nat) : Int)) <| rp 9 (.slice (some ⟨g, off, none⟩) n c) <| rp 10 (.int .i64 n) <| rv 11 (.bool true) (fun _ => Zag (v := .bool (decide (((j : Nat) : Int) < (n : Int)))) (by kernel_rfl) (congrArg Value.bool (decide_eq_true (by omega)))) <| Zad <| Zab <| Zak (fun _ => by kernel_rfl) <| Zan <| Zab ?_
  refine Zar <| Zac <| Zaa <| rp 12 (.slice (some ⟨g, off, none⟩) n c) <| rp 13 (.int .i64 ((j : Nat) : Int)) <| rv 14 (.pointer (some ⟨g, off + j * 2, none⟩)) (fun _ => Zau 22 _ _ g off j n c 2 51 rfl (by kernel_rfl) (by kernel_rfl) hlt Tryz.underlying22 (by kernel_rfl)) <| rp 15 (.pointer (some ⟨g, off + j * 2, none⟩)) <| rv 16 (.slice a1 n1 c1) (fun _ => Zah 23 _ _ _ _ rfl (by kernel_rfl) hS.cx Tryz.underlying23 rfl) <| rp 17 (.slice ak nk ck) <| Zao 18 72 #[.slice a1 n1 c1, .slice ak nk ck] (fun _ => by kernel_rfl) (fun _ => by kernel_rfl) (R := fun u w' => u = .bool (lessP k1 k) /\ Bl (v) w') ((Zs3 hs1 (hk.go hB) (by have := hlen j k1 x1 hej; have := hs1.len; omega))) ?_
  rintro _ u1 ⟨rfl, hb2⟩
  replace hB := hB.go hb2
  replace hS := hS.go hb2
  replace hs1 := hs1.go hb2
  refine rp 7 (.bool (lessP k1 k)) <| Zad <| Zab <| Zac <| Zac <| Zaa <| rp 19 (.bool (lessP k1 k)) <| rp 20 (.bool (!(lessP k1 k))) <| Zad <| Zab ?_
  by_cases hah : lessP k1 k = true
  ·skip
   rw [hah]
   show CW _ _ _ _ _ _ _ [(20, .bool false), (19, .bool true), (7, .bool true), (18, .bool true), (17, .slice ak nk ck), (16, .slice a1 n1 c1), (15, .pointer (some ⟨g, off + j * 2, none⟩)), (14, .pointer (some ⟨g, off + j * 2, none⟩)), (13, .int .i64 ((j : Nat) : Int)), (12, .slice (some ⟨g, off, none⟩) n c), (11, .bool true), (10, .int .i64 n), (9, .slice (some ⟨g, off, none⟩) n c), (8, .int .i64 ((j : Nat) : Int)), (6, .int .i64 ((j : Nat) : Int)), (0, .slice (some ⟨g, off, none⟩) n c), (1, .slice ak nk ck)] _
   refine Zai (fun _ => by kernel_rfl) <| Zan <| Zab <| Zaa <| rp 21 (.int .i64 ((j : Nat) : Int)) <| rv 22 (.int .i64 (((j : Nat) : Int) + 1)) (fun _ => Zag (v := .int .i64 (IntKind.i64.wrap (((j : Nat) : Int) + 1))) (by kernel_rfl) (congrArg (Value.int .i64) (Zbc (by omega) (by omega)))) <| rp 6 (.int .i64 (((j : Nat) : Int) + 1)) <| Zad <| Za0 ?_
   exact Za8 (E := fun j => [(6, .int .i64 ((j : Nat) : Int)), (0, .slice (some ⟨g, off, none⟩) n c), (1, .slice ak nk ck)]) (R := fun j v => Bl w v /\ j <= n /\ atN k (l.drop j) + j = atN k l) (μ := fun j => n - j) (x := j) (j + 1) (by exact ⟨fun _ => by kernel_rfl, ⟨fun _ => by kernel_rfl, ⟨fun _ => by kernel_rfl, trivial⟩⟩⟩) ⟨hB, by omega, by rw [if_pos hah] at hst; omega⟩ (by show n - (j + 1) < n - j; omega)
  ·skip
   replace hah : lessP k1 k = false := by simpa using hah
   have hjn : atN k l = j := by rw [hst, if_neg (by rw [hah]; exact Bool.false_ne_true)] at hA; omega
   rw [hah]
   show CW _ _ _ _ _ _ _ [(20, .bool true), (19, .bool false), (7, .bool false), (18, .bool false), (17, .slice ak nk ck), (16, .slice a1 n1 c1), (15, .pointer (some ⟨g, off + j * 2, none⟩)), (14, .pointer (some ⟨g, off + j * 2, none⟩)), (13, .int .i64 ((j : Nat) : Int)), (12, .slice (some ⟨g, off, none⟩) n c), (11, .bool true), (10, .int .i64 n), (9, .slice (some ⟨g, off, none⟩) n c), (8, .int .i64 ((j : Nat) : Int)), (6, .int .i64 ((j : Nat) : Int)), (0, .slice (some ⟨g, off, none⟩) n c), (1, .slice ak nk ck)] _
   refine Zak (fun _ => by kernel_rfl) <| Zbl <| Zal <| Zkv rfl <| Zal <| Zay <| Zab <| Zac ?_
   have hZ : Cl2 u1 ⟨g, off + j * 2, none⟩ ⟨g, off + j * 2 + 1, none⟩ (.slice a1 n1 c1) (.slice a2 n2 c2) /\ Sk K u1 a1 n1 c1 k1 /\ Sk K' u1 ak nk ck k := ⟨hS, hs1, hk.go hB⟩
   refine Zaz (fun v => Cl2 v ⟨g, off + j * 2, none⟩ ⟨g, off + j * 2 + 1, none⟩ (.slice a1 n1 c1) (.slice a2 n2 c2) /\ Sk K v a1 n1 c1 k1 /\ Sk K' v ak nk ck k) (by kernel_rfl) (⟨hZ.1.drew, hZ.2.1.drew, hZ.2.2.drew⟩) ?_
   replace hB := hB.drew
   refine dt 0 23 (.int .i64 ((j : Nat) : Int)) (fun v hv _ => by kernel_rfl) (show Cl2 u1.drew ⟨g, off + j * 2, none⟩ ⟨g, off + j * 2 + 1, none⟩ (.slice a1 n1 c1) (.slice a2 n2 c2) /\ Sk K u1.drew a1 n1 c1 k1 /\ Sk K' u1.drew ak nk ck k from ⟨hZ.1.drew, hZ.2.1.drew, hZ.2.2.drew⟩) <| dt 1 24 (.int .i64 ((j : Nat) : Int)) (fun v hv _ => by kernel_rfl) (show Cl2 u1.drew ⟨g, off + j * 2, none⟩ ⟨g, off + j * 2 + 1, none⟩ (.slice a1 n1 c1) (.slice a2 n2 c2) /\ Sk K u1.drew a1 n1 c1 k1 /\ Sk K' u1.drew ak nk ck k from ⟨hZ.1.drew, hZ.2.1.drew, hZ.2.2.drew⟩) <| dt 2 25 (.slice (some ⟨g, off, none⟩) n c) (fun v hv _ => by kernel_rfl) (show Cl2 u1.drew ⟨g, off + j * 2, none⟩ ⟨g, off + j * 2 + 1, none⟩ (.slice a1 n1 c1) (.slice a2 n2 c2) /\ Sk K u1.drew a1 n1 c1 k1 /\ Sk K' u1.drew ak nk ck k from ⟨hZ.1.drew, hZ.2.1.drew, hZ.2.2.drew⟩) <| dt 3 26 (.int .i64 n) (fun v hv _ => by kernel_rfl) (show Cl2 u1.drew ⟨g, off + j * 2, none⟩ ⟨g, off + j * 2 + 1, none⟩ (.slice a1 n1 c1) (.slice a2 n2 c2) /\ Sk K u1.drew a1 n1 c1 k1 /\ Sk K' u1.drew ak nk ck k from ⟨hZ.1.drew, hZ.2.1.drew, hZ.2.2.drew⟩) <| dt 4 27 (.bool true) (fun v hv => (fun _ => Zag (v := .bool (decide (((j : Nat) : Int) < (n : Int)))) (by kernel_rfl) (congrArg Value.bool (decide_eq_true (by omega))))) (show Cl2 u1.drew ⟨g, off + j * 2, none⟩ ⟨g, off + j * 2 + 1, none⟩ (.slice a1 n1 c1) (.slice a2 n2 c2) /\ Sk K u1.drew a1 n1 c1 k1 /\ Sk K' u1.drew ak nk ck k from ⟨hZ.1.drew, hZ.2.1.drew, hZ.2.2.drew⟩) <| dt 5 28 (.bool true) (fun v hv _ => by kernel_rfl) (show Cl2 u1.drew ⟨g, off + j * 2, none⟩ ⟨g, off + j * 2 + 1, none⟩ (.slice a1 n1 c1) (.slice a2 n2 c2) /\ Sk K u1.drew a1 n1 c1 k1 /\ Sk K' u1.drew ak nk ck k from ⟨hZ.1.drew, hZ.2.1.drew, hZ.2.2.drew⟩) <| dt 6 29 (.slice (some ⟨g, off, none⟩) n c) (fun v hv _ => by kernel_rfl) (show Cl2 u1.drew ⟨g, off + j * 2, none⟩ ⟨g, off + j * 2 + 1, none⟩ (.slice a1 n1 c1) (.slice a2 n2 c2) /\ Sk K u1.drew a1 n1 c1 k1 /\ Sk K' u1.drew ak nk ck k from ⟨hZ.1.drew, hZ.2.1.drew, hZ.2.2.drew⟩) <| dt 7 30 (.int .i64 ((j : Nat) : Int)) (fun v hv _ => by kernel_rfl) (show Cl2 u1.drew ⟨g, off + j * 2, none⟩ ⟨g, off + j * 2 + 1, none⟩ (.slice a1 n1 c1) (.slice a2 n2 c2) /\ Sk K u1.drew a1 n1 c1 k1 /\ Sk K' u1.drew ak nk ck k from ⟨hZ.1.drew, hZ.2.1.drew, hZ.2.2.drew⟩) <| dt 8 31 (.pointer (some ⟨g, off + j * 2, none⟩)) (fun v hv _ => Zau 22 _ _ g off j n c 2 51 rfl (by kernel_rfl) (by kernel_rfl) hlt Tryz.underlying22 (by kernel_rfl)) (show Cl2 u1.drew ⟨g, off + j * 2, none⟩ ⟨g, off + j * 2 + 1, none⟩ (.slice a1 n1 c1) (.slice a2 n2 c2) /\ Sk K u1.drew a1 n1 c1 k1 /\ Sk K' u1.drew ak nk ck k from ⟨hZ.1.drew, hZ.2.1.drew, hZ.2.2.drew⟩) <| dt 9 32 (.pointer (some ⟨g, off + j * 2, none⟩)) (fun v hv _ => by kernel_rfl) (show Cl2 u1.drew ⟨g, off + j * 2, none⟩ ⟨g, off + j * 2 + 1, none⟩ (.slice a1 n1 c1) (.slice a2 n2 c2) /\ Sk K u1.drew a1 n1 c1 k1 /\ Sk K' u1.drew ak nk ck k from ⟨hZ.1.drew, hZ.2.1.drew, hZ.2.2.drew⟩) <| dt 10 33 (.slice a1 n1 c1) (fun v hv _ => Zah 23 _ _ _ _ rfl (by kernel_rfl) hv.1.cx Tryz.underlying23 rfl) (show Cl2 u1.drew ⟨g, off + j * 2, none⟩ ⟨g, off + j * 2 + 1, none⟩ (.slice a1 n1 c1) (.slice a2 n2 c2) /\ Sk K u1.drew a1 n1 c1 k1 /\ Sk K' u1.drew ak nk ck k from ⟨hZ.1.drew, hZ.2.1.drew, hZ.2.2.drew⟩) <| dt 11 34 (.string (strOfNums k1)) (fun v hv _ => hv.2.1.run_str _ _ _ rfl (by kernel_rfl)) (show Cl2 u1.drew ⟨g, off + j * 2, none⟩ ⟨g, off + j * 2 + 1, none⟩ (.slice a1 n1 c1) (.slice a2 n2 c2) /\ Sk K u1.drew a1 n1 c1 k1 /\ Sk K' u1.drew ak nk ck k from ⟨hZ.1.drew, hZ.2.1.drew, hZ.2.2.drew⟩) ?_
   refine dt 12 35 (.slice ak nk ck) (fun v hv _ => by kernel_rfl) (show Cl2 u1.drew ⟨g, off + j * 2, none⟩ ⟨g, off + j * 2 + 1, none⟩ (.slice a1 n1 c1) (.slice a2 n2 c2) /\ Sk K u1.drew a1 n1 c1 k1 /\ Sk K' u1.drew ak nk ck k from ⟨hZ.1.drew, hZ.2.1.drew, hZ.2.2.drew⟩) <| dt 13 36 (.string (strOfNums k)) (fun v hv _ => hv.2.2.run_str _ _ _ rfl (by kernel_rfl)) (show Cl2 u1.drew ⟨g, off + j * 2, none⟩ ⟨g, off + j * 2 + 1, none⟩ (.slice a1 n1 c1) (.slice a2 n2 c2) /\ Sk K u1.drew a1 n1 c1 k1 /\ Sk K' u1.drew ak nk ck k from ⟨hZ.1.drew, hZ.2.1.drew, hZ.2.2.drew⟩) <| dt 14 37 (.bool (decide (k1 = k))) (fun v hv _ => Zqs 9 _ _ _ _ _ rfl (by kernel_rfl) (by kernel_rfl) (Zlr hs1.ag.b hk.ag.b)) (show Cl2 u1.drew ⟨g, off + j * 2, none⟩ ⟨g, off + j * 2 + 1, none⟩ (.slice a1 n1 c1) (.slice a2 n2 c2) /\ Sk K u1.drew a1 n1 c1 k1 /\ Sk K' u1.drew ak nk ck k from ⟨hZ.1.drew, hZ.2.1.drew, hZ.2.2.drew⟩) <| dt 15 38 (.bool (decide (k1 = k))) (fun v hv _ => by kernel_rfl) (show Cl2 u1.drew ⟨g, off + j * 2, none⟩ ⟨g, off + j * 2 + 1, none⟩ (.slice a1 n1 c1) (.slice a2 n2 c2) /\ Sk K u1.drew a1 n1 c1 k1 /\ Sk K' u1.drew ak nk ck k from ⟨hZ.1.drew, hZ.2.1.drew, hZ.2.2.drew⟩) <| dt 16 4 (.int .i64 ((j : Nat) : Int)) (fun v hv _ => by kernel_rfl) (show Cl2 u1.drew ⟨g, off + j * 2, none⟩ ⟨g, off + j * 2 + 1, none⟩ (.slice a1 n1 c1) (.slice a2 n2 c2) /\ Sk K u1.drew a1 n1 c1 k1 /\ Sk K' u1.drew ak nk ck k from ⟨hZ.1.drew, hZ.2.1.drew, hZ.2.2.drew⟩) <| dt 17 5 (.bool (decide (k1 = k))) (fun v hv _ => by kernel_rfl) (show Cl2 u1.drew ⟨g, off + j * 2, none⟩ ⟨g, off + j * 2 + 1, none⟩ (.slice a1 n1 c1) (.slice a2 n2 c2) /\ Sk K u1.drew a1 n1 c1 k1 /\ Sk K' u1.drew ak nk ck k from ⟨hZ.1.drew, hZ.2.1.drew, hZ.2.2.drew⟩) <| Zas (by kernel_rfl) <| Zab <| Zap ?_
   exact Zae (.tuple #[.int .i64 ((j : Nat) : Int), .bool (decide (k1 = k))]) (fun _ => by kernel_rfl) ⟨_, rfl, by rw [hjn, Zx6 hjn hej], hB⟩
 have hjn : atN k l = l.length := by rw [List.drop_eq_nil_of_le (by omega)] at hA; simp only [atN] at hA; omega
 have hS : True := trivial
 refine Zac <| Zac <| Zaa <| rp 8 (.int .i64 ((j : Nat) : Int)) <| rp 9 (.slice a n c) <| rp 10 (.int .i64 n) <| rv 11 (.bool false) (fun _ => Zag (v := .bool (decide (((j : Nat) : Int) < (n : Int)))) (by kernel_rfl) (congrArg Value.bool (decide_eq_false (by omega)))) <| Zad <| Zab <| Zai (fun _ => by kernel_rfl) <| Zbl <| Zal ?_
 refine Zal <| Zay <| Zab <| Zac <| Zaz (fun _ => True) (by kernel_rfl) (trivial) ?_
 replace hB := hB.drew
 refine dt 0 23 (.int .i64 ((j : Nat) : Int)) (fun v hv _ => by kernel_rfl) trivial <| dt 1 24 (.int .i64 ((j : Nat) : Int)) (fun v hv _ => by kernel_rfl) trivial <| dt 2 25 (.slice a n c) (fun v hv _ => by kernel_rfl) trivial <| dt 3 26 (.int .i64 n) (fun v hv _ => by kernel_rfl) trivial <| dt 4 27 (.bool false) (fun v hv => (fun _ => Zag (v := .bool (decide (((j : Nat) : Int) < (n : Int)))) (by kernel_rfl) (congrArg Value.bool (decide_eq_false (by omega))))) trivial <| dt 5 28 (.bool false) (fun v hv _ => by kernel_rfl) trivial <| df 6 29 trivial <| df 7 30 trivial <| df 8 31 trivial <| df 9 32 trivial <| df 10 33 trivial <| df 11 34 trivial ?_
 refine df 12 35 trivial <| df 13 36 trivial <| df 14 37 trivial <| dt 15 38 (.bool false) (fun v hv _ => by kernel_rfl) trivial <| dt 16 4 (.int .i64 ((j : Nat) : Int)) (fun v hv _ => by kernel_rfl) trivial <| dt 17 5 (.bool false) (fun v hv _ => by kernel_rfl) trivial <| Zas (by kernel_rfl) <| Zab <| Zap ?_
 exact Zae (.tuple #[.int .i64 ((j : Nat) : Int), .bool false]) (fun _ => by kernel_rfl) ⟨_, rfl, by rw [Znj hjn, hjn, show j = l.length from by omega], hB⟩
end Go.Proofs.YtefhepcplempkaaGreat
namespace Go.Proofs.YtefhepcplempkaaGreat
open Go.RowKit
open Tr
theorem Zeu {w w' : World} {g base : Nat} (h : New w w' g #[] 5) (hb : base <= w.heap.size) : OwnB w' base (.slice (some ⟨g, 0, none⟩) 0 0) [] := ⟨rfl, .inr ⟨g, 0, #[], rfl, by rw [h.hg]; exact hb, h.row, Nat.le_refl _, by unfold maxLen; omega, rfl, rfl⟩⟩
theorem Zfl {w w' : World} {v u r : Value} {ρ : Operand -> Value} {o : Oper} (hr : ∀ ty, (Builtin.append_ #[22, 22] ty #[v, u]).run Tryz.prog w = .ok r w') (x y : Operand) (ho : o.op = .call { callee := .builtin .append, args := #[x, y], argTypes := #[22, 22] }) (hx : ρ x = v) (hy : ρ y = u) : (execOp ρ o).run Tryz.prog w = .ok (.value r) w' := by
 unfold execOp
 simp only [ho, resolve, invoke, builtin, Sem.run_bind, Sem.run_pure, Result.andThen_ok, List.map_toArray, List.map_cons, List.map_nil, hx, hy, hr]
set_option maxHeartbeats 2000000 in
theorem Zp8 {K K' : Nat -> Prop} {w : World} {a : Option Addr} {n c : Nat} {vs : List (Value × Value)} {l : PList} (hl : PAt K w a n c vs l) {ak : Option Addr} {nk ck : Nat} {k : List Int} (hk : Sk K' w ak nk ck k) (hb : n <= 2932031007390) {K2 : Nat -> Prop} {av : Option Addr} {nv cv : Nat} {x : List Int} (hx : Sk K2 w av nv cv x) (hlen : ∀ (j : Nat) k x, l[j]? = some (k, x) -> k.length <= 1000000) (hn : 32 < nk) :
  Calls Tryz.prog 25 #[.slice a n c, .slice ak nk ck, .slice av nv cv] w fun e w' => ∃ u, e = .returned u /\ (fun u w' => (∃ a n c vs, u = .tuple #[.slice a n c, .int .i64 (putE k x)] /\ PAt (fun b => K b \/ w.heap.size <= b) w' a n c vs (putL l k x)) /\ Bl w w') u w' := by
 have hB := Bl.refl w
 have lk := hk.len
 have lx := hx.len
 have ll := hl.ll
 refine Zaj Tryz.func25 rfl 53 rfl ?_
 show CW _ _ _ _ _ _ _ [(0, .slice a n c), (1, .slice ak nk ck), (2, .slice av nv cv)] _
 refine Zac <| Zaa <| rp 6 (.slice none 0 0) <| rp 7 (.int .i64 0) <| Zad <| Zab <| Zac <| Zac <| Zaa <| rp 11 (.slice ak nk ck) <| rp 12 (.int .i64 nk) <| rv 13 (.bool true) (fun _ => Zag (v := .bool (decide ((nk : Int) > (32 : Int)))) (by kernel_rfl) (congrArg Value.bool (decide_eq_true (by omega)))) ?_
 refine Zad <| Zab <| Zak (fun _ => by kernel_rfl) <| Zac <| Zaa <| rp 14 (.slice a n c) <| rp 6 (.slice a n c) <| rp 7 (.int .i64 70) <| Zad <| Zab <| Zap <| Zaq ?_
 exact Zae (.tuple #[.slice a n c, .int .i64 70]) (fun _ => by kernel_rfl) ⟨_, rfl, ⟨a, n, c, vs, by rw [show putE k x = 70 from by unfold putE; rw [if_neg (by omega)]], by unfold putL; rw [if_neg (by omega)]; exact (hl.go hB).mono (fun _ h => .inl h)⟩, hB⟩
set_option maxHeartbeats 2000000 in
theorem Zw6 {K K' : Nat -> Prop} {w : World} {a : Option Addr} {n c : Nat} {vs : List (Value × Value)} {l : PList} (hl : PAt K w a n c vs l) {ak : Option Addr} {nk ck : Nat} {k : List Int} (hk : Sk K' w ak nk ck k) (hb : n <= 2932031007390) {K2 : Nat -> Prop} {av : Option Addr} {nv cv : Nat} {x : List Int} (hx : Sk K2 w av nv cv x) (hlen : ∀ (j : Nat) k x, l[j]? = some (k, x) -> k.length <= 1000000) (hn : nk <= 32) (hv : nv < 1) :
  Calls Tryz.prog 25 #[.slice a n c, .slice ak nk ck, .slice av nv cv] w fun e w' => ∃ u, e = .returned u /\ (fun u w' => (∃ a n c vs, u = .tuple #[.slice a n c, .int .i64 (putE k x)] /\ PAt (fun b => K b \/ w.heap.size <= b) w' a n c vs (putL l k x)) /\ Bl w w') u w' := by
 have hB := Bl.refl w
 have lk := hk.len
 have lx := hx.len
 have ll := hl.ll
 refine Zaj Tryz.func25 rfl 53 rfl ?_
 show CW _ _ _ _ _ _ _ [(0, .slice a n c), (1, .slice ak nk ck), (2, .slice av nv cv)] _
 refine Zac <| Zaa <| rp 6 (.slice none 0 0) <| rp 7 (.int .i64 0) <| Zad <| Zab <| Zac <| Zac <| Zaa <| rp 11 (.slice ak nk ck) <| rp 12 (.int .i64 nk) <| rv 13 (.bool false) (fun _ => Zag (v := .bool (decide ((nk : Int) > (32 : Int)))) (by kernel_rfl) (congrArg Value.bool (decide_eq_false (by omega)))) ?_
 refine Zad <| Zab <| Zai (fun _ => by kernel_rfl) <| Zan <| Zab <| Zac <| Zac <| Zaa <| rp 15 (.slice av nv cv) <| rp 16 (.int .i64 nv) <| rv 17 (.bool true) (fun _ => Zag (v := .bool (decide ((nv : Int) < (1 : Int)))) (by kernel_rfl) (congrArg Value.bool (decide_eq_true (by omega)))) <| rp 18 (.bool true) ?_
 refine Zbb 19 (fun _ => by kernel_rfl) <| Zbb 20 (fun _ => by kernel_rfl) <| Zbb 21 (fun _ => by kernel_rfl) <| rp 22 (.bool true) <| Zad <| Zab <| Zak (fun _ => by kernel_rfl) <| Zac <| Zaa <| rp 23 (.slice a n c) <| rp 6 (.slice a n c) <| rp 7 (.int .i64 71) ?_
 refine Zad <| Zab <| Zap <| Zaq ?_
 exact Zae (.tuple #[.slice a n c, .int .i64 71]) (fun _ => by kernel_rfl) ⟨_, rfl, ⟨a, n, c, vs, by rw [show putE k x = 71 from by unfold putE; rw [if_pos (by omega), if_neg (by omega)]], by unfold putL; rw [if_neg (by omega)]; exact (hl.go hB).mono (fun _ h => .inl h)⟩, hB⟩
set_option maxHeartbeats 2000000 in
theorem Zw5 {K K' : Nat -> Prop} {w : World} {a : Option Addr} {n c : Nat} {vs : List (Value × Value)} {l : PList} (hl : PAt K w a n c vs l) {ak : Option Addr} {nk ck : Nat} {k : List Int} (hk : Sk K' w ak nk ck k) (hb : n <= 2932031007390) {K2 : Nat -> Prop} {av : Option Addr} {nv cv : Nat} {x : List Int} (hx : Sk K2 w av nv cv x) (hlen : ∀ (j : Nat) k x, l[j]? = some (k, x) -> k.length <= 1000000) (hn : nk <= 32) (hv : 256 < nv) :
  Calls Tryz.prog 25 #[.slice a n c, .slice ak nk ck, .slice av nv cv] w fun e w' => ∃ u, e = .returned u /\ (fun u w' => (∃ a n c vs, u = .tuple #[.slice a n c, .int .i64 (putE k x)] /\ PAt (fun b => K b \/ w.heap.size <= b) w' a n c vs (putL l k x)) /\ Bl w w') u w' := by
 have hB := Bl.refl w
 have lk := hk.len
 have lx := hx.len
 have ll := hl.ll
 refine Zaj Tryz.func25 rfl 53 rfl ?_
 show CW _ _ _ _ _ _ _ [(0, .slice a n c), (1, .slice ak nk ck), (2, .slice av nv cv)] _
 refine Zac <| Zaa <| rp 6 (.slice none 0 0) <| rp 7 (.int .i64 0) <| Zad <| Zab <| Zac <| Zac <| Zaa <| rp 11 (.slice ak nk ck) <| rp 12 (.int .i64 nk) <| rv 13 (.bool false) (fun _ => Zag (v := .bool (decide ((nk : Int) > (32 : Int)))) (by kernel_rfl) (congrArg Value.bool (decide_eq_false (by omega)))) ?_
 refine Zad <| Zab <| Zai (fun _ => by kernel_rfl) <| Zan <| Zab <| Zac <| Zac <| Zaa <| rp 15 (.slice av nv cv) <| rp 16 (.int .i64 nv) <| rv 17 (.bool false) (fun _ => Zag (v := .bool (decide ((nv : Int) < (1 : Int)))) (by kernel_rfl) (congrArg Value.bool (decide_eq_false (by omega)))) <| rp 18 (.bool false) ?_
 refine rp 19 (.slice av nv cv) <| rp 20 (.int .i64 nv) <| rv 21 (.bool true) (fun _ => Zag (v := .bool (decide ((nv : Int) > (256 : Int)))) (by kernel_rfl) (congrArg Value.bool (decide_eq_true (by omega)))) <| rp 22 (.bool true) <| Zad <| Zab <| Zak (fun _ => by kernel_rfl) <| Zac <| Zaa <| rp 23 (.slice a n c) <| rp 6 (.slice a n c) <| rp 7 (.int .i64 71) ?_
 refine Zad <| Zab <| Zap <| Zaq ?_
 exact Zae (.tuple #[.slice a n c, .int .i64 71]) (fun _ => by kernel_rfl) ⟨_, rfl, ⟨a, n, c, vs, by rw [show putE k x = 71 from by unfold putE; rw [if_pos (by omega), if_neg (by omega)]], by unfold putL; rw [if_neg (by omega)]; exact (hl.go hB).mono (fun _ h => .inl h)⟩, hB⟩
set_option maxHeartbeats 2000000 in
theorem Zw7 {K K' : Nat -> Prop} {w : World} {a : Option Addr} {n c : Nat} {vs : List (Value × Value)} {l : PList} (hl : PAt K w a n c vs l) {ak : Option Addr} {nk ck : Nat} {k : List Int} (hk : Sk K' w ak nk ck k) (hb : n <= 2932031007390) {K2 : Nat -> Prop} {av : Option Addr} {nv cv : Nat} {x : List Int} (hx : Sk K2 w av nv cv x) (hlen : ∀ (j : Nat) k x, l[j]? = some (k, x) -> k.length <= 1000000) (hn : nk <= 32) (hv1 : 0 < nv) (hv2 : nv <= 256) (hat : isAt k l = true) :
  Calls Tryz.prog 25 #[.slice a n c, .slice ak nk ck, .slice av nv cv] w fun e w' => ∃ u, e = .returned u /\ (fun u w' => (∃ a n c vs, u = .tuple #[.slice a n c, .int .i64 (putE k x)] /\ PAt (fun b => K b \/ w.heap.size <= b) w' a n c vs (putL l k x)) /\ Bl w w') u w' := by
 have hB := Bl.refl w
 have lk := hk.len
 have lx := hx.len
 have ll := hl.ll
 refine Zaj Tryz.func25 rfl 53 rfl ?_
 show CW _ _ _ _ _ _ _ [(0, .slice a n c), (1, .slice ak nk ck), (2, .slice av nv cv)] _
 refine Zac <| Zaa <| rp 6 (.slice none 0 0) <| rp 7 (.int .i64 0) <| Zad <| Zab <| Zac <| Zac <| Zaa <| rp 11 (.slice ak nk ck) <| rp 12 (.int .i64 nk) <| rv 13 (.bool false) (fun _ => Zag (v := .bool (decide ((nk : Int) > (32 : Int)))) (by kernel_rfl) (congrArg Value.bool (decide_eq_false (by omega)))) ?_
 refine Zad <| Zab <| Zai (fun _ => by kernel_rfl) <| Zan <| Zab <| Zac <| Zac <| Zaa <| rp 15 (.slice av nv cv) <| rp 16 (.int .i64 nv) <| rv 17 (.bool false) (fun _ => Zag (v := .bool (decide ((nv : Int) < (1 : Int)))) (by kernel_rfl) (congrArg Value.bool (decide_eq_false (by omega)))) <| rp 18 (.bool false) ?_
 refine rp 19 (.slice av nv cv) <| rp 20 (.int .i64 nv) <| rv 21 (.bool false) (fun _ => Zag (v := .bool (decide ((nv : Int) > (256 : Int)))) (by kernel_rfl) (congrArg Value.bool (decide_eq_false (by omega)))) <| rp 22 (.bool false) <| Zad <| Zab <| Zai (fun _ => by kernel_rfl) <| Zan <| Zab <| Zac <| Zaa <| rp 25 (.slice a n c) ?_
 refine rp 26 (.slice ak nk ck) <| Zao 27 44 #[.slice a n c, .slice ak nk ck] (fun _ => by kernel_rfl) (fun _ => by kernel_rfl) (R := fun u w' => u = .tuple #[.int .i64 ((atN k l : Nat) : Int), .bool (isAt k l)] /\ Bl (w) w') ((Zwi (hl.go hB) (hk.go hB) hb hlen)) ?_
 rintro _ u1 ⟨rfl, hb2⟩
 replace hB := hB.go hb2
 rw [hat]
 have hle := Zsx k l
 have hl0 := hl.old
 have hlt : atN k l < n := by by_cases h : atN k l < n; exact h; rw [Znj (by omega)] at hat; cases hat
 refine rp 24 (.tuple #[.int .i64 ((atN k l : Nat) : Int), .bool true]) <| rp 28 (.int .i64 ((atN k l : Nat) : Int)) <| rp 29 (.bool true) <| rp 8 (.int .i64 ((atN k l : Nat) : Int)) <| rp 9 (.bool true) <| Zad <| Zab <| Zac <| Zaa <| Zbi 30 #[] 51 0 (fun _ => by kernel_rfl) (fun _ => by kernel_rfl) ?_
 intro w0 g0 hn0
 have hO : OwnL (fun b => K b \/ w.heap.size <= b) w0 w.heap.size (.slice (some ⟨g0, 0, none⟩) 0 0) [] := OwnL.new hn0 hB.size (fun b hb => .inr hb)
 replace hB := hB.go hn0.below
 refine rp 31 (.slice a n c) <| rp 32 (.int .i64 ((atN k l : Nat) : Int)) ?_
 obtain ⟨a1, n1, c1, hc1, hP1⟩ := (hl0.go hB).cutTo (atN k l) (by omega)
 refine rv 33 (.slice a1 n1 c1) (fun _ => hc1 _ _ _ _ _ rfl (by kernel_rfl) (by kernel_rfl)) ?_
 have ht1 := hP1.ll
 obtain ⟨VA, wA, hrA, hOA, hbA⟩ := appP hO hP1 (fun b hb => ⟨fun e => by have := (hO.own b e).1; have := hb.2; omega, .inl hb.1⟩) (by rw [List.length_take] at ht1; simp; omega) hB.size
 refine rw_v 34 VA (fun _ => by kernel_rfl) (fun _ => Zfl hrA _ _ rfl (by kernel_rfl) (by kernel_rfl)) ?_
 replace hB : Bl w wA := Below.trans hB hbA
 replace hO := hOA
 rw [List.nil_append] at hO
 refine rp 10 (VA) <| Zad ?_
 have hOown := hO.own
 have hwA := hB.size
 refine Zab <| Zac <| Zaa <| rp 35 (VA) ?_
 have hzk := Nat.le_refl (World.heap wA).size
 refine Zbi 36 #[] 5 0 (fun _ => by kernel_rfl) (fun _ => by kernel_rfl) ?_
 intro wk gk hnk
 have hqk := Zeu hnk (Nat.le_refl _)
 refine rp 37 (.slice ak nk ck) ?_
 obtain ⟨Vk, wkb, hrk, hok, hbk⟩ := Zen hqk (hk.go (hB.go hnk.below)).ag (by simp; omega) (by have := hnk.below.size; omega)
 rw [List.nil_append] at hok
 refine rw_v 38 Vk (fun _ => by kernel_rfl) (fun _ => Zg8 hrk _ _ rfl (by kernel_rfl) (by kernel_rfl)) ?_
 have hfk : Below wA.heap.size wA wkb := hnk.below.trans hbk
 obtain ⟨bk, dk, rfl, hsk⟩ := hok.sk (K := fun b => wA.heap.size <= b) hk.ag.b (fun b hb => hb)
 replace hB := hB.go hfk
 replace hO := hO.far hfk
 have hzx := Nat.le_refl (World.heap wkb).size
 refine Zbi 39 #[] 5 0 (fun _ => by kernel_rfl) (fun _ => by kernel_rfl) ?_
 intro wx gx hnx
 have hqx := Zeu hnx (Nat.le_refl _)
 refine rp 40 (.slice av nv cv) ?_
 obtain ⟨Vx, wxb, hrx, hox, hbx⟩ := Zen hqx (hx.go (hB.go hnx.below)).ag (by simp; omega) (by have := hnx.below.size; omega)
 rw [List.nil_append] at hox
 refine rw_v 41 Vx (fun _ => by kernel_rfl) (fun _ => Zg8 hrx _ _ rfl (by kernel_rfl) (by kernel_rfl)) ?_
 have hfx : Below wkb.heap.size wkb wxb := hnx.below.trans hbx
 obtain ⟨bx, dx, rfl, hsx⟩ := hox.sk (K := fun b => wkb.heap.size <= b) hx.ag.b (fun b hb => hb)
 replace hB := hB.go hfx
 replace hO := hO.far hfx
 replace hsk := hsk.go hfx
 refine rp 42 (.agg #[.slice bk k.length dk, .slice bx x.length dx]) ?_
 have hown := hO.own
 have hsx2 := hfx.size
 have hsk2 := hfk.size
 refine Zbi 43 #[.slice bk k.length dk, .slice bx x.length dx] 51 1 (fun _ => by kernel_rfl) (fun _ => by kernel_rfl) ?_
 intro wL gL hnL
 have hP2 := PAt.one hnL (hsk.mono (K' := fun b => wA.heap.size <= b) (fun b hb => hb)) (hsx.mono (K' := fun b => wA.heap.size <= b) (fun b hb => by omega)) (by have := hnL.hg; omega)
 replace hB := hB.go hnL.below
 have hOA := hO
 replace hO := hO.far hnL.below
 have hoA := hOown
 obtain ⟨VC, wC, hrC, hOC, hbC⟩ := appP hO hP2 (fun b hb => ⟨fun e => by have := (hoA b e).2; omega, .inr (by omega)⟩) (by simp; omega) hB.size
 refine rw_v 44 VC (fun _ => by kernel_rfl) (fun _ => Zfl hrC _ _ rfl (by kernel_rfl) (by kernel_rfl)) ?_
 replace hB : Bl w wC := Below.trans hB hbC
 replace hO := hOC
 refine rp 10 (VC) <| Zad <| Zab <| Zac <| Zac <| Zaa <| rp 45 (.bool true) <| Zad <| Zab <| Zak (fun _ => by kernel_rfl) <| Zaa <| rp 46 (.int .i64 ((atN k l : Nat) : Int)) ?_
 refine rv 47 (.int .i64 ((atN k l + 1 : Nat) : Int)) (fun _ => Zag (v := .int .i64 (IntKind.i64.wrap (((atN k l : Nat) : Int) + 1))) (by kernel_rfl) (congrArg (Value.int .i64) (by rw [Zbc (by omega) (by omega)]; omega))) <| rp 8 (.int .i64 ((atN k l + 1 : Nat) : Int)) <| Zad <| Zab <| Zac <| Zaa <| rp 48 (VC) <| rp 49 (.slice a n c) <| rp 50 (.int .i64 ((atN k l + 1 : Nat) : Int)) ?_
 obtain ⟨a3, n3, c3, hc3, hP3⟩ := (hl0.go hB).cutFrom (atN k l + 1) (by omega)
 refine rv 51 (.slice a3 n3 c3) (fun _ => hc3 _ _ _ _ _ rfl (by kernel_rfl) (by kernel_rfl)) ?_
 have ht3 := hP3.ll
 obtain ⟨VE, wE, hrE, hOE, hbE⟩ := appP hO hP3 (fun b hb => ⟨fun e => by have := (hO.own b e).1; have := hb.2; omega, .inl hb.1⟩) (by rw [List.length_drop] at ht3; simp; omega) hB.size
 refine rw_v 52 VE (fun _ => by kernel_rfl) (fun _ => Zfl hrE _ _ rfl (by kernel_rfl) (by kernel_rfl)) ?_
 replace hB : Bl w wE := Below.trans hB hbE
 replace hO := hOE
 refine rp 6 (VE) <| rp 7 (.int .i64 0) <| Zad <| Zab <| Zap ?_
 have hpl : putL l k x = l.take (atN k l) ++ [(k, x)] ++ l.drop (atN k l + 1) := by unfold putL; rw [if_pos (by omega), Zi8, hat]; rfl
 rw [<- hpl] at hO
 obtain ⟨aF, cF, vsF, eF, hF⟩ := hO.pat
 subst eF
 exact Zae (.tuple #[.slice aF (putL l k x).length cF, .int .i64 0]) (fun _ => by kernel_rfl) ⟨_, rfl, ⟨aF, _, cF, vsF, by rw [show putE k x = 0 from by unfold putE; rw [if_pos (by omega), if_pos (by omega)]], hF⟩, hB⟩
set_option maxHeartbeats 2000000 in
theorem Ztp {K K' : Nat -> Prop} {w : World} {a : Option Addr} {n c : Nat} {vs : List (Value × Value)} {l : PList} (hl : PAt K w a n c vs l) {ak : Option Addr} {nk ck : Nat} {k : List Int} (hk : Sk K' w ak nk ck k) (hb : n <= 2932031007390) {K2 : Nat -> Prop} {av : Option Addr} {nv cv : Nat} {x : List Int} (hx : Sk K2 w av nv cv x) (hlen : ∀ (j : Nat) k x, l[j]? = some (k, x) -> k.length <= 1000000) (hn : nk <= 32) (hv1 : 0 < nv) (hv2 : nv <= 256) (hat : isAt k l = false) :
  Calls Tryz.prog 25 #[.slice a n c, .slice ak nk ck, .slice av nv cv] w fun e w' => ∃ u, e = .returned u /\ (fun u w' => (∃ a n c vs, u = .tuple #[.slice a n c, .int .i64 (putE k x)] /\ PAt (fun b => K b \/ w.heap.size <= b) w' a n c vs (putL l k x)) /\ Bl w w') u w' := by
 have hB := Bl.refl w
 have lk := hk.len
 have lx := hx.len
 have ll := hl.ll
 refine Zaj Tryz.func25 rfl 53 rfl ?_
 show CW _ _ _ _ _ _ _ [(0, .slice a n c), (1, .slice ak nk ck), (2, .slice av nv cv)] _
 refine Zac <| Zaa <| rp 6 (.slice none 0 0) <| rp 7 (.int .i64 0) <| Zad <| Zab <| Zac <| Zac <| Zaa <| rp 11 (.slice ak nk ck) <| rp 12 (.int .i64 nk) <| rv 13 (.bool false) (fun _ => Zag (v := .bool (decide ((nk : Int) > (32 : Int)))) (by kernel_rfl) (congrArg Value.bool (decide_eq_false (by omega)))) ?_
 refine Zad <| Zab <| Zai (fun _ => by kernel_rfl) <| Zan <| Zab <| Zac <| Zac <| Zaa <| rp 15 (.slice av nv cv) <| rp 16 (.int .i64 nv) <| rv 17 (.bool false) (fun _ => Zag (v := .bool (decide ((nv : Int) < (1 : Int)))) (by kernel_rfl) (congrArg Value.bool (decide_eq_false (by omega)))) <| rp 18 (.bool false) ?_
 refine rp 19 (.slice av nv cv) <| rp 20 (.int .i64 nv) <| rv 21 (.bool false) (fun _ => Zag (v := .bool (decide ((nv : Int) > (256 : Int)))) (by kernel_rfl) (congrArg Value.bool (decide_eq_false (by omega)))) <| rp 22 (.bool false) <| Zad <| Zab <| Zai (fun _ => by kernel_rfl) <| Zan <| Zab <| Zac <| Zaa <| rp 25 (.slice a n c) ?_
 refine rp 26 (.slice ak nk ck) <| Zao 27 44 #[.slice a n c, .slice ak nk ck] (fun _ => by kernel_rfl) (fun _ => by kernel_rfl) (R := fun u w' => u = .tuple #[.int .i64 ((atN k l : Nat) : Int), .bool (isAt k l)] /\ Bl (w) w') ((Zwi (hl.go hB) (hk.go hB) hb hlen)) ?_
 rintro _ u1 ⟨rfl, hb2⟩
 replace hB := hB.go hb2
 rw [hat]
 have hle := Zsx k l
 have hl0 := hl.old
 refine rp 24 (.tuple #[.int .i64 ((atN k l : Nat) : Int), .bool false]) <| rp 28 (.int .i64 ((atN k l : Nat) : Int)) <| rp 29 (.bool false) <| rp 8 (.int .i64 ((atN k l : Nat) : Int)) <| rp 9 (.bool false) <| Zad <| Zab <| Zac <| Zaa <| Zbi 30 #[] 51 0 (fun _ => by kernel_rfl) (fun _ => by kernel_rfl) ?_
 intro w0 g0 hn0
 have hO : OwnL (fun b => K b \/ w.heap.size <= b) w0 w.heap.size (.slice (some ⟨g0, 0, none⟩) 0 0) [] := OwnL.new hn0 hB.size (fun b hb => .inr hb)
 replace hB := hB.go hn0.below
 refine rp 31 (.slice a n c) <| rp 32 (.int .i64 ((atN k l : Nat) : Int)) ?_
 obtain ⟨a1, n1, c1, hc1, hP1⟩ := (hl0.go hB).cutTo (atN k l) (by omega)
 refine rv 33 (.slice a1 n1 c1) (fun _ => hc1 _ _ _ _ _ rfl (by kernel_rfl) (by kernel_rfl)) ?_
 have ht1 := hP1.ll
 obtain ⟨VA, wA, hrA, hOA, hbA⟩ := appP hO hP1 (fun b hb => ⟨fun e => by have := (hO.own b e).1; have := hb.2; omega, .inl hb.1⟩) (by rw [List.length_take] at ht1; simp; omega) hB.size
 refine rw_v 34 VA (fun _ => by kernel_rfl) (fun _ => Zfl hrA _ _ rfl (by kernel_rfl) (by kernel_rfl)) ?_
 replace hB : Bl w wA := Below.trans hB hbA
 replace hO := hOA
 rw [List.nil_append] at hO
 refine rp 10 (VA) <| Zad ?_
 have hOown := hO.own
 have hwA := hB.size
 refine Zab <| Zac <| Zaa <| rp 35 (VA) ?_
 have hzk := Nat.le_refl (World.heap wA).size
 refine Zbi 36 #[] 5 0 (fun _ => by kernel_rfl) (fun _ => by kernel_rfl) ?_
 intro wk gk hnk
 have hqk := Zeu hnk (Nat.le_refl _)
 refine rp 37 (.slice ak nk ck) ?_
 obtain ⟨Vk, wkb, hrk, hok, hbk⟩ := Zen hqk (hk.go (hB.go hnk.below)).ag (by simp; omega) (by have := hnk.below.size; omega)
 rw [List.nil_append] at hok
 refine rw_v 38 Vk (fun _ => by kernel_rfl) (fun _ => Zg8 hrk _ _ rfl (by kernel_rfl) (by kernel_rfl)) ?_
 have hfk : Below wA.heap.size wA wkb := hnk.below.trans hbk
 obtain ⟨bk, dk, rfl, hsk⟩ := hok.sk (K := fun b => wA.heap.size <= b) hk.ag.b (fun b hb => hb)
 replace hB := hB.go hfk
 replace hO := hO.far hfk
 have hzx := Nat.le_refl (World.heap wkb).size
 refine Zbi 39 #[] 5 0 (fun _ => by kernel_rfl) (fun _ => by kernel_rfl) ?_
 intro wx gx hnx
 have hqx := Zeu hnx (Nat.le_refl _)
 refine rp 40 (.slice av nv cv) ?_
 obtain ⟨Vx, wxb, hrx, hox, hbx⟩ := Zen hqx (hx.go (hB.go hnx.below)).ag (by simp; omega) (by have := hnx.below.size; omega)
 rw [List.nil_append] at hox
 refine rw_v 41 Vx (fun _ => by kernel_rfl) (fun _ => Zg8 hrx _ _ rfl (by kernel_rfl) (by kernel_rfl)) ?_
 have hfx : Below wkb.heap.size wkb wxb := hnx.below.trans hbx
 obtain ⟨bx, dx, rfl, hsx⟩ := hox.sk (K := fun b => wkb.heap.size <= b) hx.ag.b (fun b hb => hb)
 replace hB := hB.go hfx
 replace hO := hO.far hfx
 replace hsk := hsk.go hfx
 refine rp 42 (.agg #[.slice bk k.length dk, .slice bx x.length dx]) ?_
 have hown := hO.own
 have hsx2 := hfx.size
 have hsk2 := hfk.size
 refine Zbi 43 #[.slice bk k.length dk, .slice bx x.length dx] 51 1 (fun _ => by kernel_rfl) (fun _ => by kernel_rfl) ?_
 intro wL gL hnL
 have hP2 := PAt.one hnL (hsk.mono (K' := fun b => wA.heap.size <= b) (fun b hb => hb)) (hsx.mono (K' := fun b => wA.heap.size <= b) (fun b hb => by omega)) (by have := hnL.hg; omega)
 replace hB := hB.go hnL.below
 have hOA := hO
 replace hO := hO.far hnL.below
 have hoA := hOown
 obtain ⟨VC, wC, hrC, hOC, hbC⟩ := appP hO hP2 (fun b hb => ⟨fun e => by have := (hoA b e).2; omega, .inr (by omega)⟩) (by simp; omega) hB.size
 refine rw_v 44 VC (fun _ => by kernel_rfl) (fun _ => Zfl hrC _ _ rfl (by kernel_rfl) (by kernel_rfl)) ?_
 replace hB : Bl w wC := Below.trans hB hbC
 replace hO := hOC
 refine rp 10 (VC) <| Zad <| Zab <| Zac <| Zac <| Zaa <| rp 45 (.bool false) <| Zad <| Zab <| Zai (fun _ => by kernel_rfl) <| Zan <| Zab ?_
 refine Zac <| Zaa <| rp 48 (VC) <| rp 49 (.slice a n c) <| rp 50 (.int .i64 ((atN k l : Nat) : Int)) ?_
 obtain ⟨a3, n3, c3, hc3, hP3⟩ := (hl0.go hB).cutFrom (atN k l) (by omega)
 refine rv 51 (.slice a3 n3 c3) (fun _ => hc3 _ _ _ _ _ rfl (by kernel_rfl) (by kernel_rfl)) ?_
 have ht3 := hP3.ll
 obtain ⟨VE, wE, hrE, hOE, hbE⟩ := appP hO hP3 (fun b hb => ⟨fun e => by have := (hO.own b e).1; have := hb.2; omega, .inl hb.1⟩) (by rw [List.length_drop] at ht3; simp; omega) hB.size
 refine rw_v 52 VE (fun _ => by kernel_rfl) (fun _ => Zfl hrE _ _ rfl (by kernel_rfl) (by kernel_rfl)) ?_
 replace hB : Bl w wE := Below.trans hB hbE
 replace hO := hOE
 refine rp 6 (VE) <| rp 7 (.int .i64 0) <| Zad <| Zab <| Zap ?_
 have hpl : putL l k x = l.take (atN k l) ++ [(k, x)] ++ l.drop (atN k l) := by unfold putL; rw [if_pos (by omega), Zi8, hat]; rfl
 rw [<- hpl] at hO
 obtain ⟨aF, cF, vsF, eF, hF⟩ := hO.pat
 subst eF
 exact Zae (.tuple #[.slice aF (putL l k x).length cF, .int .i64 0]) (fun _ => by kernel_rfl) ⟨_, rfl, ⟨aF, _, cF, vsF, by rw [show putE k x = 0 from by unfold putE; rw [if_pos (by omega), if_pos (by omega)]], hF⟩, hB⟩
theorem Ztq {K K' : Nat -> Prop} {w : World} {a : Option Addr} {n c : Nat} {vs : List (Value × Value)} {l : PList} (hl : PAt K w a n c vs l) {ak : Option Addr} {nk ck : Nat} {k : List Int} (hk : Sk K' w ak nk ck k) (hb : n <= 2932031007390) {K2 : Nat -> Prop} {av : Option Addr} {nv cv : Nat} {x : List Int} (hx : Sk K2 w av nv cv x) (hlen : ∀ (j : Nat) k x, l[j]? = some (k, x) -> k.length <= 1000000) :
  Calls Tryz.prog 25 #[.slice a n c, .slice ak nk ck, .slice av nv cv] w fun e w' => ∃ u, e = .returned u /\ (fun u w' => (∃ a n c vs, u = .tuple #[.slice a n c, .int .i64 (putE k x)] /\ PAt (fun b => K b \/ w.heap.size <= b) w' a n c vs (putL l k x)) /\ Bl w w') u w' := by
 by_cases hn : nk <= 32
 ·by_cases h1 : nv < 1
  ·exact Zw6 hl hk hb hx hlen hn h1
  ·by_cases h2 : nv <= 256
   ·cases hat : isAt k l with
    | true => exact Zw7 hl hk hb hx hlen hn (by omega) h2 hat
    | false => exact Ztp hl hk hb hx hlen hn (by omega) h2 hat
   ·exact Zw5 hl hk hb hx hlen hn (by omega)
 ·exact Zp8 hl hk hb hx hlen (by omega)
end Go.Proofs.YtefhepcplempkaaGreat
namespace Go.Proofs.YtefhepcplempkaaGreat
open Go.RowKit
open Tr
open Di (dref)
theorem Rel.k32 {t : Tr} {l : PList} (h : Rel t l) : ∀ (j : Nat) (k x : List Int), l[j]? = some (k, x) -> k.length <= 1000000 := fun j k x hj => by
 have := ((h.m k x).1 (List.mem_of_getElem? hj)).2.1
 omega
def StR (w : World) (n : Nat) : Value -> World -> Prop := fun u w' => (∃ g a m c vs t l, u = .tuple #[.pointer (some ⟨g, 0, none⟩), .slice a m c] /\ w.heap.size <= g /\ Tri (fun _ => True) w' g t /\ PAt (fun _ => True) w' a m c vs l /\ Rel t l /\ l.length <= n /\ Tr.sz t <= 3 * n) /\ Bl w w'
set_option maxHeartbeats 4000000 in
theorem Zn9 {K : Nat -> Prop} {w : World} {a : Option Addr} {n c : Nat} {vs : List (Value × Value)} {l : PList} (hl : PAt K w a n c vs l) (hn : n <= 2932031007317) :
  Calls Tryz.prog 10 #[.slice a n c] w fun e w' => ∃ u, e = .returned u /\ StR w n u w' := by
 have hB := Bl.refl w
 have hlo := hl.old
 refine Zaj Tryz.func10 rfl 43 rfl ?_
 show CW _ _ _ _ _ _ _ [(0, .slice a n c)] _
 refine Zac <| Zaa <| rp 2 (.pointer none) <| rp 3 (.slice none 0 0) <| Zad <| Zab <| Zac <| Zaa <| Zao 7 23 #[] (fun _ => by kernel_rfl) (fun _ => by kernel_rfl) (R := fun u w' => (∃ g, u = .pointer (some ⟨g, 0, none⟩) /\ w.heap.size <= g /\ Tri (fun _ => True) w' g no) /\ Bl w w') (Zq2) ?_
 rintro _ u2 ⟨⟨g, rfl, hgT, hT⟩, hb2⟩
 replace hB := hB.go hb2
 refine rp 4 (.pointer (some ⟨g, 0, none⟩)) <| Zad <| Zab <| Zac <| Zaa <| rp 5 (.slice none 0 0) <| Zad <| Zab <| Zac <| Zac <| Zaa <| rp 8 (.slice a n c) ?_
 refine rp 9 (.int .i64 n) <| rp 10 (.int .i64 0) <| Zad <| Zab <| Zar <| Zby (X := Nat × Tr × PList × Option Addr × Nat × Nat) (fun q => [(10, .int .i64 ((q.1 : Nat) : Int)), (0, .slice a n c), (9, .int .i64 n), (4, .pointer (some ⟨g, 0, none⟩)), (5, .slice q.2.2.2.1 q.2.2.2.2.1 q.2.2.2.2.2)]) (fun q v => Bl w v /\ Tri (fun _ => True) v g q.2.1 /\ (∃ vs, PAt (fun _ => True) v q.2.2.2.1 q.2.2.2.2.1 q.2.2.2.2.2 vs q.2.2.1) /\ Rel q.2.1 q.2.2.1 /\ q.2.2.1.length <= q.1 /\ q.1 <= n /\ Tr.sz q.2.1 <= 3 * q.1) (fun q => n - q.1) (0, no, [], none, 0, 0) (by exact ⟨fun _ => by kernel_rfl, ⟨fun _ => by kernel_rfl, ⟨fun _ => by kernel_rfl, ⟨fun _ => by kernel_rfl, ⟨fun _ => by kernel_rfl, trivial⟩⟩⟩⟩⟩) ⟨hB, hT, ⟨_, PAt.empty _ _⟩, Rel.nil, Nat.le_refl _, Nat.zero_le _, by simp [Tr.sz]⟩ ?_
 clear hB hT
 rintro ⟨j, t, lt, aL, nL, cL⟩ v ⟨hB, hT, ⟨vsL, hP⟩, hRel, hlm, hj, hz⟩
 simp only at hB hT hP hRel hlm hj hz
 show CW _ _ _ _ _ _ _ [(10, .int .i64 ((j : Nat) : Int)), (0, .slice a n c), (9, .int .i64 n), (4, .pointer (some ⟨g, 0, none⟩)), (5, .slice aL nL cL)] _
 by_cases hlt : j < n
 ·skip
  obtain ⟨gE, oE, a1, n1, c1, a2, n2, c2, k, x, ea, hej, hc1, hc2, hs1, hs2⟩ := hlo.at hlt
  subst ea
  have hkB : isB k := hs1.ag.b
  have hlP := hP.ll
  refine Zac <| Zaa <| rv 11 (.bool true) (fun _ => Zag (v := .bool (decide (((j : Nat) : Int) < (n : Int)))) (by kernel_rfl) (congrArg Value.bool (decide_eq_true (by omega)))) <| Zad <| Zab <| Zac <| Zak (fun _ => by kernel_rfl) <| Zan <| Zab <| Zac <| Zar <| Zac ?_
  refine Zaa <| rp 12 (.int .i64 ((j : Nat) : Int)) <| rp 6 (.int .i64 ((j : Nat) : Int)) <| Zad <| Zab <| Zac <| Zaz (fun v => Bl w v) (by kernel_rfl) (hB.drew) ?_
  replace hB := hB.drew
  replace hT := hT.drew
  replace hP := hP.drew
  refine dt 0 13 (.pointer (some ⟨g, 0, none⟩)) (fun v hv _ => by kernel_rfl) hB <| dt 1 14 (.slice (some ⟨gE, oE, none⟩) n c) (fun v hv _ => by kernel_rfl) hB <| dt 2 15 (.int .i64 ((j : Nat) : Int)) (fun v hv _ => by kernel_rfl) hB <| dt 3 16 (.pointer (some ⟨gE, oE + j * 2, none⟩)) (fun v hv _ => Zau 22 _ _ gE oE j n c 2 51 rfl (by kernel_rfl) (by kernel_rfl) hlt Tryz.underlying22 (by kernel_rfl)) hB <| dt 4 17 (.pointer (some ⟨gE, oE + j * 2, none⟩)) (fun v hv _ => by kernel_rfl) hB <| dt 5 18 (.slice a1 n1 c1) (fun v hv _ => Zah 23 _ _ _ _ rfl (by kernel_rfl) ((Below.cell hv (block_lt_of_cell hc1)).trans hc1) Tryz.underlying23 rfl) hB <| dt 6 19 (.slice (some ⟨gE, oE, none⟩) n c) (fun v hv _ => by kernel_rfl) hB <| dt 7 20 (.int .i64 ((j : Nat) : Int)) (fun v hv _ => by kernel_rfl) hB <| dt 8 21 (.pointer (some ⟨gE, oE + j * 2, none⟩)) (fun v hv _ => Zau 22 _ _ gE oE j n c 2 51 rfl (by kernel_rfl) (by kernel_rfl) hlt Tryz.underlying22 (by kernel_rfl)) hB <| dt 9 22 (.pointer (some ⟨gE, oE + j * 2 + 1, none⟩)) (fun v hv _ => by kernel_rfl) hB <| dt 10 23 (.slice a2 n2 c2) (fun v hv _ => Zah 23 _ _ _ _ rfl (by kernel_rfl) ((Below.cell hv (block_lt_of_cell hc2)).trans hc2) Tryz.underlying23 rfl) hB <| Zaf [11] (by kernel_rfl) (by simp) ?_
  refine Zat 11 24 24 #[.pointer (some ⟨g, 0, none⟩), .slice a1 n1 c1, .slice a2 n2 c2] rfl (fun _ => by kernel_rfl) (fun _ => by kernel_rfl) (R := fun u w' => u = .int .i64 (putE k x) /\ Tri (fun _ => True) w' g (putT t k x) /\ Touch g (v.drew) w') ((Zmo hT (hs1.go hB) (hs2.go hB) (fun _ _ => trivial))) (fun u w' h => h.2.2.below hB hgT hB.size) ?_ Zam
  rintro _ u5 ⟨rfl, hTn, hto⟩
  replace hP := hP.touch hto hT
  replace hB : Bl w u5 := hto.below hB hgT hB.size
  replace hT := hTn
  refine Zas (by kernel_rfl) <| Zab <| Zaz (fun v => Bl w v) (by kernel_rfl) (hB.drew) ?_
  replace hB := hB.drew
  replace hT := hT.drew
  replace hP := hP.drew
  refine dt 0 26 (.slice aL nL cL) (fun v hv _ => by kernel_rfl) hB <| dt 1 27 (.slice (some ⟨gE, oE, none⟩) n c) (fun v hv _ => by kernel_rfl) hB <| dt 2 28 (.int .i64 ((j : Nat) : Int)) (fun v hv _ => by kernel_rfl) hB <| dt 3 29 (.pointer (some ⟨gE, oE + j * 2, none⟩)) (fun v hv _ => Zau 22 _ _ gE oE j n c 2 51 rfl (by kernel_rfl) (by kernel_rfl) hlt Tryz.underlying22 (by kernel_rfl)) hB <| dt 4 30 (.pointer (some ⟨gE, oE + j * 2, none⟩)) (fun v hv _ => by kernel_rfl) hB <| dt 5 31 (.slice a1 n1 c1) (fun v hv _ => Zah 23 _ _ _ _ rfl (by kernel_rfl) ((Below.cell hv (block_lt_of_cell hc1)).trans hc1) Tryz.underlying23 rfl) hB <| dt 6 32 (.slice (some ⟨gE, oE, none⟩) n c) (fun v hv _ => by kernel_rfl) hB <| dt 7 33 (.int .i64 ((j : Nat) : Int)) (fun v hv _ => by kernel_rfl) hB <| dt 8 34 (.pointer (some ⟨gE, oE + j * 2, none⟩)) (fun v hv _ => Zau 22 _ _ gE oE j n c 2 51 rfl (by kernel_rfl) (by kernel_rfl) hlt Tryz.underlying22 (by kernel_rfl)) hB <| dt 9 35 (.pointer (some ⟨gE, oE + j * 2 + 1, none⟩)) (fun v hv _ => by kernel_rfl) hB <| dt 10 36 (.slice a2 n2 c2) (fun v hv _ => Zah 23 _ _ _ _ rfl (by kernel_rfl) ((Below.cell hv (block_lt_of_cell hc2)).trans hc2) Tryz.underlying23 rfl) hB <| Zaf [11] (by kernel_rfl) (by simp) ?_
  refine Zat 11 37 25 #[.slice aL nL cL, .slice a1 n1 c1, .slice a2 n2 c2] rfl (fun _ => by kernel_rfl) (fun _ => by kernel_rfl) (R := fun u w' => (∃ a n c vs, u = .tuple #[.slice a n c, .int .i64 (putE k x)] /\ PAt (fun b => True \/ (u5.drew).heap.size <= b) w' a n c vs (putL lt k x)) /\ Bl (u5.drew) w') ((Ztq hP (hs1.go hB) (by omega) (hs2.go hB) hRel.k32)) (fun u w' h => hB.go h.2) ?_ Zam
  rintro _ u6 ⟨⟨aM, nM, cM, vsM, rfl, hPn⟩, hb6⟩
  replace hB := hB.go hb6
  replace hT := hT.go hb6
  replace hP := hP.go hb6
  replace hP := hPn.mono (fun _ _ => trivial)
  refine dt 12 25 (.tuple #[.slice aM nM cM, .int .i64 (putE k x)]) (fun v hv _ => by kernel_rfl) hB <| dt 13 38 (.slice aM nM cM) (fun v hv _ => by kernel_rfl) hB <| dt 14 39 (.int .i64 (putE k x)) (fun v hv _ => by kernel_rfl) hB <| dt 15 5 (.slice aM nM cM) (fun v hv _ => by kernel_rfl) hB <| Zas (by kernel_rfl) <| Za0 <| Zab <| Zaa <| rv 40 (.int .i64 (((j : Nat) : Int) + 1)) (fun _ => Zag (v := .int .i64 (IntKind.i64.wrap (((j : Nat) : Int) + 1))) (by kernel_rfl) (congrArg (Value.int .i64) (Zbc (by omega) (by omega)))) <| rp 10 (.int .i64 (((j : Nat) : Int) + 1)) <| Zad ?_
  exact Za8 (E := fun q => [(10, .int .i64 ((q.1 : Nat) : Int)), (0, .slice (some ⟨gE, oE, none⟩) n c), (9, .int .i64 n), (4, .pointer (some ⟨g, 0, none⟩)), (5, .slice q.2.2.2.1 q.2.2.2.2.1 q.2.2.2.2.2)]) (R := fun q v => Bl w v /\ Tri (fun _ => True) v g q.2.1 /\ (∃ vs, PAt (fun _ => True) v q.2.2.2.1 q.2.2.2.2.1 q.2.2.2.2.2 vs q.2.2.1) /\ Rel q.2.1 q.2.2.1 /\ q.2.2.1.length <= q.1 /\ q.1 <= n /\ Tr.sz q.2.1 <= 3 * q.1) (μ := fun q => n - q.1) (x := (j, t, lt, aL, nL, cL)) (j + 1, putT t k x, putL lt k x, aM, nM, cM) (by exact ⟨fun _ => by kernel_rfl, ⟨fun _ => by kernel_rfl, ⟨fun _ => by kernel_rfl, ⟨fun _ => by kernel_rfl, ⟨fun _ => by kernel_rfl, trivial⟩⟩⟩⟩⟩) ⟨hB, hT, ⟨_, hP⟩, hRel.put hkB, by have := Zuf lt k x; show (putL lt k x).length <= j + 1; omega, by simp only; omega, by show Tr.sz (putT t k x) <= 3 * (j + 1); have := Zww t k x; omega⟩ (by show n - (j + 1) < n - j; omega)
 obtain rfl : j = n := by omega
 show CW _ _ _ _ _ _ _ [(10, .int .i64 ((j : Nat) : Int)), (0, .slice a j c), (9, .int .i64 ((j : Nat) : Int)), (4, .pointer (some ⟨g, 0, none⟩)), (5, .slice aL nL cL)] _
 refine Zac <| Zaa <| rv 11 (.bool false) (fun _ => Zag (v := .bool (decide (((j : Nat) : Int) < ((j : Nat) : Int)))) (by kernel_rfl) (congrArg Value.bool (decide_eq_false (by omega)))) <| Zad <| Zab <| Zac <| Zai (fun _ => by kernel_rfl) <| Zbl <| Zal <| Zal <| Zay <| Zab ?_
 refine Zac <| Zaa <| rp 41 (.pointer (some ⟨g, 0, none⟩)) <| rp 42 (.slice aL nL cL) <| rp 2 (.pointer (some ⟨g, 0, none⟩)) <| rp 3 (.slice aL nL cL) <| Zad <| Zab <| Zap ?_
 exact Zae (.tuple #[.pointer (some ⟨g, 0, none⟩), .slice aL nL cL]) (fun _ => by kernel_rfl) ⟨_, rfl, ⟨g, aL, nL, cL, vsL, t, lt, rfl, hgT, hT, hP, hRel, hlm, hz⟩, hB⟩
end Go.Proofs.YtefhepcplempkaaGreat
namespace Go.Proofs.YtefhepcplempkaaGreat
open Go.RowKit
open Tr
structure Wp (w : World) (gW : Nat) (PV : Value) (base : Nat) (vN : Value) (X : Nat -> Prop) (ns : List (List Int)) : Prop where
 r : Rw gW w #[PV, vN] 59
 o : ∃ vals, w.ownsRow base 23 1 vN ns.length vals /\ RowS (KW gW vN X) w vals ns
 b : base <= gW
theorem Wg.rowp {w w' : World} {gW base : Nat} {PV : Value} {X : Nat -> Prop} {vN vN' : Value} {ns : List (List Int)} (h : Wg w w' gW vN vN') (hw : Wp w gW PV base vN X ns) {g : Nat} {cells : Array Value} {T : TypeId} {fr : Nat × Nat} (hr : w.heap[g]? = some (.cells cells T fr)) (h1 : T ≠ 23) (h2 : T ≠ 59) : w'.heap[g]? = some (.cells cells T fr) := by
 refine (h.block g (lt_of_get hr) ?_ ?_).trans hr
 ·rintro rfl
  have := hw.r
  rw [Rw, hr] at this
  simp at this
  exact h2 this.2.1
 ·intro e
  obtain ⟨vals, ⟨_, ho⟩, _⟩ := hw.o
  rcases ho with ⟨rfl, _⟩ | ⟨g', cap, cur, rfl, _, hg, _⟩
  ·cases e
  ·have e : g' = g := by simpa [Value.ownBlock] using e
   subst e
   rw [hr] at hg
   simp at hg
   exact h1 hg.2.1
theorem Rw.wgp {w w' : World} {gW base : Nat} {PV : Value} {X : Nat -> Prop} {vN vN' : Value} {ns : List (List Int)} {g : Nat} {cells : Array Value} {T : TypeId} (h : Rw g w cells T) (hg : Wg w w' gW vN vN') (hw : Wp w gW PV base vN X ns) (h1 : T ≠ 23) (h2 : T ≠ 59) : Rw g w' cells T := hg.rowp hw h h1 h2
theorem Wp.go {w w' : World} {gW base : Nat} {PV : Value} {X : Nat -> Prop} {vN : Value} {ns : List (List Int)} (h : Wp w gW PV base vN X ns) (hb : Below w.heap.size w w') : Wp w' gW PV base vN X ns := by
 obtain ⟨vals, h1, h2, h3⟩ := h.o
 refine ⟨h.r.go hb, ⟨vals, ⟨h1.1, by
  rcases h1.2 with q | ⟨g, cap, cur, e1, e2, e3, e4⟩
  ·exact .inl q
  ·exact .inr ⟨g, cap, cur, e1, e2, (hb.block g (lt_of_get e3)).trans e3, e4⟩⟩, h2, fun j v hj => ?_⟩, h.b⟩
 obtain ⟨a, n, c, e, hs⟩ := h3 j v hj
 exact ⟨a, n, c, e, hs.go hb⟩
theorem Wp.lt {w : World} {gW base : Nat} {PV : Value} {X : Nat -> Prop} {vN : Value} {ns : List (List Int)} (h : Wp w gW PV base vN X ns) : gW < w.heap.size /\ ∀ k, vN.ownBlock = some k -> k < w.heap.size := by
 refine ⟨lt_of_get h.r, fun k hk => ?_⟩
 obtain ⟨vals, ⟨_, ho⟩, _⟩ := h.o
 rcases ho with ⟨rfl, _⟩ | ⟨g', cap, cur, rfl, _, hg, _⟩
 ·cases hk
 ·have e : g' = k := by simpa [Value.ownBlock] using hk
  subst e
  exact lt_of_get hg
theorem Wp.apart {w : World} {gW base : Nat} {PV : Value} {X : Nat -> Prop} {vN : Value} {ns : List (List Int)} (h : Wp w gW PV base vN X ns) : vN.ownBlock ≠ some gW := by
 intro e
 obtain ⟨vals, ⟨_, ho⟩, _⟩ := h.o
 rcases ho with ⟨rfl, _⟩ | ⟨g', cap, cur, rfl, _, hg, _⟩
 ·cases e
 ·have e : g' = gW := by simpa [Value.ownBlock] using e
  subst e
  have := h.r
  rw [Rw, hg] at this
  simp at this
theorem Zos {X : Nat -> Prop} {w : World} {gW base : Nat} {PV : Value} {vN : Value} {ns : List (List Int)} (hW : Wp w gW PV base vN X ns) {gL : Nat} {a : Option Addr} {n c : Nat} {b : List Int} (hs : Sk (KW gW vN X) w a n c b) (hL : Rw gL w #[.slice a n c] 23) (hlen : ns.length + 1 <= 8800000000000) :
  ∃ v' w', (∀ ty, (Builtin.append_ #[28, 28] ty #[vN, .slice (some ⟨gL, 0, none⟩) 1 1]).run Tryz.prog w = .ok v' w') /\ (∀ w2, Set1 w' w2 gW 1 v' -> Wp w2 gW PV base v' X (ns ++ [b]) /\ Wg w w2 gW vN v') /\ Rw gW w' #[PV, vN] 59 /\ v'.cells = #[v'] /\ v'.oneCell' = true := by
 obtain ⟨i, hi, hz, hsz, hby⟩ := Zul
 have hap := hW.apart
 have hlt := hW.lt
 have hbw := hW.b
 have hr := hW.r
 obtain ⟨vals, hown, hvl, hvs⟩ := hW.o
 obtain ⟨v', w', h1, h2, h3, _, h5⟩ := Zeo w base 28 0 23 i (.slice none 0 0) 1 24 Tryz.underlying28 hi hz hsz hby rfl (by decide) vN ns.length vals hown ⟨gL, 0, none⟩ 1 1 [.slice a n c] rfl (fun j u hu => by
   cases j with
   | zero => rw [Za1, cell_of_row _ _ _ _ _ _ hL]; exact hu
   | succ j => simp at hu) (fun u hu => by rw [List.mem_singleton.1 hu]; rfl) (by decide) (by unfold maxLen; omega) (by omega) (by omega)
 have hrW : Rw gW w' #[PV, vN] 59 := (h3.block gW hlt.1 (fun e => hap e.symm)).trans hr
 have hva : v'.ownBlock ≠ some gW := by
  rcases h5 with e | e
  ·rw [e]; exact hap
  ·rw [e]; intro q; simp at q; omega
 refine ⟨v', w', fun ty => h1, fun w2 hp => ?_, hrW, ?_, ?_⟩
 ·have hg : Wg w w2 gW vN v' := by
   have ht := hp.touch
   refine ⟨ht.os.trans h3.os, ht.tape.trans h3.tape, ht.output.trans h3.output, Nat.le_trans h3.size ht.size, fun k hk hg hv => (hp.other hg).trans (h3.block k hk (fun e => hv e.symm)), ?_⟩
   rcases h5 with e | e
   ·exact .inl e
   ·exact .inr (fun k hk => by rw [e] at hk; simp at hk; omega)
  refine ⟨⟨hrW.set hp rfl, ⟨vals ++ [.slice a n c], ?_, ?_, ?_⟩, hbw⟩, hg⟩
  ·rw [List.length_append, List.length_singleton]
   refine ⟨h2.1, ?_⟩
   rcases h2.2 with q | ⟨g, cap, cur, e1, e2, e3, e4⟩
   ·exact .inl q
   ·refine .inr ⟨g, cap, cur, e1, e2, (hp.other ?_).trans e3, e4⟩
    rintro rfl
    exact hva (by rw [e1]; rfl)
  ·rw [List.length_append, List.length_append, hvl]; rfl
  ·intro j u hu
   by_cases hj : j < vals.length
   ·rw [List.getElem?_append_left hj] at hu
    obtain ⟨a1, n1, c1, e1, hs1⟩ := hvs j u hu
    refine ⟨a1, n1, c1, e1, ?_⟩
    have e : (ns ++ [b]).getD j [] = ns.getD j [] := by rw [List.getD, List.getD, List.getElem?_append_left (by omega)]
    rw [e]
    exact hs1.wg hg
   ·have hj2 : j = vals.length := by
     have := (List.getElem?_eq_some_iff.1 hu).1
     rw [List.length_append, List.length_singleton] at this
     omega
    subst hj2
    rw [List.getElem?_append_right (Nat.le_refl _), Nat.sub_self] at hu
    simp at hu
    refine ⟨a, n, c, hu.symm, ?_⟩
    have e : (ns ++ [b]).getD vals.length [] = b := by rw [List.getD, hvl, List.getElem?_append_right (Nat.le_refl _), Nat.sub_self]; rfl
    rw [e]
    exact hs.wg hg
 ·rcases h2.2 with ⟨rfl, _⟩ | ⟨g, cap, cur, rfl, _⟩ <;> rfl
 ·rcases h2.2 with ⟨rfl, _⟩ | ⟨g, cap, cur, rfl, _⟩ <;> rfl
theorem Wp.mono {X Y : Nat -> Prop} {w : World} {gW base : Nat} {PV : Value} {vN : Value} {ns : List (List Int)} (h : Wp w gW PV base vN X ns) (hX : ∀ b, b < w.heap.size -> X b -> Y b) : Wp w gW PV base vN Y ns := by
 obtain ⟨vals, h1, h2, h3⟩ := h.o
 refine ⟨h.r, ⟨vals, h1, h2, fun j v hj => ?_⟩, h.b⟩
 obtain ⟨a, n, c, e, hs⟩ := h3 j v hj
 exact ⟨a, n, c, e, hs.ag, fun x hx hn => by have hk := hs.k x hx hn; exact ⟨hk.1, hk.2.1, hX _ (hs.old hx hn) hk.2.2⟩⟩
theorem Sk.freshp {K : Nat -> Prop} {w v w' : World} {gW base : Nat} {PV : Value} {X : Nat -> Prop} {vN : Value} {ns : List (List Int)} {a : Option Addr} {n c : Nat} {bs : List Int} (h : Sk (fun b => v.heap.size <= b) w' a n c bs) (hw : Wp v gW PV base vN X ns) (hs : w.heap.size <= v.heap.size) : Sk (KW gW vN (fun b => w.heap.size <= b)) w' a n c bs :=
 h.mono (fun b hb => ⟨fun e => by have := hw.lt.1; omega, fun e => by have := hw.lt.2 b e; omega, Nat.le_trans hs hb⟩)
theorem Wp.drew {w : World} {gW base : Nat} {PV : Value} {X : Nat -> Prop} {vN : Value} {ns : List (List Int)} (h : Wp w gW PV base vN X ns) : Wp w.drew gW PV base vN X ns := h.go (Below.refl _ _).drew
theorem Wp.put {X : Nat -> Prop} {w w' : World} {gW base g : Nat} {PV : Value} {vN : Value} {ns : List (List Int)} {cells old : Array Value} {T : TypeId} (h : Wp w gW PV base vN X ns) (hr : Rw g w old T) (h1 : T ≠ 23) (h2 : T ≠ 59) (hX : ∀ b, X b -> b ≠ g) (hp : Put w w' g cells) : Wp w' gW PV base vN X ns := by
 obtain ⟨vals, ⟨q1, ho⟩, hv⟩ := h.o
 have hne : gW ≠ g := by
  rintro rfl
  have := h.r
  rw [Rw, hr] at this
  simp at this
  exact h2 this.2
 refine ⟨(hp.other hne).trans h.r, ⟨vals, ⟨q1, ?_⟩, hv.1, fun j u hu => ?_⟩, h.b⟩
 case refine_2 =>
  obtain ⟨a, n, c, e, hs⟩ := hv.2 j u hu
  exact ⟨a, n, c, e, hs.put hp (fun b hb => hX b hb.2.2)⟩
 rcases ho with q | ⟨g', cap, cur, e1, e2, e3, e4⟩
 ·exact .inl q
 ·refine .inr ⟨g', cap, cur, e1, e2, (hp.other ?_).trans e3, e4⟩
  rintro rfl
  rw [hr] at e3
  simp at e3
  exact h1 e3.2
end Go.Proofs.YtefhepcplempkaaGreat
