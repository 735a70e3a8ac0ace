/- What the document's Verify says of a key. -/
import Derived.Test.YtefhepcplempkaaGreatG22
import Derived.Test.YtefhepcplempkaaGreatG28
import Derived.Test.YtefhepcplempkaaGreatG18
import Derived.Test.YtefhepcplempkaaGreatG01
import Derived.Test.YtefhepcplempkaaGreatG03
import Derived.OrdersIn
import Derived.Test.YtefhepcplempkaaGreatG19
set_option linter.unusedVariables false
set_option maxRecDepth 100000
namespace Go.Proofs.YtefhepcplempkaaGreat
open Go.RowKit
open Tr
open Di (dref)
def FrR (w : World) (o : Option (List Int)) : Value -> World -> Prop := fun u w' => (∃ (a : Option Addr) (n c : Nat), u = .tuple #[.slice a n c, .bool (decide (0 < n)), .int .i64 (if o.isSome = true then 0 else 90)] /\ Sk (fun _ => True) w' a n c (o.getD [])) /\ Bl w w'
def FrS (f : Nat) : Prop := ∀ {K K1 K2 : Nat -> Prop} {w : World} {y : RV} {r : PR} {ap : Option Addr} {np cp : Nat} {p : List Int} {a : Option Addr} {n c : Nat} {M : List (List Int)} {ex : Bool}, RefAt K1 w y r -> Sk K2 w ap np cp p -> Nb p -> Bt K w a n M -> n <= c -> (∀ b ∈ M, b.length <= 140737488351232) -> np < f →
 Calls Tryz.prog 43 #[.agg y.cells.toArray, .slice ap np cp, .slice a n c, .bool ex] w fun e w' => ∃ u, e = .returned u /\ FrR w (veP f r p M ex) u w'
section
variable {f : Nat} {r r' : PR} {p p' : List Int} {M M' : List (List Int)} {ex : Bool} {N : PN}
theorem Zvk (h : opP r M = none) : veP (f + 1) r p M ex = none := by simp [veP, h]
theorem Zxh (h : opP r M = some (N, M')) (hb : ex = true /\ N.k ≠ 3) : veP (f + 1) r p M ex = none := by simp [veP, h, hb]
theorem Zxg (h : opP r M = some (N, M')) (hb : ¬ (ex = true /\ N.k ≠ 3)) (hf : foP N p = some (r', p')) : veP (f + 1) r p M ex = veP f r' p' M' (decide (N.k = 2)) := by
 show (match opP r M with | none => none | some (n, l') => _) = _
 rw [h]; simp only; rw [if_neg hb, hf]
theorem Zix (h : opP r M = some (N, M')) (hb : ¬ (ex = true /\ N.k ≠ 3)) (hf : foP N p = none) (hM : M' = []) : veP (f + 1) r p M ex = some (vaP N p) := by
 show (match opP r M with | none => none | some (n, l') => _) = _
 rw [h]; simp only; rw [if_neg hb, hf]; simp only; rw [if_pos hM]
theorem Zjz (h : opP r M = some (N, M')) (hb : ¬ (ex = true /\ N.k ≠ 3)) (hf : foP N p = none) (hM : M' ≠ []) : veP (f + 1) r p M ex = none := by
 show (match opP r M with | none => none | some (n, l') => _) = _
 rw [h]; simp only; rw [if_neg hb, hf]; simp only; rw [if_neg hM]
theorem Zxb (h : NR N = true) : N.k = 1 \/ N.k = 2 \/ N.k = 3 := by
 unfold NR nright at h
 simp only [Bool.and_eq_true] at h
 have h2 := h.1.1.1.1
 simp only [knownP, Bool.or_eq_true, decide_eq_true_eq] at h2
 omega
theorem Zyo (h : NR N = true) (hk : N.k = 1) : 0 < N.v.length := by
 unfold NR nright at h
 simp only [Bool.and_eq_true] at h
 have h2 := h.1.1.2
 unfold rvalueP at h2
 rw [if_pos hk] at h2
 by_cases h0 : N.v.length = 0
 ·rw [if_pos h0] at h2; cases h2
 ·omega
theorem Zvh (h : NR N = true) (hk : N.k = 3) : N.p = [] := by
 unfold NR nright at h
 simp only [Bool.and_eq_true] at h
 have h2 := h.1.1.1.2
 unfold rpathP at h2
 rw [if_neg (by omega), if_neg (by omega)] at h2
 exact List.eq_nil_of_length_eq_zero (of_decide_eq_true h2)
end
theorem Zww {w w' : World} {b : List Int} {e : Ending} (h : DDPost w (ND b) e w') : ∃ u, e = .returned u /\ (∃ (z : NV) (er : Int), u = .tuple #[.agg z.cells.toArray, .int .i64 er] /\ z.c.d.length = 32 /\ (er == 0) = (ND b).isSome /\ ∀ N, ND b = some N -> NodeAt (fun g => w.heap.size <= g) w' z N) /\ Bl w w' := by
 obtain ⟨hb, hm⟩ := h
 cases hd : ND b with
 | none => rw [hd] at hm; exact ⟨_, hm, ⟨nz, 50, rfl, rfl, rfl, fun N h => by cases h⟩, hb⟩
 | some n =>
  rw [hd] at hm
  obtain ⟨y, e1, hy⟩ := hm
  exact ⟨_, e1, ⟨y, 0, rfl, hy.c.len, rfl, fun N h => by cases h; exact hy⟩, hb⟩
set_option maxHeartbeats 1000000 in
theorem Zey {K K2 : Nat -> Prop} {w : World} {a a2 : Option Addr} {n c n2 c2 : Nat} {p q : List Int} (hp : Sk K w a n c p) (hq : Sk K2 w a2 n2 c2 q) :
  Calls Tryz.prog 35 #[.slice a n c, .slice a2 n2 c2] w fun e w' => ∃ u, e = .returned u /\ (fun u w' => u = .bool (decide (p.take q.length = q)) /\ Bl w w') u w' := by
 have hB := Bl.refl w
 have lp := hp.len
 have lq := hq.len
 refine Zat Tryz.func35 rfl 20 rfl ?_
 show CW _ _ _ _ _ _ _ [(0, .slice a n c), (1, .slice a2 n2 c2)] _
 refine Zac <| Zaa <| rp 4 (.bool false) <| Zad <| Zab <| Zac ?_
 by_cases hle : n2 <= n
 ·skip
  obtain ⟨a9, n9, c9, hr9, hs9⟩ := hp.cutTo n2 (by omega)
  refine Za7 (fun v => Bl w v) (by kernel_rfl) ((Bl.refl w).drew) ?_
  replace hB := hB.drew
  refine dt 0 5 (.slice a n c) (fun v hv _ => by kernel_rfl) (Bl.refl w).drew <| dt 1 6 (.int .i64 n) (fun v hv _ => by kernel_rfl) (Bl.refl w).drew <| dt 2 7 (.slice a2 n2 c2) (fun v hv _ => by kernel_rfl) (Bl.refl w).drew <| dt 3 8 (.int .i64 n2) (fun v hv _ => by kernel_rfl) (Bl.refl w).drew <| dt 4 9 (.bool true) (fun v hv => (fun _ => Zaq (v := .bool (decide ((n : Int) ≥ (n2 : Int)))) (by kernel_rfl) (congrArg Value.bool (decide_eq_true (by omega))))) (Bl.refl w).drew <| dt 5 10 (.bool true) (fun v hv _ => by kernel_rfl) (Bl.refl w).drew <| dt 6 11 (.slice a n c) (fun v hv _ => by kernel_rfl) (Bl.refl w).drew <| dt 7 12 (.slice a2 n2 c2) (fun v hv _ => by kernel_rfl) (Bl.refl w).drew <| dt 8 13 (.int .i64 n2) (fun v hv _ => by kernel_rfl) (Bl.refl w).drew <| dt 9 14 (.slice a9 n9 c9) (fun v hv _ => hr9 _ _ _ _ _ _ rfl (by kernel_rfl) (by kernel_rfl) rfl) (Bl.refl w).drew <| dt 10 15 (.string (strOfNums (p.take n2))) (fun v hv _ => (hs9.go hv).run_str _ _ _ rfl (by kernel_rfl)) (Bl.refl w).drew <| dt 11 16 (.slice a2 n2 c2) (fun v hv _ => by kernel_rfl) (Bl.refl w).drew ?_
  refine dt 12 17 (.string (strOfNums q)) (fun v hv _ => (hq.go hv).run_str _ _ _ rfl (by kernel_rfl)) (Bl.refl w).drew <| dt 13 18 (.bool (decide (p.take n2 = q))) (fun v hv _ => Zq1 9 _ _ _ _ _ rfl (by kernel_rfl) (by kernel_rfl) (Zhi hs9.ag.b hq.ag.b)) (Bl.refl w).drew <| dt 14 19 (.bool (decide (p.take n2 = q))) (fun v hv _ => by kernel_rfl) (Bl.refl w).drew <| dt 15 4 (.bool (decide (p.take n2 = q))) (fun v hv _ => by kernel_rfl) (Bl.refl w).drew <| Zax (by kernel_rfl) <| Zab <| Zao ?_
  exact Zae (.bool (decide (p.take n2 = q))) (fun _ => by kernel_rfl) ⟨_, rfl, by rw [lq], hB⟩
 ·skip
  refine Za7 (fun v => Bl w v) (by kernel_rfl) ((Bl.refl w).drew) ?_
  replace hB := hB.drew
  refine dt 0 5 (.slice a n c) (fun v hv _ => by kernel_rfl) (Bl.refl w).drew <| dt 1 6 (.int .i64 n) (fun v hv _ => by kernel_rfl) (Bl.refl w).drew <| dt 2 7 (.slice a2 n2 c2) (fun v hv _ => by kernel_rfl) (Bl.refl w).drew <| dt 3 8 (.int .i64 n2) (fun v hv _ => by kernel_rfl) (Bl.refl w).drew <| dt 4 9 (.bool false) (fun v hv => (fun _ => Zaq (v := .bool (decide ((n : Int) ≥ (n2 : Int)))) (by kernel_rfl) (congrArg Value.bool (decide_eq_false (by omega))))) (Bl.refl w).drew <| dt 5 10 (.bool false) (fun v hv _ => by kernel_rfl) (Bl.refl w).drew <| df 6 11 (Bl.refl w).drew <| df 7 12 (Bl.refl w).drew <| df 8 13 (Bl.refl w).drew <| df 9 14 (Bl.refl w).drew <| df 10 15 (Bl.refl w).drew <| df 11 16 (Bl.refl w).drew ?_
  refine df 12 17 (Bl.refl w).drew <| df 13 18 (Bl.refl w).drew <| dt 14 19 (.bool false) (fun v hv _ => by kernel_rfl) (Bl.refl w).drew <| dt 15 4 (.bool false) (fun v hv _ => by kernel_rfl) (Bl.refl w).drew <| Zax (by kernel_rfl) <| Zab <| Zao ?_
  exact Zae (.bool false) (fun _ => by kernel_rfl) ⟨_, rfl, by rw [decide_eq_false]; intro e; have := congrArg List.length e; rw [List.length_take] at this; omega, hB⟩
set_option maxHeartbeats 4000000 in
theorem Zru {f : Nat} (hIH : FrS f) {K K1 K2 : Nat -> Prop} {w : World} {y : RV} {r : PR} {ap : Option Addr} {np cp : Nat} {p : List Int} {a : Option Addr} {n c : Nat} {M : List (List Int)} {ex : Bool} (hy : RefAt K1 w y r) (hp : Sk K2 w ap np cp p) (hnb : Nb p) (hL : Bt K w a n M) (hnc : n <= c) (hM : ∀ b ∈ M, b.length <= 140737488351232) (hf : np <= f) :
  Calls Tryz.prog 43 #[.agg y.cells.toArray, .slice ap np cp, .slice a n c, .bool ex] w fun e w' => ∃ u, e = .returned u /\ FrR w (veP (f + 1) r p M ex) u w' := by
 have hB := Bl.refl w
 have hyl := hy.len
 have hyn := hy.2.2.2.2.2.1
 have lp := hp.len
 have hys : Sk K1 w y.a y.n y.c r.i := hy.2.2.2.2.1 |> fun h => ⟨h, fun x hx h0 => by obtain ⟨g, off, e, _⟩ := ag_head h h0; rw [e] at hx; cases hx; exact hy.2.2.2.2.2.2 g off e h0⟩
 refine Zat Tryz.func43 rfl 139 rfl ?_
 show CW _ _ _ _ _ _ _ [(0, .agg y.cells.toArray), (1, .slice ap np cp), (2, .slice a n c), (3, .bool ex)] _
 refine Zac <| Zaa <| Zbk 4 y.cells.toArray 65 (fun _ => by kernel_rfl) (fun _ => by kernel_rfl) ?_
 intro w1 gR hnR
 have hR : Rw gR w1 y.cells.toArray 65 := hnR.row
 replace hB := hB.go hnR.below
 replace hp := hp.go hnR.below
 replace hL := hL.go hnR.below
 replace hys := hys.go hnR.below
 refine rp 8 (.slice none 0 0) <| rp 9 (.bool false) <| rp 10 (.int .i64 0) <| Zad <| Zab <| Zac <| Zaa <| rp 15 (.pointer (some ⟨gR, 33, none⟩)) <| rv 16 (.slice y.a y.n y.c) (fun _ => Zai 23 _ ⟨gR, 33, none⟩ _ _ rfl (by kernel_rfl) (by rw [cell_of_row _ _ _ _ _ _ hR]; exact Zuu hyl) Tryz.underlying23 rfl) <| rp 11 (.slice y.a y.n y.c) <| Zad <| Zab ?_
 refine Zac <| Zac <| Zaa <| rp 17 (.pointer (some ⟨gR, 0, none⟩)) <| rv 18 (.int .i64 y.k) (fun _ => Zai 3 _ ⟨gR, 0, none⟩ _ _ rfl (by kernel_rfl) (by rw [cell_of_row _ _ _ _ _ _ hR]; exact Zv3 y) Tryz.underlying3 rfl) <| rp 19 (.bool ((y.k : Int) == (2 : Int))) <| Zad <| Zab ?_
 refine Zsc (fun E v => ∃ ab nb cb al nl cl b M', E = [(11, .slice ab nb cb), (2, .slice al nl cl), (1, .slice ap np cp), (3, .bool ex)] /\ Bl w v /\ Sk (fun _ => True) v ab nb cb b /\ nb <= 140737488351232 /\ Bt K v al nl M' /\ nl <= cl /\ (∀ x ∈ M', x.length <= 140737488351232) /\ opP r M = (ND b).map (fun n => (n, M')) /\ Sk K2 v ap np cp p) ?_ ?_
 ·skip
  by_cases hk2 : r.k = 2
  ·skip
   rw [show ((y.k : Int) == (2 : Int)) = true from beq_iff_eq.2 (by rw [hy.1, hk2])]
   refine Zam (fun _ => by kernel_rfl) ?_
   have hV := Bl.refl w1
   have hR0 := hR
   cases M with
   | nil =>
    have hn0 : n = 0 := hL.len.symm
    refine Zac <| Zac <| Za7 (fun v => Bl w1 v) (by kernel_rfl) ((Bl.refl w1).drew) ?_
    replace hB := hB.drew
    replace hp := hp.drew
    replace hL := hL.drew
    replace hys := hys.drew
    replace hR := hR.drew
    replace hV := hV.drew
    refine dt 0 20 (.slice a n c) (fun v hv _ => by kernel_rfl) hV <| dt 1 21 (.int .i64 n) (fun v hv _ => by kernel_rfl) hV <| dt 2 22 (.bool true) (fun v hv => (fun _ => Zaq (v := .bool ((n : Int) == (0 : Int))) (by kernel_rfl) (congrArg Value.bool (beq_iff_eq.2 (by omega))))) hV <| dt 3 23 (.bool true) (fun v hv _ => by kernel_rfl) hV <| df 4 24 hV <| df 5 25 hV <| df 6 26 hV <| df 7 27 hV <| df 8 28 hV <| df 9 29 hV <| df 10 30 hV <| dt 11 31 (.bool true) (fun v hv _ => by kernel_rfl) hV ?_
    refine Zax (by kernel_rfl) <| Zab <| Zam (fun _ => by kernel_rfl) <| Zac <| Zaa <| rp 8 (.slice none 0 0) <| rp 9 (.bool false) <| rp 10 (.int .i64 90) <| Zad <| Zab <| Zao <| Zah ?_
    refine Zah <| Zah ?_
    have hve : veP (f + 1) r p [] ex = none := Zvk (by simp [opP, hk2])
    exact Zae (.tuple #[.slice none 0 0, .bool false, .int .i64 90]) (fun _ => by kernel_rfl) ⟨_, rfl, ⟨none, 0, 0, by rw [hve]; rfl, by rw [hve]; exact Sk.nil _ _⟩, hB⟩
   | cons b M1 =>
    have hn1 := hL.len
    rw [List.length_cons] at hn1
    have hbl := hM b (List.mem_cons_self)
    obtain ⟨g1, o1, a1, n1, c1, rfl, hc1, hs1⟩ := hL.row 0 (by omega)
    rw [List.getD_cons_zero] at hs1
    have hl1 := hs1.len
    rw [Nat.zero_mul, Nat.add_zero] at hc1
    refine Zac <| Zac <| Za7 (fun v => Bl w1 v) (by kernel_rfl) ((Bl.refl w1).drew) ?_
    replace hB := hB.drew
    replace hp := hp.drew
    replace hL := hL.drew
    replace hys := hys.drew
    replace hR := hR.drew
    replace hV := hV.drew
    replace hs1 := hs1.drew
    refine dt 0 20 (.slice (some ⟨g1, o1, none⟩) n c) (fun v hv _ => by kernel_rfl) hV <| dt 1 21 (.int .i64 n) (fun v hv _ => by kernel_rfl) hV <| dt 2 22 (.bool false) (fun v hv => (fun _ => Zaq (v := .bool ((n : Int) == (0 : Int))) (by kernel_rfl) (congrArg Value.bool (beq_eq_false_iff_ne.2 (by omega))))) hV <| dt 3 23 (.bool false) (fun v hv _ => by kernel_rfl) hV <| dt 4 24 (.slice (some ⟨g1, o1, none⟩) n c) (fun v hv _ => by kernel_rfl) hV <| dt 5 25 (.pointer (some ⟨g1, o1 + 0 * 1, none⟩)) (fun v hv _ => Zbt 28 _ _ g1 o1 0 n c 1 23 rfl (by kernel_rfl) (by kernel_rfl) (by omega) Tryz.underlying28 (by kernel_rfl)) hV <| dt 6 26 (.slice a1 n1 c1) (fun v hv _ => Zai 23 _ _ _ _ rfl (by kernel_rfl) ((Below.cell hv (block_lt_of_cell hc1)).trans hc1) Tryz.underlying23 rfl) hV <| dt 8 28 (.pointer (some ⟨gR, 1, none⟩)) (fun v hv _ => by kernel_rfl) hV <| dt 9 29 (.agg (B8 y.d)) (fun v hv _ => Zjd 35 _ gR 1 (y.d.map (Value.int .u8)) _ rfl (by kernel_rfl) (Zxq (Zi4 (hR0.go hv)) hyl) Tryz.underlying35 rfl (by rw [Ztt, List.length_map, hyl])) hV <| Zak [7] (by kernel_rfl) (by simp) ?_
    refine Za4 7 27 41 #[.slice a1 n1 c1] rfl (fun _ => by kernel_rfl) (fun _ => by kernel_rfl) (R := fun u w' => u = .agg (B8 (dref b)) /\ Bl (w1.drew) w') ((Zng a1 n1 c1 b (w1.drew) hs1.ag (by omega)).mono (fun e w' h => ⟨_, h.1, rfl, h.2⟩)) (fun u w' h => hV.go h.2) ?_ Zaw
    rintro _ u3 ⟨rfl, hb3⟩
    replace hB := hB.go hb3
    replace hp := hp.go hb3
    replace hL := hL.go hb3
    replace hys := hys.go hb3
    replace hR := hR.go hb3
    replace hV := hV.go hb3
    replace hs1 := hs1.go hb3
    refine dt 10 30 (.bool (!(dref b == y.d))) (fun v hv _ => Zq0 rfl (by kernel_rfl) (by kernel_rfl) (dref_len _) hyl) hV <| dt 11 31 (.bool (!(dref b == y.d))) (fun v hv _ => by kernel_rfl) hV <| Zax (by kernel_rfl) <| Zab ?_
    by_cases hxy : dref b = r.d
    ·skip
     rw [show (!(dref b == y.d)) = false from by rw [hy.2.1]; simp [hxy]]
     refine Zag (fun _ => by kernel_rfl) <| Zar <| Zab <| Zac <| Zaa <| rp 32 (.slice (some ⟨g1, o1, none⟩) n c) <| rv 33 (.pointer (some ⟨g1, o1 + 0 * 1, none⟩)) (fun _ => Zbt 28 _ _ g1 o1 0 n c 1 23 rfl (by kernel_rfl) (by kernel_rfl) (by omega) Tryz.underlying28 (by kernel_rfl)) <| rv 34 (.slice a1 n1 c1) (fun _ => Zai 23 _ _ _ _ rfl (by kernel_rfl) ((Below.cell hV (block_lt_of_cell hc1)).trans hc1) Tryz.underlying23 rfl) <| rp 11 (.slice a1 n1 c1) <| Zad <| Zab <| Zaa ?_
     refine rp 35 (.slice (some ⟨g1, o1, none⟩) n c) <| rv 36 (.slice (if c = 1 then some ⟨g1, o1, none⟩ else (some ⟨g1, o1, none⟩ : Option Addr).map (·.add (1 * 1))) (n - 1) (c - 1)) (fun _ => Zq3 1 _ _ rfl (by kernel_rfl) (by kernel_rfl) rfl (by omega)) <| rp 2 (.slice (if c = 1 then some ⟨g1, o1, none⟩ else (some ⟨g1, o1, none⟩ : Option Addr).map (·.add (1 * 1))) (n - 1) (c - 1)) <| Zad ?_
     exact Zje [(11, .slice a1 n1 c1), (2, .slice (if c = 1 then some ⟨g1, o1, none⟩ else (some ⟨g1, o1, none⟩ : Option Addr).map (·.add (1 * 1))) (n - 1) (c - 1)), (1, .slice ap np cp), (3, .bool ex)] (by exact ⟨fun _ => by kernel_rfl, ⟨fun _ => by kernel_rfl, ⟨fun _ => by kernel_rfl, ⟨fun _ => by kernel_rfl, trivial⟩⟩⟩⟩) ⟨_, _, _, _, _, _, b, M1, rfl, hB, hs1.mono (fun _ _ => trivial), by omega, hL.tail hnc, by omega, fun x hx => hM x (List.mem_cons_of_mem _ hx), by simp [opP, hk2, hxy], hp⟩
    ·skip
     rw [show (!(dref b == y.d)) = true from by rw [hy.2.1]; simp [hxy]]
     refine Zam (fun _ => by kernel_rfl) <| Zac <| Zaa <| rp 8 (.slice none 0 0) <| rp 9 (.bool false) <| rp 10 (.int .i64 90) <| Zad <| Zab <| Zao <| Zah <| Zah <| Zah ?_
     have hve : veP (f + 1) r p (b :: M1) ex = none := Zvk (by simp [opP, hk2, hxy])
     exact Zae (.tuple #[.slice none 0 0, .bool false, .int .i64 90]) (fun _ => by kernel_rfl) ⟨_, rfl, ⟨none, 0, 0, by rw [hve]; rfl, by rw [hve]; exact Sk.nil _ _⟩, hB⟩
  ·skip
   rw [show ((y.k : Int) == (2 : Int)) = false from beq_eq_false_iff_ne.2 (by rw [hy.1]; exact hk2)]
   refine Zag (fun _ => by kernel_rfl) <| Zar ?_
   exact Zje [(11, .slice y.a y.n y.c), (2, .slice a n c), (1, .slice ap np cp), (3, .bool ex)] (by exact ⟨fun _ => by kernel_rfl, ⟨fun _ => by kernel_rfl, ⟨fun _ => by kernel_rfl, ⟨fun _ => by kernel_rfl, trivial⟩⟩⟩⟩) ⟨_, _, _, _, _, _, r.i, M, rfl, hB, hys.mono (fun _ _ => trivial), hyn, hL, hnc, hM, by simp [opP, hk2], hp⟩
 clear hL hys hR hp hM hB
 rintro _ v ⟨ab, nb, cb, al, nl, cl, b, M', rfl, hB, hb, hnb', hL, hnl, hM, ho, hp⟩
 refine Zab <| Zac <| Zaa <| rp 38 (.slice ab nb cb) <| Zav 39 71 #[.slice ab nb cb] (fun _ => by kernel_rfl) (fun _ => by kernel_rfl) (R := fun u w' => (∃ (z : NV) (er : Int), u = .tuple #[.agg z.cells.toArray, .int .i64 er] /\ z.c.d.length = 32 /\ (er == 0) = (ND b).isSome /\ ∀ N, ND b = some N -> NodeAt (fun g => v.heap.size <= g) w' z N) /\ Bl v w') ((Zho b ab nb cb v hb.ag hnb').mono (fun e w' h => Zww h)) ?_
 rintro _ u4 ⟨⟨z, er, rfl, hzl, her, hz⟩, hb4⟩
 have hbB : isB b := hb.ag.b
 replace hB := hB.go hb4
 replace hb := hb.go hb4
 replace hL := hL.go hb4
 replace hp := hp.go hb4
 refine rp 37 (.tuple #[.agg z.cells.toArray, .int .i64 er]) <| rp 40 (.agg z.cells.toArray) <| rp 41 (.int .i64 er) <| Zbk 12 nz.cells.toArray 68 (fun _ => by kernel_rfl) (fun _ => by kernel_rfl) ?_
 intro w5 g8 hn8
 have h8 : Rw g8 w5 nz.cells.toArray 68 := hn8.row
 have hg8 := hn8.hg
 refine Zcy g8 z.cells.toArray (fun _ => by kernel_rfl) (fun _ => Za9 68 _ _ _ _ _ _ rfl (by kernel_rfl) (by kernel_rfl) h8 (by rw [Zdz, Zcl hzl]) (by rw [Zcl hzl]; rfl) (Zjf _)) ?_
 intro w6 hp8
 replace h8 : Rw g8 w6 z.cells.toArray 68 := hp8.row h8
 have hb6 : Bl u4 w6 := hp8.below hn8.below (by rw [hg8]; exact Nat.le_refl _) hn8.below.size
 replace hB := hB.go hb6
 replace hb := hb.go hb6
 replace hL := hL.go hb6
 replace hp := hp.go hb6
 refine rp 13 (.int .i64 er) <| Zad <| Zab <| Zac <| Zac ?_
 cases hd : ND b with
 | none =>
  refine Zaa <| rp 42 (.int .i64 er) <| rv 43 (.bool true) (fun _ => Zaq (v := .bool (!((er : Int) == (0 : Int)))) (by kernel_rfl) (congrArg Value.bool (by rw [her, hd]; rfl))) <| rp 44 (.bool true) <| Zan 45 (fun _ => by kernel_rfl) <| Zan 46 (fun _ => by kernel_rfl) <| Zan 47 (fun _ => by kernel_rfl) <| Zan 48 (fun _ => by kernel_rfl) <| Zan 49 (fun _ => by kernel_rfl) <| Zan 50 (fun _ => by kernel_rfl) <| rp 51 (.bool true) <| Zad ?_
  refine Zab <| Zam (fun _ => by kernel_rfl) <| Zac <| Zaa <| rp 8 (.slice none 0 0) <| rp 9 (.bool false) <| rp 10 (.int .i64 90) <| Zad <| Zab <| Zao <| Zah ?_
  have hve : veP (f + 1) r p M ex = none := Zvk (by rw [ho, hd]; rfl)
  exact Zae (.tuple #[.slice none 0 0, .bool false, .int .i64 90]) (fun _ => by kernel_rfl) ⟨_, rfl, ⟨none, 0, 0, by rw [hve]; rfl, by rw [hve]; exact Sk.nil _ _⟩, hB⟩
 | some N =>
  have ho2 : opP r M = some (N, M') := by rw [ho, hd]; rfl
  obtain ⟨_, _, _, hNR⟩ := Zdd hbB hd
  have hz0 := (hz N hd).go (Zdy hb6)
  have hzp := hz0.p.sk
  refine Zsc (fun E v => ∃ bq, E = [(51, .bool bq), (12, .pointer (some ⟨g8, 0, none⟩)), (1, .slice ap np cp), (2, .slice al nl cl)] /\ w6 = v /\ bq = decide (ex = true /\ N.k ≠ 3)) ?_ ?_
  ·skip
   refine Zaa <| rp 42 (.int .i64 er) <| rv 43 (.bool false) (fun _ => Zaq (v := .bool (!((er : Int) == (0 : Int)))) (by kernel_rfl) (congrArg Value.bool (by rw [her, hd]; rfl))) <| rp 44 (.bool false) <| rp 45 (.bool ex) <| rp 46 (.bool ex) ?_
   cases ex with
   | false =>
    refine Zan 47 (fun _ => by kernel_rfl) <| Zan 48 (fun _ => by kernel_rfl) <| Zan 49 (fun _ => by kernel_rfl) <| rp 50 (.bool false) <| rp 51 (.bool false) <| Zad ?_
    exact Zje [(51, .bool false), (12, .pointer (some ⟨g8, 0, none⟩)), (1, .slice ap np cp), (2, .slice al nl cl)] (by exact ⟨fun _ => by kernel_rfl, ⟨fun _ => by kernel_rfl, ⟨fun _ => by kernel_rfl, ⟨fun _ => by kernel_rfl, trivial⟩⟩⟩⟩) ⟨_, rfl, rfl, by first | (simp; done) | (rw [hz0.k]; by_cases h3 : N.k = 3 <;> simp [h3])⟩
   | true =>
    refine rp 47 (.pointer (some ⟨g8, 0, none⟩)) <| rv 48 (.int .i64 z.k) (fun _ => Zai 3 _ ⟨g8, 0, none⟩ _ _ rfl (by kernel_rfl) (by rw [cell_of_row _ _ _ _ _ _ h8]; exact Zc6 z) Tryz.underlying3 rfl) <| rp 49 (.bool (!((z.k : Int) == (3 : Int)))) <| rp 50 (.bool (!((z.k : Int) == (3 : Int)))) <| rp 51 (.bool (!((z.k : Int) == (3 : Int)))) <| Zad ?_
    exact Zje [(51, .bool (!((z.k : Int) == (3 : Int)))), (12, .pointer (some ⟨g8, 0, none⟩)), (1, .slice ap np cp), (2, .slice al nl cl)] (by exact ⟨fun _ => by kernel_rfl, ⟨fun _ => by kernel_rfl, ⟨fun _ => by kernel_rfl, ⟨fun _ => by kernel_rfl, trivial⟩⟩⟩⟩) ⟨_, rfl, rfl, by first | (simp; done) | (rw [hz0.k]; by_cases h3 : N.k = 3 <;> simp [h3])⟩
  rintro _ _ ⟨bq, rfl, rfl, hbq⟩
  refine Zab ?_
  by_cases hbad : ex = true /\ N.k ≠ 3
  ·skip
   obtain rfl : bq = true := by rw [hbq]; simp [hbad]
   refine Zam (fun _ => by kernel_rfl) <| Zac <| Zaa <| rp 8 (.slice none 0 0) <| rp 9 (.bool false) <| rp 10 (.int .i64 90) <| Zad <| Zab <| Zao <| Zah ?_
   have hve : veP (f + 1) r p M ex = none := Zxh ho2 hbad
   exact Zae (.tuple #[.slice none 0 0, .bool false, .int .i64 90]) (fun _ => by kernel_rfl) ⟨_, rfl, ⟨none, 0, 0, by rw [hve]; rfl, by rw [hve]; exact Sk.nil _ _⟩, hB⟩
  ·skip
   obtain rfl : bq = false := by rw [hbq]; exact decide_eq_false hbad
   refine Zag (fun _ => by kernel_rfl) <| Zar <| Zab <| Zac ?_
   have hV := Bl.refl w6
   have h80 := h8
   have hp6 := hp
   rcases Zxb hNR with hk1 | hk2 | hk3
   ·skip
    have hfo : foP N p = none := by simp [foP, hk1]
    refine Zaa <| rp 52 (.slice ap np cp) <| rp 53 (.pointer (some ⟨g8, 1, none⟩)) <| rv 54 (.slice z.pa z.pn z.pc) (fun _ => Zai 23 _ ⟨g8, 1, none⟩ _ _ rfl (by kernel_rfl) (by rw [cell_of_row _ _ _ _ _ _ h8]; exact Zll z) Tryz.underlying23 rfl) <| Zav 55 35 #[.slice ap np cp, .slice z.pa z.pn z.pc] (fun _ => by kernel_rfl) (fun _ => by kernel_rfl) (R := fun u w' => u = .bool (decide (p.take N.p.length = N.p)) /\ Bl (w6) w') (Zey hp hzp) ?_
    rintro _ u5 ⟨rfl, hb5⟩
    replace hB := hB.go hb5
    replace hb := hb.go hb5
    replace hL := hL.go hb5
    replace hp := hp.go hb5
    replace h8 := h8.go hb5
    replace hV := hV.go hb5
    replace hzp := hzp.go hb5
    refine rp 14 (.bool (decide (p.take N.p.length = N.p))) <| Zad <| Zab <| Zac <| Zac <| Zaa <| rp 56 (.pointer (some ⟨g8, 0, none⟩)) <| rv 57 (.int .i64 z.k) (fun _ => Zai 3 _ ⟨g8, 0, none⟩ _ _ rfl (by kernel_rfl) (by rw [cell_of_row _ _ _ _ _ _ h8]; exact Zc6 z) Tryz.underlying3 rfl) <| rv 58 (.bool false) (fun _ => Zaq (v := .bool ((z.k : Int) == (2 : Int))) (by kernel_rfl) (congrArg Value.bool (by rw [hz0.k, hk1]; rfl))) <| rp 59 (.bool false) <| Zan 60 (fun _ => by kernel_rfl) <| rp 61 (.bool false) ?_
    refine Zad <| Zab <| Zag (fun _ => by kernel_rfl) <| Zar <| Zab <| Zac <| Zac <| Za7 (fun v => Bl w6 v) (by kernel_rfl) (hV.drew) ?_
    replace hB := hB.drew
    replace hb := hb.drew
    replace hL := hL.drew
    replace hp := hp.drew
    replace h8 := h8.drew
    replace hV := hV.drew
    replace hzp := hzp.drew
    refine dt 0 74 (.pointer (some ⟨g8, 0, none⟩)) (fun v hv _ => by kernel_rfl) hV <| dt 1 75 (.int .i64 z.k) (fun v hv _ => Zai 3 _ ⟨g8, 0, none⟩ _ _ rfl (by kernel_rfl) (by rw [cell_of_row _ _ _ _ _ _ (h80.go hv)]; exact Zc6 z) Tryz.underlying3 rfl) hV <| dt 2 76 (.bool false) (fun v hv => (fun _ => Zaq (v := .bool ((z.k : Int) == (3 : Int))) (by kernel_rfl) (congrArg Value.bool (by rw [hz0.k, hk1]; rfl)))) hV <| dt 3 77 (.bool false) (fun v hv _ => by kernel_rfl) hV <| df 4 78 hV <| df 5 79 hV <| df 6 80 hV <| dt 7 81 (.bool false) (fun v hv _ => by kernel_rfl) hV <| dt 8 82 (.bool false) (fun v hv _ => by kernel_rfl) hV <| df 9 83 hV <| df 10 84 hV <| df 11 85 hV ?_
    refine df 12 86 hV <| df 13 87 hV <| df 14 88 hV <| df 15 89 hV <| df 16 90 hV <| df 17 91 hV <| dt 18 92 (.bool false) (fun v hv _ => by kernel_rfl) hV <| Zax (by kernel_rfl) <| Zab <| Zag (fun _ => by kernel_rfl) <| Zar <| Zab ?_
    refine Zac <| Zac <| Zaa <| rp 107 (.slice al nl cl) <| rp 108 (.int .i64 nl) <| rp 109 (.bool (decide ((nl : Int) > (0 : Int)))) <| Zad <| Zab ?_
    by_cases hM0 : M' = []
    ·skip
     have hml := hL.len
     rw [show decide ((nl : Int) > (0 : Int)) = false from decide_eq_false (by rw [hM0, List.length_nil] at hml; omega)]
     refine Zag (fun _ => by kernel_rfl) <| Zar <| Zab <| Zac <| Zac <| Zaa <| rp 110 (.pointer (some ⟨g8, 0, none⟩)) <| rv 111 (.int .i64 z.k) (fun _ => Zai 3 _ ⟨g8, 0, none⟩ _ _ rfl (by kernel_rfl) (by rw [cell_of_row _ _ _ _ _ _ h8]; exact Zc6 z) Tryz.underlying3 rfl) <| rv 112 (.bool true) (fun _ => Zaq (v := .bool ((z.k : Int) == (1 : Int))) (by kernel_rfl) (congrArg Value.bool (by rw [hz0.k, hk1]; rfl))) <| rp 113 (.bool true) <| rp 114 (.pointer (some ⟨g8, 1, none⟩)) <| rv 115 (.slice z.pa z.pn z.pc) (fun _ => Zai 23 _ ⟨g8, 1, none⟩ _ _ rfl (by kernel_rfl) (by rw [cell_of_row _ _ _ _ _ _ h8]; exact Zll z) Tryz.underlying23 rfl) ?_
     refine rv 116 (.string (strOfNums N.p)) (fun _ => hzp.run_str _ _ _ rfl (by kernel_rfl)) <| rp 117 (.slice ap np cp) <| rv 118 (.string (strOfNums p)) (fun _ => hp.run_str _ _ _ rfl (by kernel_rfl)) <| rv 119 (.bool (decide (N.p = p))) (fun _ => Zq1 9 _ _ _ _ _ rfl (by kernel_rfl) (by kernel_rfl) (Zhi hzp.ag.b hp.ag.b)) <| rp 120 (.bool (decide (N.p = p))) <| rp 121 (.bool (decide (N.p = p))) ?_
     by_cases hpp : N.p = p
     ·skip
      rw [show decide (N.p = p) = true from by simp [hpp]]
      have hva : vaP N p = N.v := if_pos hpp
      have hv0 : 0 < z.vn := by have := Zyo hNR hk1; have := hz0.v.1.l; omega
      refine Zan 122 (fun _ => by kernel_rfl) <| Zan 123 (fun _ => by kernel_rfl) <| Zan 124 (fun _ => by kernel_rfl) <| Zan 125 (fun _ => by kernel_rfl) <| Zan 126 (fun _ => by kernel_rfl) <| Zan 127 (fun _ => by kernel_rfl) <| Zan 128 (fun _ => by kernel_rfl) <| Zan 129 (fun _ => by kernel_rfl) <| Zan 130 (fun _ => by kernel_rfl) <| Zan 131 (fun _ => by kernel_rfl) <| Zan 132 (fun _ => by kernel_rfl) <| Zan 133 (fun _ => by kernel_rfl) ?_
      refine Zan 134 (fun _ => by kernel_rfl) <| Zan 135 (fun _ => by kernel_rfl) <| rp 136 (.bool true) <| Zad <| Zab <| Zam (fun _ => by kernel_rfl) <| Zac <| Zaa <| rp 137 (.pointer (some ⟨g8, 2, none⟩)) <| rv 138 (.slice z.va z.vn z.vc) (fun _ => Zai 23 _ ⟨g8, 2, none⟩ _ _ rfl (by kernel_rfl) (by rw [cell_of_row _ _ _ _ _ _ h8]; exact Zto z) Tryz.underlying23 rfl) <| rp 8 (.slice z.va z.vn z.vc) <| rp 9 (.bool true) ?_
      refine rp 10 (.int .i64 0) <| Zad <| Zab <| Zao <| Zah ?_
      have hve := (Zix ho2 hbad hfo hM0 : veP (f + 1) r p M ex = some (vaP N p)).trans (congrArg some (hva))
      exact Zae (.tuple #[.slice z.va z.vn z.vc, .bool true, .int .i64 0]) (fun _ => by kernel_rfl) ⟨_, rfl, ⟨z.va, z.vn, z.vc, by rw [hve, decide_eq_true hv0]; rfl, by rw [hve]; exact (hz0.v.sk.go hV).mono (fun _ _ => trivial)⟩, hB⟩
     ·skip
      rw [show decide (N.p = p) = false from by simp [hpp]]
      refine rp 122 (.pointer (some ⟨g8, 0, none⟩)) <| rv 123 (.int .i64 z.k) (fun _ => Zai 3 _ ⟨g8, 0, none⟩ _ _ rfl (by kernel_rfl) (by rw [cell_of_row _ _ _ _ _ _ h8]; exact Zc6 z) Tryz.underlying3 rfl) <| rv 124 (.bool false) (fun _ => Zaq (v := .bool ((z.k : Int) == (3 : Int))) (by kernel_rfl) (congrArg Value.bool (by rw [hz0.k, hk1]; rfl))) <| rp 125 (.bool false) <| Zan 126 (fun _ => by kernel_rfl) <| Zan 127 (fun _ => by kernel_rfl) <| Zan 128 (fun _ => by kernel_rfl) <| rp 129 (.bool false) <| rp 130 (.bool false) <| Zan 131 (fun _ => by kernel_rfl) <| Zan 132 (fun _ => by kernel_rfl) <| Zan 133 (fun _ => by kernel_rfl) ?_
      refine Zan 134 (fun _ => by kernel_rfl) <| rp 135 (.bool false) <| rp 136 (.bool false) <| Zad <| Zab <| Zag (fun _ => by kernel_rfl) <| Zar <| Zab <| Zac <| Zaa <| rp 8 (.slice none 0 0) <| rp 9 (.bool false) ?_
      refine rp 10 (.int .i64 0) <| Zad <| Zab <| Zao ?_
      have hve := (Zix ho2 hbad hfo hM0 : veP (f + 1) r p M ex = some (vaP N p)).trans (congrArg some (show vaP N p = [] from by rw [vaP, if_neg hpp]))
      exact Zae (.tuple #[.slice none 0 0, .bool false, .int .i64 0]) (fun _ => by kernel_rfl) ⟨_, rfl, ⟨none, 0, 0, by rw [hve]; rfl, by rw [hve]; exact Sk.nil _ _⟩, hB⟩
    ·skip
     have hml := hL.len
     rw [show decide ((nl : Int) > (0 : Int)) = true from decide_eq_true (by have := List.length_pos_iff.2 hM0; omega)]
     refine Zam (fun _ => by kernel_rfl) <| Zac <| Zaa <| rp 8 (.slice none 0 0) <| rp 9 (.bool false) <| rp 10 (.int .i64 90) <| Zad <| Zab <| Zao <| Zah ?_
     have hve : veP (f + 1) r p M ex = none := Zjz ho2 hbad hfo hM0
     exact Zae (.tuple #[.slice none 0 0, .bool false, .int .i64 90]) (fun _ => by kernel_rfl) ⟨_, rfl, ⟨none, 0, 0, by rw [hve]; rfl, by rw [hve]; exact Sk.nil _ _⟩, hB⟩
   ·skip
    refine Zaa <| rp 52 (.slice ap np cp) <| rp 53 (.pointer (some ⟨g8, 1, none⟩)) <| rv 54 (.slice z.pa z.pn z.pc) (fun _ => Zai 23 _ ⟨g8, 1, none⟩ _ _ rfl (by kernel_rfl) (by rw [cell_of_row _ _ _ _ _ _ h8]; exact Zll z) Tryz.underlying23 rfl) <| Zav 55 35 #[.slice ap np cp, .slice z.pa z.pn z.pc] (fun _ => by kernel_rfl) (fun _ => by kernel_rfl) (R := fun u w' => u = .bool (decide (p.take N.p.length = N.p)) /\ Bl (w6) w') (Zey hp hzp) ?_
    rintro _ u5 ⟨rfl, hb5⟩
    replace hB := hB.go hb5
    replace hb := hb.go hb5
    replace hL := hL.go hb5
    replace hp := hp.go hb5
    replace h8 := h8.go hb5
    replace hV := hV.go hb5
    replace hzp := hzp.go hb5
    refine rp 14 (.bool (decide (p.take N.p.length = N.p))) <| Zad <| Zab <| Zac <| Zac <| Zaa <| rp 56 (.pointer (some ⟨g8, 0, none⟩)) <| rv 57 (.int .i64 z.k) (fun _ => Zai 3 _ ⟨g8, 0, none⟩ _ _ rfl (by kernel_rfl) (by rw [cell_of_row _ _ _ _ _ _ h8]; exact Zc6 z) Tryz.underlying3 rfl) <| rv 58 (.bool true) (fun _ => Zaq (v := .bool ((z.k : Int) == (2 : Int))) (by kernel_rfl) (congrArg Value.bool (by rw [hz0.k, hk2]; rfl))) <| rp 59 (.bool true) <| rp 60 (.bool (decide (p.take N.p.length = N.p))) <| rp 61 (.bool (decide (p.take N.p.length = N.p))) ?_
    refine Zad <| Zab ?_
    by_cases hpp : p.take N.p.length = N.p
    ·skip
     rw [show decide (p.take N.p.length = N.p) = true from by simp [hpp]]
     have hfo : foP N p = some (N.c, p.drop N.p.length) := by simp [foP, hk2, hpp]
     refine Zam (fun _ => by kernel_rfl) <| Zac ?_
     have hpl : N.p.length <= np := by have := congrArg List.length hpp; rw [List.length_take] at this; omega
     have hp0 := Zss hNR hk2
     obtain ⟨a9, n9, c9, hr9, hs9⟩ := hp.cutFrom N.p.length hpl
     have hzpn : N.p.length = z.pn := hz0.p.1.l
     have l9 := hs9.len
     rw [List.length_drop] at l9
     refine Za7 (fun v => Bl w6 v) (by kernel_rfl) (hV.drew) ?_
     replace hB := hB.drew
     replace hb := hb.drew
     replace hL := hL.drew
     replace hp := hp.drew
     replace h8 := h8.drew
     replace hV := hV.drew
     replace hzp := hzp.drew
     replace hs9 := hs9.drew
     refine dt 0 62 (.pointer (some ⟨g8, 3, none⟩)) (fun v hv _ => by kernel_rfl) hV <| dt 1 63 (.agg z.c.cells.toArray) (fun v hv _ => Zjd 65 _ g8 3 z.c.cells _ rfl (by kernel_rfl) (Zrd (h80.go hv) hzl) Tryz.underlying65 rfl (by rw [Zb9, RV.len hzl])) hV <| dt 2 64 (.slice ap np cp) (fun v hv _ => by kernel_rfl) hV <| dt 3 65 (.pointer (some ⟨g8, 1, none⟩)) (fun v hv _ => by kernel_rfl) hV <| dt 4 66 (.slice z.pa z.pn z.pc) (fun v hv _ => Zai 23 _ ⟨g8, 1, none⟩ _ _ rfl (by kernel_rfl) (by rw [cell_of_row _ _ _ _ _ _ (h80.go hv)]; exact Zll z) Tryz.underlying23 rfl) hV <| dt 5 67 (.int .i64 z.pn) (fun v hv _ => by kernel_rfl) hV <| dt 6 68 (.slice a9 n9 c9) (fun v hv _ => hr9 _ _ _ _ _ _ rfl (by kernel_rfl) (by kernel_rfl) (by rw [hzpn])) hV <| dt 7 69 (.slice al nl cl) (fun v hv _ => by kernel_rfl) hV <| Zak [8] (by kernel_rfl) (by simp) ?_
     refine Za4 8 70 43 #[.agg z.c.cells.toArray, .slice a9 n9 c9, .slice al nl cl, .bool true] rfl (fun _ => by kernel_rfl) (fun _ => by kernel_rfl) (R := FrR (u5.drew) (veP f N.c (p.drop N.p.length) M' true)) (hIH (hz0.c.go (Zdy hV)) hs9 (hnb.drop _) hL hnl hM (by omega)) (fun u w' h => hV.go h.2) ?_ Zaw
     rintro _ u6 ⟨⟨a5, n5, c5, rfl, hs5⟩, hb6_⟩
     replace hB := hB.go hb6_
     replace hb := hb.go hb6_
     replace hL := hL.go hb6_
     replace hp := hp.go hb6_
     replace h8 := h8.go hb6_
     replace hV := hV.go hb6_
     replace hzp := hzp.go hb6_
     replace hs9 := hs9.go hb6_
     refine dt 9 71 (.slice a5 n5 c5) (fun v hv _ => by kernel_rfl) hV <| dt 10 72 (.bool (decide (0 < n5))) (fun v hv _ => by kernel_rfl) hV <| dt 11 73 (.int .i64 (if (veP f N.c (p.drop N.p.length) M' true).isSome = true then 0 else 90)) (fun v hv _ => by kernel_rfl) hV <| dt 12 8 (.slice a5 n5 c5) (fun v hv _ => by kernel_rfl) hV <| dt 13 9 (.bool (decide (0 < n5))) (fun v hv _ => by kernel_rfl) hV <| dt 14 10 (.int .i64 (if (veP f N.c (p.drop N.p.length) M' true).isSome = true then 0 else 90)) (fun v hv _ => by kernel_rfl) hV <| Zax (by kernel_rfl) <| Zab <| Zao <| Zah ?_
     have hve : veP (f + 1) r p M ex = veP f N.c (p.drop N.p.length) M' true := by rw [Zxg ho2 hbad hfo, decide_eq_true hk2]
     exact Zae (.tuple #[.slice a5 n5 c5, .bool (decide (0 < n5)), .int .i64 (if (veP f N.c (p.drop N.p.length) M' true).isSome = true then 0 else 90)]) (fun _ => by kernel_rfl) ⟨_, rfl, ⟨a5, n5, c5, by rw [hve], by rw [hve]; exact hs5⟩, hB⟩
    ·skip
     rw [show decide (p.take N.p.length = N.p) = false from by simp [hpp]]
     have hfo : foP N p = none := by simp [foP, hk2, hpp]
     refine Zag (fun _ => by kernel_rfl) <| Zar <| Zab <| Zac <| Zac <| Za7 (fun v => Bl w6 v) (by kernel_rfl) (hV.drew) ?_
     replace hB := hB.drew
     replace hb := hb.drew
     replace hL := hL.drew
     replace hp := hp.drew
     replace h8 := h8.drew
     replace hV := hV.drew
     replace hzp := hzp.drew
     refine dt 0 74 (.pointer (some ⟨g8, 0, none⟩)) (fun v hv _ => by kernel_rfl) hV <| dt 1 75 (.int .i64 z.k) (fun v hv _ => Zai 3 _ ⟨g8, 0, none⟩ _ _ rfl (by kernel_rfl) (by rw [cell_of_row _ _ _ _ _ _ (h80.go hv)]; exact Zc6 z) Tryz.underlying3 rfl) hV <| dt 2 76 (.bool false) (fun v hv => (fun _ => Zaq (v := .bool ((z.k : Int) == (3 : Int))) (by kernel_rfl) (congrArg Value.bool (by rw [hz0.k, hk2]; rfl)))) hV <| dt 3 77 (.bool false) (fun v hv _ => by kernel_rfl) hV <| df 4 78 hV <| df 5 79 hV <| df 6 80 hV <| dt 7 81 (.bool false) (fun v hv _ => by kernel_rfl) hV <| dt 8 82 (.bool false) (fun v hv _ => by kernel_rfl) hV <| df 9 83 hV <| df 10 84 hV <| df 11 85 hV ?_
     refine df 12 86 hV <| df 13 87 hV <| df 14 88 hV <| df 15 89 hV <| df 16 90 hV <| df 17 91 hV <| dt 18 92 (.bool false) (fun v hv _ => by kernel_rfl) hV <| Zax (by kernel_rfl) <| Zab <| Zag (fun _ => by kernel_rfl) <| Zar <| Zab ?_
     refine Zac <| Zac <| Zaa <| rp 107 (.slice al nl cl) <| rp 108 (.int .i64 nl) <| rp 109 (.bool (decide ((nl : Int) > (0 : Int)))) <| Zad <| Zab ?_
     by_cases hM0 : M' = []
     ·skip
      have hml := hL.len
      rw [show decide ((nl : Int) > (0 : Int)) = false from decide_eq_false (by rw [hM0, List.length_nil] at hml; omega)]
      refine Zag (fun _ => by kernel_rfl) <| Zar <| Zab <| Zac <| Zac <| Zaa <| rp 110 (.pointer (some ⟨g8, 0, none⟩)) <| rv 111 (.int .i64 z.k) (fun _ => Zai 3 _ ⟨g8, 0, none⟩ _ _ rfl (by kernel_rfl) (by rw [cell_of_row _ _ _ _ _ _ h8]; exact Zc6 z) Tryz.underlying3 rfl) <| rv 112 (.bool false) (fun _ => Zaq (v := .bool ((z.k : Int) == (1 : Int))) (by kernel_rfl) (congrArg Value.bool (by rw [hz0.k, hk2]; rfl))) <| rp 113 (.bool false) <| Zan 114 (fun _ => by kernel_rfl) <| Zan 115 (fun _ => by kernel_rfl) ?_
      refine Zan 116 (fun _ => by kernel_rfl) <| Zan 117 (fun _ => by kernel_rfl) <| Zan 118 (fun _ => by kernel_rfl) <| Zan 119 (fun _ => by kernel_rfl) <| rp 120 (.bool false) <| rp 121 (.bool false) <| rp 122 (.pointer (some ⟨g8, 0, none⟩)) <| rv 123 (.int .i64 z.k) (fun _ => Zai 3 _ ⟨g8, 0, none⟩ _ _ rfl (by kernel_rfl) (by rw [cell_of_row _ _ _ _ _ _ h8]; exact Zc6 z) Tryz.underlying3 rfl) <| rv 124 (.bool false) (fun _ => Zaq (v := .bool ((z.k : Int) == (3 : Int))) (by kernel_rfl) (congrArg Value.bool (by rw [hz0.k, hk2]; rfl))) <| rp 125 (.bool false) <| Zan 126 (fun _ => by kernel_rfl) <| Zan 127 (fun _ => by kernel_rfl) ?_
      refine Zan 128 (fun _ => by kernel_rfl) <| rp 129 (.bool false) <| rp 130 (.bool false) <| Zan 131 (fun _ => by kernel_rfl) <| Zan 132 (fun _ => by kernel_rfl) <| Zan 133 (fun _ => by kernel_rfl) <| Zan 134 (fun _ => by kernel_rfl) <| rp 135 (.bool false) <| rp 136 (.bool false) <| Zad <| Zab <| Zag (fun _ => by kernel_rfl) ?_
      refine Zar <| Zab <| Zac <| Zaa <| rp 8 (.slice none 0 0) <| rp 9 (.bool false) <| rp 10 (.int .i64 0) <| Zad <| Zab <| Zao ?_
      have hve := (Zix ho2 hbad hfo hM0 : veP (f + 1) r p M ex = some (vaP N p)).trans (congrArg some (show vaP N p = [] from by rw [vaP, if_neg (fun e => hpp (by rw [e, List.take_length]))]))
      exact Zae (.tuple #[.slice none 0 0, .bool false, .int .i64 0]) (fun _ => by kernel_rfl) ⟨_, rfl, ⟨none, 0, 0, by rw [hve]; rfl, by rw [hve]; exact Sk.nil _ _⟩, hB⟩
     ·skip
      have hml := hL.len
      rw [show decide ((nl : Int) > (0 : Int)) = true from decide_eq_true (by have := List.length_pos_iff.2 hM0; omega)]
      refine Zam (fun _ => by kernel_rfl) <| Zac <| Zaa <| rp 8 (.slice none 0 0) <| rp 9 (.bool false) <| rp 10 (.int .i64 90) <| Zad <| Zab <| Zao <| Zah ?_
      have hve : veP (f + 1) r p M ex = none := Zjz ho2 hbad hfo hM0
      exact Zae (.tuple #[.slice none 0 0, .bool false, .int .i64 90]) (fun _ => by kernel_rfl) ⟨_, rfl, ⟨none, 0, 0, by rw [hve]; rfl, by rw [hve]; exact Sk.nil _ _⟩, hB⟩
   ·skip
    refine Zaa <| rp 52 (.slice ap np cp) <| rp 53 (.pointer (some ⟨g8, 1, none⟩)) <| rv 54 (.slice z.pa z.pn z.pc) (fun _ => Zai 23 _ ⟨g8, 1, none⟩ _ _ rfl (by kernel_rfl) (by rw [cell_of_row _ _ _ _ _ _ h8]; exact Zll z) Tryz.underlying23 rfl) <| Zav 55 35 #[.slice ap np cp, .slice z.pa z.pn z.pc] (fun _ => by kernel_rfl) (fun _ => by kernel_rfl) (R := fun u w' => u = .bool (decide (p.take N.p.length = N.p)) /\ Bl (w6) w') (Zey hp hzp) ?_
    rintro _ u5 ⟨rfl, hb5⟩
    replace hB := hB.go hb5
    replace hb := hb.go hb5
    replace hL := hL.go hb5
    replace hp := hp.go hb5
    replace h8 := h8.go hb5
    replace hV := hV.go hb5
    replace hzp := hzp.go hb5
    refine rp 14 (.bool (decide (p.take N.p.length = N.p))) <| Zad <| Zab <| Zac <| Zac <| Zaa <| rp 56 (.pointer (some ⟨g8, 0, none⟩)) <| rv 57 (.int .i64 z.k) (fun _ => Zai 3 _ ⟨g8, 0, none⟩ _ _ rfl (by kernel_rfl) (by rw [cell_of_row _ _ _ _ _ _ h8]; exact Zc6 z) Tryz.underlying3 rfl) <| rv 58 (.bool false) (fun _ => Zaq (v := .bool ((z.k : Int) == (2 : Int))) (by kernel_rfl) (congrArg Value.bool (by rw [hz0.k, hk3]; rfl))) <| rp 59 (.bool false) <| Zan 60 (fun _ => by kernel_rfl) <| rp 61 (.bool false) ?_
    refine Zad <| Zab <| Zag (fun _ => by kernel_rfl) <| Zar <| Zab <| Zac <| Zac <| Za7 (fun v => Bl w6 v) (by kernel_rfl) (hV.drew) ?_
    replace hB := hB.drew
    replace hb := hb.drew
    replace hL := hL.drew
    replace hp := hp.drew
    replace h8 := h8.drew
    replace hV := hV.drew
    replace hzp := hzp.drew
    refine dt 0 74 (.pointer (some ⟨g8, 0, none⟩)) (fun v hv _ => by kernel_rfl) hV <| dt 1 75 (.int .i64 z.k) (fun v hv _ => Zai 3 _ ⟨g8, 0, none⟩ _ _ rfl (by kernel_rfl) (by rw [cell_of_row _ _ _ _ _ _ (h80.go hv)]; exact Zc6 z) Tryz.underlying3 rfl) hV <| dt 2 76 (.bool true) (fun v hv => (fun _ => Zaq (v := .bool ((z.k : Int) == (3 : Int))) (by kernel_rfl) (congrArg Value.bool (by rw [hz0.k, hk3]; rfl)))) hV <| dt 3 77 (.bool true) (fun v hv _ => by kernel_rfl) hV <| dt 4 78 (.slice ap np cp) (fun v hv _ => by kernel_rfl) hV <| dt 5 79 (.int .i64 np) (fun v hv _ => by kernel_rfl) hV <| dt 6 80 (.bool (decide ((np : Int) > (0 : Int)))) (fun v hv _ => by kernel_rfl) hV <| dt 7 81 (.bool (decide ((np : Int) > (0 : Int)))) (fun v hv _ => by kernel_rfl) hV <| dt 8 82 (.bool (decide ((np : Int) > (0 : Int)))) (fun v hv _ => by kernel_rfl) hV ?_
    cases p with
    | nil =>
     rw [List.length_nil] at lp
     rw [show (decide ((np : Int) > (0 : Int))) = false from decide_eq_false (by omega)]
     have hfo : foP N [] = none := by simp [foP, hk3]
     refine df 9 83 hV <| df 10 84 hV <| df 11 85 hV <| df 12 86 hV <| df 13 87 hV <| df 14 88 hV <| df 15 89 hV <| df 16 90 hV <| df 17 91 hV <| dt 18 92 (.bool false) (fun v hv _ => by kernel_rfl) hV <| Zax (by kernel_rfl) <| Zab ?_
     refine Zag (fun _ => by kernel_rfl) <| Zar <| Zab <| Zac <| Zac <| Zaa <| rp 107 (.slice al nl cl) <| rp 108 (.int .i64 nl) <| rp 109 (.bool (decide ((nl : Int) > (0 : Int)))) <| Zad <| Zab ?_
     by_cases hM0 : M' = []
     ·skip
      have hml := hL.len
      rw [show decide ((nl : Int) > (0 : Int)) = false from decide_eq_false (by rw [hM0, List.length_nil] at hml; omega)]
      refine Zag (fun _ => by kernel_rfl) <| Zar <| Zab <| Zac <| Zac <| Zaa <| rp 110 (.pointer (some ⟨g8, 0, none⟩)) <| rv 111 (.int .i64 z.k) (fun _ => Zai 3 _ ⟨g8, 0, none⟩ _ _ rfl (by kernel_rfl) (by rw [cell_of_row _ _ _ _ _ _ h8]; exact Zc6 z) Tryz.underlying3 rfl) <| rv 112 (.bool false) (fun _ => Zaq (v := .bool ((z.k : Int) == (1 : Int))) (by kernel_rfl) (congrArg Value.bool (by rw [hz0.k, hk3]; rfl))) <| rp 113 (.bool false) <| Zan 114 (fun _ => by kernel_rfl) <| Zan 115 (fun _ => by kernel_rfl) ?_
      refine Zan 116 (fun _ => by kernel_rfl) <| Zan 117 (fun _ => by kernel_rfl) <| Zan 118 (fun _ => by kernel_rfl) <| Zan 119 (fun _ => by kernel_rfl) <| rp 120 (.bool false) <| rp 121 (.bool false) <| rp 122 (.pointer (some ⟨g8, 0, none⟩)) <| rv 123 (.int .i64 z.k) (fun _ => Zai 3 _ ⟨g8, 0, none⟩ _ _ rfl (by kernel_rfl) (by rw [cell_of_row _ _ _ _ _ _ h8]; exact Zc6 z) Tryz.underlying3 rfl) <| rv 124 (.bool true) (fun _ => Zaq (v := .bool ((z.k : Int) == (3 : Int))) (by kernel_rfl) (congrArg Value.bool (by rw [hz0.k, hk3]; rfl))) <| rp 125 (.bool true) <| rp 126 (.slice ap np cp) <| rp 127 (.int .i64 np) ?_
      refine rv 128 (.bool true) (fun _ => Zaq (v := .bool ((np : Int) == (0 : Int))) (by kernel_rfl) (congrArg Value.bool (beq_iff_eq.2 (by omega)))) <| rp 129 (.bool true) <| rp 130 (.bool true) <| rp 131 (.pointer (some ⟨g8, 2, none⟩)) <| rv 132 (.slice z.va z.vn z.vc) (fun _ => Zai 23 _ ⟨g8, 2, none⟩ _ _ rfl (by kernel_rfl) (by rw [cell_of_row _ _ _ _ _ _ h8]; exact Zto z) Tryz.underlying23 rfl) <| rp 133 (.int .i64 z.vn) <| rp 134 (.bool (decide ((z.vn : Int) > (0 : Int)))) <| rp 135 (.bool (decide ((z.vn : Int) > (0 : Int)))) <| rp 136 (.bool (decide ((z.vn : Int) > (0 : Int)))) <| Zad <| Zab ?_
      have hva : vaP N [] = N.v := if_pos (Zvh hNR hk3)
      by_cases hv0 : 0 < z.vn
      ·skip
       rw [show (decide ((z.vn : Int) > (0 : Int))) = true from decide_eq_true (by omega)]
       refine Zam (fun _ => by kernel_rfl) <| Zac <| Zaa <| rp 137 (.pointer (some ⟨g8, 2, none⟩)) <| rv 138 (.slice z.va z.vn z.vc) (fun _ => Zai 23 _ ⟨g8, 2, none⟩ _ _ rfl (by kernel_rfl) (by rw [cell_of_row _ _ _ _ _ _ h8]; exact Zto z) Tryz.underlying23 rfl) <| rp 8 (.slice z.va z.vn z.vc) <| rp 9 (.bool true) <| rp 10 (.int .i64 0) <| Zad <| Zab <| Zao <| Zah ?_
       have hve := (Zix ho2 hbad hfo hM0 : veP (f + 1) r [] M ex = some (vaP N [])).trans (congrArg some (hva))
       exact Zae (.tuple #[.slice z.va z.vn z.vc, .bool true, .int .i64 0]) (fun _ => by kernel_rfl) ⟨_, rfl, ⟨z.va, z.vn, z.vc, by rw [hve, decide_eq_true hv0]; rfl, by rw [hve]; exact (hz0.v.sk.go hV).mono (fun _ _ => trivial)⟩, hB⟩
      ·skip
       rw [show (decide ((z.vn : Int) > (0 : Int))) = false from decide_eq_false (by omega)]
       refine Zag (fun _ => by kernel_rfl) <| Zar <| Zab <| Zac <| Zaa <| rp 8 (.slice none 0 0) <| rp 9 (.bool false) <| rp 10 (.int .i64 0) <| Zad <| Zab <| Zao ?_
       have hve := (Zix ho2 hbad hfo hM0 : veP (f + 1) r [] M ex = some (vaP N [])).trans (congrArg some (show vaP N [] = [] from by rw [hva]; exact List.eq_nil_of_length_eq_zero (by have := hz0.v.1.l; omega)))
       exact Zae (.tuple #[.slice none 0 0, .bool false, .int .i64 0]) (fun _ => by kernel_rfl) ⟨_, rfl, ⟨none, 0, 0, by rw [hve]; rfl, by rw [hve]; exact Sk.nil _ _⟩, hB⟩
     ·skip
      have hml := hL.len
      rw [show decide ((nl : Int) > (0 : Int)) = true from decide_eq_true (by have := List.length_pos_iff.2 hM0; omega)]
      refine Zam (fun _ => by kernel_rfl) <| Zac <| Zaa <| rp 8 (.slice none 0 0) <| rp 9 (.bool false) <| rp 10 (.int .i64 90) <| Zad <| Zab <| Zao <| Zah ?_
      have hve : veP (f + 1) r [] M ex = none := Zjz ho2 hbad hfo hM0
      exact Zae (.tuple #[.slice none 0 0, .bool false, .int .i64 90]) (fun _ => by kernel_rfl) ⟨_, rfl, ⟨none, 0, 0, by rw [hve]; rfl, by rw [hve]; exact Sk.nil _ _⟩, hB⟩
    | cons x p1 =>
     rw [List.length_cons] at lp
     rw [show (decide ((np : Int) > (0 : Int))) = true from decide_eq_true (by omega)]
     obtain ⟨g1, o1, rfl, hcw, _⟩ := hp6.head
     have hx16 := hnb x (List.mem_cons_self)
     have h16 := Zyp hNR hk3
     obtain ⟨j, hj⟩ : ∃ j : Nat, x = (j : Int) := ⟨x.toNat, by omega⟩
     have hkid : N.ks[j]? = some (kidP N (x :: p1)) := by unfold kidP; rw [List.getD_cons_zero, hj, Int.toNat_natCast, List.getD_eq_getElem?_getD]; rw [List.getElem?_eq_getElem (by omega)]; rfl
     obtain ⟨gK, oK, y2, eK, hKg, hrg, hRf⟩ := hz0.ks j _ hkid
     have hyl2 := hRf.len
     have hzm := hz0.m.1
     refine dt 9 83 (.pointer (some ⟨g8, 37, none⟩)) (fun v hv _ => by kernel_rfl) hV <| dt 10 84 (.slice (some ⟨gK, oK, none⟩) z.kn z.kc) (fun v hv _ => Zaq (Zai 66 _ ⟨g8, 37, none⟩ _ _ rfl (by kernel_rfl) (by rw [cell_of_row _ _ _ _ _ _ (h80.go hv)]; exact Zre hzl) Tryz.underlying66 rfl) (by rw [eK])) hV <| dt 11 85 (.slice (some ⟨g1, o1, none⟩) np cp) (fun v hv _ => by kernel_rfl) hV <| dt 12 86 (.pointer (some ⟨g1, o1 + 0 * 1, none⟩)) (fun v hv _ => Zbt 23 _ _ g1 o1 0 np cp 1 5 rfl (by kernel_rfl) (by kernel_rfl) (by omega) Tryz.underlying23 (by kernel_rfl)) hV <| dt 13 87 (.int .u8 x) (fun v hv _ => Zai 5 _ _ _ _ rfl (by kernel_rfl) ((Below.cell hv (block_lt_of_cell hcw)).trans hcw) Tryz.underlying5 rfl) hV <| dt 14 88 (.pointer (some ⟨gK, oK + j * 34, none⟩)) (fun v hv _ => Zhz (kd := .u8) 66 _ _ gK oK j z.kn z.kc 34 65 rfl (by kernel_rfl) (by kernel_rfl) hj (by omega) Tryz.underlying66 Zb9) hV <| dt 15 89 (.pointer (some ⟨gK, oK + j * 34, none⟩)) (fun v hv _ => by kernel_rfl) hV <| dt 16 90 (.int .i64 y2.k) (fun v hv _ => Zai 3 _ _ _ _ rfl (by kernel_rfl) (Zbr hrg (fun h => Below.block hv gK h) 0 _ rfl) Tryz.underlying3 rfl) hV <| dt 17 91 (.bool (!((y2.k : Int) == (0 : Int)))) (fun v hv _ => by kernel_rfl) hV <| dt 18 92 (.bool (!((y2.k : Int) == (0 : Int)))) (fun v hv _ => by kernel_rfl) hV <| Zax (by kernel_rfl) <| Zab ?_
     by_cases hk0 : (kidP N (x :: p1)).k = 0
     ·skip
      rw [show (!((y2.k : Int) == (0 : Int))) = false from by rw [hRf.1]; simp [hk0]]
      have hfo : foP N (x :: p1) = none := by simp [foP, hk3, hk0]
      refine Zag (fun _ => by kernel_rfl) <| Zar <| Zab <| Zac <| Zac <| Zaa <| rp 107 (.slice al nl cl) <| rp 108 (.int .i64 nl) <| rp 109 (.bool (decide ((nl : Int) > (0 : Int)))) <| Zad <| Zab ?_
      by_cases hM0 : M' = []
      ·skip
       have hml := hL.len
       rw [show decide ((nl : Int) > (0 : Int)) = false from decide_eq_false (by rw [hM0, List.length_nil] at hml; omega)]
       refine Zag (fun _ => by kernel_rfl) <| Zar <| Zab <| Zac <| Zac <| Zaa <| rp 110 (.pointer (some ⟨g8, 0, none⟩)) <| rv 111 (.int .i64 z.k) (fun _ => Zai 3 _ ⟨g8, 0, none⟩ _ _ rfl (by kernel_rfl) (by rw [cell_of_row _ _ _ _ _ _ h8]; exact Zc6 z) Tryz.underlying3 rfl) <| rv 112 (.bool false) (fun _ => Zaq (v := .bool ((z.k : Int) == (1 : Int))) (by kernel_rfl) (congrArg Value.bool (by rw [hz0.k, hk3]; rfl))) <| rp 113 (.bool false) <| Zan 114 (fun _ => by kernel_rfl) <| Zan 115 (fun _ => by kernel_rfl) ?_
       refine Zan 116 (fun _ => by kernel_rfl) <| Zan 117 (fun _ => by kernel_rfl) <| Zan 118 (fun _ => by kernel_rfl) <| Zan 119 (fun _ => by kernel_rfl) <| rp 120 (.bool false) <| rp 121 (.bool false) <| rp 122 (.pointer (some ⟨g8, 0, none⟩)) <| rv 123 (.int .i64 z.k) (fun _ => Zai 3 _ ⟨g8, 0, none⟩ _ _ rfl (by kernel_rfl) (by rw [cell_of_row _ _ _ _ _ _ h8]; exact Zc6 z) Tryz.underlying3 rfl) <| rv 124 (.bool true) (fun _ => Zaq (v := .bool ((z.k : Int) == (3 : Int))) (by kernel_rfl) (congrArg Value.bool (by rw [hz0.k, hk3]; rfl))) <| rp 125 (.bool true) <| rp 126 (.slice (some ⟨g1, o1, none⟩) np cp) <| rp 127 (.int .i64 np) ?_
       refine rv 128 (.bool false) (fun _ => Zaq (v := .bool ((np : Int) == (0 : Int))) (by kernel_rfl) (congrArg Value.bool (beq_eq_false_iff_ne.2 (by omega)))) <| rp 129 (.bool false) <| rp 130 (.bool false) <| Zan 131 (fun _ => by kernel_rfl) <| Zan 132 (fun _ => by kernel_rfl) <| Zan 133 (fun _ => by kernel_rfl) <| Zan 134 (fun _ => by kernel_rfl) <| rp 135 (.bool false) <| rp 136 (.bool false) <| Zad <| Zab <| Zag (fun _ => by kernel_rfl) ?_
       refine Zar <| Zab <| Zac <| Zaa <| rp 8 (.slice none 0 0) <| rp 9 (.bool false) <| rp 10 (.int .i64 0) <| Zad <| Zab <| Zao ?_
       have hve := (Zix ho2 hbad hfo hM0 : veP (f + 1) r (x :: p1) M ex = some (vaP N (x :: p1))).trans (congrArg some (show vaP N (x :: p1) = [] from by rw [vaP, Zvh hNR hk3, if_neg (by simp)]))
       exact Zae (.tuple #[.slice none 0 0, .bool false, .int .i64 0]) (fun _ => by kernel_rfl) ⟨_, rfl, ⟨none, 0, 0, by rw [hve]; rfl, by rw [hve]; exact Sk.nil _ _⟩, hB⟩
      ·skip
       have hml := hL.len
       rw [show decide ((nl : Int) > (0 : Int)) = true from decide_eq_true (by have := List.length_pos_iff.2 hM0; omega)]
       refine Zam (fun _ => by kernel_rfl) <| Zac <| Zaa <| rp 8 (.slice none 0 0) <| rp 9 (.bool false) <| rp 10 (.int .i64 90) <| Zad <| Zab <| Zao <| Zah ?_
       have hve : veP (f + 1) r (x :: p1) M ex = none := Zjz ho2 hbad hfo hM0
       exact Zae (.tuple #[.slice none 0 0, .bool false, .int .i64 90]) (fun _ => by kernel_rfl) ⟨_, rfl, ⟨none, 0, 0, by rw [hve]; rfl, by rw [hve]; exact Sk.nil _ _⟩, hB⟩
     ·skip
      rw [show (!((y2.k : Int) == (0 : Int))) = true from by rw [hRf.1]; simp [hk0]]
      have hfo : foP N (x :: p1) = some (kidP N (x :: p1), (x :: p1).drop 1) := by simp [foP, hk3, hk0]
      refine Zam (fun _ => by kernel_rfl) <| Zac ?_
      obtain ⟨a9, n9, c9, hr9, hs9⟩ := hp.cutFrom 1 (by omega)
      have l9 := hs9.len
      rw [List.length_drop, List.length_cons] at l9
      refine Za7 (fun v => Bl w6 v) (by kernel_rfl) (hV.drew) ?_
      replace hB := hB.drew
      replace hb := hb.drew
      replace hL := hL.drew
      replace hp := hp.drew
      replace h8 := h8.drew
      replace hV := hV.drew
      replace hzp := hzp.drew
      replace hs9 := hs9.drew
      refine dt 0 93 (.pointer (some ⟨g8, 37, none⟩)) (fun v hv _ => by kernel_rfl) hV <| dt 1 94 (.slice (some ⟨gK, oK, none⟩) z.kn z.kc) (fun v hv _ => Zaq (Zai 66 _ ⟨g8, 37, none⟩ _ _ rfl (by kernel_rfl) (by rw [cell_of_row _ _ _ _ _ _ (h80.go hv)]; exact Zre hzl) Tryz.underlying66 rfl) (by rw [eK])) hV <| dt 2 95 (.slice (some ⟨g1, o1, none⟩) np cp) (fun v hv _ => by kernel_rfl) hV <| dt 3 96 (.pointer (some ⟨g1, o1 + 0 * 1, none⟩)) (fun v hv _ => Zbt 23 _ _ g1 o1 0 np cp 1 5 rfl (by kernel_rfl) (by kernel_rfl) (by omega) Tryz.underlying23 (by kernel_rfl)) hV <| dt 4 97 (.int .u8 x) (fun v hv _ => Zai 5 _ _ _ _ rfl (by kernel_rfl) ((Below.cell hv (block_lt_of_cell hcw)).trans hcw) Tryz.underlying5 rfl) hV <| dt 5 98 (.pointer (some ⟨gK, oK + j * 34, none⟩)) (fun v hv _ => Zhz (kd := .u8) 66 _ _ gK oK j z.kn z.kc 34 65 rfl (by kernel_rfl) (by kernel_rfl) hj (by omega) Tryz.underlying66 Zb9) hV <| dt 6 99 (.agg y2.cells.toArray) (fun v hv _ => Zjd 65 _ gK (oK + j * 34) y2.cells _ rfl (by kernel_rfl) (Zbr hrg (fun h => Below.block hv gK h)) Tryz.underlying65 rfl (by rw [Zb9, RV.len hyl2])) hV <| dt 7 100 (.slice (some ⟨g1, o1, none⟩) np cp) (fun v hv _ => by kernel_rfl) hV <| dt 8 101 (.slice a9 n9 c9) (fun v hv _ => hr9 _ _ _ _ _ _ rfl (by kernel_rfl) (by kernel_rfl) rfl) hV <| dt 9 102 (.slice al nl cl) (fun v hv _ => by kernel_rfl) hV <| Zak [10] (by kernel_rfl) (by simp) ?_
      refine Za4 10 103 43 #[.agg y2.cells.toArray, .slice a9 n9 c9, .slice al nl cl, .bool false] rfl (fun _ => by kernel_rfl) (fun _ => by kernel_rfl) (R := FrR (u5.drew.drew) (veP f (kidP N (x :: p1)) ((x :: p1).drop 1) M' false)) (hIH (hRf.go (Zdy hV)) hs9 (hnb.drop _) hL hnl hM (by omega)) (fun u w' h => hV.go h.2) ?_ Zaw
      rintro _ u6 ⟨⟨a5, n5, c5, rfl, hs5⟩, hb6_⟩
      replace hB := hB.go hb6_
      replace hb := hb.go hb6_
      replace hL := hL.go hb6_
      replace hp := hp.go hb6_
      replace h8 := h8.go hb6_
      replace hV := hV.go hb6_
      replace hzp := hzp.go hb6_
      replace hs9 := hs9.go hb6_
      refine dt 11 104 (.slice a5 n5 c5) (fun v hv _ => by kernel_rfl) hV <| dt 12 105 (.bool (decide (0 < n5))) (fun v hv _ => by kernel_rfl) hV <| dt 13 106 (.int .i64 (if (veP f (kidP N (x :: p1)) ((x :: p1).drop 1) M' false).isSome = true then 0 else 90)) (fun v hv _ => by kernel_rfl) hV <| dt 14 8 (.slice a5 n5 c5) (fun v hv _ => by kernel_rfl) hV <| dt 15 9 (.bool (decide (0 < n5))) (fun v hv _ => by kernel_rfl) hV <| dt 16 10 (.int .i64 (if (veP f (kidP N (x :: p1)) ((x :: p1).drop 1) M' false).isSome = true then 0 else 90)) (fun v hv _ => by kernel_rfl) hV <| Zax (by kernel_rfl) <| Zab <| Zao <| Zah ?_
      have hve : veP (f + 1) r (x :: p1) M ex = veP f (kidP N (x :: p1)) ((x :: p1).drop 1) M' false := by rw [Zxg ho2 hbad hfo, decide_eq_false (by omega)]
      exact Zae (.tuple #[.slice a5 n5 c5, .bool (decide (0 < n5)), .int .i64 (if (veP f (kidP N (x :: p1)) ((x :: p1).drop 1) M' false).isSome = true then 0 else 90)]) (fun _ => by kernel_rfl) ⟨_, rfl, ⟨a5, n5, c5, by rw [hve], by rw [hve]; exact hs5⟩, hB⟩
theorem Zki : ∀ f : Nat, FrS f
 | 0 => by intro _ _ _ _ _ _ h; exact absurd h (Nat.not_lt_zero _)
 | f + 1 => by
  intro hy hp hnb hL hnc hM h
  exact Zru (Zki f) hy hp hnb hL hnc hM (by omega)
def VfD (w : World) (o : Int × List Int) : Value -> World -> Prop := fun u w' => (∃ (a : Option Addr) (n c : Nat), u = .tuple #[.slice a n c, .bool (decide (0 < n)), .int .i64 o.1] /\ Sk (fun _ => True) w' a n c o.2) /\ Bl w w'
theorem Znb {w : World} {d : List Int} (hd : d.length = 32) (hdb : isB d) : RefAt (fun _ => True) w ⟨2, d, none, 0, 0⟩ ⟨2, d, []⟩ := ⟨rfl, rfl, hdb, hd, ⟨.inl ⟨rfl, rfl⟩, fun _ => ⟨rfl, rfl⟩, rfl, fun x hx => by cases hx⟩, Nat.zero_le _, fun _ _ _ _ => trivial⟩
set_option maxHeartbeats 4000000 in
theorem Zmg {K K1 : Nat -> Prop} {w : World} {d : List Int} {a al : Option Addr} {n c nl cl : Nat} {k : List Int} {M : List (List Int)} (hd : d.length = 32) (hdb : isB d) (hk : Sk K1 w a n c k) (hL : Bt K w al nl M) (hnc : nl <= cl) (hM : ∀ b ∈ M, b.length <= 140737488351232) :
  Calls Tryz.prog 18 #[.agg (B8 d), .slice a n c, .slice al nl cl] w fun e w' => ∃ u, e = .returned u /\ VfD w (vfP d k M) u w' := by
 have hB := Bl.refl w
 have lk := hk.len
 obtain ⟨A, hA⟩ : ∃ A, vfP d k M = A := ⟨_, rfl⟩
 rw [hA]
 unfold vfP at hA
 refine Zat Tryz.func18 rfl 29 rfl ?_
 show CW _ _ _ _ _ _ _ [(0, .agg (B8 d)), (1, .slice a n c), (2, .slice al nl cl)] _
 refine Zac <| Zaa <| Zbk 3 (B8 d) 35 (fun _ => by kernel_rfl) (fun _ => by kernel_rfl) ?_
 intro w1 gD hnD
 have hD1 : Rw gD w1 (B8 d) 35 := hnD.row
 replace hB := hB.go hnD.below
 replace hk := hk.go hnD.below
 replace hL := hL.go hnD.below
 have hV := Bl.refl w1
 refine rp 6 (.slice none 0 0) <| rp 7 (.bool false) <| rp 8 (.int .i64 0) <| Zad <| Zab <| Zac <| Zac <| Zaa <| rp 9 (.slice a n c) <| rp 10 (.int .i64 n) <| rp 11 (.bool (decide ((n : Int) > (32 : Int)))) <| Zad ?_
 refine Zab ?_
 by_cases hn32 : n <= 32
 ·skip
  rw [show decide ((n : Int) > (32 : Int)) = false from decide_eq_false (by omega)]
  rw [if_neg (by omega)] at hA
  refine Zag (fun _ => by kernel_rfl) <| Zar <| Zab <| Zac <| Zac ?_
  cases M with
  | nil =>
   have hn0 : nl = 0 := hL.len.symm
   refine Za7 (fun v => Bl w1 v) (by kernel_rfl) (hV.drew) ?_
   replace hB := hB.drew
   replace hk := hk.drew
   replace hL := hL.drew
   replace hV := hV.drew
   refine dt 0 12 (.slice al nl cl) (fun v hv _ => by kernel_rfl) hV <| dt 1 13 (.int .i64 nl) (fun v hv _ => by kernel_rfl) hV <| dt 2 14 (.bool true) (fun v hv => (fun _ => Zaq (v := .bool ((nl : Int) == (0 : Int))) (by kernel_rfl) (congrArg Value.bool (beq_iff_eq.2 (by omega))))) hV <| dt 3 15 (.bool true) (fun v hv _ => by kernel_rfl) hV <| dt 4 16 (.agg (B8 d)) (fun v hv _ => Zcf 35 _ _ _ _ _ _ rfl (by kernel_rfl) (hD1.go hv) Tryz.underlying35 rfl (Zc2 hd)) hV <| Zak [5] (by kernel_rfl) (by simp) ?_
   refine Za4 5 17 22 #[] rfl (fun _ => by kernel_rfl) (fun _ => by kernel_rfl) (R := fun u w' => u = .agg (B8 (dref [128])) /\ Bl (w1.drew) w') (((Zip (w1.drew)).mono (fun e w' h => ⟨_, h.1, rfl, h.2⟩))) (fun u w' h => hV.go h.2) ?_ Zaw
   rintro _ u2 ⟨rfl, hb2⟩
   replace hB := hB.go hb2
   replace hk := hk.go hb2
   replace hL := hL.go hb2
   replace hV := hV.go hb2
   refine dt 6 18 (.bool (d == dref [128])) (fun v hv _ => Zq2 rfl (by kernel_rfl) (by kernel_rfl) hd (dref_len _)) hV <| dt 7 19 (.bool (d == dref [128])) (fun v hv _ => by kernel_rfl) hV <| Zax (by kernel_rfl) <| Zab ?_
   by_cases hde : d = dref [128]
   ·skip
    rw [show (d == dref [128]) = true from by simp [hde]]
    rw [if_pos ⟨rfl, hde⟩] at hA
    refine Zam (fun _ => by kernel_rfl) <| Zac <| Zaa <| rp 6 (.slice none 0 0) <| rp 7 (.bool false) <| rp 8 (.int .i64 0) <| Zad <| Zab <| Zao <| Zah ?_
    subst hA
    exact Zae (.tuple #[.slice none 0 0, .bool false, .int .i64 0]) (fun _ => by kernel_rfl) ⟨_, rfl, ⟨none, 0, 0, rfl, Sk.nil _ _⟩, hB⟩
   ·skip
    rw [show (d == dref [128]) = false from by simp [hde]]
    rw [if_neg (fun h => hde h.2)] at hA
    refine Zag (fun _ => by kernel_rfl) <| Zar <| Zab <| Zac ?_
    have hkB : isB k := hk.ag.b
    refine Za7 (fun v => Bl w1 v) (by kernel_rfl) (hV.drew) ?_
    replace hB := hB.drew
    replace hk := hk.drew
    replace hL := hL.drew
    replace hV := hV.drew
    refine dt 0 20 (.agg (B8 d)) (fun v hv _ => Zcf 35 _ _ _ _ _ _ rfl (by kernel_rfl) (hD1.go hv) Tryz.underlying35 rfl (Zc2 hd)) hV <| dt 1 21 (.agg (RV.cells ⟨2, d, none, 0, 0⟩).toArray) (fun v hv _ => Zfk 65 _ [(0, .int .i64 2), (1, .agg (B8 d))] _ rfl (by kernel_rfl) (Zij d hd)) hV <| dt 2 22 (.slice a n c) (fun v hv _ => by kernel_rfl) hV <| dt 4 24 (.slice al nl cl) (fun v hv _ => by kernel_rfl) hV <| Zak [3] (by kernel_rfl) (by simp) ?_
    refine Za4 3 23 32 #[.slice a n c] rfl (fun _ => by kernel_rfl) (fun _ => by kernel_rfl) (R := fun u w' => (∃ a' c', u = .slice a' (2 * n) c' /\ Ag w' a' (2 * n) c' (Ni.nib k)) /\ Bl (u2.drew) w') (((Ni.rof_any a n c k (u2.drew) hk.ag (by omega)).mono (fun e w' ⟨⟨a', c', e1, h1, h2, h3, h4⟩, hb⟩ => ⟨_, e1, ⟨a', c', rfl, h3⟩, hb⟩))) (fun u w' h => hV.go h.2) ?_ Zaw
    rintro _ u3 ⟨⟨a3, c3, rfl, hc3⟩, hb3⟩
    replace hB := hB.go hb3
    replace hk := hk.go hb3
    replace hL := hL.go hb3
    replace hV := hV.go hb3
    have hp3 : Sk (fun _ => True) u3 a3 (2 * n) c3 (Ni.nib k) := ⟨hc3, fun _ _ _ => trivial⟩
    refine Zak [5] (by kernel_rfl) (by simp) ?_
    refine Za4 5 25 43 #[.agg (RV.cells ⟨2, d, none, 0, 0⟩).toArray, .slice a3 (2 * n) c3, .slice al nl cl, .bool false] rfl (fun _ => by kernel_rfl) (fun _ => by kernel_rfl) (R := FrR (u3) (veP (2 * k.length + 1) ⟨2, d, []⟩ (Ni.nib k) [] false)) (Zki (2 * k.length + 1) (Znb hd hdb) hp3 (Zlk hkB) hL hnc hM (by omega)) (fun u w' h => hV.go h.2) ?_ Zaw
    rintro _ u4 ⟨⟨a4, n4, c4, rfl, hs4⟩, hb4⟩
    replace hB := hB.go hb4
    replace hk := hk.go hb4
    replace hL := hL.go hb4
    replace hV := hV.go hb4
    refine dt 6 26 (.slice a4 n4 c4) (fun v hv _ => by kernel_rfl) hV <| dt 7 27 (.bool (decide (0 < n4))) (fun v hv _ => by kernel_rfl) hV <| dt 8 28 (.int .i64 (if (veP (2 * k.length + 1) ⟨2, d, []⟩ (Ni.nib k) [] false).isSome = true then 0 else 90)) (fun v hv _ => by kernel_rfl) hV <| dt 9 6 (.slice a4 n4 c4) (fun v hv _ => by kernel_rfl) hV <| dt 10 7 (.bool (decide (0 < n4))) (fun v hv _ => by kernel_rfl) hV <| dt 11 8 (.int .i64 (if (veP (2 * k.length + 1) ⟨2, d, []⟩ (Ni.nib k) [] false).isSome = true then 0 else 90)) (fun v hv _ => by kernel_rfl) hV <| Zax (by kernel_rfl) <| Zab <| Zao ?_
    refine Zae (.tuple #[.slice a4 n4 c4, .bool (decide (0 < n4)), .int .i64 (if (veP (2 * k.length + 1) ⟨2, d, []⟩ (Ni.nib k) [] false).isSome = true then 0 else 90)]) (fun _ => by kernel_rfl) ⟨_, rfl, ⟨a4, n4, c4, ?_, ?_⟩, hB⟩
    ·rw [<- hA]; cases veP (2 * k.length + 1) ⟨2, d, []⟩ (Ni.nib k) [] false <;> rfl
    ·rw [<- hA]; revert hs4; cases veP (2 * k.length + 1) ⟨2, d, []⟩ (Ni.nib k) [] false <;> exact fun h => h
  | cons m1 M1 =>
   have hn0 := hL.len
   rw [List.length_cons] at hn0
   rw [if_neg (fun h => by cases h.1)] at hA
   refine Za7 (fun v => Bl w1 v) (by kernel_rfl) (hV.drew) ?_
   replace hB := hB.drew
   replace hk := hk.drew
   replace hL := hL.drew
   replace hV := hV.drew
   refine dt 0 12 (.slice al nl cl) (fun v hv _ => by kernel_rfl) hV <| dt 1 13 (.int .i64 nl) (fun v hv _ => by kernel_rfl) hV <| dt 2 14 (.bool false) (fun v hv => (fun _ => Zaq (v := .bool ((nl : Int) == (0 : Int))) (by kernel_rfl) (congrArg Value.bool (beq_eq_false_iff_ne.2 (by omega))))) hV <| dt 3 15 (.bool false) (fun v hv _ => by kernel_rfl) hV <| df 4 16 hV <| df 5 17 hV <| df 6 18 hV <| dt 7 19 (.bool false) (fun v hv _ => by kernel_rfl) hV <| Zax (by kernel_rfl) <| Zab <| Zag (fun _ => by kernel_rfl) <| Zar ?_
   refine Zab <| Zac ?_
   have hkB : isB k := hk.ag.b
   refine Za7 (fun v => Bl w1 v) (by kernel_rfl) (hV.drew) ?_
   replace hB := hB.drew
   replace hk := hk.drew
   replace hL := hL.drew
   replace hV := hV.drew
   refine dt 0 20 (.agg (B8 d)) (fun v hv _ => Zcf 35 _ _ _ _ _ _ rfl (by kernel_rfl) (hD1.go hv) Tryz.underlying35 rfl (Zc2 hd)) hV <| dt 1 21 (.agg (RV.cells ⟨2, d, none, 0, 0⟩).toArray) (fun v hv _ => Zfk 65 _ [(0, .int .i64 2), (1, .agg (B8 d))] _ rfl (by kernel_rfl) (Zij d hd)) hV <| dt 2 22 (.slice a n c) (fun v hv _ => by kernel_rfl) hV <| dt 4 24 (.slice al nl cl) (fun v hv _ => by kernel_rfl) hV <| Zak [3] (by kernel_rfl) (by simp) ?_
   refine Za4 3 23 32 #[.slice a n c] rfl (fun _ => by kernel_rfl) (fun _ => by kernel_rfl) (R := fun u w' => (∃ a' c', u = .slice a' (2 * n) c' /\ Ag w' a' (2 * n) c' (Ni.nib k)) /\ Bl (w1.drew.drew) w') (((Ni.rof_any a n c k (w1.drew.drew) hk.ag (by omega)).mono (fun e w' ⟨⟨a', c', e1, h1, h2, h3, h4⟩, hb⟩ => ⟨_, e1, ⟨a', c', rfl, h3⟩, hb⟩))) (fun u w' h => hV.go h.2) ?_ Zaw
   rintro _ u3 ⟨⟨a3, c3, rfl, hc3⟩, hb3⟩
   replace hB := hB.go hb3
   replace hk := hk.go hb3
   replace hL := hL.go hb3
   replace hV := hV.go hb3
   have hp3 : Sk (fun _ => True) u3 a3 (2 * n) c3 (Ni.nib k) := ⟨hc3, fun _ _ _ => trivial⟩
   refine Zak [5] (by kernel_rfl) (by simp) ?_
   refine Za4 5 25 43 #[.agg (RV.cells ⟨2, d, none, 0, 0⟩).toArray, .slice a3 (2 * n) c3, .slice al nl cl, .bool false] rfl (fun _ => by kernel_rfl) (fun _ => by kernel_rfl) (R := FrR (u3) (veP (2 * k.length + 1) ⟨2, d, []⟩ (Ni.nib k) (m1 :: M1) false)) (Zki (2 * k.length + 1) (Znb hd hdb) hp3 (Zlk hkB) hL hnc hM (by omega)) (fun u w' h => hV.go h.2) ?_ Zaw
   rintro _ u4 ⟨⟨a4, n4, c4, rfl, hs4⟩, hb4⟩
   replace hB := hB.go hb4
   replace hk := hk.go hb4
   replace hL := hL.go hb4
   replace hV := hV.go hb4
   refine dt 6 26 (.slice a4 n4 c4) (fun v hv _ => by kernel_rfl) hV <| dt 7 27 (.bool (decide (0 < n4))) (fun v hv _ => by kernel_rfl) hV <| dt 8 28 (.int .i64 (if (veP (2 * k.length + 1) ⟨2, d, []⟩ (Ni.nib k) (m1 :: M1) false).isSome = true then 0 else 90)) (fun v hv _ => by kernel_rfl) hV <| dt 9 6 (.slice a4 n4 c4) (fun v hv _ => by kernel_rfl) hV <| dt 10 7 (.bool (decide (0 < n4))) (fun v hv _ => by kernel_rfl) hV <| dt 11 8 (.int .i64 (if (veP (2 * k.length + 1) ⟨2, d, []⟩ (Ni.nib k) (m1 :: M1) false).isSome = true then 0 else 90)) (fun v hv _ => by kernel_rfl) hV <| Zax (by kernel_rfl) <| Zab <| Zao ?_
   refine Zae (.tuple #[.slice a4 n4 c4, .bool (decide (0 < n4)), .int .i64 (if (veP (2 * k.length + 1) ⟨2, d, []⟩ (Ni.nib k) (m1 :: M1) false).isSome = true then 0 else 90)]) (fun _ => by kernel_rfl) ⟨_, rfl, ⟨a4, n4, c4, ?_, ?_⟩, hB⟩
   ·rw [<- hA]; cases veP (2 * k.length + 1) ⟨2, d, []⟩ (Ni.nib k) (m1 :: M1) false <;> rfl
   ·rw [<- hA]; revert hs4; cases veP (2 * k.length + 1) ⟨2, d, []⟩ (Ni.nib k) (m1 :: M1) false <;> exact fun h => h
 ·skip
  rw [show decide ((n : Int) > (32 : Int)) = true from decide_eq_true (by omega)]
  rw [if_pos (by omega)] at hA
  refine Zam (fun _ => by kernel_rfl) <| Zac <| Zaa <| rp 6 (.slice none 0 0) <| rp 7 (.bool false) <| rp 8 (.int .i64 70) <| Zad <| Zab <| Zao <| Zah ?_
  subst hA
  exact Zae (.tuple #[.slice none 0 0, .bool false, .int .i64 70]) (fun _ => by kernel_rfl) ⟨_, rfl, ⟨none, 0, 0, rfl, Sk.nil _ _⟩, hB⟩
end Go.Proofs.YtefhepcplempkaaGreat
namespace Go.Proofs.YtefhepcplempkaaGreat
open Go.RowKit
def DI (m : Nat) (P : Program) (ds : List Deferred) (n : Nat) (Q : Exit -> Act -> World -> Prop) (ops : Array Oper) (fuel : Nat) (listed : Array Bool) (env : Env) (w : World) : Prop := ∀ a, Frm ds n env a -> wpAnyIn Fence.wide m P .any ops Q fuel listed a w
def AI (m : Nat) (P : Program) (ds : List Deferred) (n : Nat) (Q : Exit -> Act -> World -> Prop) (ops : Array Oper) (fuel : Nat) (listed : Array Bool) (env : Env) (w : World) (rs : List Nat) : Prop := ∀ a, Frm ds n env a -> AllReadyIn Fence.wide m P .any ops Q fuel listed a w rs
section
variable {m : Nat} {P : Program} {ds : List Deferred} {n : Nat} {Q : Exit → Act → World → Prop} {env : Env} {w w' : World} {ops : Array Oper} {o : Oper} {fuel : Nat} {listed : Array Bool} {rs : List Nat}
theorem Zwu {id : Nat} (hm : P.follows .mixedOrders = true) (h : DI m P ds n Q ops ops.size (Array.replicate ops.size false) env w.drew) : CW none m P ds n Q (.region id ops true) env w := fun a ha => wpIn_region_any (F := Fence.wide) hm (h a ha)
theorem Zkl (hr : Region.ready .any ops listed = []) (h : NW ds n Q .normal env w) : DI m P ds n Q ops fuel listed env w := fun a ha => wpAnyIn_done hr (h a ha) fuel
theorem Zct (rs : List Nat) (hr : Region.ready .any ops listed = rs) (hne : rs ≠ []) (h : AI m P ds n Q ops fuel listed env w rs) : DI m P ds n Q ops (fuel + 1) listed env w := fun a ha => wpAnyIn_ready hr hne (h a ha)
theorem Zr6 (i d : Nat) (v : Value) (ho : ops[i]? = some o) (hk : tkOk ops listed i = true) (hQ : ∀ c a w, Q (.panic c) (a.put (some d) v) w -> Q (.panic c) a w) (hc : ∀ fb, chk n ops env fb o d = true)
  (hr : ∀ w fb, (execOp (ev env fb) o).run P w = .ok (.value v) w) (hb : ∀ w fb, o.about P w (ev env fb) = none) (h : DI m P ds n Q ops fuel (listed.setIfInBounds i true) ((d, v) :: env) w) : DI m P ds n Q ops (fuel + 1) listed env w := fun a ha => by
 obtain ⟨h1, h2, h3, _⟩ := Zcu (hc (fun t => a.tmps.getD t undef))
 unfold tkOk at hk
 simp only [Bool.and_eq_true] at hk
 refine wpAnyIn_take (v := v) rfl ho hk.1.1 hk.1.2 hk.2 (by rw [h1]; exact hQ) ⟨Or.inl ⟨by rw [ha.want]; exact h3, fun w => by rw [ha.ev]; exact hr w _⟩, fun w => by rw [ha.ev]; exact hb w _⟩ ?_
 rw [h1]
 exact h _ (Zdm ha h2 v)
theorem Zfs : AI m P ds n Q ops fuel listed env w [] := fun a ha => AllReadyIn.nil
theorem ai_v (i d : Nat) (v : Value) (ho : ops[i]? = some o) (hc : ∀ fb, chk n ops env fb o d = true) (hr : ∀ fb, (execOp (ev env fb) o).run P w = .ok (.value v) w')
  (h : DI m P ds n Q ops fuel (listed.setIfInBounds i true) ((d, v) :: env) w') (hs : AI m P ds n Q ops fuel listed env w rs) : AI m P ds n Q ops fuel listed env w (i :: rs) := fun a ha => by
 obtain ⟨h1, h2, h3, hnd⟩ := Zcu (hc (fun t => a.tmps.getD t undef))
 refine AllReadyIn.cons ho (fun K hK => ?_) (hs a ha)
 rw [ha.want, if_pos h3]
 refine ⟨fun f _ => trivial, ?_⟩
 rw [Oper.semAt_eq _ _ _ hnd, ha.ev, hr, Oper.uponIn_value, h1]
 exact hK _ _ (h _ (Zdm ha h2 v))
theorem Zsr (i d : Nat) (f : FuncId) (args : Array Value) (ho : ops[i]? = some o) (hc : ∀ fb, chk n ops env fb o d = true) (hr : ∀ fb, (execOp (ev env fb) o).run P w = .ok (.enter f args) w) {R : Value -> World -> Prop}
  (hcall : Calls P f args w fun e w' => ∃ v, e = .returned v /\ R v w') (h : ∀ v w', R v w' -> DI m P ds n Q ops fuel (listed.setIfInBounds i true) ((d, v) :: env) w')
  (hs : AI m P ds n Q ops fuel listed env w rs) : AI m P ds n Q ops fuel listed env w (i :: rs) := fun a ha => by
 obtain ⟨h1, h2, h3, hnd⟩ := Zcu (hc (fun t => a.tmps.getD t undef))
 refine AllReadyIn.cons ho (fun K hK => ?_) (hs a ha)
 rw [ha.want, if_pos h3]
 refine ⟨fun f _ => trivial, ?_⟩
 rw [Oper.semAt_eq _ _ _ hnd, ha.ev, hr, Oper.uponIn_enter]
 refine ⟨fun h => absurd h Bool.false_ne_true, ?_⟩
 refine CallsIn.mono' (F := Fence.wide) (callsIn_wide.2 hcall) ?_
 rintro e w' ⟨v, rfl, hR⟩
 rw [h1]
 exact hK _ _ (h v w' hR _ (Zdm ha h2 v))
theorem Zkt {m m' lp : Nat} {args : Array Value} {W : World} {R : Ending -> World -> Prop} (h : YieldAt Fence.wide m P lp args W R) : YieldAt Fence.wide m' P lp args W R := by
 obtain ⟨fn, tmps, assign, body, hy, hR⟩ := h
 exact ⟨fn, tmps, assign, body, hy, hR.1, fun c cs _ => hR.2 c cs (room_wide _)⟩
theorem Zof (i d : Nat) (lp : Nat) (args : Array Value) (ho : ops[i]? = some o) (hc : ∀ fb, chk n ops env fb o d = true) (hr : ∀ fb, (execOp (ev env fb) o).run P w = (Instr.yield lp args).run P w) {R : Ending -> World -> Prop}
  (hY : YieldAt Fence.wide 0 P lp args w R) (h : ∀ e w', R e w' -> ∃ v, e = .returned v /\ DI m P ds n Q ops fuel (listed.setIfInBounds i true) ((d, v) :: env) w')
  (hs : AI m P ds n Q ops fuel listed env w rs) : AI m P ds n Q ops fuel listed env w (i :: rs) := fun a ha => by
 obtain ⟨h1, h2, h3, hnd⟩ := Zcu (hc (fun t => a.tmps.getD t undef))
 obtain ⟨fn, tmps, assign, body, hy, hR⟩ := Zkt (m' := m - 1) hY
 refine AllReadyIn.cons ho (fun K hK => ?_) (hs a ha)
 rw [ha.want, if_pos h3]
 refine ⟨fun f _ => trivial, ?_⟩
 rw [Oper.semAt_eq _ _ _ hnd, ha.ev, hr, hy, Oper.uponIn_round]
 refine ⟨fun h => absurd h Bool.false_ne_true, ?_⟩
 refine RoundIn.mono (F := Fence.wide) hR ?_
 intro e w' hq
 obtain ⟨v, rfl, hw⟩ := h e w' hq
 show K (a.put o.dst v) w'
 rw [h1]
 exact hK _ _ (hw _ (Zdm ha h2 v))
end
end Go.Proofs.YtefhepcplempkaaGreat
namespace Go.Proofs.YtefhepcplempkaaGreat.Ni
open Go.RowKit
set_option maxHeartbeats 1000000 in
theorem key_new (a : Option Addr) (n c : Nat) (p : List Int) (w : World) (h : Ag w a n c p) (hn : n <= 140737488355328) :
  Calls Tryz.prog 78 #[.slice a n c] w fun e w' => (∃ a' m, e = .returned (.tuple #[.slice a' m m, .bool (keyP p).2]) /\ Ag w' a' m m (keyP p).1 /\ ∀ x, a' = some x -> x.block = w.heap.size /\ Row w.heap.size w' (keyP p).1) /\ Below w.heap.size w w' := by
 have hl := h.l
 by_cases he : n % 2 = 0
 case neg =>
  rw [Ze4 (fun hh => he (by rw [<- hl]; exact hh.2))]
  simp only
  have hei : (n : Int) % 2 = 1 := by omega
  clear h hl he
  go_enter Tryz.func78, Tryz.ntmps78
  go_wp2_with fail
  go_ret2
  exact ⟨⟨none, 0, rfl, ag_nil _, fun x hx => by cases hx⟩, Below.refl _ _⟩
 have hei : (n : Int) % 2 = 0 := by omega
 have hr := right_any a n c p w h hn
 by_cases hrt : rightP p = true
 case neg =>
  rw [Ze4 (fun hh => hrt hh.1)]
  simp only
  rw [show rightP p = false from by simpa using hrt] at hr
  clear h hl he hrt
  go_enter Tryz.func78, Tryz.ntmps78
  go_wp2_with fail
  refine hr.mono ?_
  rintro e w1 ⟨rfl, rfl⟩
  clear hr
  go_wp2_with fail
  go_ret2
  exact ⟨⟨none, 0, rfl, ag_nil _, fun x hx => by cases hx⟩, Below.refl _ _⟩
 rw [Zg0 hrt (by omega)]
 simp only
 rw [hrt] at hr
 obtain ⟨m, hm⟩ : ∃ m, n / 2 = m := ⟨_, rfl⟩
 have hmn : n = 2 * m := by omega
 subst hmn
 clear hm he hei
 have HKL : Hid ((kk p).length = m) := Hid.mk (by rw [Zlo]; omega)
 have HKB := Hid.mk (Znv p h.b hrt)
 have HL := Hid.mk hl
 have HB := Hid.mk h.b
 have HRT := Hid.mk hrt
 have HC := Hid.mk (fun h0 => ag_head h h0)
 have hmk := run_make_row' (P := Tryz.prog) 23 5 (.int .u8 0) 1 Tryz.underlying23 info5b rfl .i64 .i64 m (by omega) (by omega)
 have hrow : Row w.heap.size (w.alloc (.cells (madeCells #[.int .u8 0] m) 5)) (List.replicate m 0) := by
  unfold Row; rw [heap_alloc_new, made_bytes]
 have hbw : Below w.heap.size w (w.alloc (.cells (madeCells #[.int .u8 0] m) 5)) := (Below.refl _ _).alloc (Nat.le_refl _) _
 have HR := Hid.mk hrow
 have HBW := Hid.mk hbw
 have hm2 : (2 * m : Nat) % 2 = 0 := by omega
 have hm3 : ((2 * m : Nat) : Int) % 2 = 0 := by omega
 have hm4 : ((2 * m : Nat) : Int) / 2 = m := by omega
 clear hrow hbw h hl hrt
 go_enter Tryz.func78, Tryz.ntmps78
 go_wp2_with fail
 refine hr.mono ?_
 rintro e w1 ⟨rfl, rfl⟩
 clear hr
 go_wp2_with fail
 go_loopw [21] (fun i v => ∃ k : Nat, k <= m /\ i = .int .i64 k /\ Row w1.heap.size v ((kk p).take k ++ List.replicate (m - k) 0) /\ Below w1.heap.size w1 v) (fun i _ => m - (intOf i).toNat)
 case atStart => exact ⟨0, by omega, rfl, by rw [List.take_zero, List.nil_append, Nat.sub_zero]; exact HR.out, HBW.out⟩
 case round =>
  clear HR HBW
  obtain ⟨k, hk, rfl, hrow, hb⟩ := hrel
  by_cases hlt : k < m
  ·have hki : (k : Int) < m := by omega
   have hlen : ((kk p).take k ++ List.replicate (m - k) (0 : Int)).length = m := by rw [List.length_append, List.length_replicate, List.length_take, HKL.out]; omega
   have hcell := hrow.cell (i := k) (by omega)
   have hfz := hrow.frozen k
   have hset := hrow.set k ((kk p).getD k 0)
   rw [Zu3 p m k HKL.out hlt] at hset
   have hget := Znw p k (by have := HL.out; omega)
   obtain ⟨g, off, rfl, hnc, hcm, hcs⟩ := HC.out (by omega)
   unfold maxLen at hcm
   have hc1 := (hb.cell (p := ⟨g, off + (2 * k), none⟩) (block_lt_of_cell (hcs (2 * k) (by omega)))).trans (hcs (2 * k) (by omega))
   have hc2 := (hb.cell (p := ⟨g, off + (2 * k + 1), none⟩) (block_lt_of_cell (hcs (2 * k + 1) (by omega)))).trans (hcs (2 * k + 1) (by omega))
   have hx0 := (HB.out _ (getD_mem (l := p) (i := 2 * k) (by have := HL.out; omega))).1
   have hy0 := (HB.out _ (getD_mem (l := p) (i := 2 * k + 1) (by have := HL.out; omega))).1
   have hx1 := Zeh HRT.out (i := 2 * k) (by have := HL.out; omega)
   have hy1 := Zeh HRT.out (i := 2 * k + 1) (by have := HL.out; omega)
   generalize ((kk p).take k ++ List.replicate (m - k) (0 : Int)).getD k 0 = z at hcell
   generalize p.getD (2 * k) 0 = x at *
   generalize p.getD (2 * k + 1) 0 = y at *
   rw [hget] at hset
   have hor := or16 hx0 hx1 hy0 hy1
   have hkm : 2 * k + 1 < 2 * m := by omega
   have hk1 : (2 * (k : Int)) < ((2 * m : Nat) : Int) := by omega
   have hk2 : (2 * (k : Int) + 1) < ((2 * m : Nat) : Int) := by omega
   have ht1 : (2 * (k : Int)).toNat = 2 * k := by omega
   have ht2 : (2 * (k : Int) + 1).toNat = 2 * k + 1 := by omega
   have HS := Hid.mk hset
   have HBB := Hid.mk hb
   clear hset hb hrow hlen hget hcs
   go_wp2_with fail
   go_region
   all_goals
    go_wp2_with fail
    exact ⟨⟨k + 1, by omega, by simp, HS.out, (HBB.out.setCell (Nat.le_refl _) _).drew⟩, by simp [intOf]; omega⟩
  ·have hki : ¬ (k : Int) < m := by omega
   have e : k = m := by omega
   subst e
   rw [Nat.sub_self, List.replicate_zero, List.append_nil, List.take_of_length_le (by rw [HKL.out]; exact Nat.le_refl _)] at hrow
   have HS := Hid.mk hrow
   have HBB := Hid.mk hb
   clear hrow hb
   go_wp2_with fail
   go_ret2
   exact ⟨⟨_, _, rfl, row_ag HS.out HKL.out HKB.out (by omega), fun x hx => by cases hx; exact ⟨rfl, HS.out⟩⟩, HBB.out⟩
end Go.Proofs.YtefhepcplempkaaGreat.Ni
namespace Go.Proofs.YtefhepcplempkaaGreat
open Go.RowKit
open Tr
theorem Zfr {w : World} {a : Addr} {v : Value} (h : w.cell? a = some v) : ∃ cs T fr, w.heap[a.block]? = some (.cells cs T fr) /\ cs[a.off]? = some v := by
 unfold World.cell? at h
 split at h
 ·rename_i cs T fr e
  split at h
  ·cases h
  ·exact ⟨cs, T, fr, e, h⟩
 ·cases h
def Pr (cs : Array Value) : Prop := ∃ (j : Nat) (v : Value), cs[j]? = some v /\ ∀ a n c, v ≠ .slice a n c
structure KpU (U : Nat -> Prop) (M : Nat) (A B : World) : Prop where
 size : A.heap.size <= B.heap.size
 keep : ∀ k cs T fr, k < M -> ¬ U k -> Pr cs -> A.heap[k]? = some (.cells cs T fr) -> B.heap[k]? = some (.cells cs T fr)
theorem KpU.trans {U : Nat -> Prop} {M M' : Nat} {A B C : World} (h : KpU U M A B) (g : KpU U M' B C) (hM : M <= M') : KpU U M A C := ⟨Nat.le_trans h.size g.size, fun k cs T fr hk hU hP hh => g.keep k cs T fr (Nat.lt_of_lt_of_le hk hM) hU hP (h.keep k cs T fr hk hU hP hh)⟩
theorem KpU.of_below {U : Nat -> Prop} {A B : World} (M : Nat) (h : Below A.heap.size A B) : KpU U M A B := ⟨h.size, fun k cs T fr _ _ _ hh => (h.block k (lt_of_get hh)).trans hh⟩
theorem Sk.kp {U K : Nat -> Prop} {M : Nat} {A B : World} {a : Option Addr} {n c : Nat} {bs : List Int} (h : Sk K A a n c bs) (hk : KpU U M A B) (hM : A.heap.size <= M) (hK : ∀ b, K b -> ¬ U b) : Sk K B a n c bs := by
 refine ⟨⟨?_, h.ag.nil, h.ag.l, h.ag.b⟩, h.k⟩
 rcases h.ag.i with h1 | ⟨gb, off, h1, h2, h3, h4, h5, h7⟩
 ·exact .inl h1
 ·refine .inr ⟨gb, off, h1, h2, h3, h4, h5, fun j hj => ?_⟩
  obtain ⟨cs, T, fr, e, e'⟩ := Zfr (h7 j hj)
  have := hk.keep gb cs T fr (Nat.lt_of_lt_of_le (lt_of_get e) hM) (hK _ (h.k _ h1 h3)) ⟨_, _, e', fun _ _ _ => by simp⟩ e
  rw [<- h7 j hj]
  exact World.cell?_of_block (this.trans e.symm)
abbrev PList := List (List Int × List Int)
structure Vis (l B0 : Nat) (Z : PList) (U : Nat -> Prop) (J : PList -> World -> Prop) (Jx : World -> Prop) : Prop where
 go : ∀ {pre : PList} {W W' : World}, J pre W -> Below W.heap.size W W' -> J pre W'
 gx : ∀ {W W' : World}, Jx W -> Below W.heap.size W W' -> Jx W'
 lo : ∀ b, U b -> b < B0
 y : ∀ {pre : PList} {W : World} {M : Nat} {a a' : Option Addr} {n c n' c' : Nat} {k x : List Int}, J pre W -> (pre ++ [(k, x)]) <+: Z -> B0 <= M -> M <= W.heap.size -> Sk (fun b => M <= b) W a n c k -> Sk (fun b => M <= b) W a' n' c' x →
  YieldAt Fence.wide 0 Tryz.prog l #[.slice a n c, .slice a' n' c'] W fun e W' => (e = .returned (.bool true) /\ J (pre ++ [(k, x)]) W' /\ KpU U M W W') \/ (e = .returned (.bool false) /\ Jx W')
def RE (U : Nat -> Prop) (J : PList -> World -> Prop) (Jx : World -> Prop) (w : World) (L : PList) : Value -> World -> Prop := fun u w' => (u = .bool true /\ J L w' /\ KpU U w.heap.size w w') \/ (u = .bool false /\ Jx w')
def entsF (p : List Int) : Tr -> PList
 | no => []
 | leaf q x => [((Ni.keyP (p ++ q)).1, x)]
 | ext q c => entsF (p ++ q) c
 | br k x => (if x = [] then [] else [((Ni.keyP p).1, x)]) ++ (List.range 16).flatMap fun i => if (k i).isNo then [] else entsF (p ++ [((i : Nat) : Int)]) (k i)
def fvE (gY : Nat) : Value := .func (.func 77) #[] #[.pointer (some ⟨gY, 0, none⟩)]
set_option maxHeartbeats 2000000 in
theorem Zye {l B0 : Nat} {Z : PList} {U : Nat -> Prop} {J : PList -> World -> Prop} {Jx : World -> Prop} (V : Vis l B0 Z U J Jx) {K K' : Nat -> Prop} {w : World} {a a' : Option Addr} {n c n' c' : Nat} {p x : List Int} (hp : Sk K w a n c p) (hx : Sk K' w a' n' c' x) (hn : n <= 1000) (hn' : n' <= 1000) {gY : Nat} (hY : Rw gY w #[.func (.yield l) #[] #[]] 71) {pre : PList} (hJ : J pre w) (hN : (pre ++ [((Ni.keyP p).1, x)]) <+: Z) (hB0 : B0 <= w.heap.size) :
  Calls Tryz.prog 77 #[.slice a n c, .slice a' n' c', .pointer (some ⟨gY, 0, none⟩)] w fun e w' => ∃ u, e = .returned u /\ RE U J Jx w (pre ++ [((Ni.keyP p).1, x)]) u w' := by
 have hB := Bl.refl w
 refine Zat Tryz.func77 rfl 18 rfl ?_
 show CW _ _ _ _ _ _ _ [(0, .slice a n c), (1, .slice a' n' c'), (2, .pointer (some ⟨gY, 0, none⟩))] _
 refine Zac <| Zaa <| rp 5 (.bool false) <| Zad <| Zab <| Zac <| Zaa <| rp 9 (.slice a n c) <| Zav 10 78 #[.slice a n c] (fun _ => by kernel_rfl) (fun _ => by kernel_rfl) (R := fun u w' => (∃ a2 m2, u = .tuple #[.slice a2 m2 m2, .bool (Ni.keyP p).2] /\ Sk (fun b => (w).heap.size <= b) w' a2 m2 m2 (Ni.keyP p).1) /\ Bl (w) w') ((Ni.key_new a n c p _ hp.ag (by omega)).mono (fun e w' ⟨⟨a2, m2, e1, e2, e3⟩, e4⟩ => ⟨_, e1, ⟨a2, m2, rfl, e2, fun x hx _ => by rw [(e3 x hx).1]; exact Nat.le_refl _⟩, e4⟩)) ?_
 rintro _ u1 ⟨⟨a2, m2, rfl, hk2⟩, hb1⟩
 replace hB := hB.go hb1
 replace hp := hp.go hb1
 replace hx := hx.go hb1
 replace hY := hY.go hb1
 replace hJ := V.go hJ hb1
 refine rp 8 (.tuple #[.slice a2 m2 m2, .bool (Ni.keyP p).2]) <| rp 11 (.slice a2 m2 m2) <| rp 12 (.bool (Ni.keyP p).2) <| rp 6 (.slice a2 m2 m2) <| rp 7 (.bool (Ni.keyP p).2) <| Zad <| Zab <| Zac <| Zwu (by kernel_rfl) ?_
 replace hB := hB.drew
 replace hp := hp.drew
 replace hx := hx.drew
 replace hY := hY.drew
 replace hJ := V.go hJ (Below.refl _ _).drew
 replace hk2 := hk2.drew
 refine Zr6 1 14 (.slice a2 m2 m2) rfl (by kernel_rfl) (fun _ _ _ h => h) (fun _ => by kernel_rfl) (fun _ _ => by kernel_rfl) (fun _ _ => rfl) <| Zr6 2 15 (.slice a' n' c') rfl (by kernel_rfl) (fun _ _ _ h => h) (fun _ => by kernel_rfl) (fun _ _ => by kernel_rfl) (fun _ _ => rfl) <| Zct [0, 3] (by kernel_rfl) (by simp) ?_
 refine ai_v 0 13 (.func (.yield l) #[] #[]) rfl (fun _ => by kernel_rfl) (fun _ => Zai 71 _ ⟨gY, 0, none⟩ _ _ rfl (by kernel_rfl) (by rw [cell_of_row _ _ _ _ _ _ hY]; rfl) Tryz.underlying71 rfl) ?_ ?_
 ·skip
  refine Zct [3] (by kernel_rfl) (by simp) ?_
  refine Zsr 3 16 52 #[.slice a' n' c'] rfl (fun _ => by kernel_rfl) (fun _ => by kernel_rfl) (R := fun u w' => ∃ a3 n3 c3, u = .slice a3 n3 c3 /\ Sk (fun b => (u1.drew).heap.size <= b) w' a3 n3 c3 x /\ Bl (u1.drew) w') (Zed hx (by omega)) ?_ Zfs
  rintro _ u2 ⟨a3, n3, c3, rfl, hs3, hb2⟩
  have hsB := hB.size
  replace hB := hB.go hb2
  replace hp := hp.go hb2
  replace hx := hx.go hb2
  replace hY := hY.go hb2
  replace hJ := V.go hJ hb2
  replace hk2 := hk2.go hb2
  refine Zct [4] (by kernel_rfl) (by simp) ?_
  refine Zof 4 17 l #[.slice a2 m2 m2, .slice a3 n3 c3] rfl (fun _ => by kernel_rfl) (fun _ => by kernel_rfl) (V.y (M := w.heap.size) hJ hN hB0 hB.size (hk2.mono (fun b hb => hb)) (hs3.mono (fun b hb => Nat.le_trans hsB hb))) ?_ Zfs
  rintro e w' (⟨rfl, hJ', hkp⟩ | ⟨rfl, hjx⟩)
  ·refine ⟨_, rfl, ?_⟩
   refine Zct [5] (by kernel_rfl) (by simp) ?_
   refine ai_v (w' := w') 5 5 (.bool true) rfl (fun _ => by kernel_rfl) (fun _ => by kernel_rfl) ?_ Zfs
   refine Zkl (by kernel_rfl) <| Zab <| Zao ?_
   exact Zae (.bool true) (fun _ => by kernel_rfl) ⟨_, rfl, .inl ⟨rfl, hJ', (KpU.of_below _ hB).trans hkp (Nat.le_refl _)⟩⟩
  ·refine ⟨_, rfl, ?_⟩
   refine Zct [5] (by kernel_rfl) (by simp) ?_
   refine ai_v (w' := w') 5 5 (.bool false) rfl (fun _ => by kernel_rfl) (fun _ => by kernel_rfl) ?_ Zfs
   refine Zkl (by kernel_rfl) <| Zab <| Zao ?_
   exact Zae (.bool false) (fun _ => by kernel_rfl) ⟨_, rfl, .inr ⟨rfl, hjx⟩⟩
 refine Zsr 3 16 52 #[.slice a' n' c'] rfl (fun _ => by kernel_rfl) (fun _ => by kernel_rfl) (R := fun u w' => ∃ a3 n3 c3, u = .slice a3 n3 c3 /\ Sk (fun b => (u1.drew).heap.size <= b) w' a3 n3 c3 x /\ Bl (u1.drew) w') (Zed hx (by omega)) ?_ Zfs
 rintro _ u2 ⟨a3, n3, c3, rfl, hs3, hb2⟩
 have hsB := hB.size
 replace hB := hB.go hb2
 replace hp := hp.go hb2
 replace hx := hx.go hb2
 replace hY := hY.go hb2
 replace hJ := V.go hJ hb2
 replace hk2 := hk2.go hb2
 refine Zct [0] (by kernel_rfl) (by simp) ?_
 refine ai_v 0 13 (.func (.yield l) #[] #[]) rfl (fun _ => by kernel_rfl) (fun _ => Zai 71 _ ⟨gY, 0, none⟩ _ _ rfl (by kernel_rfl) (by rw [cell_of_row _ _ _ _ _ _ hY]; rfl) Tryz.underlying71 rfl) ?_ Zfs
 refine Zct [4] (by kernel_rfl) (by simp) ?_
 refine Zof 4 17 l #[.slice a2 m2 m2, .slice a3 n3 c3] rfl (fun _ => by kernel_rfl) (fun _ => by kernel_rfl) (V.y (M := w.heap.size) hJ hN hB0 hB.size (hk2.mono (fun b hb => hb)) (hs3.mono (fun b hb => Nat.le_trans hsB hb))) ?_ Zfs
 rintro e w' (⟨rfl, hJ', hkp⟩ | ⟨rfl, hjx⟩)
 ·refine ⟨_, rfl, ?_⟩
  refine Zct [5] (by kernel_rfl) (by simp) ?_
  refine ai_v (w' := w') 5 5 (.bool true) rfl (fun _ => by kernel_rfl) (fun _ => by kernel_rfl) ?_ Zfs
  refine Zkl (by kernel_rfl) <| Zab <| Zao ?_
  exact Zae (.bool true) (fun _ => by kernel_rfl) ⟨_, rfl, .inl ⟨rfl, hJ', (KpU.of_below _ hB).trans hkp (Nat.le_refl _)⟩⟩
 ·refine ⟨_, rfl, ?_⟩
  refine Zct [5] (by kernel_rfl) (by simp) ?_
  refine ai_v (w' := w') 5 5 (.bool false) rfl (fun _ => by kernel_rfl) (fun _ => by kernel_rfl) ?_ Zfs
  refine Zkl (by kernel_rfl) <| Zab <| Zao ?_
  exact Zae (.bool false) (fun _ => by kernel_rfl) ⟨_, rfl, .inr ⟨rfl, hjx⟩⟩
end Go.Proofs.YtefhepcplempkaaGreat
