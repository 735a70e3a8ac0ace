/- What the document's Less answers. -/
import Derived.Test.YtdkpilgelgjieaaGreatG19
import Derived.Test.YtdkpilgelgjieaaGreatG30
import Derived.Test.YtdkpilgelgjieaaGreatG33
import Derived.Test.YtdkpilgelgjieaaGreatG14
import Derived.Test.YtdkpilgelgjieaaGreatG15
import Derived.Test.YtdkpilgelgjieaaGreatG00
import Derived.ProofKit
import Derived.OpenShut
import Derived.ShutString
import Derived.ChangeOld
import Derived.SizedLaws
import Derived.Test.YtdkpilgelgjieaaGreatG18
set_option linter.unusedVariables false
set_option maxRecDepth 100000
namespace Go.Proofs.YtdkpilgelgjieaaGreat.Ni
open Go.RowKit
set_option maxHeartbeats 1000000 in
theorem rless_any (a1 a2 : Option Addr) (n1 c1 n2 c2 : Nat) (p q : List Int) (w : World) (h1 : Ag w a1 n1 c1 p) (h2 : Ag w a2 n2 c2 q) (hn1 : n1 <= 140737488355328) (hn2 : n2 <= 140737488355328) :
  Calls Tryz.prog 31 #[.slice a1 n1 c1, .slice a2 n2 c2] w fun e w' => e = .returned (.bool (lessP p q)) /\ Below w.heap.size w w' := by
 have hc := rcommon_any a1 a2 n1 c1 n2 c2 p q w h1 h2 hn1 hn2
 have hl1 := h1.l
 have hl2 := h2.l
 obtain ⟨k1, k2⟩ := com_le p q
 have hla := less_at p q
 obtain ⟨m, hm⟩ : ∃ m, com p q = m := ⟨_, rfl⟩
 rw [hm] at hc k1 k2 hla
 clear hm
 obtain ⟨res, hres⟩ : ∃ r, lessP p q = r := ⟨_, rfl⟩
 rw [hres] at hla ⊢
 clear hres
 rw [hl1, hl2] at hla
 rw [hl1] at k1
 rw [hl2] at k2
 have HC := Hid.mk hc
 have HA1 := Hid.mk h1
 have HA2 := Hid.mk h2
 clear hc h1 h2 hl1 hl2
 by_cases e1 : m = n1
 ·have q1 : decide (m < n2) = res := by
   rw [hla]
   by_cases e2 : m = n2
   ·rw [if_pos e2, decide_eq_false (by omega)]
   ·rw [if_neg e2, if_pos e1, decide_eq_true (by omega)]
  clear hla
  subst e1
  have HX := Hid.mk q1
  clear q1
  go_enter Tryz.func31, Tryz.ntmps31
  go_wp2_with fail
  refine HC.out.mono ?_
  rintro e w1 ⟨rfl, hb⟩
  have HB := Hid.mk hb
  clear hb
  go_wp2_with fail
  go_ret
  exact ⟨by rw [<- HX.out]; rfl, HB.out⟩
 ·have q1 : ((m : Int) == (n1 : Int)) = false := by rw [beq_eq_false_iff_ne]; omega
  by_cases e2 : m = n2
  ·rw [if_pos e2] at hla
   subst hla
   subst e2
   clear e1
   go_enter Tryz.func31, Tryz.ntmps31
   go_wp2_with fail
   refine HC.out.mono ?_
   rintro e w1 ⟨rfl, hb⟩
   have HB := Hid.mk hb
   clear hb
   go_wp2_with fail
   go_region
   all_goals
    go_wp2_with fail
    go_ret
    exact ⟨rfl, HB.out.drew⟩
  ·rw [if_neg e2, if_neg e1] at hla
   have q3 : (m : Int) < n1 := by omega
   have q4 : (m : Int) < n2 := by omega
   obtain ⟨g1, o1, rfl, hnc1, hcm1, hcs1⟩ := ag_head HA1.out (by omega)
   obtain ⟨g2, o2, rfl, hnc2, hcm2, hcs2⟩ := ag_head HA2.out (by omega)
   unfold maxLen at hcm1 hcm2
   have hcell1 := hcs1 m (by omega)
   have hcell2 := hcs2 m (by omega)
   generalize p.getD m 0 = x at *
   generalize q.getD m 0 = y at *
   have HX := Hid.mk hla
   clear hcs1 hcs2 e1 e2 hla
   go_enter Tryz.func31, Tryz.ntmps31
   go_wp2_with fail
   refine HC.out.mono ?_
   rintro e w1 ⟨rfl, hb⟩
   have hd1 := (hb.cell (p := ⟨g1, o1 + m, none⟩) (block_lt_of_cell hcell1)).trans hcell1
   have hd2 := (hb.cell (p := ⟨g2, o2 + m, none⟩) (block_lt_of_cell hcell2)).trans hcell2
   have HB := Hid.mk hb
   clear hb hcell1 hcell2
   go_wp2_with fail
   go_region
   all_goals
    go_wp2_with fail
    go_ret
    exact ⟨by rw [HX.out]; rfl, HB.out.drew⟩
end Go.Proofs.YtdkpilgelgjieaaGreat.Ni
namespace Go.Proofs.YtdkpilgelgjieaaGreat
open Go.RowKit
open Tr
open Di (dref)
theorem OwnL.none8 {X : Nat -> Prop} {w : World} {base : Nat} (hX : ∀ b, base <= b -> X b) : OwnL X w base (.slice none 0 0) [] := ⟨hX, [], rfl, World.ownsRow_nil w base _ 2, fun j p e q => by simp at q⟩
theorem Zk0 {w w' : World} {v u r : Value} {ρ : Operand -> Value} {o : Oper} (hr : ∀ ty, (Builtin.append_ #[22, 22] ty #[v, u]).run Tryz.prog w = .ok r w') (x y : Operand) (ho : o.op = .call { callee := .builtin .append, args := #[x, y], argTypes := #[22, 22] }) (hx : ρ x = v) (hy : ρ y = u) : (execOp ρ o).run Tryz.prog w = .ok (.value r) w' := by
 unfold execOp
 simp only [ho, resolve, invoke, builtin, Sem.run_bind, Sem.run_pure, Result.andThen_ok, List.map_toArray, List.map_cons, List.map_nil, hx, hy, hr]
def lkP (l : PList) : Option (List Int) := l.getLast?.map Prod.fst
theorem Zsm (l : PList) (k x : List Int) : lkP (l ++ [(k, x)]) = some k := by simp [lkP]
theorem Zzn {l : PList} {k x : List Int} (h : l[l.length - 1]? = some (k, x)) : lkP l = some k := by
 unfold lkP
 rw [List.getLast?_eq_getElem?, h]
 rfl
def addL (l : PList) (k x : List Int) : PList := if addE (lkP l) k x = 0 then l ++ [(k, x)] else l
set_option maxHeartbeats 1000000 in
theorem Zzh {w : World} {a : Option Addr} {c : Nat} :
  Calls Tryz.prog 16 #[.slice a 0 c] w fun e w' => ∃ u, e = .returned u /\ (fun u w' => u = .agg (B8 (dref [128])) /\ Bl w w') u w' := by
 have hB := Bl.refl w
 have hdl := dref_len [128]
 obtain ⟨ds, hds⟩ : ∃ ds, dref [128] = ds := ⟨_, rfl⟩
 rw [hds] at hdl ⊢
 refine Za3 Tryz.func16 rfl 33 rfl ?_
 show CW _ _ _ _ _ _ _ [(0, .slice a 0 c)] _
 refine Zac <| Zaa ?_
 have hz0 := hB.size
 refine Zb7 2 (B8 z32) 24 (fun _ => by kernel_rfl) (fun _ => by kernel_rfl) ?_
 intro w1 g2 hn3
 replace hB := hB.go hn3.below
 have hr4 : Rw g2 w1 (B8 z32) 24 := hn3.row
 have hgd := hn3.hg
 have hgl := lt_of_get hr4
 refine Zad <| Zab <| Zac <| Zac <| Zaa <| rp 5 (.slice a 0 c) <| rp 6 (.int .i64 0) <| rp 7 (.bool true) <| Zad <| Zab <| Zan (fun _ => by kernel_rfl) <| Zac ?_
 refine Zaa <| Za1 8 24 #[] (fun _ => by kernel_rfl) (fun _ => by kernel_rfl) (R := fun u w' => u = .agg (B8 ds) /\ Bl (w1) w') ((Zja (w1)).mono (fun e w' h => ⟨_, by rw [h.1, hds], rfl, h.2⟩)) ?_
 rintro _ u2 ⟨rfl, hb2⟩
 replace hB := hB.go hb2
 replace hr4 := hr4.go hb2
 refine Zcx g2 (B8 ds) (fun _ => by kernel_rfl) (fun _ => Zbf 24 _ _ _ _ _ _ rfl (by kernel_rfl) (by kernel_rfl) hr4 (Zce hdl) (Zcv hdl) (B8_one _)) ?_
 intro uE hpE
 replace hB : Bl w uE := hpE.below hB (by omega) hB.size
 have hrE : Rw g2 uE (B8 ds) 24 := hpE.row hr4
 refine Zad <| Zab <| Za5 <| Zap ?_
 exact Zaf (.agg (B8 ds)) (fun _ => Zfl Tryz.results16 _ g2 ds hdl (by kernel_rfl) hrE) ⟨_, rfl, rfl, hB⟩
set_option maxHeartbeats 1000000 in
theorem Zxv {K : Nat -> Prop} {w : World} {a : Option Addr} {n c : Nat} {vs : List (Value × Value)} {t : Tr} {l : PList} (hRel : Rel t l) (hOk : Tr.Ok 64 t) (hl : PAt K w a n c vs l) (hb : n <= 2932031007400) (h0 : 0 < n) (hlen : ∀ (j : Nat) k x, l[j]? = some (k, x) -> k.length <= 1000000) :
  Calls Tryz.prog 16 #[.slice a n c] w fun e w' => ∃ u, e = .returned u /\ (fun u w' => u = .agg (B8 (dref (encT t))) /\ Bl w w') u w' := by
 have hB := Bl.refl w
 have hdl := dref_len (encT t)
 obtain ⟨ds, hds⟩ : ∃ ds, dref (encT t) = ds := ⟨_, rfl⟩
 rw [hds] at hdl ⊢
 have hl0 := hl.old
 have ll := hl.ll
 refine Za3 Tryz.func16 rfl 33 rfl ?_
 show CW _ _ _ _ _ _ _ [(0, .slice a n c)] _
 refine Zac <| Zaa ?_
 have hz0 := hB.size
 refine Zb7 2 (B8 z32) 24 (fun _ => by kernel_rfl) (fun _ => by kernel_rfl) ?_
 intro w1 g2 hn3
 replace hB := hB.go hn3.below
 have hr4 : Rw g2 w1 (B8 z32) 24 := hn3.row
 have hgd := hn3.hg
 have hgl := lt_of_get hr4
 refine Zad <| Zab <| Zac <| Zac <| Zaa <| rp 5 (.slice a n c) <| rp 6 (.int .i64 n) <| rv 7 (.bool false) (fun _ => Zai (v := .bool ((n : Int) == (0 : Int))) (by kernel_rfl) (congrArg Value.bool (beq_eq_false_iff_ne.2 (by omega)))) <| Zad <| Zab <| Zao (fun _ => by kernel_rfl) <| Zaz ?_
 refine Zab <| Zac <| Zaa <| rp 3 (.slice none 0 0) <| Zad <| Zab <| Zac <| Zac <| Zaa <| rp 4 (.int .i64 0) <| Zad <| Zab ?_
 refine Zay ?_
 refine Zdj (X := Nat × Value) (fun z => [(4, .int .i64 ((z.1 : Nat) : Int)), (3, z.2), (0, .slice a n c), (2, .pointer (some ⟨g2, 0, none⟩))]) (fun z v => Bl w v /\ Rw g2 v (B8 z32) 24 /\ OwnN (fun b => K b \/ w.heap.size <= b) v (g2 + 1) z.2 ((l.take z.1).map (fun e : List Int × List Int => (Ni.nib e.1, e.2))) /\ z.1 <= n) (fun z => n - z.1) (0, .slice none 0 0) (by exact ⟨fun _ => by kernel_rfl, ⟨fun _ => by kernel_rfl, ⟨fun _ => by kernel_rfl, ⟨fun _ => by kernel_rfl, trivial⟩⟩⟩⟩) ⟨hB, hr4, by rw [List.take_zero]; exact ⟨fun b hb => .inr (by omega), [], rfl, ⟨rfl, .inl ⟨rfl, rfl⟩⟩, fun j p e h => by simp at h⟩, Nat.zero_le _⟩ ?_
 clear hB hr4
 rintro ⟨j, V⟩ v ⟨hB, hrd, hO, hj⟩
 simp only at hB hrd hO hj
 show CW _ _ _ _ _ _ _ [(4, .int .i64 ((j : Nat) : Int)), (3, V), (0, .slice a n c), (2, .pointer (some ⟨g2, 0, none⟩))] _
 by_cases hlt : j < n
 ·skip
  obtain ⟨gE, oE, a1, n1, c1, a2, n2, c2, k, x, ea, hej, hc1, hc2, hs1, hs2⟩ := hl0.at hlt
  subst ea
  have lk := hs1.len
  have hkl := hlen j k x hej
  refine Zac <| Zac <| Zaa <| rp 9 (.int .i64 ((j : Nat) : Int)) <| rp 10 (.slice (some ⟨gE, oE, none⟩) n c) <| rp 11 (.int .i64 n) <| rv 12 (.bool true) (fun _ => Zai (v := .bool (decide (((j : Nat) : Int) < (n : Int)))) (by kernel_rfl) (congrArg Value.bool (decide_eq_true (by omega)))) <| Zad <| Zab <| Zan (fun _ => by kernel_rfl) <| Zaz <| Zab ?_
  refine Zac <| Zay <| Zcb (fun v => Bl w v) (by kernel_rfl) (hB.drew) ?_
  replace hB := hB.drew
  replace hrd := hrd.drew
  replace hO := hO.far (Below.refl _ _).drew
  refine dt 0 15 (V) (fun v hv _ => by kernel_rfl) hB <| dt 1 16 (.slice (some ⟨gE, oE, none⟩) n c) (fun v hv _ => by kernel_rfl) hB <| dt 2 17 (.int .i64 ((j : Nat) : Int)) (fun v hv _ => by kernel_rfl) hB <| dt 3 18 (.pointer (some ⟨gE, oE + j * 2, none⟩)) (fun v hv _ => Zas 22 _ _ gE oE j n c 2 34 rfl (by kernel_rfl) (by kernel_rfl) hlt Tryz.underlying22 (by kernel_rfl)) hB <| dt 4 19 (.pointer (some ⟨gE, oE + j * 2, none⟩)) (fun v hv _ => by kernel_rfl) hB <| dt 5 20 (.slice a1 n1 c1) (fun v hv _ => Zam 32 _ _ _ _ rfl (by kernel_rfl) ((Below.cell hv (block_lt_of_cell hc1)).trans hc1) Tryz.underlying32 rfl) hB <| dt 7 22 (.slice (some ⟨gE, oE, none⟩) n c) (fun v hv _ => by kernel_rfl) hB <| dt 8 23 (.int .i64 ((j : Nat) : Int)) (fun v hv _ => by kernel_rfl) hB <| dt 9 24 (.pointer (some ⟨gE, oE + j * 2, none⟩)) (fun v hv _ => Zas 22 _ _ gE oE j n c 2 34 rfl (by kernel_rfl) (by kernel_rfl) hlt Tryz.underlying22 (by kernel_rfl)) hB <| dt 10 25 (.pointer (some ⟨gE, oE + j * 2 + 1, none⟩)) (fun v hv _ => by kernel_rfl) hB <| dt 11 26 (.slice a2 n2 c2) (fun v hv _ => Zam 32 _ _ _ _ rfl (by kernel_rfl) ((Below.cell hv (block_lt_of_cell hc2)).trans hc2) Tryz.underlying32 rfl) hB <| Zah [6] (by kernel_rfl) (by simp) ?_
  refine Zba 6 21 36 #[.slice a1 n1 c1] rfl (fun _ => by kernel_rfl) (fun _ => by kernel_rfl) (R := fun u w' => (∃ a' m' c', u = .slice a' m' c' /\ Sk (fun b => (v.drew).heap.size <= b) w' a' m' c' (Ni.nib k)) /\ Bl (v.drew) w') (Zxg (hs1.go hB) (by omega)) (fun u w' h => hB.go h.2) ?_ Zar
  rintro _ u5 ⟨⟨a6, n6, c6, rfl, hs6⟩, hb6⟩
  have hOw := hO.own
  have hwz := hB.size
  have hz6 := hb6.size
  replace hB := hB.go hb6
  replace hrd := hrd.go hb6
  replace hO := hO.far hb6
  replace hs6 := hs6.mono (K' := fun b => (K b /\ b < w.heap.size) \/ v.drew.heap.size <= b) (fun b hb => .inr hb)
  refine dt 12 27 (.agg #[.slice a6 n6 c6, .slice a2 n2 c2]) (fun v hv => (fun _ => by kernel_rfl)) hB <| Zah [13] (by kernel_rfl) (by simp) ?_
  refine Zgm 13 28 #[.slice a6 n6 c6, .slice a2 n2 c2] 67 1 rfl (fun _ => by kernel_rfl) (fun _ => by kernel_rfl) (fun w' g h => hB.go h.below) ?_ Zar
  intro wN gN hnN
  have hP1 := PAt.oneN hnN hs6 ((hs2.go hB).mono (K' := fun b => (K b /\ b < w.heap.size) \/ v.drew.heap.size <= b) (fun b hb => .inl hb)) (by have := hnN.hg; exact .inr (by omega))
  replace hB := hB.go hnN.below
  replace hrd := hrd.go hnN.below
  replace hO := hO.far hnN.below
  refine Zah [14] (by kernel_rfl) (by simp) ?_
  obtain ⟨V2, wQ, hrQ, hOQ, hbQ⟩ := appN hO hP1 (fun b hb => ⟨fun e => by have := hOw b e; rcases hb with h | h <;> omega, by rcases hb with h | h; exact .inl h.1; exact .inr (by omega)⟩) (by rw [List.length_map, List.length_take]; omega) (lt_of_get hrd)
  have hBQ : Bl w wQ := ⟨hbQ.os.trans hB.os, hbQ.tape.trans hB.tape, hbQ.output.trans hB.output, Nat.le_trans hB.size hbQ.size, fun q hq => (hbQ.block q (by omega)).trans (hB.block q hq)⟩
  refine ar_v 14 29 V2 rfl (fun _ => by kernel_rfl) (fun _ => Zkz hrQ _ _ rfl (by kernel_rfl) (by kernel_rfl)) hBQ ?_ Zar
  replace hrd : Rw g2 wQ (B8 z32) 24 := (hbQ.block g2 (by omega)).trans hrd
  replace hB := hBQ
  replace hO := hOQ
  refine dt 15 3 (V2) (fun v hv _ => by kernel_rfl) hB <| Zbn (by kernel_rfl) <| Zbb <| Zab <| Zaa <| rp 13 (.int .i64 ((j : Nat) : Int)) <| rv 14 (.int .i64 (((j : Nat) : Int) + 1)) (fun _ => Zai (v := .int .i64 (IntKind.i64.wrap (((j : Nat) : Int) + 1))) (by kernel_rfl) (congrArg (Value.int .i64) (Zb6 (by omega) (by omega)))) <| rp 4 (.int .i64 (((j : Nat) : Int) + 1)) <| Zad ?_
  exact Zbi (E := fun z => [(4, .int .i64 ((z.1 : Nat) : Int)), (3, z.2), (0, .slice (some ⟨gE, oE, none⟩) n c), (2, .pointer (some ⟨g2, 0, none⟩))]) (R := fun z v => Bl w v /\ Rw g2 v (B8 z32) 24 /\ OwnN (fun b => K b \/ w.heap.size <= b) v (g2 + 1) z.2 ((l.take z.1).map (fun e : List Int × List Int => (Ni.nib e.1, e.2))) /\ z.1 <= n) (μ := fun z => n - z.1) (x := (j, V)) (j + 1, V2) (by exact ⟨fun _ => by kernel_rfl, ⟨fun _ => by kernel_rfl, ⟨fun _ => by kernel_rfl, ⟨fun _ => by kernel_rfl, trivial⟩⟩⟩⟩) ⟨hB, hrd, by show OwnN _ _ _ _ ((l.take (j + 1)).map _); rw [Zfu _ l j _ hej]; exact hO, by show j + 1 <= n; omega⟩ (by show n - (j + 1) < n - j; omega)
 obtain rfl : j = n := by omega
 rw [List.take_of_length_le (by omega)] at hO
 show CW _ _ _ _ _ _ _ [(4, .int .i64 ((j : Nat) : Int)), (3, V), (0, .slice a j c), (2, .pointer (some ⟨g2, 0, none⟩))] _
 refine Zac <| Zac <| Zaa <| rp 9 (.int .i64 ((j : Nat) : Int)) <| rp 10 (.slice a j c) <| rp 11 (.int .i64 j) <| rv 12 (.bool false) (fun _ => Zai (v := .bool (decide (((j : Nat) : Int) < (j : Int)))) (by kernel_rfl) (congrArg Value.bool (decide_eq_false (by omega)))) <| Zad <| Zab <| Zao (fun _ => by kernel_rfl) <| Zd5 <| Zat ?_
 refine Zat <| Zbj <| Zab <| Zac ?_
 obtain ⟨aF, cF, vsF, eF, hF⟩ := hO.pat
 subst eF
 rw [show l.map (fun e : List Int × List Int => (Ni.nib e.1, e.2)) = entsR t from hRel.ones] at hF
 have lF := hF.ll
 have lO : (l.map (fun e : List Int × List Int => (Ni.nib e.1, e.2))).length = (entsR t).length := congrArg List.length hRel.ones
 refine Zaa <| rp 30 (.slice aF (l.map (fun e : List Int × List Int => (Ni.nib e.1, e.2))).length cF) <| Za1 31 37 #[.slice aF (l.map (fun e : List Int × List Int => (Ni.nib e.1, e.2))).length cF] (fun _ => by kernel_rfl) (fun _ => by kernel_rfl) (R := RB7 (v) t) ((by rw [lO]; exact Zsc t 64 hOk (Nat.le_refl _) hRel.small _ _ _ _ _ _ hF (by rw [<- lO, List.length_map]; omega))) ?_
 rintro _ u2 ⟨⟨a2, n2, c2, rfl, hs2, hm2⟩, hb2⟩
 replace hB := hB.go hb2
 replace hrd := hrd.go hb2
 have l2 := hs2.len
 refine Za1 32 25 #[.slice a2 n2 c2] (fun _ => by kernel_rfl) (fun _ => by kernel_rfl) (R := fun u w' => u = .agg (B8 ds) /\ Bl u2 w') ((Zhe a2 n2 c2 (encT t) u2 hs2.ag (by omega)).mono (fun e w' h => ⟨_, by rw [h.1, hds], rfl, h.2⟩)) ?_
 rintro _ u3 ⟨rfl, hb3⟩
 replace hB := hB.go hb3
 replace hrd := hrd.go hb3
 refine Zcx g2 (B8 ds) (fun _ => by kernel_rfl) (fun _ => Zbf 24 _ _ _ _ _ _ rfl (by kernel_rfl) (by kernel_rfl) hrd (Zce hdl) (Zcv hdl) (B8_one _)) ?_
 intro uE hpE
 replace hB : Bl w uE := hpE.below hB (by omega) hB.size
 have hrE : Rw g2 uE (B8 ds) 24 := hpE.row hrd
 refine Zad <| Zab <| Za5 ?_
 exact Zaf (.agg (B8 ds)) (fun _ => Zfl Tryz.results16 _ g2 ds hdl (by kernel_rfl) hrE) ⟨_, rfl, rfl, hB⟩
theorem Zxw {K : Nat -> Prop} {w : World} {a : Option Addr} {n c : Nat} {vs : List (Value × Value)} {t : Tr} {l : PList} (hRel : Rel t l) (hl : PAt K w a n c vs l) (hb : n <= 2932031007400) :
  Calls Tryz.prog 16 #[.slice a n c] w fun e w' => ∃ u, e = .returned u /\ u = .agg (B8 (rootP t)) /\ Bl w w' := by
 have ll := hl.ll
 have le : (entsR t).length = n := by rw [<- hRel.ones]; unfold onesP; rw [List.length_map]; exact ll
 rcases hRel.ok with rfl | hO
 ·have hn : n = 0 := le.symm
  subst hn
  exact Zzh
 ·have hne := hO.ne
  have h0 := List.length_pos_iff.2 (Zk8 _ hO)
  rw [show rootP t = dref (encT t) from by unfold rootP; rw [if_neg (fun e => hne (isNo_iff.1 e))]]
  exact Zxv hRel hO hl hb (by omega) (fun j k x h => by have := ((hRel.m k x).1 (List.mem_of_getElem? h)).2.1; omega)
set_option maxHeartbeats 4000000 in
theorem Zvv {K : Nat -> Prop} {w : World} {a : Option Addr} {n c : Nat} {vs : List (Value × Value)} {l : PList} (hl : PAt K w a n c vs l) (hb : n + 1 <= 2932031007400) (hl8 : ∀ (j : Nat) q y, l[j]? = some (q, y) -> q.length <= 1000000) {ak ax : Option Addr} {nk ck nx cx : Nat} {k x : List Int} (hk : Sk (fun b => K b /\ b < w.heap.size) w ak nk ck k) (hx : Sk (fun b => K b /\ b < w.heap.size) w ax nx cx x) :
  Calls Tryz.prog 13 #[.slice a n c, .slice ak nk ck, .slice ax nx cx] w fun e w' => ∃ u, e = .returned u /\ (fun u w' => (∃ a' n' c' vs', u = .tuple #[.slice a' n' c', .int .i64 (addE (lkP l) k x)] /\ PAt (fun b => K b \/ w.heap.size <= b) w' a' n' c' vs' (addL l k x)) /\ Bl w w') u w' := by
 have hB := Bl.refl w
 have lk := hk.len
 have lx := hx.len
 have ll := hl.ll
 have hl0 := hl.old
 have hk0 := hk
 have hx0 := hx
 refine Za3 Tryz.func13 rfl 48 rfl ?_
 show CW _ _ _ _ _ _ _ [(0, .slice a n c), (1, .slice ak nk ck), (2, .slice ax nx cx)] _
 refine Zac <| Zaa <| rp 6 (.slice none 0 0) <| rp 7 (.int .i64 0) <| Zad <| Zab <| Zac <| Zac <| Zaa <| rp 9 (.slice ak nk ck) <| rp 10 (.int .i64 nk) <| rp 11 (.bool (decide ((nk : Int) > (32 : Int)))) ?_
 refine Zad <| Zab ?_
 by_cases hk32 : nk <= 32
 ·skip
  rw [show (decide ((nk : Int) > (32 : Int))) = false from decide_eq_false (by omega)]
  refine Zao (fun _ => by kernel_rfl) <| Zaz <| Zab <| Zac <| Zac <| Zaa <| rp 13 (.slice ax nx cx) <| rp 14 (.int .i64 nx) <| rp 15 (.bool ((nx : Int) == (0 : Int))) <| rp 16 (.bool ((nx : Int) == (0 : Int))) ?_
  by_cases hx00 : nx = 0
  ·skip
   rw [show ((nx : Int) == (0 : Int)) = true from beq_iff_eq.2 (by omega)]
   refine Za9 17 (fun _ => by kernel_rfl) <| Za9 18 (fun _ => by kernel_rfl) <| Za9 19 (fun _ => by kernel_rfl) <| rp 20 (.bool true) <| Zad <| Zab <| Zan (fun _ => by kernel_rfl) <| Zac <| Zaa <| rp 21 (.slice a n c) <| rp 6 (.slice a n c) <| rp 7 (.int .i64 71) ?_
   refine Zad <| Zab <| Za5 <| Zap ?_
   have he : addE (lkP l) k x = 71 := by unfold addE; rw [if_pos (by omega), if_neg (by omega)]
   exact Zaf (.tuple #[.slice a n c, .int .i64 71]) (fun _ => by kernel_rfl) ⟨_, rfl, ⟨_, n, c, vs, by rw [he], by unfold addL; rw [if_neg (by rw [he]; decide)]; exact (hl.go hB).mono (fun b hb => .inl hb)⟩, hB⟩
  ·skip
   rw [show ((nx : Int) == (0 : Int)) = false from beq_eq_false_iff_ne.2 (by omega)]
   refine rp 17 (.slice ax nx cx) <| rp 18 (.int .i64 nx) <| rp 19 (.bool (decide ((nx : Int) > (256 : Int)))) <| rp 20 (.bool (decide ((nx : Int) > (256 : Int)))) <| Zad <| Zab ?_
   by_cases hx256 : nx <= 256
   ·skip
    rw [show (decide ((nx : Int) > (256 : Int))) = false from decide_eq_false (by omega)]
    refine Zao (fun _ => by kernel_rfl) <| Zaz <| Zab <| Zac <| Zac <| Zaa <| rp 22 (.slice a n c) <| rp 23 (.int .i64 n) <| rp 24 (.bool (decide ((n : Int) > (0 : Int)))) <| rp 25 (.bool (decide ((n : Int) > (0 : Int)))) ?_
    by_cases hn0 : 0 < n
    ·skip
     rw [show (decide ((n : Int) > (0 : Int))) = true from decide_eq_true (by omega)]
     obtain ⟨gE, oE, a1, n1, c1, a2, n2, c2, k0, x0, ea, hej, hc1, hc2, hs1, hs2⟩ := hl0.at (show n - 1 < n by omega)
     subst ea
     have lk0 := hs1.len
     have hlk : lkP l = some k0 := Zzn (by rw [ll]; exact hej)
     refine rp 26 (.slice (some ⟨gE, oE, none⟩) n c) <| rp 27 (.slice (some ⟨gE, oE, none⟩) n c) <| rp 28 (.int .i64 n) <| rv 29 (.int .i64 ((n - 1 : Nat) : Int)) (fun _ => Zai (v := .int .i64 (IntKind.i64.wrap ((n : Int) - 1))) (by kernel_rfl) (congrArg (Value.int .i64) ((Zb6 (by omega) (by omega)).trans (by omega)))) <| rv 30 (.pointer (some ⟨gE, oE + (n - 1) * 2, none⟩)) (fun _ => Zas 22 _ _ gE oE (n - 1) n c 2 34 rfl (by kernel_rfl) (by kernel_rfl) (by omega) Tryz.underlying22 (by kernel_rfl)) <| rp 31 (.pointer (some ⟨gE, oE + (n - 1) * 2, none⟩)) <| rv 32 (.slice a1 n1 c1) (fun _ => Zam 32 _ _ _ _ rfl (by kernel_rfl) ((Below.cell hB (block_lt_of_cell hc1)).trans hc1) Tryz.underlying32 rfl) <| rp 33 (.slice ak nk ck) <| Za1 34 31 #[.slice a1 n1 c1, .slice ak nk ck] (fun _ => by kernel_rfl) (fun _ => by kernel_rfl) (R := fun u w' => u = .bool (Ni.lessP k0 k) /\ Bl (w) w') ((Ni.rless_any a1 ak n1 c1 nk ck k0 k (w) (hs1.go hB).ag (hk0.go hB).ag (by have := hl8 _ _ _ hej; omega) (by omega)).mono (fun e w' h => ⟨_, h.1, rfl, h.2⟩)) ?_
     rintro _ u1 ⟨rfl, hb1⟩
     replace hB := hB.go hb1
     replace hk := hk.go hb1
     refine rp 35 (.bool (!(Ni.lessP k0 k))) <| rp 36 (.bool (!(Ni.lessP k0 k))) <| Zad <| Zab ?_
     cases hls : Ni.lessP k0 k with
     | true =>
      refine Zww [(36, .bool false), (35, .bool false), (34, .bool true), (33, .slice ak nk ck), (32, .slice a1 n1 c1), (31, .pointer (some ⟨gE, oE + (n - 1) * 2, none⟩)), (30, .pointer (some ⟨gE, oE + (n - 1) * 2, none⟩)), (29, .int .i64 ((n - 1 : Nat) : Int)), (28, .int .i64 n), (27, .slice (some ⟨gE, oE, none⟩) n c), (26, .slice (some ⟨gE, oE, none⟩) n c), (25, .bool true), (24, .bool true), (23, .int .i64 n), (22, .slice (some ⟨gE, oE, none⟩) n c), (20, .bool false), (19, .bool false), (18, .int .i64 nx), (17, .slice ax nx cx), (16, .bool false), (15, .bool false), (14, .int .i64 nx), (13, .slice ax nx cx), (11, .bool false), (10, .int .i64 nk), (9, .slice ak nk ck), (7, .int .i64 0), (6, .slice none 0 0), (0, .slice (some ⟨gE, oE, none⟩) n c), (1, .slice ak nk ck), (2, .slice ax nx cx)] (by exact ⟨fun _ => by kernel_rfl, ⟨fun _ => by kernel_rfl, ⟨fun _ => by kernel_rfl, ⟨fun _ => by kernel_rfl, ⟨fun _ => by kernel_rfl, ⟨fun _ => by kernel_rfl, ⟨fun _ => by kernel_rfl, ⟨fun _ => by kernel_rfl, ⟨fun _ => by kernel_rfl, ⟨fun _ => by kernel_rfl, ⟨fun _ => by kernel_rfl, ⟨fun _ => by kernel_rfl, ⟨fun _ => by kernel_rfl, ⟨fun _ => by kernel_rfl, ⟨fun _ => by kernel_rfl, ⟨fun _ => by kernel_rfl, ⟨fun _ => by kernel_rfl, ⟨fun _ => by kernel_rfl, ⟨fun _ => by kernel_rfl, ⟨fun _ => by kernel_rfl, ⟨fun _ => by kernel_rfl, ⟨fun _ => by kernel_rfl, ⟨fun _ => by kernel_rfl, ⟨fun _ => by kernel_rfl, ⟨fun _ => by kernel_rfl, ⟨fun _ => by kernel_rfl, ⟨fun _ => by kernel_rfl, ⟨fun _ => by kernel_rfl, ⟨fun _ => by kernel_rfl, ⟨fun _ => by kernel_rfl, ⟨fun _ => by kernel_rfl, trivial⟩⟩⟩⟩⟩⟩⟩⟩⟩⟩⟩⟩⟩⟩⟩⟩⟩⟩⟩⟩⟩⟩⟩⟩⟩⟩⟩⟩⟩⟩⟩) <| Zao (fun _ => by kernel_rfl) <| Zaz <| Zab <| Zac <| Zaa <| rp 8 (.slice none 0 0) <| Zad <| Zab <| Zac <| Zaa <| rp 38 (.slice none 0 0) ?_
      refine rp 39 (.slice (some ⟨gE, oE, none⟩) n c) ?_
      have hO := OwnL.none8 (X := fun b => K b \/ w.heap.size <= b) (w := u1) (base := w.heap.size) (fun b hb => .inr hb)
      obtain ⟨VA, wA, hrA, hOA, hbA⟩ := appP hO (hl.go hB) (fun b hb => ⟨by simp [Value.ownBlock], .inl hb⟩) (by simp; omega) hB.size
      refine rw_v 40 VA (fun _ => by kernel_rfl) (fun _ => Zk0 hrA _ _ rfl (by kernel_rfl) (by kernel_rfl)) ?_
      rw [List.nil_append] at hOA
      replace hB : Bl w wA := Below.trans hB hbA
      refine rp 8 (VA) <| Zad <| Zab <| Zac <| Zaa <| rp 41 (VA) <| rp 42 (.slice ak nk ck) <| rp 43 (.slice ax nx cx) <| rp 44 (.agg #[.slice ak nk ck, .slice ax nx cx]) ?_
      have hOw := hOA.own
      have hwz := hB.size
      refine Zdf 45 #[.slice ak nk ck, .slice ax nx cx] 34 1 (fun _ => by kernel_rfl) (fun _ => by kernel_rfl) ?_
      intro wN gN hnN
      have hP1 := PAt.one hnN ((hk0.go hB).mono (K' := fun b => (K b /\ b < w.heap.size) \/ wA.heap.size <= b) (fun b hb => .inl hb)) ((hx0.go hB).mono (K' := fun b => (K b /\ b < w.heap.size) \/ wA.heap.size <= b) (fun b hb => .inl hb)) (by have := hnN.hg; exact .inr (by omega))
      replace hB := hB.go hnN.below
      replace hOA := hOA.far hnN.below
      obtain ⟨VC, wC, hrC, hOC, hbC⟩ := appP hOA hP1 (fun b hb => ⟨fun e => by have := hOw b e; rcases hb with h | h <;> omega, by rcases hb with h | h; exact .inl h.1; exact .inr (by omega)⟩) (by omega) hB.size
      refine rw_v 46 VC (fun _ => by kernel_rfl) (fun _ => Zk0 hrC _ _ rfl (by kernel_rfl) (by kernel_rfl)) ?_
      replace hB : Bl w wC := Below.trans hB hbC
      refine rp 8 (VC) <| Zad <| Zab <| Zac <| Zaa <| rp 47 (VC) <| rp 6 (VC) <| rp 7 (.int .i64 0) <| Zad <| Zab <| Za5 ?_
      have he : addE (lkP l) k x = 0 := by unfold addE; rw [hlk, if_pos (by omega), if_pos (by omega)]; simp only; rw [hls]; simp
      obtain ⟨aF, cF, vsF, eF, hF⟩ := hOC.pat
      subst eF
      exact Zaf (.tuple #[.slice aF (l ++ [(k, x)]).length cF, .int .i64 0]) (fun _ => by kernel_rfl) ⟨_, rfl, ⟨aF, _, cF, vsF, by rw [he], by unfold addL; rw [if_pos he]; exact hF⟩, hB⟩
     | false =>
      refine Zww [(36, .bool true), (35, .bool true), (34, .bool false), (33, .slice ak nk ck), (32, .slice a1 n1 c1), (31, .pointer (some ⟨gE, oE + (n - 1) * 2, none⟩)), (30, .pointer (some ⟨gE, oE + (n - 1) * 2, none⟩)), (29, .int .i64 ((n - 1 : Nat) : Int)), (28, .int .i64 n), (27, .slice (some ⟨gE, oE, none⟩) n c), (26, .slice (some ⟨gE, oE, none⟩) n c), (25, .bool true), (24, .bool true), (23, .int .i64 n), (22, .slice (some ⟨gE, oE, none⟩) n c), (20, .bool false), (19, .bool false), (18, .int .i64 nx), (17, .slice ax nx cx), (16, .bool false), (15, .bool false), (14, .int .i64 nx), (13, .slice ax nx cx), (11, .bool false), (10, .int .i64 nk), (9, .slice ak nk ck), (7, .int .i64 0), (6, .slice none 0 0), (0, .slice (some ⟨gE, oE, none⟩) n c), (1, .slice ak nk ck), (2, .slice ax nx cx)] (by exact ⟨fun _ => by kernel_rfl, ⟨fun _ => by kernel_rfl, ⟨fun _ => by kernel_rfl, ⟨fun _ => by kernel_rfl, ⟨fun _ => by kernel_rfl, ⟨fun _ => by kernel_rfl, ⟨fun _ => by kernel_rfl, ⟨fun _ => by kernel_rfl, ⟨fun _ => by kernel_rfl, ⟨fun _ => by kernel_rfl, ⟨fun _ => by kernel_rfl, ⟨fun _ => by kernel_rfl, ⟨fun _ => by kernel_rfl, ⟨fun _ => by kernel_rfl, ⟨fun _ => by kernel_rfl, ⟨fun _ => by kernel_rfl, ⟨fun _ => by kernel_rfl, ⟨fun _ => by kernel_rfl, ⟨fun _ => by kernel_rfl, ⟨fun _ => by kernel_rfl, ⟨fun _ => by kernel_rfl, ⟨fun _ => by kernel_rfl, ⟨fun _ => by kernel_rfl, ⟨fun _ => by kernel_rfl, ⟨fun _ => by kernel_rfl, ⟨fun _ => by kernel_rfl, ⟨fun _ => by kernel_rfl, ⟨fun _ => by kernel_rfl, ⟨fun _ => by kernel_rfl, ⟨fun _ => by kernel_rfl, ⟨fun _ => by kernel_rfl, trivial⟩⟩⟩⟩⟩⟩⟩⟩⟩⟩⟩⟩⟩⟩⟩⟩⟩⟩⟩⟩⟩⟩⟩⟩⟩⟩⟩⟩⟩⟩⟩) <| Zan (fun _ => by kernel_rfl) <| Zac <| Zaa <| rp 37 (.slice (some ⟨gE, oE, none⟩) n c) <| rp 6 (.slice (some ⟨gE, oE, none⟩) n c) <| rp 7 (.int .i64 80) <| Zad <| Zab <| Za5 <| Zap ?_
      have he : addE (lkP l) k x = 80 := by unfold addE; rw [hlk, if_pos (by omega), if_pos (by omega)]; simp only; rw [hls]; simp
      exact Zaf (.tuple #[.slice (some ⟨gE, oE, none⟩) n c, .int .i64 80]) (fun _ => by kernel_rfl) ⟨_, rfl, ⟨_, n, c, vs, by rw [he], by unfold addL; rw [if_neg (by rw [he]; decide)]; exact (hl.go hB).mono (fun b hb => .inl hb)⟩, hB⟩
    ·skip
     rw [show (decide ((n : Int) > (0 : Int))) = false from decide_eq_false (by omega)]
     have hlk : lkP l = none := by have : l = [] := List.eq_nil_of_length_eq_zero (by omega); rw [this]; rfl
     refine Za9 26 (fun _ => by kernel_rfl) <| Za9 27 (fun _ => by kernel_rfl) <| Za9 28 (fun _ => by kernel_rfl) <| Za9 29 (fun _ => by kernel_rfl) <| Za9 30 (fun _ => by kernel_rfl) <| Za9 31 (fun _ => by kernel_rfl) <| Za9 32 (fun _ => by kernel_rfl) <| Za9 33 (fun _ => by kernel_rfl) <| Za9 34 (fun _ => by kernel_rfl) <| Za9 35 (fun _ => by kernel_rfl) <| rp 36 (.bool false) <| Zad ?_
     refine Zab <| Zao (fun _ => by kernel_rfl) <| Zaz <| Zab <| Zac <| Zaa <| rp 8 (.slice none 0 0) <| Zad <| Zab <| Zac <| Zaa <| rp 38 (.slice none 0 0) ?_
     refine rp 39 (.slice a n c) ?_
     have hO := OwnL.none8 (X := fun b => K b \/ w.heap.size <= b) (w := w) (base := w.heap.size) (fun b hb => .inr hb)
     obtain ⟨VA, wA, hrA, hOA, hbA⟩ := appP hO (hl.go hB) (fun b hb => ⟨by simp [Value.ownBlock], .inl hb⟩) (by simp; omega) hB.size
     refine rw_v 40 VA (fun _ => by kernel_rfl) (fun _ => Zk0 hrA _ _ rfl (by kernel_rfl) (by kernel_rfl)) ?_
     rw [List.nil_append] at hOA
     replace hB : Bl w wA := Below.trans hB hbA
     refine rp 8 (VA) <| Zad <| Zab <| Zac <| Zaa <| rp 41 (VA) <| rp 42 (.slice ak nk ck) <| rp 43 (.slice ax nx cx) <| rp 44 (.agg #[.slice ak nk ck, .slice ax nx cx]) ?_
     have hOw := hOA.own
     have hwz := hB.size
     refine Zdf 45 #[.slice ak nk ck, .slice ax nx cx] 34 1 (fun _ => by kernel_rfl) (fun _ => by kernel_rfl) ?_
     intro wN gN hnN
     have hP1 := PAt.one hnN ((hk0.go hB).mono (K' := fun b => (K b /\ b < w.heap.size) \/ wA.heap.size <= b) (fun b hb => .inl hb)) ((hx0.go hB).mono (K' := fun b => (K b /\ b < w.heap.size) \/ wA.heap.size <= b) (fun b hb => .inl hb)) (by have := hnN.hg; exact .inr (by omega))
     replace hB := hB.go hnN.below
     replace hOA := hOA.far hnN.below
     obtain ⟨VC, wC, hrC, hOC, hbC⟩ := appP hOA hP1 (fun b hb => ⟨fun e => by have := hOw b e; rcases hb with h | h <;> omega, by rcases hb with h | h; exact .inl h.1; exact .inr (by omega)⟩) (by omega) hB.size
     refine rw_v 46 VC (fun _ => by kernel_rfl) (fun _ => Zk0 hrC _ _ rfl (by kernel_rfl) (by kernel_rfl)) ?_
     replace hB : Bl w wC := Below.trans hB hbC
     refine rp 8 (VC) <| Zad <| Zab <| Zac <| Zaa <| rp 47 (VC) <| rp 6 (VC) <| rp 7 (.int .i64 0) <| Zad <| Zab <| Za5 ?_
     have he : addE (lkP l) k x = 0 := by unfold addE; rw [hlk, if_pos (by omega), if_pos (by omega)]
     obtain ⟨aF, cF, vsF, eF, hF⟩ := hOC.pat
     subst eF
     exact Zaf (.tuple #[.slice aF (l ++ [(k, x)]).length cF, .int .i64 0]) (fun _ => by kernel_rfl) ⟨_, rfl, ⟨aF, _, cF, vsF, by rw [he], by unfold addL; rw [if_pos he]; exact hF⟩, hB⟩
   ·skip
    rw [show (decide ((nx : Int) > (256 : Int))) = true from decide_eq_true (by omega)]
    refine Zan (fun _ => by kernel_rfl) <| Zac <| Zaa <| rp 21 (.slice a n c) <| rp 6 (.slice a n c) <| rp 7 (.int .i64 71) <| Zad <| Zab <| Za5 <| Zap ?_
    have he : addE (lkP l) k x = 71 := by unfold addE; rw [if_pos (by omega), if_neg (by omega)]
    exact Zaf (.tuple #[.slice a n c, .int .i64 71]) (fun _ => by kernel_rfl) ⟨_, rfl, ⟨_, n, c, vs, by rw [he], by unfold addL; rw [if_neg (by rw [he]; decide)]; exact (hl.go hB).mono (fun b hb => .inl hb)⟩, hB⟩
 ·skip
  rw [show (decide ((nk : Int) > (32 : Int))) = true from decide_eq_true (by omega)]
  refine Zan (fun _ => by kernel_rfl) <| Zac <| Zaa <| rp 12 (.slice a n c) <| rp 6 (.slice a n c) <| rp 7 (.int .i64 70) <| Zad <| Zab <| Za5 <| Zap ?_
  have he : addE (lkP l) k x = 70 := by unfold addE; rw [if_neg (by omega)]
  exact Zaf (.tuple #[.slice a n c, .int .i64 70]) (fun _ => by kernel_rfl) ⟨_, rfl, ⟨_, n, c, vs, by rw [he], by unfold addL; rw [if_neg (by rw [he]; decide)]; exact (hl.go hB).mono (fun b hb => .inl hb)⟩, hB⟩
structure Tk (t : Tr) (T : PList) : Prop where
 rel : Rel t T
 lst : Lst (lkP T) T
theorem Tk.nil : Tk no [] := ⟨Rel.nil, rfl⟩
theorem Tk.step {t : Tr} {T : PList} {k x : List Int} (h : Tk t T) (hk : Byk k) (he : addE (lkP T) k x = 0) : Tk (putT t k x) (addL T k x) /\ lkP (addL T k x) = some k /\ (addL T k x).length = T.length + 1 := by
 obtain ⟨h1, h2⟩ := h.lst.step he
 have h3 := h.rel.put (x := x) hk
 have h4 : addL T k x = T ++ [(k, x)] := if_pos he
 rw [h1] at h2 h3
 rw [h4, Zsm]
 exact ⟨⟨h3, by rw [Zsm]; exact h2⟩, rfl, by simp⟩
theorem Tk.small {t : Tr} {T : PList} (h : Tk t T) : ∀ (j : Nat) q y, T[j]? = some (q, y) -> q.length <= 1000000 := fun j q y hq => by have := ((h.rel.m q y).1 (List.mem_of_getElem? hq)).2.1; omega
theorem Zzd (K : Nat -> Prop) (w : World) : PAt K w none 0 0 [] [] := ⟨rfl, rfl, Nat.le_refl _, fun _ => ⟨rfl, rfl⟩, fun j u hj => by simp [flatP] at hj, fun j p e h => by simp at h, fun x hx => by cases hx⟩
set_option maxHeartbeats 4000000 in
theorem Zrn {K : Nat -> Prop} {w : World} {a : Option Addr} {n c : Nat} {vs : List (Value × Value)} {l : PList} (hl : PAt K w a n c vs l) (hn : n <= 2932031007400) :
  Calls Tryz.prog 9 #[.slice a n c] w fun e w' => ∃ u, e = .returned u /\ (fun u w' => u = .tuple #[.agg (B8 (if runE none l = 0 then rootP (runT no l) else z32)), .int .i64 (runE none l)] /\ Bl w w') u w' := by
 have hB := Bl.refl w
 have hlo := hl.old
 have hll := hl.ll
 refine Za3 Tryz.func9 rfl 36 rfl ?_
 show CW _ _ _ _ _ _ _ [(0, .slice a n c)] _
 refine Zac <| Zaa <| Zb7 2 (B8 z32) 24 (fun _ => by kernel_rfl) (fun _ => by kernel_rfl) ?_
 intro w1 gd hnd
 replace hB := hB.go hnd.below
 have hrd : Rw gd w1 (B8 z32) 24 := hnd.row
 have hgd := hnd.hg
 refine rp 3 (.int .i64 0) <| Zad <| Zab <| Zac <| Zaa <| rp 4 (.slice none 0 0) <| Zad <| Zab <| Zac <| Zac <| Zaa <| rp 5 (.int .i64 0) ?_
 refine Zad <| Zab <| Zay <| Zdj (X := Nat × Option Addr × Nat × Nat) (fun q => [(5, .int .i64 ((q.1 : Nat) : Int)), (4, .slice q.2.1 q.2.2.1 q.2.2.2), (0, .slice a n c), (2, .pointer (some ⟨gd, 0, none⟩))]) (fun q v => Bl w v /\ Rw gd v (B8 z32) 24 /\ (∃ vsT T t, PAt (fun b => K b \/ w.heap.size <= b) v q.2.1 q.2.2.1 q.2.2.2 vsT T /\ Tk t T /\ runE none l = runE (lkP T) (l.drop q.1) /\ runT no l = runT t (l.drop q.1) /\ T.length = q.1) /\ q.1 <= n) (fun q => n - q.1) (0, none, 0, 0) (by exact ⟨fun _ => by kernel_rfl, ⟨fun _ => by kernel_rfl, ⟨fun _ => by kernel_rfl, ⟨fun _ => by kernel_rfl, trivial⟩⟩⟩⟩) ⟨hB, hrd, ⟨[], [], no, Zzd _ _, Tk.nil, rfl, rfl, rfl⟩, Nat.zero_le _⟩ ?_
 clear hB hrd
 rintro ⟨j, aT, nT, cT⟩ v ⟨hB, hrd, ⟨vsT, T, t, hT, hk, hE, hR, hTl⟩, hj⟩
 simp only at hB hrd hT hE hR hTl hj
 have hTn := hT.ll
 show CW _ _ _ _ _ _ _ [(5, .int .i64 ((j : Nat) : Int)), (4, .slice aT nT cT), (0, .slice a n c), (2, .pointer (some ⟨gd, 0, none⟩))] _
 by_cases hlt : j < n
 ·skip
  obtain ⟨gE, oE, a1, n1, c1, a2, n2, c2, k, x, ea, hej, hc1, hc2, hs1, hs2⟩ := hlo.at hlt
  subst ea
  have hjl : l.drop j = (k, x) :: l.drop (j + 1) := by rw [List.drop_eq_getElem_cons (by omega)]; congr 1; exact (List.getElem?_eq_some_iff.1 hej).2
  rw [hjl] at hE hR
  simp only [runE, runT] at hE hR
  refine Zac <| Zac <| Zaa <| rp 8 (.int .i64 ((j : Nat) : Int)) <| rp 9 (.slice (some ⟨gE, oE, none⟩) n c) <| rp 10 (.int .i64 n) <| rv 11 (.bool true) (fun _ => Zai (v := .bool (decide (((j : Nat) : Int) < (n : Int)))) (by kernel_rfl) (congrArg Value.bool (decide_eq_true (by omega)))) <| Zad <| Zab <| Zan (fun _ => by kernel_rfl) <| Zaz <| Zab ?_
  refine Zac <| Zay <| Zac <| Zcb (fun v => Bl w v) (by kernel_rfl) (hB.drew) ?_
  replace hB := hB.drew
  replace hrd := hrd.drew
  replace hT := hT.drew
  refine dt 0 15 (.slice aT nT cT) (fun v hv _ => by kernel_rfl) hB <| dt 1 16 (.slice (some ⟨gE, oE, none⟩) n c) (fun v hv _ => by kernel_rfl) hB <| dt 2 17 (.int .i64 ((j : Nat) : Int)) (fun v hv _ => by kernel_rfl) hB <| dt 3 18 (.pointer (some ⟨gE, oE + j * 2, none⟩)) (fun v hv _ => Zas 22 _ _ gE oE j n c 2 34 rfl (by kernel_rfl) (by kernel_rfl) hlt Tryz.underlying22 (by kernel_rfl)) hB <| dt 4 19 (.pointer (some ⟨gE, oE + j * 2, none⟩)) (fun v hv _ => by kernel_rfl) hB <| dt 5 20 (.slice a1 n1 c1) (fun v hv _ => Zam 32 _ _ _ _ rfl (by kernel_rfl) ((Below.cell hv (block_lt_of_cell hc1)).trans hc1) Tryz.underlying32 rfl) hB <| dt 6 21 (.slice (some ⟨gE, oE, none⟩) n c) (fun v hv _ => by kernel_rfl) hB <| dt 7 22 (.int .i64 ((j : Nat) : Int)) (fun v hv _ => by kernel_rfl) hB <| dt 8 23 (.pointer (some ⟨gE, oE + j * 2, none⟩)) (fun v hv _ => Zas 22 _ _ gE oE j n c 2 34 rfl (by kernel_rfl) (by kernel_rfl) hlt Tryz.underlying22 (by kernel_rfl)) hB <| dt 9 24 (.pointer (some ⟨gE, oE + j * 2 + 1, none⟩)) (fun v hv _ => by kernel_rfl) hB <| dt 10 25 (.slice a2 n2 c2) (fun v hv _ => Zam 32 _ _ _ _ rfl (by kernel_rfl) ((Below.cell hv (block_lt_of_cell hc2)).trans hc2) Tryz.underlying32 rfl) hB <| Zah [11] (by kernel_rfl) (by simp) ?_
  refine Zba 11 26 13 #[.slice aT nT cT, .slice a1 n1 c1, .slice a2 n2 c2] rfl (fun _ => by kernel_rfl) (fun _ => by kernel_rfl) (R := fun u w' => (∃ a' n' c' vs', u = .tuple #[.slice a' n' c', .int .i64 (addE (lkP T) k x)] /\ PAt (fun b => (K b \/ w.heap.size <= b) \/ (v.drew).heap.size <= b) w' a' n' c' vs' (addL T k x)) /\ Bl (v.drew) w') (Zvv hT (by omega) hk.small ((hs1.go hB).mono (fun b hb => ⟨.inl hb.1, by have := hb.2; have := hB.size; omega⟩)) ((hs2.go hB).mono (fun b hb => ⟨.inl hb.1, by have := hb.2; have := hB.size; omega⟩))) (fun u w' h => hB.go h.2) ?_ Zar
  rintro _ u6 ⟨⟨a6, n6, c6, vs6, rfl, hP6⟩, hb6⟩
  have hz6 := hB.size
  replace hP6 := hP6.mono (K' := fun b => K b \/ w.heap.size <= b) (fun b hb => by rcases hb with h | h; exact h; exact .inr (by omega))
  replace hB := hB.go hb6
  replace hrd := hrd.go hb6
  replace hT := hT.go hb6
  refine dt 12 14 (.tuple #[.slice a6 n6 c6, .int .i64 (addE (lkP T) k x)]) (fun v hv _ => by kernel_rfl) hB <| dt 13 27 (.slice a6 n6 c6) (fun v hv _ => by kernel_rfl) hB <| dt 14 28 (.int .i64 (addE (lkP T) k x)) (fun v hv _ => by kernel_rfl) hB <| dt 15 6 (.slice a6 n6 c6) (fun v hv _ => by kernel_rfl) hB <| dt 16 7 (.int .i64 (addE (lkP T) k x)) (fun v hv _ => by kernel_rfl) hB <| Zbn (by kernel_rfl) <| Zab <| Zac <| Zac <| Zaa <| rp 29 (.int .i64 (addE (lkP T) k x)) <| rp 30 (.bool (!((addE (lkP T) k x : Int) == (0 : Int)))) ?_
  refine Zad <| Zab ?_
  by_cases he : addE (lkP T) k x = 0
  ·skip
   rw [show (!((addE (lkP T) k x : Int) == (0 : Int))) = false from by simp [he]]
   refine Zao (fun _ => by kernel_rfl) <| Zaz <| Zab <| Zaa <| rp 33 (.slice a6 n6 c6) <| rp 4 (.slice a6 n6 c6) <| Zad <| Zbb <| Zab <| Zaa <| rp 12 (.int .i64 ((j : Nat) : Int)) <| rv 13 (.int .i64 (((j : Nat) : Int) + 1)) (fun _ => Zai (v := .int .i64 (IntKind.i64.wrap (((j : Nat) : Int) + 1))) (by kernel_rfl) (congrArg (Value.int .i64) (Zb6 (by omega) (by omega)))) ?_
   refine rp 5 (.int .i64 (((j : Nat) : Int) + 1)) <| Zad ?_
   obtain ⟨hk2, hlk2, hln2⟩ := hk.step (x := x) hs1.ag.b he
   rw [if_pos he] at hE
   exact Zbi (E := fun q => [(5, .int .i64 ((q.1 : Nat) : Int)), (4, .slice q.2.1 q.2.2.1 q.2.2.2), (0, .slice (some ⟨gE, oE, none⟩) n c), (2, .pointer (some ⟨gd, 0, none⟩))]) (R := fun q v => Bl w v /\ Rw gd v (B8 z32) 24 /\ (∃ vsT T t, PAt (fun b => K b \/ w.heap.size <= b) v q.2.1 q.2.2.1 q.2.2.2 vsT T /\ Tk t T /\ runE none l = runE (lkP T) (l.drop q.1) /\ runT no l = runT t (l.drop q.1) /\ T.length = q.1) /\ q.1 <= n) (μ := fun q => n - q.1) (x := (j, aT, nT, cT)) (j + 1, a6, n6, c6) (by exact ⟨fun _ => by kernel_rfl, ⟨fun _ => by kernel_rfl, ⟨fun _ => by kernel_rfl, ⟨fun _ => by kernel_rfl, trivial⟩⟩⟩⟩) ⟨hB, hrd, ⟨vs6, addL T k x, putT t k x, hP6, hk2, by rw [hlk2]; exact hE, hR, by rw [hln2, hTl]⟩, by show j + 1 <= n; omega⟩ (by show n - (j + 1) < n - j; omega)
  ·skip
   rw [show (!((addE (lkP T) k x : Int) == (0 : Int))) = true from by simp [he]]
   refine Zan (fun _ => by kernel_rfl) <| Zac <| Zaa <| rp 31 (.agg (B8 z32)) <| rp 32 (.int .i64 (addE (lkP T) k x)) <| Zcx gd (B8 z32) (fun _ => by kernel_rfl) (fun _ => Zbf 24 _ _ _ _ _ _ rfl (by kernel_rfl) (by kernel_rfl) hrd (by kernel_rfl) rfl (by kernel_rfl)) ?_
   intro uE hpE
   replace hB : Bl w uE := hpE.below hB (by omega) hB.size
   have hrE : Rw gd uE (B8 z32) 24 := hpE.row hrd
   refine rp 3 (.int .i64 (addE (lkP T) k x)) <| Zad <| Zab <| Za5 <| Zap <| Zbc <| Zap <| Zap <| Zbc <| Zap ?_
   exact Zaf (.tuple #[.agg (B8 z32), .int .i64 (addE (lkP T) k x)]) (fun _ => Zep Tryz.results9 _ gd z32 rfl (by kernel_rfl) (by kernel_rfl) hrE) ⟨_, rfl, by rw [hE, if_neg he, if_neg he], hB⟩
 obtain rfl : j = n := by omega
 show CW _ _ _ _ _ _ _ [(5, .int .i64 ((j : Nat) : Int)), (4, .slice aT nT cT), (0, .slice a j c), (2, .pointer (some ⟨gd, 0, none⟩))] _
 rw [List.drop_of_length_le (by omega)] at hE hR
 simp only [runE, runT] at hE hR
 refine Zac <| Zac <| Zaa <| rp 8 (.int .i64 ((j : Nat) : Int)) <| rp 9 (.slice a j c) <| rp 10 (.int .i64 j) <| rv 11 (.bool false) (fun _ => Zai (v := .bool (decide (((j : Nat) : Int) < (j : Int)))) (by kernel_rfl) (congrArg Value.bool (decide_eq_false (by omega)))) <| Zad <| Zab <| Zao (fun _ => by kernel_rfl) <| Zd5 <| Zat ?_
 refine Zat <| Zbj <| Zab <| Zac <| Zaa <| rp 34 (.slice aT nT cT) ?_
 have hdl := Zdl t
 obtain ⟨ds, hds⟩ : ∃ ds, rootP t = ds := ⟨_, rfl⟩
 rw [hds] at hdl
 refine Za1 35 16 #[.slice aT nT cT] (fun _ => by kernel_rfl) (fun _ => by kernel_rfl) (R := fun u w' => u = .agg (B8 ds) /\ Bl (v) w') ((Zxw hk.rel hT (by omega)).mono (fun e w' ⟨u, e1, e2, e3⟩ => ⟨u, e1, by rw [e2, hds], e3⟩)) ?_
 rintro _ u7 ⟨rfl, hb7⟩
 replace hB := hB.go hb7
 replace hrd := hrd.go hb7
 replace hT := hT.go hb7
 refine Zcx gd (B8 ds) (fun _ => by kernel_rfl) (fun _ => Zbf 24 _ _ _ _ _ _ rfl (by kernel_rfl) (by kernel_rfl) hrd (Zce hdl) (Zcv hdl) (B8_one _)) ?_
 intro uE hpE
 replace hB : Bl w uE := hpE.below hB (by omega) hB.size
 have hrE : Rw gd uE (B8 ds) 24 := hpE.row hrd
 refine rp 3 (.int .i64 0) <| Zad <| Zab <| Za5 ?_
 exact Zaf (.tuple #[.agg (B8 ds), .int .i64 0]) (fun _ => Zep Tryz.results9 _ gd ds hdl (by kernel_rfl) (by kernel_rfl) hrE) ⟨_, rfl, by rw [hE, if_pos rfl, hR, hds], hB⟩
set_option maxHeartbeats 2000000 in
theorem Zus {K : Nat -> Prop} {w : World} {a : Option Addr} {n c : Nat} {vs : List (Value × Value)} {l : PList} (hl : PAt K w a n c vs l) (hn : n <= 2932031007317) :
  Calls Tryz.prog 3 #[.slice a n c] w fun e w' => ∃ u, e = .returned u /\ (fun u w' => u = .bool true /\ Bl w w') u w' := by
 have hB := Bl.refl w
 obtain ⟨ds, hds⟩ : ∃ ds, (if runE none l = 0 then rootP (runT no l) else z32) = ds := ⟨_, rfl⟩
 have hdl : ds.length = 32 := by rw [<- hds]; split; exact Zdl _; rfl
 obtain ⟨er, her⟩ : ∃ er, runE none l = er := ⟨_, rfl⟩
 refine Za3 Tryz.func3 rfl 28 rfl ?_
 show CW _ _ _ _ _ _ _ [(0, .slice a n c)] _
 refine Zac <| Zaa <| rp 2 (.bool false) <| Zad <| Zab <| Zac <| Zaa <| rp 8 (.slice a n c) <| Za1 9 8 #[.slice a n c] (fun _ => by kernel_rfl) (fun _ => by kernel_rfl) (R := fun u w' => u = .tuple #[.agg (B8 ds), .int .i64 er] /\ Bl (w) w') ((Zg2 hl (by omega)).mono (fun e w' ⟨u, e1, e2, e3⟩ => ⟨u, e1, by rw [e2, hds, her], e3⟩)) ?_
 rintro _ u1 ⟨rfl, hbu1⟩
 replace hB := hB.go hbu1
 replace hl := hl.go hbu1
 refine rp 7 (.tuple #[.agg (B8 ds), .int .i64 er]) <| rp 10 (.agg (B8 ds)) <| rp 11 (.int .i64 er) <| Zb7 3 (B8 z32) 24 (fun _ => by kernel_rfl) (fun _ => by kernel_rfl) ?_
 intro wa1 g1 hn1
 refine Zcx g1 (B8 ds) (fun _ => by kernel_rfl) (fun _ => Zbf 24 _ _ _ _ _ _ rfl (by kernel_rfl) (by kernel_rfl) hn1.row (Zce hdl) (Zcv hdl) (B8_one _)) ?_
 intro wb1 hp1
 have hc1 := hn1.put hp1
 replace hB := hB.go hc1.below
 replace hl := hl.go hc1.below
 have hr1 : Rw g1 wb1 (B8 ds) 24 := hc1.row
 refine rp 4 (.int .i64 er) <| Zad <| Zab <| Zac <| Zaa <| rp 13 (.slice a n c) <| Za1 14 9 #[.slice a n c] (fun _ => by kernel_rfl) (fun _ => by kernel_rfl) (R := fun u w' => u = .tuple #[.agg (B8 ds), .int .i64 er] /\ Bl (wb1) w') ((Zrn hl (by omega)).mono (fun e w' ⟨u, e1, e2, e3⟩ => ⟨u, e1, by rw [e2, hds, her], e3⟩)) ?_
 rintro _ u2 ⟨rfl, hbu2⟩
 replace hB := hB.go hbu2
 replace hl := hl.go hbu2
 replace hr1 := hr1.go hbu2
 refine rp 12 (.tuple #[.agg (B8 ds), .int .i64 er]) <| rp 15 (.agg (B8 ds)) <| rp 16 (.int .i64 er) <| Zb7 5 (B8 z32) 24 (fun _ => by kernel_rfl) (fun _ => by kernel_rfl) ?_
 intro wa2 g2 hn2
 refine Zcx g2 (B8 ds) (fun _ => by kernel_rfl) (fun _ => Zbf 24 _ _ _ _ _ _ rfl (by kernel_rfl) (by kernel_rfl) hn2.row (Zce hdl) (Zcv hdl) (B8_one _)) ?_
 intro wb2 hp2
 have hc2 := hn2.put hp2
 replace hB := hB.go hc2.below
 replace hl := hl.go hc2.below
 replace hr1 := hr1.go hc2.below
 have hr2 : Rw g2 wb2 (B8 ds) 24 := hc2.row
 refine rp 6 (.int .i64 er) <| Zad <| Zab <| Zac <| Zaa <| Za1 17 10 #[] (fun _ => by kernel_rfl) (fun _ => by kernel_rfl) (R := fun u w' => u = .bool true /\ Bl (wb2) w') (Zt6) ?_
 rintro _ u3 ⟨rfl, hbu3⟩
 replace hB := hB.go hbu3
 replace hl := hl.go hbu3
 replace hr1 := hr1.go hbu3
 replace hr2 := hr2.go hbu3
 refine rp 18 (.bool true) <| rv 19 (.agg (B8 ds)) (fun _ => Zed 24 _ _ _ _ _ _ rfl (by kernel_rfl) hr1 Tryz.underlying24 rfl (Zce hdl)) <| rv 20 (.agg (B8 ds)) (fun _ => Zed 24 _ _ _ _ _ _ rfl (by kernel_rfl) hr2 Tryz.underlying24 rfl (Zce hdl)) <| rv 21 (.bool true) (fun _ => Zr8 rfl (by kernel_rfl) (by kernel_rfl) hdl) <| rp 22 (.bool true) <| rp 23 (.bool true) <| rp 24 (.int .i64 er) <| rp 25 (.int .i64 er) <| rv 26 (.bool true) (fun _ => Zai (v := .bool ((er : Int) == (er : Int))) (by kernel_rfl) (congrArg Value.bool (by simp))) <| rp 27 (.bool true) <| rp 2 (.bool true) <| Zad ?_
 refine Zab <| Za5 ?_
 exact Zaf (.bool true) (fun _ => by kernel_rfl) ⟨_, rfl, rfl, hB⟩
theorem Zld {K : Nat -> Prop} (a : Option Addr) (n c : Nat) (vs : List (Value × Value)) (l : PList) (w : World) (hl : PAt K w a n c vs l) (hn : n <= 2932031007317) :
  Calls Tryz.prog 3 #[.slice a n c] w fun e w' => e = .returned (.bool true) /\ Below w.heap.size w w' :=
 (Zus hl hn).mono (fun e w' ⟨u, e1, e2, e3⟩ => ⟨by rw [e1, e2], e3⟩)
end Go.Proofs.YtdkpilgelgjieaaGreat
namespace Go.Proofs.YtdkpilgelgjieaaGreat
open Go.ChangeShapes Go.WideShapes Go.ChangeAt Go.RowKit
open Go.ChangeMaps (open_string shut_string)
theorem own : ownKnob Tryz.prog.godebug = none := by kernel_rfl
theorem Zx0 : laidOutB Tryz.prog = true := by kernel_rfl
theorem Zz7 : Tryz.prog.cellsOf 5 = 1 := by kernel_rfl
theorem Zz8 : Tryz.prog.bytesOf 5 = 1 := by kernel_rfl
end Go.Proofs.YtdkpilgelgjieaaGreat
namespace Go.Proofs.YtdkpilgelgjieaaGreat
open Go.ChangeShapes Go.WideShapes Go.ChangeAt Go.RowKit
theorem Zto : Tryz.prog.cellsOf 34 = 2 := by kernel_rfl
theorem Zwy : Tryz.prog.cellsOf 32 = 1 := by kernel_rfl
theorem Zyn : Tryz.prog.bytesOf 34 = 48 := by kernel_rfl
structure Pax where
 ka : Option Addr
 kn : Nat
 kc : Nat
 va : Option Addr
 vn : Nat
 vc : Nat
 k : List Int
 x : List Int
def Pax.pv (y : Pax) : Value × Value := (.slice y.ka y.kn y.kc, .slice y.va y.vn y.vc)
section
variable {H : Type} {enc : TypeId × Value → H} {w : World} {held : Bool}
theorem Zoo {fuel : Nat} {cs : List Value} {x : DataW H × List MemPlace} (hf : DataW.trod enc Tryz.prog w 0 (fun _ => true) held fuel 32 cs = some x)
  (hsz : ∀ n ∈ x.1.weights Tryz.prog 32, n <= reachBytes) : ∃ a len cap bs, cs = [.slice a len cap] /\ Ag w a len cap bs /\ len <= 140737488351232 := by
 rcases open_ints Tryz.underlying32 Tryz.underlying5 Zz7 hf with ⟨hcs, _⟩ | ⟨p, len, cap, zs, hcs, _, hl, hm, hz, hx, hcell, hwz⟩
 ·exact ⟨none, 0, 0, [], hcs, ⟨.inl ⟨rfl, rfl⟩, fun _ => ⟨rfl, rfl⟩, rfl, fun x hx => by cases hx⟩, by omega⟩
 ·have hz2 : zs.length = cap := by simpa using hz
  have hsz2 := hsz ((zs.take len).length + (zs.drop len).length) (by
   rw [hx]
   simp only [DataW.weights, Tryz.underlying32, lits, List.length_map, Zz8, Nat.mul_one]
   exact List.mem_cons_self ..)
  simp only [List.length_take, List.length_drop, reachBytes] at hsz2
  have hlen : (zs.take len).length = len := by rw [List.length_take]; omega
  have hbd : ∀ n ∈ zs.take len, 0 <= n /\ n < 256 := fun n hn => by
   have := bounds_u8 (hwz n (List.mem_of_mem_take hn))
   omega
  refine ⟨some p, len, cap, zs.take len, hcs, ⟨?_, (fun h => by cases h), hlen, hbd⟩, by omega⟩
  by_cases h0 : len = 0
  ·subst h0
   exact .inl ⟨rfl, by simp⟩
  ·obtain ⟨b, off, spot⟩ := p
   have hc := hcell 0 (by omega)
   have hspot : spot = none := by simpa [Addr.add] using World.cell?_spot hc
   subst hspot
   refine .inr ⟨b, off, rfl, hlen, by omega, hl, hm, fun j hj => ?_⟩
   rw [hlen] at hj
   have := hcell j (by omega)
   rw [Zax] at this
   rw [this, List.getD, List.getD, List.getElem?_take_of_lt hj]
theorem Zhx {e : TypeId} : ∀ {ds : List (DataW H)} {d : DataW H}, d ∈ ds -> ∀ n ∈ d.weights Tryz.prog e, n ∈ DataW.weightsAll Tryz.prog e ds
 | [], d, h, _, _ => by cases h
 | d0 :: r, d, h, n, hn => by
  rw [DataW.weightsAll, List.mem_append]
  rcases List.mem_cons.1 h with rfl | h
  ·exact .inl hn
  ·exact .inr (Zhx h n hn)
theorem Zxb {cs : List Value} (h : cs.length = 2) : cs = (cs.drop 0).take 1 ++ (cs.drop 1).take 1 := by
 match cs, h with
 | [a, b], _ => rfl
theorem Zqc {fuel : Nat} {cs : List Value} {x : DataW H × List MemPlace} (hf : DataW.trod enc Tryz.prog w 0 (fun _ => true) held fuel 34 cs = some x)
  (hsz : ∀ n ∈ x.1.weights Tryz.prog 34, n <= reachBytes) : ∃ y : Pax, cs = [y.pv.1, y.pv.2] /\ Ag w y.ka y.kn y.kc y.k /\ Ag w y.va y.vn y.vc y.x := by
 obtain ⟨xs, n, hfu, hx, hcl, hxl, hel⟩ := DataW.trod_struct Tryz.underlying34 hf
 rw [Zto] at hcl
 have e1 := hel 0 _ rfl
 have e2 := hel 1 _ rfl
 have hxl3 : xs.length = 2 := hxl
 obtain ⟨x1, x2, rfl⟩ : ∃ x1 x2, xs = [x1, x2] := by
  match xs, hxl3 with
  | [a, b], _ => exact ⟨a, b, rfl⟩
 subst hx
 have f1 : DataW.trod enc Tryz.prog w 0 (fun _ => true) held n 32 ((cs.drop 0).take (Tryz.prog.cellsOf 32)) = some x1 := e1
 have f2 : DataW.trod enc Tryz.prog w 0 (fun _ => true) held n 32 ((cs.drop 1).take (Tryz.prog.cellsOf 32)) = some x2 := e2
 rw [Zwy] at f1
 rw [Zwy] at f2
 obtain ⟨a1, m1, c1, b1, hb1, hag1, hl1⟩ := Zoo f1 (fun k hk => hsz k (by
  show k ∈ (DataW.agg [x1.1, x2.1]).weights Tryz.prog 34
  simp only [DataW.weights, Tryz.underlying34]
  simp only [List.map, DataW.weightsEach, List.mem_append]
  exact .inl hk))
 obtain ⟨a2, m2, c2, b2, hb2, hag2, hl2⟩ := Zoo f2 (fun k hk => hsz k (by
  show k ∈ (DataW.agg [x1.1, x2.1]).weights Tryz.prog 34
  simp only [DataW.weights, Tryz.underlying34]
  simp only [List.map, DataW.weightsEach, List.mem_append]
  exact .inr (.inl hk)))
 refine ⟨⟨a1, m1, c1, a2, m2, c2, b1, b2⟩, ?_, hag1, hag2⟩
 rw [Zxb (cs := cs) hcl, hb1, hb2]
 rfl
theorem Zni {fuel : Nat} {cs : List Value} {x : DataW H × List MemPlace} (hf : DataW.trod enc Tryz.prog w 0 (fun _ => true) held fuel 22 cs = some x)
  (hsz : ∀ n ∈ x.1.weights Tryz.prog 22, n <= reachBytes) : ∃ a m c vs l, cs = [.slice a m c] /\ PAt (fun _ => True) w a m c vs l /\ m <= 2932031007317 := by
 rcases DataW.trod_slice Tryz.underlying22 hf with ⟨hcs, _⟩ | ⟨p, len, cap, elems, rest, n, hfu, hcs, hx, _, hl, hm, hlen, hel, _, _⟩
 ·exact ⟨none, 0, 0, [], [], hcs, PAt.empty _ _, by omega⟩
 ·subst hx
  have hw : (DataW.slice (elems.map (·.1)) (rest.map (·.1))).weights Tryz.prog 22 = ((elems.map (·.1)).length + (rest.map (·.1)).length) * Tryz.prog.bytesOf 34 :: (DataW.weightsAll Tryz.prog 34 (elems.map (·.1)) ++ DataW.weightsAll Tryz.prog 34 (rest.map (·.1))) := by
   simp only [DataW.weights, Tryz.underlying22]
  have hszw : ∀ n ∈ (DataW.slice (elems.map (·.1)) (rest.map (·.1))).weights Tryz.prog 22, n <= reachBytes := hsz
  rw [hw] at hszw
  clear hsz
  have hsz1 := hszw _ (List.mem_cons_self ..)
  rw [Zyn, List.length_map, List.length_map, hlen] at hsz1
  unfold reachBytes at hsz1
  have hthing : ∀ i, i < len -> ∃ y : Pax, (∀ k, k < 2 -> w.cell? ((p.add (i * 2)).add k) = [y.pv.1, y.pv.2][k]?) /\ Ag w y.ka y.kn y.kc y.k /\ Ag w y.va y.vn y.vc y.x := by
   intro i hi
   have he := hel i hi
   rw [Zto, List.getElem?_eq_getElem (by omega), Option.bind_eq_some_iff] at he
   obtain ⟨cs', hc1, hc2⟩ := he
   obtain ⟨_, hc3, hc4⟩ := World.cells?_some hc1
   obtain ⟨y, hcs', hr⟩ := Zqc hc2 (fun k hk => hszw k (List.mem_cons_of_mem _ (List.mem_append_left _ (Zhx (List.mem_map_of_mem (List.getElem_mem _)) k hk))))
   refine ⟨y, ?_, hr⟩
   rw [hcs'] at hc4
   exact hc4
  have hspot : 0 < len -> p.spot = none := by
   intro h
   obtain ⟨y, hc, hr⟩ := hthing 0 h
   have c0 := hc 0 (by omega)
   rw [show [y.pv.1, y.pv.2][0]? = some y.pv.1 from rfl] at c0
   simpa [Addr.add] using World.cell?_spot c0
  have hall : ∀ d k, k + d = len -> ∃ ks : List Pax, ks.length = d /\ (∀ j u, (flatP (ks.map Pax.pv))[j]? = some u -> ∃ g off, (some p : Option Addr) = some ⟨g, off, none⟩ /\ w.cell? ⟨g, off + k * 2 + j, none⟩ = some u) /\ ∀ y ∈ ks, Ag w y.ka y.kn y.kc y.k /\ Ag w y.va y.vn y.vc y.x := by
   intro d
   induction d with
   | zero => intro k _; exact ⟨[], rfl, (fun j r hr => by simp [flatP] at hr), fun x hx => by cases hx⟩
   | succ d ihd =>
    intro k hk
    obtain ⟨ks, h1, h2, h3⟩ := ihd (k + 1) (by omega)
    obtain ⟨y, hc, hr⟩ := hthing k (by omega)
    refine ⟨y :: ks, by rw [List.length_cons, h1], fun j u hu => ?_, fun x hx => ?_⟩
    ·obtain ⟨g, off, spot⟩ := p
     have hsp : spot = none := hspot (by omega)
     subst hsp
     refine ⟨g, off, rfl, ?_⟩
     have hu2 : ([y.pv.1, y.pv.2] ++ flatP (ks.map Pax.pv))[j]? = some u := hu
     match j, hu2 with
     | 0, hu2 =>
      have := hc 0 (by omega)
      rw [Zax, Zax] at this
      exact this.trans hu2
     | 1, hu2 =>
      have := hc 1 (by omega)
      rw [Zax, Zax] at this
      exact this.trans hu2
     | j + 2, hu2 =>
      obtain ⟨g', off', e, h4⟩ := h2 j u (by simpa using hu2)
      cases e
      rw [show off + k * 2 + (j + 2) = off + (k + 1) * 2 + j from by omega]
      exact h4
    ·rcases List.mem_cons.1 hx with rfl | hx
     ·exact hr
     ·exact h3 x hx
  obtain ⟨ks, h1, h2, h3⟩ := hall len 0 (by omega)
  refine ⟨some p, len, cap, ks.map Pax.pv, ks.map (fun y => (y.k, y.x)), hcs, ⟨by rw [List.length_map, h1], by rw [List.length_map, h1], hl, (fun e => by cases e), fun j u hu => ?_, fun j q e hq he => ?_, fun _ _ _ => trivial⟩, by omega⟩
  ·obtain ⟨g, off, e, h4⟩ := h2 j u hu
   exact ⟨g, off, e, by rw [show off + j = off + 0 * 2 + j from by omega]; exact h4⟩
  ·rw [List.getElem?_map] at hq he
   obtain ⟨y, hy, rfl⟩ := Option.map_eq_some_iff.1 hq
   rw [hy] at he
   cases he
   have hm := h3 y (List.mem_of_getElem? hy)
   exact ⟨_, _, _, _, _, _, rfl, rfl, ⟨hm.1, fun _ _ _ => trivial⟩, ⟨hm.2, fun _ _ _ => trivial⟩⟩
end
theorem Zqb {H : Type} {enc : TypeId × Value -> H} {w : World} {b0 : Nat} {r : Reach} {held : Bool} {v : Value} {d : DataW H} {p : List MemPlace}
  (hv : Value.okWide Tryz.prog w r b0 22 v) (h : DataW.Trod enc Tryz.prog w 0 (fun _ => true) held 22 v d p)
  (hsz : ∀ n ∈ d.weights Tryz.prog 22, n <= reachBytes) : ∃ a m c vs l, v = .slice a m c /\ PAt (fun _ => True) w a m c vs l /\ m <= 2932031007317 := by
 obtain ⟨a, len, cap, rfl⟩ := okWide_slice Tryz.underlying22 hv
 obtain ⟨fuel, hf⟩ := h
 obtain ⟨a', m, c, vs, l, hcs, hx⟩ := Zni hf hsz
 simp [Value.cells] at hcs
 obtain ⟨rfl, rfl, rfl⟩ := hcs
 exact ⟨_, _, _, vs, l, rfl, hx⟩
theorem Zuq {H : Type} {ts : List TypeId} {ds : List (DataW H)} (h : (DataW.weightsEach Tryz.prog ts ds).all (· <= reachBytes) = true) {j : Nat} {t : TypeId} {d : DataW H} (ht : ts[j]? = some t) (hd : ds[j]? = some d) : ∀ n ∈ d.weights Tryz.prog t, n <= reachBytes := by
 intro n hn
 have := List.all_eq_true.1 h n (DataW.weights_mem_each ht hd n hn)
 simpa using this
end Go.Proofs.YtdkpilgelgjieaaGreat
