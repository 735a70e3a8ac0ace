/- What the document's Less answers. -/
import Derived.Test.YtdkpilgelgjieaaGreatG19
import Derived.Test.YtdkpilgelgjieaaGreatG30
import Derived.Test.YtdkpilgelgjieaaGreatG33
import Derived.Test.YtdkpilgelgjieaaGreatG14
import Derived.Test.YtdkpilgelgjieaaGreatG15
import Derived.Test.YtdkpilgelgjieaaGreatG00
import Derived.ProofKit
import Derived.OpenShut
import Derived.ShutString
import Derived.ChangeOld
import Derived.SizedLaws
set_option linter.unusedVariables false
set_option maxRecDepth 100000
namespace Go.Proofs.YtdkpilgelgjieaaGreat.Ni
open Go.RowKit
set_option maxHeartbeats 1000000 in
theorem rless_any (a1 a2 : Option Addr) (n1 c1 n2 c2 : Nat) (p q : List Int) (w : World) (h1 : Ag w a1 n1 c1 p) (h2 : Ag w a2 n2 c2 q) (hn1 : n1 <= 140737488355328) (hn2 : n2 <= 140737488355328) :
  Calls Tryz.prog 31 #[.slice a1 n1 c1, .slice a2 n2 c2] w fun e w' => e = .returned (.bool (lessP p q)) /\ Below w.heap.size w w' := by
 have hc := rcommon_any a1 a2 n1 c1 n2 c2 p q w h1 h2 hn1 hn2
 have hl1 := h1.l
 have hl2 := h2.l
 obtain ⟨k1, k2⟩ := com_le p q
 have hla := less_at p q
 obtain ⟨m, hm⟩ : ∃ m, com p q = m := ⟨_, rfl⟩
 rw [hm] at hc k1 k2 hla
 clear hm
 obtain ⟨res, hres⟩ : ∃ r, lessP p q = r := ⟨_, rfl⟩
 rw [hres] at hla ⊢
 clear hres
 rw [hl1, hl2] at hla
 rw [hl1] at k1
 rw [hl2] at k2
 have HC := Hid.mk hc
 have HA1 := Hid.mk h1
 have HA2 := Hid.mk h2
 clear hc h1 h2 hl1 hl2
 by_cases e1 : m = n1
 ·have q1 : decide (m < n2) = res := by
   rw [hla]
   by_cases e2 : m = n2
   ·rw [if_pos e2, decide_eq_false (by omega)]
   ·rw [if_neg e2, if_pos e1, decide_eq_true (by omega)]
  clear hla
  subst e1
  have HX := Hid.mk q1
  clear q1
  go_enter Tryz.func31, Tryz.ntmps31
  go_wp2_with fail
  refine HC.out.mono ?_
  rintro e w1 ⟨rfl, hb⟩
  have HB := Hid.mk hb
  clear hb
  go_wp2_with fail
  go_ret
  exact ⟨by rw [<- HX.out]; rfl, HB.out⟩
 ·have q1 : ((m : Int) == (n1 : Int)) = false := by rw [beq_eq_false_iff_ne]; omega
  by_cases e2 : m = n2
  ·rw [if_pos e2] at hla
   subst hla
   subst e2
   clear e1
   go_enter Tryz.func31, Tryz.ntmps31
   go_wp2_with fail
   refine HC.out.mono ?_
   rintro e w1 ⟨rfl, hb⟩
   have HB := Hid.mk hb
   clear hb
   go_wp2_with fail
   go_region
   all_goals
    go_wp2_with fail
    go_ret
    exact ⟨rfl, HB.out.drew⟩
  ·rw [if_neg e2, if_neg e1] at hla
   have q3 : (m : Int) < n1 := by omega
   have q4 : (m : Int) < n2 := by omega
   obtain ⟨g1, o1, rfl, hnc1, hcm1, hcs1⟩ := ag_head HA1.out (by omega)
   obtain ⟨g2, o2, rfl, hnc2, hcm2, hcs2⟩ := ag_head HA2.out (by omega)
   unfold maxLen at hcm1 hcm2
   have hcell1 := hcs1 m (by omega)
   have hcell2 := hcs2 m (by omega)
   generalize p.getD m 0 = x at *
   generalize q.getD m 0 = y at *
   have HX := Hid.mk hla
   clear hcs1 hcs2 e1 e2 hla
   go_enter Tryz.func31, Tryz.ntmps31
   go_wp2_with fail
   refine HC.out.mono ?_
   rintro e w1 ⟨rfl, hb⟩
   have hd1 := (hb.cell (p := ⟨g1, o1 + m, none⟩) (block_lt_of_cell hcell1)).trans hcell1
   have hd2 := (hb.cell (p := ⟨g2, o2 + m, none⟩) (block_lt_of_cell hcell2)).trans hcell2
   have HB := Hid.mk hb
   clear hb hcell1 hcell2
   go_wp2_with fail
   go_region
   all_goals
    go_wp2_with fail
    go_ret
    exact ⟨by rw [HX.out]; rfl, HB.out.drew⟩
end Go.Proofs.YtdkpilgelgjieaaGreat.Ni
namespace Go.Proofs.YtdkpilgelgjieaaGreat
open Go.RowKit
open Tr
open Di (dref)
theorem OwnL.none8 {X : Nat -> Prop} {w : World} {base : Nat} (hX : ∀ b, base <= b -> X b) : OwnL X w base (.slice none 0 0) [] := ⟨hX, [], rfl, World.ownsRow_nil w base _ 2, fun j p e q => by simp at q⟩
theorem Zk0 {w w' : World} {v u r : Value} {ρ : Operand -> Value} {o : Oper} (hr : ∀ ty, (Builtin.append_ #[22, 22] ty #[v, u]).run Tryz.prog w = .ok r w') (x y : Operand) (ho : o.op = .call { callee := .builtin .append, args := #[x, y], argTypes := #[22, 22] }) (hx : ρ x = v) (hy : ρ y = u) : (execOp ρ o).run Tryz.prog w = .ok (.value r) w' := by
 unfold execOp
 simp only [ho, resolve, invoke, builtin, Sem.run_bind, Sem.run_pure, Result.andThen_ok, List.map_toArray, List.map_cons, List.map_nil, hx, hy, hr]
def lkP (l : PList) : Option (List Int) := l.getLast?.map Prod.fst
theorem Zsm (l : PList) (k x : List Int) : lkP (l ++ [(k, x)]) = some k := by simp [lkP]
theorem Zzn {l : PList} {k x : List Int} (h : l[l.length - 1]? = some (k, x)) : lkP l = some k := by
 unfold lkP
 rw [List.getLast?_eq_getElem?, h]
 rfl
def addL (l : PList) (k x : List Int) : PList := if addE (lkP l) k x = 0 then l ++ [(k, x)] else l
set_option maxHeartbeats 1000000 in
theorem Zzh {w : World} {a : Option Addr} {c : Nat} :
  Calls Tryz.prog 16 #[.slice a 0 c] w fun e w' => ∃ u, e = .returned u /\ (fun u w' => u = .agg (B8 (dref [128])) /\ Bl w w') u w' := by
 have hB := Bl.refl w
 have hdl := dref_len [128]
 obtain ⟨ds, hds⟩ : ∃ ds, dref [128] = ds := ⟨_, rfl⟩
 rw [hds] at hdl ⊢
 refine Za3 Tryz.func16 rfl 33 rfl ?_
 show CW _ _ _ _ _ _ _ [(0, .slice a 0 c)] _
 refine Zac <| Zaa ?_
 have hz0 := hB.size
 refine Zb7 2 (B8 z32) 24 (fun _ => by kernel_rfl) (fun _ => by kernel_rfl) ?_
 intro w1 g2 hn3
 replace hB := hB.go hn3.below
 have hr4 : Rw g2 w1 (B8 z32) 24 := hn3.row
 have hgd := hn3.hg
 have hgl := lt_of_get hr4
 refine Zad <| Zab <| Zac <| Zac <| Zaa <| rp 5 (.slice a 0 c) <| rp 6 (.int .i64 0) <| rp 7 (.bool true) <| Zad <| Zab <| Zan (fun _ => by kernel_rfl) <| Zac ?_
 refine Zaa <| Za1 8 24 #[] (fun _ => by kernel_rfl) (fun _ => by kernel_rfl) (R := fun u w' => u = .agg (B8 ds) /\ Bl (w1) w') ((Zja (w1)).mono (fun e w' h => ⟨_, by rw [h.1, hds], rfl, h.2⟩)) ?_
 rintro _ u2 ⟨rfl, hb2⟩
 replace hB := hB.go hb2
 replace hr4 := hr4.go hb2
 refine Zcx g2 (B8 ds) (fun _ => by kernel_rfl) (fun _ => Zbf 24 _ _ _ _ _ _ rfl (by kernel_rfl) (by kernel_rfl) hr4 (Zce hdl) (Zcv hdl) (B8_one _)) ?_
 intro uE hpE
 replace hB : Bl w uE := hpE.below hB (by omega) hB.size
 have hrE : Rw g2 uE (B8 ds) 24 := hpE.row hr4
 refine Zad <| Zab <| Za5 <| Zap ?_
 exact Zaf (.agg (B8 ds)) (fun _ => Zfl Tryz.results16 _ g2 ds hdl (by kernel_rfl) hrE) ⟨_, rfl, rfl, hB⟩
set_option maxHeartbeats 1000000 in
theorem Zxv {K : Nat -> Prop} {w : World} {a : Option Addr} {n c : Nat} {vs : List (Value × Value)} {t : Tr} {l : PList} (hRel : Rel t l) (hOk : Tr.Ok 64 t) (hl : PAt K w a n c vs l) (hb : n <= 2932031007400) (h0 : 0 < n) (hlen : ∀ (j : Nat) k x, l[j]? = some (k, x) -> k.length <= 1000000) :
  Calls Tryz.prog 16 #[.slice a n c] w fun e w' => ∃ u, e = .returned u /\ (fun u w' => u = .agg (B8 (dref (encT t))) /\ Bl w w') u w' := by
 have hB := Bl.refl w
 have hdl := dref_len (encT t)
 obtain ⟨ds, hds⟩ : ∃ ds, dref (encT t) = ds := ⟨_, rfl⟩
 rw [hds] at hdl ⊢
 have hl0 := hl.old
 have ll := hl.ll
 refine Za3 Tryz.func16 rfl 33 rfl ?_
 show CW _ _ _ _ _ _ _ [(0, .slice a n c)] _
 refine Zac <| Zaa ?_
 have hz0 := hB.size
 refine Zb7 2 (B8 z32) 24 (fun _ => by kernel_rfl) (fun _ => by kernel_rfl) ?_
 intro w1 g2 hn3
 replace hB := hB.go hn3.below
 have hr4 : Rw g2 w1 (B8 z32) 24 := hn3.row
 have hgd := hn3.hg
 have hgl := lt_of_get hr4
 refine Zad <| Zab <| Zac <| Zac <| Zaa <| rp 5 (.slice a n c) <| rp 6 (.int .i64 n) <| rv 7 (.bool false) (fun _ => Zai (v := .bool ((n : Int) == (0 : Int))) (by kernel_rfl) (congrArg Value.bool (beq_eq_false_iff_ne.2 (by omega)))) <| Zad <| Zab <| Zao (fun _ => by kernel_rfl) <| Zaz ?_
 refine Zab <| Zac <| Zaa <| rp 3 (.slice none 0 0) <| Zad <| Zab <| Zac <| Zac <| Zaa <| rp 4 (.int .i64 0) <| Zad <| Zab ?_
 refine Zay ?_
 refine Zdj (X := Nat × Value) (fun z => [(4, .int .i64 ((z.1 : Nat) : Int)), (3, z.2), (0, .slice a n c), (2, .pointer (some ⟨g2, 0, none⟩))]) (fun z v => Bl w v /\ Rw g2 v (B8 z32) 24 /\ OwnN (fun b => K b \/ w.heap.size <= b) v (g2 + 1) z.2 ((l.take z.1).map (fun e : List Int × List Int => (Ni.nib e.1, e.2))) /\ z.1 <= n) (fun z => n - z.1) (0, .slice none 0 0) (by exact ⟨fun _ => by kernel_rfl, ⟨fun _ => by kernel_rfl, ⟨fun _ => by kernel_rfl, ⟨fun _ => by kernel_rfl, trivial⟩⟩⟩⟩) ⟨hB, hr4, by rw [List.take_zero]; exact ⟨fun b hb => .inr (by omega), [], rfl, ⟨rfl, .inl ⟨rfl, rfl⟩⟩, fun j p e h => by simp at h⟩, Nat.zero_le _⟩ ?_
 clear hB hr4
 rintro ⟨j, V⟩ v ⟨hB, hrd, hO, hj⟩
 simp only at hB hrd hO hj
 show CW _ _ _ _ _ _ _ [(4, .int .i64 ((j : Nat) : Int)), (3, V), (0, .slice a n c), (2, .pointer (some ⟨g2, 0, none⟩))] _
 by_cases hlt : j < n
 ·skip
  obtain ⟨gE, oE, a1, n1, c1, a2, n2, c2, k, x, ea, hej, hc1, hc2, hs1, hs2⟩ := hl0.at hlt
  subst ea
  have lk := hs1.len
  have hkl := hlen j k x hej
  refine Zac <| Zac <| Zaa <| rp 9 (.int .i64 ((j : Nat) : Int)) <| rp 10 (.slice (some ⟨gE, oE, none⟩) n c) <| rp 11 (.int .i64 n) <| rv 12 (.bool true) (fun _ => Zai (v := .bool (decide (((j : Nat) : Int) < (n : Int)))) (by kernel_rfl) (congrArg Value.bool (decide_eq_true (by omega)))) <| Zad <| Zab <| Zan (fun _ => by kernel_rfl) <| Zaz <| Zab ?_
  refine Zac <| Zay <| Zcb (fun v => Bl w v) (by kernel_rfl) (hB.drew) ?_
  replace hB := hB.drew
  replace hrd := hrd.drew
  replace hO := hO.far (Below.refl _ _).drew
  refine dt 0 15 (V) (fun v hv _ => by kernel_rfl) hB <| dt 1 16 (.slice (some ⟨gE, oE, none⟩) n c) (fun v hv _ => by kernel_rfl) hB <| dt 2 17 (.int .i64 ((j : Nat) : Int)) (fun v hv _ => by kernel_rfl) hB <| dt 3 18 (.pointer (some ⟨gE, oE + j * 2, none⟩)) (fun v hv _ => Zas 22 _ _ gE oE j n c 2 34 rfl (by kernel_rfl) (by kernel_rfl) hlt Tryz.underlying22 (by kernel_rfl)) hB <| dt 4 19 (.pointer (some ⟨gE, oE + j * 2, none⟩)) (fun v hv _ => by kernel_rfl) hB <| dt 5 20 (.slice a1 n1 c1) (fun v hv _ => Zam 32 _ _ _ _ rfl (by kernel_rfl) ((Below.cell hv (block_lt_of_cell hc1)).trans hc1) Tryz.underlying32 rfl) hB <| dt 7 22 (.slice (some ⟨gE, oE, none⟩) n c) (fun v hv _ => by kernel_rfl) hB <| dt 8 23 (.int .i64 ((j : Nat) : Int)) (fun v hv _ => by kernel_rfl) hB <| dt 9 24 (.pointer (some ⟨gE, oE + j * 2, none⟩)) (fun v hv _ => Zas 22 _ _ gE oE j n c 2 34 rfl (by kernel_rfl) (by kernel_rfl) hlt Tryz.underlying22 (by kernel_rfl)) hB <| dt 10 25 (.pointer (some ⟨gE, oE + j * 2 + 1, none⟩)) (fun v hv _ => by kernel_rfl) hB <| dt 11 26 (.slice a2 n2 c2) (fun v hv _ => Zam 32 _ _ _ _ rfl (by kernel_rfl) ((Below.cell hv (block_lt_of_cell hc2)).trans hc2) Tryz.underlying32 rfl) hB <| Zah [6] (by kernel_rfl) (by simp) ?_
  refine Zba 6 21 36 #[.slice a1 n1 c1] rfl (fun _ => by kernel_rfl) (fun _ => by kernel_rfl) (R := fun u w' => (∃ a' m' c', u = .slice a' m' c' /\ Sk (fun b => (v.drew).heap.size <= b) w' a' m' c' (Ni.nib k)) /\ Bl (v.drew) w') (Zxg (hs1.go hB) (by omega)) (fun u w' h => hB.go h.2) ?_ Zar
  rintro _ u5 ⟨⟨a6, n6, c6, rfl, hs6⟩, hb6⟩
  have hOw := hO.own
  have hwz := hB.size
  have hz6 := hb6.size
  replace hB := hB.go hb6
  replace hrd := hrd.go hb6
  replace hO := hO.far hb6
  replace hs6 := hs6.mono (K' := fun b => (K b /\ b < w.heap.size) \/ v.drew.heap.size <= b) (fun b hb => .inr hb)
  refine dt 12 27 (.agg #[.slice a6 n6 c6, .slice a2 n2 c2]) (fun v hv => (fun _ => by kernel_rfl)) hB <| Zah [13] (by kernel_rfl) (by simp) ?_
  refine Zgm 13 28 #[.slice a6 n6 c6, .slice a2 n2 c2] 67 1 rfl (fun _ => by kernel_rfl) (fun _ => by kernel_rfl) (fun w' g h => hB.go h.below) ?_ Zar
  intro wN gN hnN
  have hP1 := PAt.oneN hnN hs6 ((hs2.go hB).mono (K' := fun b => (K b /\ b < w.heap.size) \/ v.drew.heap.size <= b) (fun b hb => .inl hb)) (by have := hnN.hg; exact .inr (by omega))
  replace hB := hB.go hnN.below
  replace hrd := hrd.go hnN.below
  replace hO := hO.far hnN.below
  refine Zah [14] (by kernel_rfl) (by simp) ?_
  obtain ⟨V2, wQ, hrQ, hOQ, hbQ⟩ := appN hO hP1 (fun b hb => ⟨fun e => by have := hOw b e; rcases hb with h | h <;> omega, by rcases hb with h | h; exact .inl h.1; exact .inr (by omega)⟩) (by rw [List.length_map, List.length_take]; omega) (lt_of_get hrd)
  have hBQ : Bl w wQ := ⟨hbQ.os.trans hB.os, hbQ.tape.trans hB.tape, hbQ.output.trans hB.output, Nat.le_trans hB.size hbQ.size, fun q hq => (hbQ.block q (by omega)).trans (hB.block q hq)⟩
  refine ar_v 14 29 V2 rfl (fun _ => by kernel_rfl) (fun _ => Zkz hrQ _ _ rfl (by kernel_rfl) (by kernel_rfl)) hBQ ?_ Zar
  replace hrd : Rw g2 wQ (B8 z32) 24 := (hbQ.block g2 (by omega)).trans hrd
  replace hB := hBQ
  replace hO := hOQ
  refine dt 15 3 (V2) (fun v hv _ => by kernel_rfl) hB <| Zbn (by kernel_rfl) <| Zbb <| Zab <| Zaa <| rp 13 (.int .i64 ((j : Nat) : Int)) <| rv 14 (.int .i64 (((j : Nat) : Int) + 1)) (fun _ => Zai (v := .int .i64 (IntKind.i64.wrap (((j : Nat) : Int) + 1))) (by kernel_rfl) (congrArg (Value.int .i64) (Zb6 (by omega) (by omega)))) <| rp 4 (.int .i64 (((j : Nat) : Int) + 1)) <| Zad ?_
  exact Zbi (E := fun z => [(4, .int .i64 ((z.1 : Nat) : Int)), (3, z.2), (0, .slice (some ⟨gE, oE, none⟩) n c), (2, .pointer (some ⟨g2, 0, none⟩))]) (R := fun z v => Bl w v /\ Rw g2 v (B8 z32) 24 /\ OwnN (fun b => K b \/ w.heap.size <= b) v (g2 + 1) z.2 ((l.take z.1).map (fun e : List Int × List Int => (Ni.nib e.1, e.2))) /\ z.1 <= n) (μ := fun z => n - z.1) (x := (j, V)) (j + 1, V2) (by exact ⟨fun _ => by kernel_rfl, ⟨fun _ => by kernel_rfl, ⟨fun _ => by kernel_rfl, ⟨fun _ => by kernel_rfl, trivial⟩⟩⟩⟩) ⟨hB, hrd, by show OwnN _ _ _ _ ((l.take (j + 1)).map _); rw [Zfu _ l j _ hej]; exact hO, by show j + 1 <= n; omega⟩ (by show n - (j + 1) < n - j; omega)
 obtain rfl : j = n := by omega
 rw [List.take_of_length_le (by omega)] at hO
 show CW _ _ _ _ _ _ _ [(4, .int .i64 ((j : Nat) : Int)), (3, V), (0, .slice a j c), (2, .pointer (some ⟨g2, 0, none⟩))] _
 refine Zac <| Zac <| Zaa <| rp 9 (.int .i64 ((j : Nat) : Int)) <| rp 10 (.slice a j c) <| rp 11 (.int .i64 j) <| rv 12 (.bool false) (fun _ => Zai (v := .bool (decide (((j : Nat) : Int) < (j : Int)))) (by kernel_rfl) (congrArg Value.bool (decide_eq_false (by omega)))) <| Zad <| Zab <| Zao (fun _ => by kernel_rfl) <| Zd5 <| Zat ?_
 refine Zat <| Zbj <| Zab <| Zac ?_
 obtain ⟨aF, cF, vsF, eF, hF⟩ := hO.pat
 subst eF
 rw [show l.map (fun e : List Int × List Int => (Ni.nib e.1, e.2)) = entsR t from hRel.ones] at hF
 have lF := hF.ll
 have lO : (l.map (fun e : List Int × List Int => (Ni.nib e.1, e.2))).length = (entsR t).length := congrArg List.length hRel.ones
 refine Zaa <| rp 30 (.slice aF (l.map (fun e : List Int × List Int => (Ni.nib e.1, e.2))).length cF) <| Za1 31 37 #[.slice aF (l.map (fun e : List Int × List Int => (Ni.nib e.1, e.2))).length cF] (fun _ => by kernel_rfl) (fun _ => by kernel_rfl) (R := RB7 (v) t) ((by rw [lO]; exact Zsc t 64 hOk (Nat.le_refl _) hRel.small _ _ _ _ _ _ hF (by rw [<- lO, List.length_map]; omega))) ?_
 rintro _ u2 ⟨⟨a2, n2, c2, rfl, hs2, hm2⟩, hb2⟩
 replace hB := hB.go hb2
 replace hrd := hrd.go hb2
 have l2 := hs2.len
 refine Za1 32 25 #[.slice a2 n2 c2] (fun _ => by kernel_rfl) (fun _ => by kernel_rfl) (R := fun u w' => u = .agg (B8 ds) /\ Bl u2 w') ((Zhe a2 n2 c2 (encT t) u2 hs2.ag (by omega)).mono (fun e w' h => ⟨_, by rw [h.1, hds], rfl, h.2⟩)) ?_
 rintro _ u3 ⟨rfl, hb3⟩
 replace hB := hB.go hb3
 replace hrd := hrd.go hb3
 refine Zcx g2 (B8 ds) (fun _ => by kernel_rfl) (fun _ => Zbf 24 _ _ _ _ _ _ rfl (by kernel_rfl) (by kernel_rfl) hrd (Zce hdl) (Zcv hdl) (B8_one _)) ?_
 intro uE hpE
 replace hB : Bl w uE := hpE.below hB (by omega) hB.size
 have hrE : Rw g2 uE (B8 ds) 24 := hpE.row hrd
 refine Zad <| Zab <| Za5 ?_
 exact Zaf (.agg (B8 ds)) (fun _ => Zfl Tryz.results16 _ g2 ds hdl (by kernel_rfl) hrE) ⟨_, rfl, rfl, hB⟩
theorem Zxw {K : Nat -> Prop} {w : World} {a : Option Addr} {n c : Nat} {vs : List (Value × Value)} {t : Tr} {l : PList} (hRel : Rel t l) (hl : PAt K w a n c vs l) (hb : n <= 2932031007400) :
  Calls Tryz.prog 16 #[.slice a n c] w fun e w' => ∃ u, e = .returned u /\ u = .agg (B8 (rootP t)) /\ Bl w w' := by
 have ll := hl.ll
 have le : (entsR t).length = n := by rw [<- hRel.ones]; unfold onesP; rw [List.length_map]; exact ll
 rcases hRel.ok with rfl | hO
 ·have hn : n = 0 := le.symm
  subst hn
  exact Zzh
 ·have hne := hO.ne
  have h0 := List.length_pos_iff.2 (Zk8 _ hO)
  rw [show rootP t = dref (encT t) from by unfold rootP; rw [if_neg (fun e => hne (isNo_iff.1 e))]]
  exact Zxv hRel hO hl hb (by omega) (fun j k x h => by have := ((hRel.m k x).1 (List.mem_of_getElem? h)).2.1; omega)
set_option maxHeartbeats 4000000 in
theorem Zvv {K : Nat -> Prop} {w : World} {a : Option Addr} {n c : Nat} {vs : List (Value × Value)} {l : PList} (hl : PAt K w a n c vs l) (hb : n + 1 <= 2932031007400) (hl8 : ∀ (j : Nat) q y, l[j]? = some (q, y) -> q.length <= 1000000) {ak ax : Option Addr} {nk ck nx cx : Nat} {k x : List Int} (hk : Sk (fun b => K b /\ b < w.heap.size) w ak nk ck k) (hx : Sk (fun b => K b /\ b < w.heap.size) w ax nx cx x) :
  Calls Tryz.prog 13 #[.slice a n c, .slice ak nk ck, .slice ax nx cx] w fun e w' => ∃ u, e = .returned u /\ (fun u w' => (∃ a' n' c' vs', u = .tuple #[.slice a' n' c', .int .i64 (addE (lkP l) k x)] /\ PAt (fun b => K b \/ w.heap.size <= b) w' a' n' c' vs' (addL l k x)) /\ Bl w w') u w' := by
 have hB := Bl.refl w
 have lk := hk.len
 have lx := hx.len
 have ll := hl.ll
 have hl0 := hl.old
 have hk0 := hk
 have hx0 := hx
 refine Za3 Tryz.func13 rfl 48 rfl ?_
 show CW _ _ _ _ _ _ _ [(0, .slice a n c), (1, .slice ak nk ck), (2, .slice ax nx cx)] _
 refine Zac <| Zaa <| rp 6 (.slice none 0 0) <| rp 7 (.int .i64 0) <| Zad <| Zab <| Zac <| Zac <| Zaa <| rp 9 (.slice ak nk ck) <| rp 10 (.int .i64 nk) <| rp 11 (.bool (decide ((nk : Int) > (32 : Int)))) ?_
 refine Zad <| Zab ?_
 by_cases hk32 : nk <= 32
 ·skip
  rw [show (decide ((nk : Int) > (32 : Int))) = false from decide_eq_false (by omega)]
  refine Zao (fun _ => by kernel_rfl) <| Zaz <| Zab <| Zac <| Zac <| Zaa <| rp 13 (.slice ax nx cx) <| rp 14 (.int .i64 nx) <| rp 15 (.bool ((nx : Int) == (0 : Int))) <| rp 16 (.bool ((nx : Int) == (0 : Int))) ?_
  by_cases hx00 : nx = 0
  ·skip
   rw [show ((nx : Int) == (0 : Int)) = true from beq_iff_eq.2 (by omega)]
   refine Za9 17 (fun _ => by kernel_rfl) <| Za9 18 (fun _ => by kernel_rfl) <| Za9 19 (fun _ => by kernel_rfl) <| rp 20 (.bool true) <| Zad <| Zab <| Zan (fun _ => by kernel_rfl) <| Zac <| Zaa <| rp 21 (.slice a n c) <| rp 6 (.slice a n c) <| rp 7 (.int .i64 71) ?_
   refine Zad <| Zab <| Za5 <| Zap ?_
   have he : addE (lkP l) k x = 71 := by unfold addE; rw [if_pos (by omega), if_neg (by omega)]
   exact Zaf (.tuple #[.slice a n c, .int .i64 71]) (fun _ => by kernel_rfl) ⟨_, rfl, ⟨_, n, c, vs, by rw [he], by unfold addL; rw [if_neg (by rw [he]; decide)]; exact (hl.go hB).mono (fun b hb => .inl hb)⟩, hB⟩
  ·skip
   rw [show ((nx : Int) == (0 : Int)) = false from beq_eq_false_iff_ne.2 (by omega)]
   refine rp 17 (.slice ax nx cx) <| rp 18 (.int .i64 nx) <| rp 19 (.bool (decide ((nx : Int) > (256 : Int)))) <| rp 20 (.bool (decide ((nx : Int) > (256 : Int)))) <| Zad <| Zab ?_
   by_cases hx256 : nx <= 256
   ·skip
    rw [show (decide ((nx : Int) > (256 : Int))) = false from decide_eq_false (by omega)]
    refine Zao (fun _ => by kernel_rfl) <| Zaz <| Zab <| Zac <| Zac <| Zaa <| rp 22 (.slice a n c) <| rp 23 (.int .i64 n) <| rp 24 (.bool (decide ((n : Int) > (0 : Int)))) <| rp 25 (.bool (decide ((n : Int) > (0 : Int)))) ?_
    by_cases hn0 : 0 < n
    ·skip
     rw [show (decide ((n : Int) > (0 : Int))) = true from decide_eq_true (by omega)]
     obtain ⟨gE, oE, a1, n1, c1, a2, n2, c2, k0, x0, ea, hej, hc1, hc2, hs1, hs2⟩ := hl0.at (show n - 1 < n by omega)
     subst ea
     have lk0 := hs1.len
     have hlk : lkP l = some k0 := Zzn (by rw [ll]; exact hej)
     refine rp 26 (.slice (some ⟨gE, oE, none⟩) n c) <| rp 27 (.slice (some ⟨gE, oE, none⟩) n c) <| rp 28 (.int .i64 n) <| rv 29 (.int .i64 ((n - 1 : Nat) : Int)) (fun _ => Zai (v := .int .i64 (IntKind.i64.wrap ((n : Int) - 1))) (by kernel_rfl) (congrArg (Value.int .i64) ((Zb6 (by omega) (by omega)).trans (by omega)))) <| rv 30 (.pointer (some ⟨gE, oE + (n - 1) * 2, none⟩)) (fun _ => Zas 22 _ _ gE oE (n - 1) n c 2 34 rfl (by kernel_rfl) (by kernel_rfl) (by omega) Tryz.underlying22 (by kernel_rfl)) <| rp 31 (.pointer (some ⟨gE, oE + (n - 1) * 2, none⟩)) <| rv 32 (.slice a1 n1 c1) (fun _ => Zam 32 _ _ _ _ rfl (by kernel_rfl) ((Below.cell hB (block_lt_of_cell hc1)).trans hc1) Tryz.underlying32 rfl) <| rp 33 (.slice ak nk ck) <| Za1 34 31 #[.slice a1 n1 c1, .slice ak nk ck] (fun _ => by kernel_rfl) (fun _ => by kernel_rfl) (R := fun u w' => u = .bool (Ni.lessP k0 k) /\ Bl (w) w') ((Ni.rless_any a1 ak n1 c1 nk ck k0 k (w) (hs1.go hB).ag (hk0.go hB).ag (by have := hl8 _ _ _ hej; omega) (by omega)).mono (fun e w' h => ⟨_, h.1, rfl, h.2⟩)) ?_
     rintro _ u1 ⟨rfl, hb1⟩
     replace hB := hB.go hb1
     replace hk := hk.go hb1
     refine rp 35 (.bool (!(Ni.lessP k0 k))) <| rp 36 (.bool (!(Ni.lessP k0 k))) <| Zad <| Zab ?_
     cases hls : Ni.lessP k0 k with
     | true =>
      refine Zww [(36, .bool false), (35, .bool false), (34, .bool true), (33, .slice ak nk ck), (32, .slice a1 n1 c1), (31, .pointer (some ⟨gE, oE + (n - 1) * 2, none⟩)), (30, .pointer (some ⟨gE, oE + (n - 1) * 2, none⟩)), (29, .int .i64 ((n - 1 : Nat) : Int)), (28, .int .i64 n), (27, .slice (some ⟨gE, oE, none⟩) n c), (26, .slice (some ⟨gE, oE, none⟩) n c), (25, .bool true), (24, .bool true), (23, .int .i64 n), (22, .slice (some ⟨gE, oE, none⟩) n c), (20, .bool false), (19, .bool false), (18, .int .i64 nx), (17, .slice ax nx cx), (16, .bool false), (15, .bool false), (14, .int .i64 nx), (13, .slice ax nx cx), (11, .bool false), (10, .int .i64 nk), (9, .slice ak nk ck), (7, .int .i64 0), (6, .slice none 0 0), (0, .slice (some ⟨gE, oE, none⟩) n c), (1, .slice ak nk ck), (2, .slice ax nx cx)] (by exact ⟨fun _ => by kernel_rfl, ⟨fun _ => by kernel_rfl, ⟨fun _ => by kernel_rfl, ⟨fun _ => by kernel_rfl, ⟨fun _ => by kernel_rfl, ⟨fun _ => by kernel_rfl, ⟨fun _ => by kernel_rfl, ⟨fun _ => by kernel_rfl, ⟨fun _ => by kernel_rfl, ⟨fun _ => by kernel_rfl, ⟨fun _ => by kernel_rfl, ⟨fun _ => by kernel_rfl, ⟨fun _ => by kernel_rfl, ⟨fun _ => by kernel_rfl, ⟨fun _ => by kernel_rfl, ⟨fun _ => by kernel_rfl, ⟨fun _ => by kernel_rfl, ⟨fun _ => by kernel_rfl, ⟨fun _ => by kernel_rfl, ⟨fun _ => by kernel_rfl, ⟨fun _ => by kernel_rfl, ⟨fun _ => by kernel_rfl, ⟨fun _ => by kernel_rfl, ⟨fun _ => by kernel_rfl, ⟨fun _ => by kernel_rfl, ⟨fun _ => by kernel_rfl, ⟨fun _ => by kernel_rfl, ⟨fun _ => by kernel_rfl, ⟨fun _ => by kernel_rfl, ⟨fun _ => by kernel_rfl, ⟨fun _ => by kernel_rfl, trivial⟩⟩⟩⟩⟩⟩⟩⟩⟩⟩⟩⟩⟩⟩⟩⟩⟩⟩⟩⟩⟩⟩⟩⟩⟩⟩⟩⟩⟩⟩⟩) <| Zao (fun _ => by kernel_rfl) <| Zaz <| Zab <| Zac <| Zaa <| rp 8 (.slice none 0 0) <| Zad <| Zab <| Zac <| Zaa <| rp 38 (.slice none 0 0) ?_
      refine rp 39 (.slice (some ⟨gE, oE, none⟩) n c) ?_
      have hO := OwnL.none8 (X := fun b => K b \/ w.heap.size <= b) (w := u1) (base := w.heap.size) (fun b hb => .inr hb)
      obtain ⟨VA, wA, hrA, hOA, hbA⟩ := appP hO (hl.go hB) (fun b hb => ⟨by simp [Value.ownBlock], .inl hb⟩) (by simp; omega) hB.size
      refine rw_v 40 VA (fun _ => by kernel_rfl) (fun _ => Zk0 hrA _ _ rfl (by kernel_rfl) (by kernel_rfl)) ?_
      rw [List.nil_append] at hOA
      replace hB : Bl w wA := Below.trans hB hbA
      refine rp 8 (VA) <| Zad <| Zab <| Zac <| Zaa <| rp 41 (VA) <| rp 42 (.slice ak nk ck) <| rp 43 (.slice ax nx cx) <| rp 44 (.agg #[.slice ak nk ck, .slice ax nx cx]) ?_
      have hOw := hOA.own
      have hwz := hB.size
      refine Zdf 45 #[.slice ak nk ck, .slice ax nx cx] 34 1 (fun _ => by kernel_rfl) (fun _ => by kernel_rfl) ?_
      intro wN gN hnN
      have hP1 := PAt.one hnN ((hk0.go hB).mono (K' := fun b => (K b /\ b < w.heap.size) \/ wA.heap.size <= b) (fun b hb => .inl hb)) ((hx0.go hB).mono (K' := fun b => (K b /\ b < w.heap.size) \/ wA.heap.size <= b) (fun b hb => .inl hb)) (by have := hnN.hg; exact .inr (by omega))
      replace hB := hB.go hnN.below
      replace hOA := hOA.far hnN.below
      obtain ⟨VC, wC, hrC, hOC, hbC⟩ := appP hOA hP1 (fun b hb => ⟨fun e => by have := hOw b e; rcases hb with h | h <;> omega, by rcases hb with h | h; exact .inl h.1; exact .inr (by omega)⟩) (by omega) hB.size
      refine rw_v 46 VC (fun _ => by kernel_rfl) (fun _ => Zk0 hrC _ _ rfl (by kernel_rfl) (by kernel_rfl)) ?_
      replace hB : Bl w wC := Below.trans hB hbC
      refine rp 8 (VC) <| Zad <| Zab <| Zac <| Zaa <| rp 47 (VC) <| rp 6 (VC) <| rp 7 (.int .i64 0) <| Zad <| Zab <| Za5 ?_
      have he : addE (lkP l) k x = 0 := by unfold addE; rw [hlk, if_pos (by omega), if_pos (by omega)]; simp only; rw [hls]; simp
      obtain ⟨aF, cF, vsF, eF, hF⟩ := hOC.pat
      subst eF
      exact Zaf (.tuple #[.slice aF (l ++ [(k, x)]).length cF, .int .i64 0]) (fun _ => by kernel_rfl) ⟨_, rfl, ⟨aF, _, cF, vsF, by rw [he], by unfold addL; rw [if_pos he]; exact hF⟩, hB⟩
     | false =>
      refine Zww [(36, .bool true), (35, .bool true), (34, .bool false), (33, .slice ak nk ck), (32, .slice a1 n1 c1), (31, .pointer (some ⟨gE, oE + (n - 1) * 2, none⟩)), (30, .pointer (some ⟨gE, oE + (n - 1) * 2, none⟩)), (29, .int .i64 ((n - 1 : Nat) : Int)), (28, .int .i64 n), (27, .slice (some ⟨gE, oE, none⟩) n c), (26, .slice (some ⟨gE, oE, none⟩) n c), (25, .bool true), (24, .bool true), (23, .int .i64 n), (22, .slice (some ⟨gE, oE, none⟩) n c), (20, .bool false), (19, .bool false), (18, .int .i64 nx), (17, .slice ax nx cx), (16, .bool false), (15, .bool false), (14, .int .i64 nx), (13, .slice ax nx cx), (11, .bool false), (10, .int .i64 nk), (9, .slice ak nk ck), (7, .int .i64 0), (6, .slice none 0 0), (0, .slice (some ⟨gE, oE, none⟩) n c), (1, .slice ak nk ck), (2, .slice ax nx cx)] (by exact ⟨fun _ => by kernel_rfl, ⟨fun _ => by kernel_rfl, ⟨fun _ => by kernel_rfl, ⟨fun _ => by kernel_rfl, ⟨fun _ => by kernel_rfl, ⟨fun _ => by kernel_rfl, ⟨fun _ => by kernel_rfl, ⟨fun _ => by kernel_rfl, ⟨fun _ => by kernel_rfl, ⟨fun _ => by kernel_rfl, ⟨fun _ => by kernel_rfl, ⟨fun _ => by kernel_rfl, ⟨fun _ => by kernel_rfl, ⟨fun _ => by kernel_rfl, ⟨fun _ => by kernel_rfl, ⟨fun _ => by kernel_rfl, ⟨fun _ => by kernel_rfl, ⟨fun _ => by kernel_rfl, ⟨fun _ => by kernel_rfl, ⟨fun _ => by kernel_rfl, ⟨fun _ => by kernel_rfl, ⟨fun _ => by kernel_rfl, ⟨fun _ => by kernel_rfl, ⟨fun _ => by kernel_rfl, ⟨fun _ => by kernel_rfl, ⟨fun _ => by kernel_rfl, ⟨fun _ => by kernel_rfl, ⟨fun _ => by kernel_rfl, ⟨fun _ => by kernel_rfl, ⟨fun _ => by kernel_rfl, ⟨fun _ => by kernel_rfl, trivial⟩⟩⟩⟩⟩⟩⟩⟩⟩⟩⟩⟩⟩⟩⟩⟩⟩⟩⟩⟩⟩⟩⟩⟩⟩⟩⟩⟩⟩⟩⟩) <| Zan (fun _ => by kernel_rfl) <| Zac <| Zaa <| rp 37 (.slice (some ⟨gE, oE, none⟩) n c) <| rp 6 (.slice (some ⟨gE, oE, none⟩) n c) <| rp 7 (.int .i64 80) <| Zad <| Zab <| Za5 <| Zap ?_
      have he : addE (lkP l) k x = 80 := by unfold addE; rw [hlk, if_pos (by omega), if_pos (by omega)]; simp only; rw [hls]; simp
      exact Zaf (.tuple #[.slice (some ⟨gE, oE, none⟩) n c, .int .i64 80]) (fun _ => by kernel_rfl) ⟨_, rfl, ⟨_, n, c, vs, by rw [he], by unfold addL; rw [if_neg (by rw [he]; decide)]; exact (hl.go hB).mono (fun b hb => .inl hb)⟩, hB⟩
    ·skip
     rw [show (decide ((n : Int) > (0 : Int))) = false from decide_eq_false (by omega)]
     have hlk : lkP l = none := by have : l = [] := List.eq_nil_of_length_eq_zero (by omega); rw [this]; rfl
     refine Za9 26 (fun _ => by kernel_rfl) <| Za9 27 (fun _ => by kernel_rfl) <| Za9 28 (fun _ => by kernel_rfl) <| Za9 29 (fun _ => by kernel_rfl) <| Za9 30 (fun _ => by kernel_rfl) <| Za9 31 (fun _ => by kernel_rfl) <| Za9 32 (fun _ => by kernel_rfl) <| Za9 33 (fun _ => by kernel_rfl) <| Za9 34 (fun _ => by kernel_rfl) <| Za9 35 (fun _ => by kernel_rfl) <| rp 36 (.bool false) <| Zad ?_
     refine Zab <| Zao (fun _ => by kernel_rfl) <| Zaz <| Zab <| Zac <| Zaa <| rp 8 (.slice none 0 0) <| Zad <| Zab <| Zac <| Zaa <| rp 38 (.slice none 0 0) ?_
     refine rp 39 (.slice a n c) ?_
     have hO := OwnL.none8 (X := fun b => K b \/ w.heap.size <= b) (w := w) (base := w.heap.size) (fun b hb => .inr hb)
     obtain ⟨VA, wA, hrA, hOA, hbA⟩ := appP hO (hl.go hB) (fun b hb => ⟨by simp [Value.ownBlock], .inl hb⟩) (by simp; omega) hB.size
     refine rw_v 40 VA (fun _ => by kernel_rfl) (fun _ => Zk0 hrA _ _ rfl (by kernel_rfl) (by kernel_rfl)) ?_
     rw [List.nil_append] at hOA
     replace hB : Bl w wA := Below.trans hB hbA
     refine rp 8 (VA) <| Zad <| Zab <| Zac <| Zaa <| rp 41 (VA) <| rp 42 (.slice ak nk ck) <| rp 43 (.slice ax nx cx) <| rp 44 (.agg #[.slice ak nk ck, .slice ax nx cx]) ?_
     have hOw := hOA.own
     have hwz := hB.size
     refine Zdf 45 #[.slice ak nk ck, .slice ax nx cx] 34 1 (fun _ => by kernel_rfl) (fun _ => by kernel_rfl) ?_
     intro wN gN hnN
     have hP1 := PAt.one hnN ((hk0.go hB).mono (K' := fun b => (K b /\ b < w.heap.size) \/ wA.heap.size <= b) (fun b hb => .inl hb)) ((hx0.go hB).mono (K' := fun b => (K b /\ b < w.heap.size) \/ wA.heap.size <= b) (fun b hb => .inl hb)) (by have := hnN.hg; exact .inr (by omega))
     replace hB := hB.go hnN.below
     replace hOA := hOA.far hnN.below
     obtain ⟨VC, wC, hrC, hOC, hbC⟩ := appP hOA hP1 (fun b hb => ⟨fun e => by have := hOw b e; rcases hb with h | h <;> omega, by rcases hb with h | h; exact .inl h.1; exact .inr (by omega)⟩) (by omega) hB.size
     refine rw_v 46 VC (fun _ => by kernel_rfl) (fun _ => Zk0 hrC _ _ rfl (by kernel_rfl) (by kernel_rfl)) ?_
     replace hB : Bl w wC := Below.trans hB hbC
     refine rp 8 (VC) <| Zad <| Zab <| Zac <| Zaa <| rp 47 (VC) <| rp 6 (VC) <| rp 7 (.int .i64 0) <| Zad <| Zab <| Za5 ?_
     have he : addE (lkP l) k x = 0 := by unfold addE; rw [hlk, if_pos (by omega), if_pos (by omega)]
     obtain ⟨aF, cF, vsF, eF, hF⟩ := hOC.pat
     subst eF
     exact Zaf (.tuple #[.slice aF (l ++ [(k, x)]).length cF, .int .i64 0]) (fun _ => by kernel_rfl) ⟨_, rfl, ⟨aF, _, cF, vsF, by rw [he], by unfold addL; rw [if_pos he]; exact hF⟩, hB⟩
   ·skip
    rw [show (decide ((nx : Int) > (256 : Int))) = true from decide_eq_true (by omega)]
    refine Zan (fun _ => by kernel_rfl) <| Zac <| Zaa <| rp 21 (.slice a n c) <| rp 6 (.slice a n c) <| rp 7 (.int .i64 71) <| Zad <| Zab <| Za5 <| Zap ?_
    have he : addE (lkP l) k x = 71 := by unfold addE; rw [if_pos (by omega), if_neg (by omega)]
    exact Zaf (.tuple #[.slice a n c, .int .i64 71]) (fun _ => by kernel_rfl) ⟨_, rfl, ⟨_, n, c, vs, by rw [he], by unfold addL; rw [if_neg (by rw [he]; decide)]; exact (hl.go hB).mono (fun b hb => .inl hb)⟩, hB⟩
 ·skip
  rw [show (decide ((nk : Int) > (32 : Int))) = true from decide_eq_true (by omega)]
  refine Zan (fun _ => by kernel_rfl) <| Zac <| Zaa <| rp 12 (.slice a n c) <| rp 6 (.slice a n c) <| rp 7 (.int .i64 70) <| Zad <| Zab <| Za5 <| Zap ?_
  have he : addE (lkP l) k x = 70 := by unfold addE; rw [if_neg (by omega)]
  exact Zaf (.tuple #[.slice a n c, .int .i64 70]) (fun _ => by kernel_rfl) ⟨_, rfl, ⟨_, n, c, vs, by rw [he], by unfold addL; rw [if_neg (by rw [he]; decide)]; exact (hl.go hB).mono (fun b hb => .inl hb)⟩, hB⟩
structure Tk (t : Tr) (T : PList) : Prop where
 rel : Rel t T
 lst : Lst (lkP T) T
theorem Tk.nil : Tk no [] := ⟨Rel.nil, rfl⟩
theorem Tk.step {t : Tr} {T : PList} {k x : List Int} (h : Tk t T) (hk : Byk k) (he : addE (lkP T) k x = 0) : Tk (putT t k x) (addL T k x) /\ lkP (addL T k x) = some k /\ (addL T k x).length = T.length + 1 := by
 obtain ⟨h1, h2⟩ := h.lst.step he
 have h3 := h.rel.put (x := x) hk
 have h4 : addL T k x = T ++ [(k, x)] := if_pos he
 rw [h1] at h2 h3
 rw [h4, Zsm]
 exact ⟨⟨h3, by rw [Zsm]; exact h2⟩, rfl, by simp⟩
theorem Tk.small {t : Tr} {T : PList} (h : Tk t T) : ∀ (j : Nat) q y, T[j]? = some (q, y) -> q.length <= 1000000 := fun j q y hq => by have := ((h.rel.m q y).1 (List.mem_of_getElem? hq)).2.1; omega
theorem Zzd (K : Nat -> Prop) (w : World) : PAt K w none 0 0 [] [] := ⟨rfl, rfl, Nat.le_refl _, fun _ => ⟨rfl, rfl⟩, fun j u hj => by simp [flatP] at hj, fun j p e h => by simp at h, fun x hx => by cases hx⟩
theorem PAt.keep8 {K L : Nat -> Prop} {w w' : World} {a : Option Addr} {n c : Nat} {vs : List (Value × Value)} {l : PList} (h : PAt K w a n c vs l) (hk : Keep K L w w') : PAt L w' a n c vs l := by
 refine ⟨h.vl, h.ll, h.nc, h.nil, fun j u hj => ?_, fun j p e h1 h2 => ?_, fun x hx hn => ?_⟩
 ·obtain ⟨g, off, e1, e2⟩ := h.row j u hj
  have hn : 0 < n := by
   have := (List.getElem?_eq_some_iff.1 hj).1
   have h2 := h.vl
   rcases Nat.eq_zero_or_pos n with h0 | h0
   ·rw [h0] at h2; rw [List.eq_nil_of_length_eq_zero h2] at this; simp [flatP] at this
   ·exact h0
  exact ⟨g, off, e1, (World.cell?_of_block (w := w) (hk g (h.rk _ e1 hn) (block_lt_of_cell e2)).1).trans e2⟩
 ·obtain ⟨a1, n1, c1, a2, n2, c2, e1, e2, h3, h4⟩ := h.gd j p e h1 h2
  exact ⟨a1, n1, c1, a2, n2, c2, e1, e2, h3.keep hk, h4.keep hk⟩
 ·have hlt : x.block < w.heap.size := by
   have h2 := h.vl
   obtain ⟨p, r, hv⟩ : ∃ p r, vs = p :: r := by
    cases vs with
    | nil => simp at h2; omega
    | cons p r => exact ⟨p, r, rfl⟩
   obtain ⟨g, off, e1, e2⟩ := h.row 0 p.1 (by rw [hv]; simp [flatP])
   rw [e1] at hx; cases hx
   exact block_lt_of_cell e2
  exact (hk _ (h.rk x hx hn) hlt).2
theorem Af.keep8 {gB : Nat} {w w' : World} {v v' : Value} (h : Af gB w w' v v') : Keep (fun b => KF v b /\ b ≠ gB) (fun b => KF v' b /\ b ≠ gB) w w' := fun b hb hl => ⟨h.block b hl hb.2 hb.1, by
 refine ⟨?_, hb.2⟩
 rcases h.own with e | e
 ·unfold KF; rw [e]; exact hb.1
 ·exact fun q => by have := e b q; omega⟩
theorem ol_neD8 {ρ : Operand -> Value} {w : World} {x y : Operand} {o : Oper} {ds : List Int} (ho : o.op = .binOp .neq 24 x y 24) (hx : ρ x = .agg (B8 ds)) (hy : ρ y = .agg (B8 ds)) (hl : ds.length = 32) : (execOp ρ o).run Tryz.prog w = .ok (.value (.bool false)) w := by
 have e := eqD ds ds hl hl w
 unfold execOp
 rw [ho]
 simp only [hx, hy]
 go_simp
set_option maxHeartbeats 8000000 in
theorem builds8_x {K : Nat -> Prop} {w : World} {a : Option Addr} {n c : Nat} {vs : List (Value × Value)} {l : PList} {z : Int} (hl : PAt K w a n c vs l) (hn : n <= 2932031007317) :
  Calls Tryz.prog 4 #[.slice a n c, .int .i64 z] w fun e w' => ∃ u, e = .returned u /\ (fun u w' => u = .bool true /\ Bl w w') u w' := by
 have hB := Bl.refl w
 have hlo := hl.old
 have hll := hl.ll
 refine Za3 Tryz.func4 rfl 68 rfl ?_
 show CW _ _ _ _ _ _ _ [(0, .slice a n c), (1, .int .i64 z)] _
 refine Zac <| Zaa <| rp 4 (.bool false) <| Zad <| Zab <| Zac <| Zaa <| Za1 12 11 #[] (fun _ => by kernel_rfl) (fun _ => by kernel_rfl) (R := fun u w' => (∃ gB, u = .pointer (some ⟨gB, 0, none⟩) /\ Bu (fun _ => True) w' 0 gB 0 no none (.slice none 0 0) /\ w.heap.size <= gB) /\ Bl w w') (Zpl (Y := fun _ => True) 0) ?_
 rintro _ u1 ⟨⟨gB, rfl, hU, hgB⟩, hb1⟩
 replace hB := hB.go hb1
 have hgl := hU.lo.2
 refine rp 5 (.pointer (some ⟨gB, 0, none⟩)) <| Zad <| Zab <| Zac <| Zac <| Zaa <| rp 13 (.pointer (some ⟨gB, 0, none⟩)) <| rp 14 (.bool false) <| rp 15 (.bool false) <| Za1 16 10 #[] (fun _ => by kernel_rfl) (fun _ => by kernel_rfl) (R := fun u w' => u = .bool true /\ Bl u1 w') (Zt6) ?_
 rintro _ u3 ⟨rfl, hb3⟩
 replace hB := hB.go hb3
 replace hU := hU.go hb3
 refine rp 17 (.bool false) <| rp 18 (.bool false) <| Zad <| Zab <| Zao (fun _ => by kernel_rfl) <| Zaz <| Zab <| Zac <| Zaa <| rp 6 (.slice none 0 0) <| Zad <| Zab ?_
 refine Zac <| Zac <| Zaa <| rp 19 (.slice a n c) <| rp 20 (.int .i64 n) <| rp 21 (.int .i64 0) <| Zad <| Zab <| Zay ?_
 obtain ⟨bs, hbs⟩ : ∃ b, u3.heap.size = b := ⟨_, rfl⟩
 have hU0 : Bu (fun _ => True) u3 bs gB 0 no none (.slice none 0 0) := hU.anew bs
 have hz3 := hB.size
 have hgB3 := hU.lo.2
 refine Zdj (X := Nat × Option Addr × Nat × Nat) (fun q => [(21, .int .i64 ((q.1 : Nat) : Int)), (19, .slice a n c), (20, .int .i64 n), (5, .pointer (some ⟨gB, 0, none⟩)), (6, .slice q.2.1 q.2.2.1 q.2.2.2), (1, .int .i64 z)]) (fun q v => Bl w v /\ (∃ t T vW vsT, Bu (fun _ => True) v bs gB T.length t (lkP T) vW /\ PAt (fun b => KF vW b /\ b ≠ gB) v q.2.1 q.2.2.1 q.2.2.2 vsT T /\ Tk t T /\ T.length <= q.1) /\ q.1 <= n /\ bs <= v.heap.size) (fun q => n - q.1) (0, none, 0, 0) (by exact ⟨fun _ => by kernel_rfl, ⟨fun _ => by kernel_rfl, ⟨fun _ => by kernel_rfl, ⟨fun _ => by kernel_rfl, ⟨fun _ => by kernel_rfl, ⟨fun _ => by kernel_rfl, trivial⟩⟩⟩⟩⟩⟩) ⟨hB, ⟨no, [], .slice none 0 0, [], hU0, Zzd _ _, Tk.nil, Nat.le_refl _⟩, Nat.zero_le _, by show bs <= u3.heap.size; omega⟩ ?_
 clear hB hU hU0
 rintro ⟨j, aT, nT, cT⟩ v ⟨hB, ⟨t, T, vW, vsT, hU, hT, hk, hTl⟩, hj, hbv⟩
 simp only at hB hU hT hTl hj hbv
 have hTn := hT.ll
 show CW _ _ _ _ _ _ _ [(21, .int .i64 ((j : Nat) : Int)), (19, .slice a n c), (20, .int .i64 n), (5, .pointer (some ⟨gB, 0, none⟩)), (6, .slice aT nT cT), (1, .int .i64 z)] _
 by_cases hlt : j < n
 ·skip
  obtain ⟨gE, oE, a1, n1, c1, a2, n2, c2, k, x, ea, hej, hc1, hc2, hs1, hs2⟩ := (hlo.go hB).at hlt
  subst ea
  have hUl0 := hU.lo
  refine Zac <| Zaa <| rv 22 (.bool true) (fun _ => Zai (v := .bool (decide (((j : Nat) : Int) < (n : Int)))) (by kernel_rfl) (congrArg Value.bool (decide_eq_true (by omega)))) <| Zad <| Zab <| Zac <| Zan (fun _ => by kernel_rfl) <| Zaz <| Zab <| Zac <| Zay <| Zac ?_
  refine Zaa <| rp 23 (.int .i64 ((j : Nat) : Int)) <| rv 24 (.pointer (some ⟨gE, oE + j * 2, none⟩)) (fun _ => Zas 22 _ _ gE oE j n c 2 34 rfl (by kernel_rfl) (by kernel_rfl) hlt Tryz.underlying22 (by kernel_rfl)) <| rv 25 (.agg #[.slice a1 n1 c1, .slice a2 n2 c2]) (fun _ => Zl7 34 _ gE (oE + j * 2) [.slice a1 n1 c1, .slice a2 n2 c2] _ rfl (by kernel_rfl) (rng2 hc1 hc2) Tryz.underlying34 rfl (by kernel_rfl)) <| Zb7 8 #[.slice none 0 0, .slice none 0 0] 34 (fun _ => by kernel_rfl) (fun _ => by kernel_rfl) ?_
  intro wA gA hnA
  refine rp 7 (.int .i64 ((j : Nat) : Int)) <| Zcx gA #[.slice a1 n1 c1, .slice a2 n2 c2] (fun _ => by kernel_rfl) (fun _ => Zbf 34 _ _ _ _ _ _ rfl (by kernel_rfl) (by kernel_rfl) hnA.row (by kernel_rfl) rfl (by kernel_rfl)) ?_
  intro wC hpC
  have hnC := hnA.put hpC
  have hgA := hnC.hg
  replace hB := hB.go hnC.below
  replace hU := hU.go hnC.below
  replace hT := hT.go hnC.below
  replace hs1 := hs1.go hnC.below
  replace hs2 := hs2.go hnC.below
  have hrA : Rw gA wC #[.slice a1 n1 c1, .slice a2 n2 c2] 34 := hnC.row
  refine Zad <| Zab <| Zac <| Zaa <| rp 26 (.pointer (some ⟨gB, 0, none⟩)) <| rp 27 (.pointer (some ⟨gA, 0, none⟩)) <| rv 28 (.slice a1 n1 c1) (fun _ => Zam 32 _ ⟨gA, 0, none⟩ _ _ rfl (by kernel_rfl) (by rw [cell_of_row _ _ _ _ _ _ hrA]; rfl) Tryz.underlying32 rfl) <| rp 29 (.pointer (some ⟨gA, 1, none⟩)) <| rv 30 (.slice a2 n2 c2) (fun _ => Zam 32 _ ⟨gA, 1, none⟩ _ _ rfl (by kernel_rfl) (by rw [cell_of_row _ _ _ _ _ _ hrA]; rfl) Tryz.underlying32 rfl) ?_
  have hUl := hU.lo
  have hkB : isB k := hs1.ag.b
  refine Za1 31 12 #[.pointer (some ⟨gB, 0, none⟩), .slice a1 n1 c1, .slice a2 n2 c2] (fun _ => by kernel_rfl) (fun _ => by kernel_rfl) (R := RAd (fun _ => True) (wC) bs gB T.length t (lkP T) vW k x) (Zpo hU (fun _ _ => trivial) (by have := hnC.below.size; omega) (by omega) (hs1.mono (fun b hb => ⟨by have := hb.2; omega, by have := hb.2; omega⟩)) (hs2.mono (fun b hb => ⟨by have := hb.2; omega, by have := hb.2; omega⟩))) ?_
  rintro _ u4 ⟨rfl, vW2, hU2, hA2⟩
  have hz4 := hA2.size
  have hzC := hnC.below.size
  have hrA4 := (hA2.block gA (lt_of_get hrA) (by omega) (fun e => by have := hnC.hg; have := (hUl0.1 gA e).2; omega)).trans hrA
  replace hT := hT.keep8 hA2.keep8
  replace hs1 := hs1.keep (L := fun b => b < w.heap.size) (fun b hb hl => ⟨hA2.block b hl (by have := hb.2; omega) (fun e => by have := (hUl.1 b e).1; have := hb.2; omega), hb.2⟩)
  replace hs2 := hs2.keep (L := fun b => b < w.heap.size) (fun b hb hl => ⟨hA2.block b hl (by have := hb.2; omega) (fun e => by have := (hUl.1 b e).1; have := hb.2; omega), hb.2⟩)
  replace hB : Bl w u4 := hA2.blw hB (by omega) (fun k hk => by have := (hUl.1 k hk).1; omega)
  clear hU hrA
  have hrA : Rw gA u4 #[.slice a1 n1 c1, .slice a2 n2 c2] 34 := hrA4
  have hU2l := hU2.lo
  have hV := Bl.refl u4
  refine rp 9 (.int .i64 (addE (lkP T) k x)) <| Zad <| Zab <| Zac <| Zaa <| rp 33 (.slice aT nT cT) <| rp 34 (.pointer (some ⟨gA, 0, none⟩)) <| rv 35 (.slice a1 n1 c1) (fun _ => Zam 32 _ ⟨gA, 0, none⟩ _ _ rfl (by kernel_rfl) (by rw [cell_of_row _ _ _ _ _ _ hrA]; rfl) Tryz.underlying32 rfl) <| rp 36 (.pointer (some ⟨gA, 1, none⟩)) <| rv 37 (.slice a2 n2 c2) (fun _ => Zam 32 _ ⟨gA, 1, none⟩ _ _ rfl (by kernel_rfl) (by rw [cell_of_row _ _ _ _ _ _ hrA]; rfl) Tryz.underlying32 rfl) ?_
  have hU2lo : ∀ b, vW2.ownBlock = some b -> bs <= b /\ b < u4.heap.size := hU2l.1
  refine Za1 38 13 #[.slice aT nT cT, .slice a1 n1 c1, .slice a2 n2 c2] (fun _ => by kernel_rfl) (fun _ => by kernel_rfl) (R := fun u w' => (∃ a' n' c' vs', u = .tuple #[.slice a' n' c', .int .i64 (addE (lkP T) k x)] /\ PAt (fun b => (KF vW2 b /\ b ≠ gB) \/ (u4).heap.size <= b) w' a' n' c' vs' (addL T k x)) /\ Bl (u4) w') (Zvv hT (by omega) hk.small (hs1.mono (fun b hb => ⟨⟨fun e => by have := (hU2lo b e).1; have : b < w.heap.size := hb; omega, by have : b < w.heap.size := hb; omega⟩, by have : b < w.heap.size := hb; have := hB.size; omega⟩)) (hs2.mono (fun b hb => ⟨⟨fun e => by have := (hU2lo b e).1; have : b < w.heap.size := hb; omega, by have : b < w.heap.size := hb; omega⟩, by have : b < w.heap.size := hb; have := hB.size; omega⟩))) ?_
  rintro _ u6 ⟨⟨a6, n6, c6, vs6, rfl, hP6⟩, hb6⟩
  replace hT := hP6.mono (K' := fun b => KF vW2 b /\ b ≠ gB) (fun b hb => by rcases hb with h | h; exact h; exact ⟨fun e => by have := (hU2lo b e).2; omega, by have := hU2l.2; omega⟩)
  replace hB := hB.go hb6
  replace hs1 := hs1.go hb6
  replace hs2 := hs2.go hb6
  replace hU2 := hU2.go hb6
  replace hV := hV.go hb6
  replace hrA := hrA.go hb6
  have l6 := hT.ll
  refine rp 32 (.tuple #[.slice a6 n6 c6, .int .i64 (addE (lkP T) k x)]) <| rp 39 (.slice a6 n6 c6) <| rp 40 (.int .i64 (addE (lkP T) k x)) <| rp 10 (.slice a6 n6 c6) <| rp 11 (.int .i64 (addE (lkP T) k x)) <| Zad <| Zab <| Zac <| Zac ?_
  by_cases he : addE (lkP T) k x = 0
  ·skip
   obtain ⟨hk2, hlk2, hln2⟩ := hk.step (x := x) hkB he
   have hU := hU2
   rw [if_pos he, if_pos he, if_pos he, <- hln2, <- hlk2] at hU
   refine Zaa <| rp 41 (.int .i64 (addE (lkP T) k x)) <| rp 42 (.int .i64 (addE (lkP T) k x)) <| rv 43 (.bool false) (fun _ => Zai (v := .bool (!((addE (lkP T) k x : Int) == (addE (lkP T) k x : Int)))) (by kernel_rfl) (congrArg Value.bool (by simp))) <| rp 44 (.bool false) <| rp 45 (.pointer (some ⟨gB, 0, none⟩)) <| Za1 46 14 #[.pointer (some ⟨gB, 0, none⟩)] (fun _ => by kernel_rfl) (fun _ => by kernel_rfl) (R := fun u w' => u = .int .i64 (((addL T k x).length : Nat) : Int) /\ Bl (u6) w') ((Zvr hU)) ?_
   rintro _ u1 ⟨rfl, hb2⟩
   replace hB := hB.go hb2
   replace hs1 := hs1.go hb2
   replace hs2 := hs2.go hb2
   replace hV := hV.go hb2
   replace hrA := hrA.go hb2
   replace hT := hT.go hb2
   replace hU := hU.go hb2
   refine rp 47 (.slice a6 n6 c6) <| rp 48 (.int .i64 n6) <| rv 49 (.bool false) (fun _ => Zai (v := .bool (!((((addL T k x).length : Nat) : Int) == (n6 : Int)))) (by kernel_rfl) (congrArg Value.bool (by rw [l6]; simp))) <| rp 50 (.bool false) <| Zad <| Zab <| Zao (fun _ => by kernel_rfl) <| Zaz <| Zab <| Zac <| Zaa <| rp 51 (.slice a6 n6 c6) ?_
   refine rp 6 (.slice a6 n6 c6) <| Zad <| Zab <| Zac ?_
   have hdl := Zdl (putT t k x)
   obtain ⟨ds, hds⟩ : ∃ ds, rootP (putT t k x) = ds := ⟨_, rfl⟩
   rw [hds] at hdl
   refine Zaa <| rp 52 (.int .i64 ((j : Nat) : Int)) <| rp 53 (.int .i64 z) <| rp 54 (.bool (((j : Nat) : Int) == (z : Int))) <| rp 55 (.bool (((j : Nat) : Int) == (z : Int))) ?_
   cases hq3 : (((j : Nat) : Int) == (z : Int)) with
   | true =>
    refine rp 56 (.pointer (some ⟨gB, 0, none⟩)) <| Za1 57 15 #[.pointer (some ⟨gB, 0, none⟩)] (fun _ => by kernel_rfl) (fun _ => by kernel_rfl) (R := fun u w' => u = .agg (B8 ds) /\ Bl (u1) w') (((Zmu hU).mono (fun e w' ⟨u, e1, e2, e3⟩ => ⟨u, e1, by rw [e2, hds], e3⟩))) ?_
    rintro _ u4 ⟨rfl, hb5⟩
    replace hB := hB.go hb5
    replace hs1 := hs1.go hb5
    replace hs2 := hs2.go hb5
    replace hV := hV.go hb5
    replace hrA := hrA.go hb5
    replace hT := hT.go hb5
    replace hU := hU.go hb5
    refine rp 58 (.slice a6 n6 c6) <| Za1 59 16 #[.slice a6 n6 c6] (fun _ => by kernel_rfl) (fun _ => by kernel_rfl) (R := fun u w' => u = .agg (B8 ds) /\ Bl (u4) w') (((Zxw hk2.rel hT (by omega)).mono (fun e w' ⟨u, e1, e2, e3⟩ => ⟨u, e1, by rw [e2, hds], e3⟩))) ?_
    rintro _ u6 ⟨rfl, hb7⟩
    replace hB := hB.go hb7
    replace hs1 := hs1.go hb7
    replace hs2 := hs2.go hb7
    replace hV := hV.go hb7
    replace hrA := hrA.go hb7
    replace hT := hT.go hb7
    replace hU := hU.go hb7
    refine rv 60 (.bool false) (fun _ => ol_neD8 rfl (by kernel_rfl) (by kernel_rfl) hdl) <| rp 61 (.bool false) <| Zad <| Zab <| Zao (fun _ => by kernel_rfl) <| Zaz <| Zbb <| Zab <| Zaa <| rv 62 (.int .i64 (((j : Nat) : Int) + 1)) (fun _ => Zai (v := .int .i64 (IntKind.i64.wrap (((j : Nat) : Int) + 1))) (by kernel_rfl) (congrArg (Value.int .i64) (Zb6 (by omega) (by omega)))) <| rp 21 (.int .i64 (((j : Nat) : Int) + 1)) <| Zad ?_
    exact Zbi (E := fun q => [(21, .int .i64 ((q.1 : Nat) : Int)), (19, .slice (some ⟨gE, oE, none⟩) n c), (20, .int .i64 n), (5, .pointer (some ⟨gB, 0, none⟩)), (6, .slice q.2.1 q.2.2.1 q.2.2.2), (1, .int .i64 z)]) (R := fun q v => Bl w v /\ (∃ t T vW vsT, Bu (fun _ => True) v bs gB T.length t (lkP T) vW /\ PAt (fun b => KF vW b /\ b ≠ gB) v q.2.1 q.2.2.1 q.2.2.2 vsT T /\ Tk t T /\ T.length <= q.1) /\ q.1 <= n /\ bs <= v.heap.size) (μ := fun q => n - q.1) (x := (j, aT, nT, cT)) (j + 1, a6, n6, c6) (by exact ⟨fun _ => by kernel_rfl, ⟨fun _ => by kernel_rfl, ⟨fun _ => by kernel_rfl, ⟨fun _ => by kernel_rfl, ⟨fun _ => by kernel_rfl, ⟨fun _ => by kernel_rfl, trivial⟩⟩⟩⟩⟩⟩) ⟨hB, ⟨putT t k x, addL T k x, vW2, vs6, hU, hT, hk2, by show (addL T k x).length <= j + 1; omega⟩, by show j + 1 <= n; omega, by show bs <= _; have := hB.size; have := hV.size; omega⟩ (by show n - (j + 1) < n - j; omega)
   | false =>
    refine Za9 56 (fun _ => by kernel_rfl) <| Za9 57 (fun _ => by kernel_rfl) <| Za9 58 (fun _ => by kernel_rfl) <| Za9 59 (fun _ => by kernel_rfl) <| Za9 60 (fun _ => by kernel_rfl) <| rp 61 (.bool false) <| Zad <| Zab <| Zao (fun _ => by kernel_rfl) <| Zaz <| Zbb <| Zab ?_
    refine Zaa <| rv 62 (.int .i64 (((j : Nat) : Int) + 1)) (fun _ => Zai (v := .int .i64 (IntKind.i64.wrap (((j : Nat) : Int) + 1))) (by kernel_rfl) (congrArg (Value.int .i64) (Zb6 (by omega) (by omega)))) <| rp 21 (.int .i64 (((j : Nat) : Int) + 1)) <| Zad ?_
    exact Zbi (E := fun q => [(21, .int .i64 ((q.1 : Nat) : Int)), (19, .slice (some ⟨gE, oE, none⟩) n c), (20, .int .i64 n), (5, .pointer (some ⟨gB, 0, none⟩)), (6, .slice q.2.1 q.2.2.1 q.2.2.2), (1, .int .i64 z)]) (R := fun q v => Bl w v /\ (∃ t T vW vsT, Bu (fun _ => True) v bs gB T.length t (lkP T) vW /\ PAt (fun b => KF vW b /\ b ≠ gB) v q.2.1 q.2.2.1 q.2.2.2 vsT T /\ Tk t T /\ T.length <= q.1) /\ q.1 <= n /\ bs <= v.heap.size) (μ := fun q => n - q.1) (x := (j, aT, nT, cT)) (j + 1, a6, n6, c6) (by exact ⟨fun _ => by kernel_rfl, ⟨fun _ => by kernel_rfl, ⟨fun _ => by kernel_rfl, ⟨fun _ => by kernel_rfl, ⟨fun _ => by kernel_rfl, ⟨fun _ => by kernel_rfl, trivial⟩⟩⟩⟩⟩⟩) ⟨hB, ⟨putT t k x, addL T k x, vW2, vs6, hU, hT, hk2, by show (addL T k x).length <= j + 1; omega⟩, by show j + 1 <= n; omega, by show bs <= _; have := hB.size; have := hV.size; omega⟩ (by show n - (j + 1) < n - j; omega)
  ·skip
   have hTe : addL T k x = T := if_neg he
   rw [hTe] at hT l6
   have hU := hU2
   rw [if_neg he, if_neg he, if_neg he] at hU
   refine Zaa <| rp 41 (.int .i64 (addE (lkP T) k x)) <| rp 42 (.int .i64 (addE (lkP T) k x)) <| rv 43 (.bool false) (fun _ => Zai (v := .bool (!((addE (lkP T) k x : Int) == (addE (lkP T) k x : Int)))) (by kernel_rfl) (congrArg Value.bool (by simp))) <| rp 44 (.bool false) <| rp 45 (.pointer (some ⟨gB, 0, none⟩)) <| Za1 46 14 #[.pointer (some ⟨gB, 0, none⟩)] (fun _ => by kernel_rfl) (fun _ => by kernel_rfl) (R := fun u w' => u = .int .i64 ((T.length : Nat) : Int) /\ Bl (u6) w') ((Zvr hU)) ?_
   rintro _ u8 ⟨rfl, hb9⟩
   replace hB := hB.go hb9
   replace hs1 := hs1.go hb9
   replace hs2 := hs2.go hb9
   replace hV := hV.go hb9
   replace hrA := hrA.go hb9
   replace hT := hT.go hb9
   replace hU := hU.go hb9
   refine rp 47 (.slice a6 n6 c6) <| rp 48 (.int .i64 n6) <| rv 49 (.bool false) (fun _ => Zai (v := .bool (!(((T.length : Nat) : Int) == (n6 : Int)))) (by kernel_rfl) (congrArg Value.bool (by rw [l6]; simp))) <| rp 50 (.bool false) <| Zad <| Zab <| Zao (fun _ => by kernel_rfl) <| Zaz <| Zab <| Zac <| Zaa <| rp 51 (.slice a6 n6 c6) ?_
   refine rp 6 (.slice a6 n6 c6) <| Zad <| Zab <| Zac ?_
   have hdl := Zdl t
   obtain ⟨ds, hds⟩ : ∃ ds, rootP t = ds := ⟨_, rfl⟩
   rw [hds] at hdl
   refine Zaa <| rp 52 (.int .i64 ((j : Nat) : Int)) <| rp 53 (.int .i64 z) <| rp 54 (.bool (((j : Nat) : Int) == (z : Int))) <| rp 55 (.bool (((j : Nat) : Int) == (z : Int))) ?_
   cases hq10 : (((j : Nat) : Int) == (z : Int)) with
   | true =>
    refine rp 56 (.pointer (some ⟨gB, 0, none⟩)) <| Za1 57 15 #[.pointer (some ⟨gB, 0, none⟩)] (fun _ => by kernel_rfl) (fun _ => by kernel_rfl) (R := fun u w' => u = .agg (B8 ds) /\ Bl (u8) w') (((Zmu hU).mono (fun e w' ⟨u, e1, e2, e3⟩ => ⟨u, e1, by rw [e2, hds], e3⟩))) ?_
    rintro _ u11 ⟨rfl, hb12⟩
    replace hB := hB.go hb12
    replace hs1 := hs1.go hb12
    replace hs2 := hs2.go hb12
    replace hV := hV.go hb12
    replace hrA := hrA.go hb12
    replace hT := hT.go hb12
    replace hU := hU.go hb12
    refine rp 58 (.slice a6 n6 c6) <| Za1 59 16 #[.slice a6 n6 c6] (fun _ => by kernel_rfl) (fun _ => by kernel_rfl) (R := fun u w' => u = .agg (B8 ds) /\ Bl (u11) w') (((Zxw hk.rel hT (by omega)).mono (fun e w' ⟨u, e1, e2, e3⟩ => ⟨u, e1, by rw [e2, hds], e3⟩))) ?_
    rintro _ u13 ⟨rfl, hb14⟩
    replace hB := hB.go hb14
    replace hs1 := hs1.go hb14
    replace hs2 := hs2.go hb14
    replace hV := hV.go hb14
    replace hrA := hrA.go hb14
    replace hT := hT.go hb14
    replace hU := hU.go hb14
    refine rv 60 (.bool false) (fun _ => ol_neD8 rfl (by kernel_rfl) (by kernel_rfl) hdl) <| rp 61 (.bool false) <| Zad <| Zab <| Zao (fun _ => by kernel_rfl) <| Zaz <| Zbb <| Zab <| Zaa <| rv 62 (.int .i64 (((j : Nat) : Int) + 1)) (fun _ => Zai (v := .int .i64 (IntKind.i64.wrap (((j : Nat) : Int) + 1))) (by kernel_rfl) (congrArg (Value.int .i64) (Zb6 (by omega) (by omega)))) <| rp 21 (.int .i64 (((j : Nat) : Int) + 1)) <| Zad ?_
    exact Zbi (E := fun q => [(21, .int .i64 ((q.1 : Nat) : Int)), (19, .slice (some ⟨gE, oE, none⟩) n c), (20, .int .i64 n), (5, .pointer (some ⟨gB, 0, none⟩)), (6, .slice q.2.1 q.2.2.1 q.2.2.2), (1, .int .i64 z)]) (R := fun q v => Bl w v /\ (∃ t T vW vsT, Bu (fun _ => True) v bs gB T.length t (lkP T) vW /\ PAt (fun b => KF vW b /\ b ≠ gB) v q.2.1 q.2.2.1 q.2.2.2 vsT T /\ Tk t T /\ T.length <= q.1) /\ q.1 <= n /\ bs <= v.heap.size) (μ := fun q => n - q.1) (x := (j, aT, nT, cT)) (j + 1, a6, n6, c6) (by exact ⟨fun _ => by kernel_rfl, ⟨fun _ => by kernel_rfl, ⟨fun _ => by kernel_rfl, ⟨fun _ => by kernel_rfl, ⟨fun _ => by kernel_rfl, ⟨fun _ => by kernel_rfl, trivial⟩⟩⟩⟩⟩⟩) ⟨hB, ⟨t, T, vW2, vs6, hU, hT, hk, by show T.length <= j + 1; omega⟩, by show j + 1 <= n; omega, by show bs <= _; have := hB.size; have := hV.size; omega⟩ (by show n - (j + 1) < n - j; omega)
   | false =>
    refine Za9 56 (fun _ => by kernel_rfl) <| Za9 57 (fun _ => by kernel_rfl) <| Za9 58 (fun _ => by kernel_rfl) <| Za9 59 (fun _ => by kernel_rfl) <| Za9 60 (fun _ => by kernel_rfl) <| rp 61 (.bool false) <| Zad <| Zab <| Zao (fun _ => by kernel_rfl) <| Zaz <| Zbb <| Zab ?_
    refine Zaa <| rv 62 (.int .i64 (((j : Nat) : Int) + 1)) (fun _ => Zai (v := .int .i64 (IntKind.i64.wrap (((j : Nat) : Int) + 1))) (by kernel_rfl) (congrArg (Value.int .i64) (Zb6 (by omega) (by omega)))) <| rp 21 (.int .i64 (((j : Nat) : Int) + 1)) <| Zad ?_
    exact Zbi (E := fun q => [(21, .int .i64 ((q.1 : Nat) : Int)), (19, .slice (some ⟨gE, oE, none⟩) n c), (20, .int .i64 n), (5, .pointer (some ⟨gB, 0, none⟩)), (6, .slice q.2.1 q.2.2.1 q.2.2.2), (1, .int .i64 z)]) (R := fun q v => Bl w v /\ (∃ t T vW vsT, Bu (fun _ => True) v bs gB T.length t (lkP T) vW /\ PAt (fun b => KF vW b /\ b ≠ gB) v q.2.1 q.2.2.1 q.2.2.2 vsT T /\ Tk t T /\ T.length <= q.1) /\ q.1 <= n /\ bs <= v.heap.size) (μ := fun q => n - q.1) (x := (j, aT, nT, cT)) (j + 1, a6, n6, c6) (by exact ⟨fun _ => by kernel_rfl, ⟨fun _ => by kernel_rfl, ⟨fun _ => by kernel_rfl, ⟨fun _ => by kernel_rfl, ⟨fun _ => by kernel_rfl, ⟨fun _ => by kernel_rfl, trivial⟩⟩⟩⟩⟩⟩) ⟨hB, ⟨t, T, vW2, vs6, hU, hT, hk, by show T.length <= j + 1; omega⟩, by show j + 1 <= n; omega, by show bs <= _; have := hB.size; have := hV.size; omega⟩ (by show n - (j + 1) < n - j; omega)
 obtain rfl : j = n := by omega
 show CW _ _ _ _ _ _ _ [(21, .int .i64 ((j : Nat) : Int)), (19, .slice a j c), (20, .int .i64 ((j : Nat) : Int)), (5, .pointer (some ⟨gB, 0, none⟩)), (6, .slice aT nT cT), (1, .int .i64 z)] _
 refine Zac <| Zaa <| rv 22 (.bool false) (fun _ => Zai (v := .bool (decide (((j : Nat) : Int) < ((j : Nat) : Int)))) (by kernel_rfl) (congrArg Value.bool (decide_eq_false (by omega)))) <| Zad <| Zab <| Zac <| Zao (fun _ => by kernel_rfl) <| Zd5 <| Zat <| Zat <| Zbj <| Zab ?_
 refine Zac ?_
 have hdl := Zdl t
 obtain ⟨ds, hds⟩ : ∃ ds, rootP t = ds := ⟨_, rfl⟩
 rw [hds] at hdl
 refine Zaa <| rp 63 (.pointer (some ⟨gB, 0, none⟩)) <| Za1 64 15 #[.pointer (some ⟨gB, 0, none⟩)] (fun _ => by kernel_rfl) (fun _ => by kernel_rfl) (R := fun u w' => u = .agg (B8 ds) /\ Bl (v) w') (((Zmu hU).mono (fun e w' ⟨u, e1, e2, e3⟩ => ⟨u, e1, by rw [e2, hds], e3⟩))) ?_
 rintro _ u15 ⟨rfl, hb16⟩
 replace hB := hB.go hb16
 replace hU := hU.go hb16
 replace hT := hT.go hb16
 refine rp 65 (.slice aT nT cT) <| Za1 66 16 #[.slice aT nT cT] (fun _ => by kernel_rfl) (fun _ => by kernel_rfl) (R := fun u w' => u = .agg (B8 ds) /\ Bl (u15) w') (((Zxw hk.rel hT (by omega)).mono (fun e w' ⟨u, e1, e2, e3⟩ => ⟨u, e1, by rw [e2, hds], e3⟩))) ?_
 rintro _ u17 ⟨rfl, hb18⟩
 replace hB := hB.go hb18
 replace hU := hU.go hb18
 replace hT := hT.go hb18
 refine rv 67 (.bool true) (fun _ => Zr8 rfl (by kernel_rfl) (by kernel_rfl) hdl) <| rp 4 (.bool true) <| Zad <| Zab <| Za5 ?_
 exact Zaf (.bool true) (fun _ => by kernel_rfl) ⟨_, rfl, rfl, hB⟩
theorem bulkbuilds_any {K : Nat -> Prop} (a : Option Addr) (n c : Nat) (vs : List (Value × Value)) (l : PList) (z : Int) (w : World) (hl : PAt K w a n c vs l) (hn : n <= 2932031007317) :
  Calls Tryz.prog 4 #[.slice a n c, .int .i64 z] w fun e w' => e = .returned (.bool true) /\ Below w.heap.size w w' :=
 (builds8_x hl hn).mono (fun e w' ⟨u, e1, e2, e3⟩ => ⟨by rw [e1, e2], e3⟩)
end Go.Proofs.YtdkpilgelgjieaaGreat
namespace Go.Proofs.YtdkpilgelgjieaaGreat
open Go.ChangeShapes Go.WideShapes Go.ChangeAt Go.RowKit
open Go.ChangeMaps (open_string shut_string)
theorem own : ownKnob Tryz.prog.godebug = none := by kernel_rfl
theorem Zx0 : laidOutB Tryz.prog = true := by kernel_rfl
theorem Zz7 : Tryz.prog.cellsOf 5 = 1 := by kernel_rfl
theorem Zz8 : Tryz.prog.bytesOf 5 = 1 := by kernel_rfl
end Go.Proofs.YtdkpilgelgjieaaGreat
