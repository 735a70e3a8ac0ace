/- What the document's Less answers. -/
import Derived.Test.YtdkpilgelgjieabGreatG19
import Derived.Test.YtdkpilgelgjieabGreatG30
import Derived.Test.YtdkpilgelgjieabGreatG33
import Derived.Test.YtdkpilgelgjieabGreatG14
import Derived.Test.YtdkpilgelgjieabGreatG15
import Derived.Test.YtdkpilgelgjieabGreatG00
import Derived.ProofKit
import Derived.OpenShut
import Derived.ShutString
import Derived.ChangeOld
import Derived.SizedLaws
set_option linter.unusedVariables false
set_option maxRecDepth 100000
namespace Go.Proofs.YtdkpilgelgjieabGreat.Ni
open Go.RowKit
set_option maxHeartbeats 1000000 in
theorem rless_any (a1 a2 : Option Addr) (n1 c1 n2 c2 : Nat) (p q : List Int) (w : World) (h1 : Ag w a1 n1 c1 p) (h2 : Ag w a2 n2 c2 q) (hn1 : n1 <= 140737488355328) (hn2 : n2 <= 140737488355328) :
  Calls Tryz.prog 18 #[.slice a1 n1 c1, .slice a2 n2 c2] w fun e w' => e = .returned (.bool (lessP p q)) /\ Below w.heap.size w w' := by
 have hc := rcommon_any a1 a2 n1 c1 n2 c2 p q w h1 h2 hn1 hn2
 have hl1 := h1.l
 have hl2 := h2.l
 obtain ⟨k1, k2⟩ := com_le p q
 have hla := less_at p q
 obtain ⟨m, hm⟩ : ∃ m, com p q = m := ⟨_, rfl⟩
 rw [hm] at hc k1 k2 hla
 clear hm
 obtain ⟨res, hres⟩ : ∃ r, lessP p q = r := ⟨_, rfl⟩
 rw [hres] at hla ⊢
 clear hres
 rw [hl1, hl2] at hla
 rw [hl1] at k1
 rw [hl2] at k2
 have HC := Hid.mk hc
 have HA1 := Hid.mk h1
 have HA2 := Hid.mk h2
 clear hc h1 h2 hl1 hl2
 by_cases e1 : m = n1
 ·have q1 : decide (m < n2) = res := by
   rw [hla]
   by_cases e2 : m = n2
   ·rw [if_pos e2, decide_eq_false (by omega)]
   ·rw [if_neg e2, if_pos e1, decide_eq_true (by omega)]
  clear hla
  subst e1
  have HX := Hid.mk q1
  clear q1
  go_enter Tryz.func18, Tryz.ntmps18
  go_wp2_with fail
  refine HC.out.mono ?_
  rintro e w1 ⟨rfl, hb⟩
  have HB := Hid.mk hb
  clear hb
  go_wp2_with fail
  go_ret
  exact ⟨by rw [<- HX.out]; rfl, HB.out⟩
 ·have q1 : ((m : Int) == (n1 : Int)) = false := by rw [beq_eq_false_iff_ne]; omega
  by_cases e2 : m = n2
  ·rw [if_pos e2] at hla
   subst hla
   subst e2
   clear e1
   go_enter Tryz.func18, Tryz.ntmps18
   go_wp2_with fail
   refine HC.out.mono ?_
   rintro e w1 ⟨rfl, hb⟩
   have HB := Hid.mk hb
   clear hb
   go_wp2_with fail
   go_region
   all_goals
    go_wp2_with fail
    go_ret
    exact ⟨rfl, HB.out.drew⟩
  ·rw [if_neg e2, if_neg e1] at hla
   have q3 : (m : Int) < n1 := by omega
   have q4 : (m : Int) < n2 := by omega
   obtain ⟨g1, o1, rfl, hnc1, hcm1, hcs1⟩ := ag_head HA1.out (by omega)
   obtain ⟨g2, o2, rfl, hnc2, hcm2, hcs2⟩ := ag_head HA2.out (by omega)
   unfold maxLen at hcm1 hcm2
   have hcell1 := hcs1 m (by omega)
   have hcell2 := hcs2 m (by omega)
   generalize p.getD m 0 = x at *
   generalize q.getD m 0 = y at *
   have HX := Hid.mk hla
   clear hcs1 hcs2 e1 e2 hla
   go_enter Tryz.func18, Tryz.ntmps18
   go_wp2_with fail
   refine HC.out.mono ?_
   rintro e w1 ⟨rfl, hb⟩
   have hd1 := (hb.cell (p := ⟨g1, o1 + m, none⟩) (block_lt_of_cell hcell1)).trans hcell1
   have hd2 := (hb.cell (p := ⟨g2, o2 + m, none⟩) (block_lt_of_cell hcell2)).trans hcell2
   have HB := Hid.mk hb
   clear hb hcell1 hcell2
   go_wp2_with fail
   go_region
   all_goals
    go_wp2_with fail
    go_ret
    exact ⟨by rw [HX.out]; rfl, HB.out.drew⟩
end Go.Proofs.YtdkpilgelgjieabGreat.Ni
namespace Go.Proofs.YtdkpilgelgjieabGreat
open Go.RowKit
open Tr
open Di (dref)
theorem OwnL.none8 {X : Nat -> Prop} {w : World} {base : Nat} (hX : ∀ b, base <= b -> X b) : OwnL X w base (.slice none 0 0) [] := ⟨hX, [], rfl, World.ownsRow_nil w base _ 2, fun j p e q => by simp at q⟩
theorem Zk2 {w w' : World} {v u r : Value} {ρ : Operand -> Value} {o : Oper} (hr : ∀ ty, (Builtin.append_ #[22, 22] ty #[v, u]).run Tryz.prog w = .ok r w') (x y : Operand) (ho : o.op = .call { callee := .builtin .append, args := #[x, y], argTypes := #[22, 22] }) (hx : ρ x = v) (hy : ρ y = u) : (execOp ρ o).run Tryz.prog w = .ok (.value r) w' := by
 unfold execOp
 simp only [ho, resolve, invoke, builtin, Sem.run_bind, Sem.run_pure, Result.andThen_ok, List.map_toArray, List.map_cons, List.map_nil, hx, hy, hr]
def lkP (l : PList) : Option (List Int) := l.getLast?.map Prod.fst
theorem Zso (l : PList) (k x : List Int) : lkP (l ++ [(k, x)]) = some k := by simp [lkP]
theorem Zzq {l : PList} {k x : List Int} (h : l[l.length - 1]? = some (k, x)) : lkP l = some k := by
 unfold lkP
 rw [List.getLast?_eq_getElem?, h]
 rfl
def addL (l : PList) (k x : List Int) : PList := if addE (lkP l) k x = 0 then l ++ [(k, x)] else l
set_option maxHeartbeats 1000000 in
theorem Zzk {w : World} {a : Option Addr} {c : Nat} :
  Calls Tryz.prog 9 #[.slice a 0 c] w fun e w' => ∃ u, e = .returned u /\ (fun u w' => u = .agg (B8 (dref [128])) /\ Bl w w') u w' := by
 have hB := Bl.refl w
 have hdl := dref_len [128]
 obtain ⟨ds, hds⟩ : ∃ ds, dref [128] = ds := ⟨_, rfl⟩
 rw [hds] at hdl ⊢
 refine Za4 Tryz.func9 rfl 33 rfl ?_
 show CW _ _ _ _ _ _ _ [(0, .slice a 0 c)] _
 refine Zac <| Zaa ?_
 have hz0 := hB.size
 refine Zcf 2 (B8 z32) 34 (fun _ => by kernel_rfl) (fun _ => by kernel_rfl) ?_
 intro w1 g2 hn3
 replace hB := hB.go hn3.below
 have hr4 : Rw g2 w1 (B8 z32) 34 := hn3.row
 have hgd := hn3.hg
 have hgl := lt_of_get hr4
 refine Zad <| Zab <| Zac <| Zac <| Zaa <| rp 5 (.slice a 0 c) <| rp 6 (.int .i64 0) <| rp 7 (.bool true) <| Zad <| Zab <| Zao (fun _ => by kernel_rfl) <| Zac ?_
 refine Zaa <| Zaz 8 23 #[] (fun _ => by kernel_rfl) (fun _ => by kernel_rfl) (R := fun u w' => u = .agg (B8 ds) /\ Bl (w1) w') ((Zjb (w1)).mono (fun e w' h => ⟨_, by rw [h.1, hds], rfl, h.2⟩)) ?_
 rintro _ u2 ⟨rfl, hb2⟩
 replace hB := hB.go hb2
 replace hr4 := hr4.go hb2
 refine Zdk g2 (B8 ds) (fun _ => by kernel_rfl) (fun _ => Zbn 34 _ _ _ _ _ _ rfl (by kernel_rfl) (by kernel_rfl) hr4 (Zc4 hdl) (Zdw hdl) (B8_one _)) ?_
 intro uE hpE
 replace hB : Bl w uE := hpE.below hB (by omega) hB.size
 have hrE : Rw g2 uE (B8 ds) 34 := hpE.row hr4
 refine Zad <| Zab <| Za7 <| Zaq ?_
 exact Zag (.agg (B8 ds)) (fun _ => Zfk Tryz.results9 _ g2 ds hdl (by kernel_rfl) hrE) ⟨_, rfl, rfl, hB⟩
set_option maxHeartbeats 1000000 in
theorem Zxz {K : Nat -> Prop} {w : World} {a : Option Addr} {n c : Nat} {vs : List (Value × Value)} {t : Tr} {l : PList} (hRel : Rel t l) (hOk : Tr.Ok 64 t) (hl : PAt K w a n c vs l) (hb : n <= 2932031007400) (h0 : 0 < n) (hlen : ∀ (j : Nat) k x, l[j]? = some (k, x) -> k.length <= 1000000) :
  Calls Tryz.prog 9 #[.slice a n c] w fun e w' => ∃ u, e = .returned u /\ (fun u w' => u = .agg (B8 (dref (encT t))) /\ Bl w w') u w' := by
 have hB := Bl.refl w
 have hdl := dref_len (encT t)
 obtain ⟨ds, hds⟩ : ∃ ds, dref (encT t) = ds := ⟨_, rfl⟩
 rw [hds] at hdl ⊢
 have hl0 := hl.old
 have ll := hl.ll
 refine Za4 Tryz.func9 rfl 33 rfl ?_
 show CW _ _ _ _ _ _ _ [(0, .slice a n c)] _
 refine Zac <| Zaa ?_
 have hz0 := hB.size
 refine Zcf 2 (B8 z32) 34 (fun _ => by kernel_rfl) (fun _ => by kernel_rfl) ?_
 intro w1 g2 hn3
 replace hB := hB.go hn3.below
 have hr4 : Rw g2 w1 (B8 z32) 34 := hn3.row
 have hgd := hn3.hg
 have hgl := lt_of_get hr4
 refine Zad <| Zab <| Zac <| Zac <| Zaa <| rp 5 (.slice a n c) <| rp 6 (.int .i64 n) <| rv 7 (.bool false) (fun _ => Zah (v := .bool ((n : Int) == (0 : Int))) (by kernel_rfl) (congrArg Value.bool (beq_eq_false_iff_ne.2 (by omega)))) <| Zad <| Zab <| Zan (fun _ => by kernel_rfl) <| Za0 ?_
 refine Zab <| Zac <| Zaa <| rp 3 (.slice none 0 0) <| Zad <| Zab <| Zac <| Zac <| Zaa <| rp 4 (.int .i64 0) <| Zad <| Zab ?_
 refine Zav ?_
 refine Zcv (X := Nat × Value) (fun z => [(4, .int .i64 ((z.1 : Nat) : Int)), (3, z.2), (0, .slice a n c), (2, .pointer (some ⟨g2, 0, none⟩))]) (fun z v => Bl w v /\ Rw g2 v (B8 z32) 34 /\ OwnN (fun b => K b \/ w.heap.size <= b) v (g2 + 1) z.2 ((l.take z.1).map (fun e : List Int × List Int => (Ni.nib e.1, e.2))) /\ z.1 <= n) (fun z => n - z.1) (0, .slice none 0 0) (by exact ⟨fun _ => by kernel_rfl, ⟨fun _ => by kernel_rfl, ⟨fun _ => by kernel_rfl, ⟨fun _ => by kernel_rfl, trivial⟩⟩⟩⟩) ⟨hB, hr4, by rw [List.take_zero]; exact ⟨fun b hb => .inr (by omega), [], rfl, ⟨rfl, .inl ⟨rfl, rfl⟩⟩, fun j p e h => by simp at h⟩, Nat.zero_le _⟩ ?_
 clear hB hr4
 rintro ⟨j, V⟩ v ⟨hB, hrd, hO, hj⟩
 simp only at hB hrd hO hj
 show CW _ _ _ _ _ _ _ [(4, .int .i64 ((j : Nat) : Int)), (3, V), (0, .slice a n c), (2, .pointer (some ⟨g2, 0, none⟩))] _
 by_cases hlt : j < n
 ·skip
  obtain ⟨gE, oE, a1, n1, c1, a2, n2, c2, k, x, ea, hej, hc1, hc2, hs1, hs2⟩ := hl0.at hlt
  subst ea
  have lk := hs1.len
  have hkl := hlen j k x hej
  refine Zac <| Zac <| Zaa <| rp 9 (.int .i64 ((j : Nat) : Int)) <| rp 10 (.slice (some ⟨gE, oE, none⟩) n c) <| rp 11 (.int .i64 n) <| rv 12 (.bool true) (fun _ => Zah (v := .bool (decide (((j : Nat) : Int) < (n : Int)))) (by kernel_rfl) (congrArg Value.bool (decide_eq_true (by omega)))) <| Zad <| Zab <| Zao (fun _ => by kernel_rfl) <| Za0 <| Zab ?_
  refine Zac <| Zav <| Zcj (fun v => Bl w v) (by kernel_rfl) (hB.drew) ?_
  replace hB := hB.drew
  replace hrd := hrd.drew
  replace hO := hO.far (Below.refl _ _).drew
  refine dt 0 15 (V) (fun v hv _ => by kernel_rfl) hB <| dt 1 16 (.slice (some ⟨gE, oE, none⟩) n c) (fun v hv _ => by kernel_rfl) hB <| dt 2 17 (.int .i64 ((j : Nat) : Int)) (fun v hv _ => by kernel_rfl) hB <| dt 3 18 (.pointer (some ⟨gE, oE + j * 2, none⟩)) (fun v hv _ => Zat 22 _ _ gE oE j n c 2 28 rfl (by kernel_rfl) (by kernel_rfl) hlt Tryz.underlying22 (by kernel_rfl)) hB <| dt 4 19 (.pointer (some ⟨gE, oE + j * 2, none⟩)) (fun v hv _ => by kernel_rfl) hB <| dt 5 20 (.slice a1 n1 c1) (fun v hv _ => Zam 26 _ _ _ _ rfl (by kernel_rfl) ((Below.cell hv (block_lt_of_cell hc1)).trans hc1) Tryz.underlying26 rfl) hB <| dt 7 22 (.slice (some ⟨gE, oE, none⟩) n c) (fun v hv _ => by kernel_rfl) hB <| dt 8 23 (.int .i64 ((j : Nat) : Int)) (fun v hv _ => by kernel_rfl) hB <| dt 9 24 (.pointer (some ⟨gE, oE + j * 2, none⟩)) (fun v hv _ => Zat 22 _ _ gE oE j n c 2 28 rfl (by kernel_rfl) (by kernel_rfl) hlt Tryz.underlying22 (by kernel_rfl)) hB <| dt 10 25 (.pointer (some ⟨gE, oE + j * 2 + 1, none⟩)) (fun v hv _ => by kernel_rfl) hB <| dt 11 26 (.slice a2 n2 c2) (fun v hv _ => Zam 26 _ _ _ _ rfl (by kernel_rfl) ((Below.cell hv (block_lt_of_cell hc2)).trans hc2) Tryz.underlying26 rfl) hB <| Zai [6] (by kernel_rfl) (by simp) ?_
  refine Zbc 6 21 24 #[.slice a1 n1 c1] rfl (fun _ => by kernel_rfl) (fun _ => by kernel_rfl) (R := fun u w' => (∃ a' m' c', u = .slice a' m' c' /\ Sk (fun b => (v.drew).heap.size <= b) w' a' m' c' (Ni.nib k)) /\ Bl (v.drew) w') (Zxk (hs1.go hB) (by omega)) (fun u w' h => hB.go h.2) ?_ Zas
  rintro _ u5 ⟨⟨a6, n6, c6, rfl, hs6⟩, hb6⟩
  have hOw := hO.own
  have hwz := hB.size
  have hz6 := hb6.size
  replace hB := hB.go hb6
  replace hrd := hrd.go hb6
  replace hO := hO.far hb6
  replace hs6 := hs6.mono (K' := fun b => (K b /\ b < w.heap.size) \/ v.drew.heap.size <= b) (fun b hb => .inr hb)
  refine dt 12 27 (.agg #[.slice a6 n6 c6, .slice a2 n2 c2]) (fun v hv => (fun _ => by kernel_rfl)) hB <| Zai [13] (by kernel_rfl) (by simp) ?_
  refine Zgo 13 28 #[.slice a6 n6 c6, .slice a2 n2 c2] 57 1 rfl (fun _ => by kernel_rfl) (fun _ => by kernel_rfl) (fun w' g h => hB.go h.below) ?_ Zas
  intro wN gN hnN
  have hP1 := PAt.oneN hnN hs6 ((hs2.go hB).mono (K' := fun b => (K b /\ b < w.heap.size) \/ v.drew.heap.size <= b) (fun b hb => .inl hb)) (by have := hnN.hg; exact .inr (by omega))
  replace hB := hB.go hnN.below
  replace hrd := hrd.go hnN.below
  replace hO := hO.far hnN.below
  refine Zai [14] (by kernel_rfl) (by simp) ?_
  obtain ⟨V2, wQ, hrQ, hOQ, hbQ⟩ := appN hO hP1 (fun b hb => ⟨fun e => by have := hOw b e; rcases hb with h | h <;> omega, by rcases hb with h | h; exact .inl h.1; exact .inr (by omega)⟩) (by rw [List.length_map, List.length_take]; omega) (lt_of_get hrd)
  have hBQ : Bl w wQ := ⟨hbQ.os.trans hB.os, hbQ.tape.trans hB.tape, hbQ.output.trans hB.output, Nat.le_trans hB.size hbQ.size, fun q hq => (hbQ.block q (by omega)).trans (hB.block q hq)⟩
  refine ar_v 14 29 V2 rfl (fun _ => by kernel_rfl) (fun _ => Zk1 hrQ _ _ rfl (by kernel_rfl) (by kernel_rfl)) hBQ ?_ Zas
  replace hrd : Rw g2 wQ (B8 z32) 34 := (hbQ.block g2 (by omega)).trans hrd
  replace hB := hBQ
  replace hO := hOQ
  refine dt 15 3 (V2) (fun v hv _ => by kernel_rfl) hB <| Zbo (by kernel_rfl) <| Za9 <| Zab <| Zaa <| rp 13 (.int .i64 ((j : Nat) : Int)) <| rv 14 (.int .i64 (((j : Nat) : Int) + 1)) (fun _ => Zah (v := .int .i64 (IntKind.i64.wrap (((j : Nat) : Int) + 1))) (by kernel_rfl) (congrArg (Value.int .i64) (Zby (by omega) (by omega)))) <| rp 4 (.int .i64 (((j : Nat) : Int) + 1)) <| Zad ?_
  exact Zbf (E := fun z => [(4, .int .i64 ((z.1 : Nat) : Int)), (3, z.2), (0, .slice (some ⟨gE, oE, none⟩) n c), (2, .pointer (some ⟨g2, 0, none⟩))]) (R := fun z v => Bl w v /\ Rw g2 v (B8 z32) 34 /\ OwnN (fun b => K b \/ w.heap.size <= b) v (g2 + 1) z.2 ((l.take z.1).map (fun e : List Int × List Int => (Ni.nib e.1, e.2))) /\ z.1 <= n) (μ := fun z => n - z.1) (x := (j, V)) (j + 1, V2) (by exact ⟨fun _ => by kernel_rfl, ⟨fun _ => by kernel_rfl, ⟨fun _ => by kernel_rfl, ⟨fun _ => by kernel_rfl, trivial⟩⟩⟩⟩) ⟨hB, hrd, by show OwnN _ _ _ _ ((l.take (j + 1)).map _); rw [Zfu _ l j _ hej]; exact hO, by show j + 1 <= n; omega⟩ (by show n - (j + 1) < n - j; omega)
 obtain rfl : j = n := by omega
 rw [List.take_of_length_le (by omega)] at hO
 show CW _ _ _ _ _ _ _ [(4, .int .i64 ((j : Nat) : Int)), (3, V), (0, .slice a j c), (2, .pointer (some ⟨g2, 0, none⟩))] _
 refine Zac <| Zac <| Zaa <| rp 9 (.int .i64 ((j : Nat) : Int)) <| rp 10 (.slice a j c) <| rp 11 (.int .i64 j) <| rv 12 (.bool false) (fun _ => Zah (v := .bool (decide (((j : Nat) : Int) < (j : Int)))) (by kernel_rfl) (congrArg Value.bool (decide_eq_false (by omega)))) <| Zad <| Zab <| Zan (fun _ => by kernel_rfl) <| Zc8 <| Zap ?_
 refine Zap <| Zbb <| Zab <| Zac ?_
 obtain ⟨aF, cF, vsF, eF, hF⟩ := hO.pat
 subst eF
 rw [show l.map (fun e : List Int × List Int => (Ni.nib e.1, e.2)) = entsR t from hRel.ones] at hF
 have lF := hF.ll
 have lO : (l.map (fun e : List Int × List Int => (Ni.nib e.1, e.2))).length = (entsR t).length := congrArg List.length hRel.ones
 refine Zaa <| rp 30 (.slice aF (l.map (fun e : List Int × List Int => (Ni.nib e.1, e.2))).length cF) <| Zaz 31 25 #[.slice aF (l.map (fun e : List Int × List Int => (Ni.nib e.1, e.2))).length cF] (fun _ => by kernel_rfl) (fun _ => by kernel_rfl) (R := RB7 (v) t) ((by rw [lO]; exact Zsd t 64 hOk (Nat.le_refl _) hRel.small _ _ _ _ _ _ hF (by rw [<- lO, List.length_map]; omega))) ?_
 rintro _ u2 ⟨⟨a2, n2, c2, rfl, hs2, hm2⟩, hb2⟩
 replace hB := hB.go hb2
 replace hrd := hrd.go hb2
 have l2 := hs2.len
 refine Zaz 32 11 #[.slice a2 n2 c2] (fun _ => by kernel_rfl) (fun _ => by kernel_rfl) (R := fun u w' => u = .agg (B8 ds) /\ Bl u2 w') ((Zhe a2 n2 c2 (encT t) u2 hs2.ag (by omega)).mono (fun e w' h => ⟨_, by rw [h.1, hds], rfl, h.2⟩)) ?_
 rintro _ u3 ⟨rfl, hb3⟩
 replace hB := hB.go hb3
 replace hrd := hrd.go hb3
 refine Zdk g2 (B8 ds) (fun _ => by kernel_rfl) (fun _ => Zbn 34 _ _ _ _ _ _ rfl (by kernel_rfl) (by kernel_rfl) hrd (Zc4 hdl) (Zdw hdl) (B8_one _)) ?_
 intro uE hpE
 replace hB : Bl w uE := hpE.below hB (by omega) hB.size
 have hrE : Rw g2 uE (B8 ds) 34 := hpE.row hrd
 refine Zad <| Zab <| Za7 ?_
 exact Zag (.agg (B8 ds)) (fun _ => Zfk Tryz.results9 _ g2 ds hdl (by kernel_rfl) hrE) ⟨_, rfl, rfl, hB⟩
theorem Zsb {K : Nat -> Prop} {w : World} {a : Option Addr} {n c : Nat} {vs : List (Value × Value)} {t : Tr} {l : PList} (hRel : Rel t l) (hl : PAt K w a n c vs l) (hb : n <= 2932031007400) :
  Calls Tryz.prog 9 #[.slice a n c] w fun e w' => ∃ u, e = .returned u /\ u = .agg (B8 (rootP t)) /\ Bl w w' := by
 have ll := hl.ll
 have le : (entsR t).length = n := by rw [<- hRel.ones]; unfold onesP; rw [List.length_map]; exact ll
 rcases hRel.ok with rfl | hO
 ·have hn : n = 0 := le.symm
  subst hn
  exact Zzk
 ·have hne := hO.ne
  have h0 := List.length_pos_iff.2 (Zla _ hO)
  rw [show rootP t = dref (encT t) from by unfold rootP; rw [if_neg (fun e => hne (isNo_iff.1 e))]]
  exact Zxz hRel hO hl hb (by omega) (fun j k x h => by have := ((hRel.m k x).1 (List.mem_of_getElem? h)).2.1; omega)
set_option maxHeartbeats 4000000 in
theorem Zvx {K : Nat -> Prop} {w : World} {a : Option Addr} {n c : Nat} {vs : List (Value × Value)} {l : PList} (hl : PAt K w a n c vs l) (hb : n + 1 <= 2932031007400) (hl8 : ∀ (j : Nat) q y, l[j]? = some (q, y) -> q.length <= 1000000) {ak ax : Option Addr} {nk ck nx cx : Nat} {k x : List Int} (hk : Sk (fun b => K b /\ b < w.heap.size) w ak nk ck k) (hx : Sk (fun b => K b /\ b < w.heap.size) w ax nx cx x) :
  Calls Tryz.prog 7 #[.slice a n c, .slice ak nk ck, .slice ax nx cx] w fun e w' => ∃ u, e = .returned u /\ (fun u w' => (∃ a' n' c' vs', u = .tuple #[.slice a' n' c', .int .i64 (addE (lkP l) k x)] /\ PAt (fun b => K b \/ w.heap.size <= b) w' a' n' c' vs' (addL l k x)) /\ Bl w w') u w' := by
 have hB := Bl.refl w
 have lk := hk.len
 have lx := hx.len
 have ll := hl.ll
 have hl0 := hl.old
 have hk0 := hk
 have hx0 := hx
 refine Za4 Tryz.func7 rfl 48 rfl ?_
 show CW _ _ _ _ _ _ _ [(0, .slice a n c), (1, .slice ak nk ck), (2, .slice ax nx cx)] _
 refine Zac <| Zaa <| rp 6 (.slice none 0 0) <| rp 7 (.int .i64 0) <| Zad <| Zab <| Zac <| Zac <| Zaa <| rp 9 (.slice ak nk ck) <| rp 10 (.int .i64 nk) <| rp 11 (.bool (decide ((nk : Int) > (32 : Int)))) ?_
 refine Zad <| Zab ?_
 by_cases hk32 : nk <= 32
 ·skip
  rw [show (decide ((nk : Int) > (32 : Int))) = false from decide_eq_false (by omega)]
  refine Zan (fun _ => by kernel_rfl) <| Za0 <| Zab <| Zac <| Zac <| Zaa <| rp 13 (.slice ax nx cx) <| rp 14 (.int .i64 nx) <| rp 15 (.bool ((nx : Int) == (0 : Int))) <| rp 16 (.bool ((nx : Int) == (0 : Int))) ?_
  by_cases hx00 : nx = 0
  ·skip
   rw [show ((nx : Int) == (0 : Int)) = true from beq_iff_eq.2 (by omega)]
   refine Zba 17 (fun _ => by kernel_rfl) <| Zba 18 (fun _ => by kernel_rfl) <| Zba 19 (fun _ => by kernel_rfl) <| rp 20 (.bool true) <| Zad <| Zab <| Zao (fun _ => by kernel_rfl) <| Zac <| Zaa <| rp 21 (.slice a n c) <| rp 6 (.slice a n c) <| rp 7 (.int .i64 71) ?_
   refine Zad <| Zab <| Za7 <| Zaq ?_
   have he : addE (lkP l) k x = 71 := by unfold addE; rw [if_pos (by omega), if_neg (by omega)]
   exact Zag (.tuple #[.slice a n c, .int .i64 71]) (fun _ => by kernel_rfl) ⟨_, rfl, ⟨_, n, c, vs, by rw [he], by unfold addL; rw [if_neg (by rw [he]; decide)]; exact (hl.go hB).mono (fun b hb => .inl hb)⟩, hB⟩
  ·skip
   rw [show ((nx : Int) == (0 : Int)) = false from beq_eq_false_iff_ne.2 (by omega)]
   refine rp 17 (.slice ax nx cx) <| rp 18 (.int .i64 nx) <| rp 19 (.bool (decide ((nx : Int) > (256 : Int)))) <| rp 20 (.bool (decide ((nx : Int) > (256 : Int)))) <| Zad <| Zab ?_
   by_cases hx256 : nx <= 256
   ·skip
    rw [show (decide ((nx : Int) > (256 : Int))) = false from decide_eq_false (by omega)]
    refine Zan (fun _ => by kernel_rfl) <| Za0 <| Zab <| Zac <| Zac <| Zaa <| rp 22 (.slice a n c) <| rp 23 (.int .i64 n) <| rp 24 (.bool (decide ((n : Int) > (0 : Int)))) <| rp 25 (.bool (decide ((n : Int) > (0 : Int)))) ?_
    by_cases hn0 : 0 < n
    ·skip
     rw [show (decide ((n : Int) > (0 : Int))) = true from decide_eq_true (by omega)]
     obtain ⟨gE, oE, a1, n1, c1, a2, n2, c2, k0, x0, ea, hej, hc1, hc2, hs1, hs2⟩ := hl0.at (show n - 1 < n by omega)
     subst ea
     have lk0 := hs1.len
     have hlk : lkP l = some k0 := Zzq (by rw [ll]; exact hej)
     refine rp 26 (.slice (some ⟨gE, oE, none⟩) n c) <| rp 27 (.slice (some ⟨gE, oE, none⟩) n c) <| rp 28 (.int .i64 n) <| rv 29 (.int .i64 ((n - 1 : Nat) : Int)) (fun _ => Zah (v := .int .i64 (IntKind.i64.wrap ((n : Int) - 1))) (by kernel_rfl) (congrArg (Value.int .i64) ((Zby (by omega) (by omega)).trans (by omega)))) <| rv 30 (.pointer (some ⟨gE, oE + (n - 1) * 2, none⟩)) (fun _ => Zat 22 _ _ gE oE (n - 1) n c 2 28 rfl (by kernel_rfl) (by kernel_rfl) (by omega) Tryz.underlying22 (by kernel_rfl)) <| rp 31 (.pointer (some ⟨gE, oE + (n - 1) * 2, none⟩)) <| rv 32 (.slice a1 n1 c1) (fun _ => Zam 26 _ _ _ _ rfl (by kernel_rfl) ((Below.cell hB (block_lt_of_cell hc1)).trans hc1) Tryz.underlying26 rfl) <| rp 33 (.slice ak nk ck) <| Zaz 34 18 #[.slice a1 n1 c1, .slice ak nk ck] (fun _ => by kernel_rfl) (fun _ => by kernel_rfl) (R := fun u w' => u = .bool (Ni.lessP k0 k) /\ Bl (w) w') ((Ni.rless_any a1 ak n1 c1 nk ck k0 k (w) (hs1.go hB).ag (hk0.go hB).ag (by have := hl8 _ _ _ hej; omega) (by omega)).mono (fun e w' h => ⟨_, h.1, rfl, h.2⟩)) ?_
     rintro _ u1 ⟨rfl, hb1⟩
     replace hB := hB.go hb1
     replace hk := hk.go hb1
     refine rp 35 (.bool (!(Ni.lessP k0 k))) <| rp 36 (.bool (!(Ni.lessP k0 k))) <| Zad <| Zab ?_
     cases hls : Ni.lessP k0 k with
     | true =>
      refine Zw0 [(36, .bool false), (35, .bool false), (34, .bool true), (33, .slice ak nk ck), (32, .slice a1 n1 c1), (31, .pointer (some ⟨gE, oE + (n - 1) * 2, none⟩)), (30, .pointer (some ⟨gE, oE + (n - 1) * 2, none⟩)), (29, .int .i64 ((n - 1 : Nat) : Int)), (28, .int .i64 n), (27, .slice (some ⟨gE, oE, none⟩) n c), (26, .slice (some ⟨gE, oE, none⟩) n c), (25, .bool true), (24, .bool true), (23, .int .i64 n), (22, .slice (some ⟨gE, oE, none⟩) n c), (20, .bool false), (19, .bool false), (18, .int .i64 nx), (17, .slice ax nx cx), (16, .bool false), (15, .bool false), (14, .int .i64 nx), (13, .slice ax nx cx), (11, .bool false), (10, .int .i64 nk), (9, .slice ak nk ck), (7, .int .i64 0), (6, .slice none 0 0), (0, .slice (some ⟨gE, oE, none⟩) n c), (1, .slice ak nk ck), (2, .slice ax nx cx)] (by exact ⟨fun _ => by kernel_rfl, ⟨fun _ => by kernel_rfl, ⟨fun _ => by kernel_rfl, ⟨fun _ => by kernel_rfl, ⟨fun _ => by kernel_rfl, ⟨fun _ => by kernel_rfl, ⟨fun _ => by kernel_rfl, ⟨fun _ => by kernel_rfl, ⟨fun _ => by kernel_rfl, ⟨fun _ => by kernel_rfl, ⟨fun _ => by kernel_rfl, ⟨fun _ => by kernel_rfl, ⟨fun _ => by kernel_rfl, ⟨fun _ => by kernel_rfl, ⟨fun _ => by kernel_rfl, ⟨fun _ => by kernel_rfl, ⟨fun _ => by kernel_rfl, ⟨fun _ => by kernel_rfl, ⟨fun _ => by kernel_rfl, ⟨fun _ => by kernel_rfl, ⟨fun _ => by kernel_rfl, ⟨fun _ => by kernel_rfl, ⟨fun _ => by kernel_rfl, ⟨fun _ => by kernel_rfl, ⟨fun _ => by kernel_rfl, ⟨fun _ => by kernel_rfl, ⟨fun _ => by kernel_rfl, ⟨fun _ => by kernel_rfl, ⟨fun _ => by kernel_rfl, ⟨fun _ => by kernel_rfl, ⟨fun _ => by kernel_rfl, trivial⟩⟩⟩⟩⟩⟩⟩⟩⟩⟩⟩⟩⟩⟩⟩⟩⟩⟩⟩⟩⟩⟩⟩⟩⟩⟩⟩⟩⟩⟩⟩) <| Zan (fun _ => by kernel_rfl) <| Za0 <| Zab <| Zac <| Zaa <| rp 8 (.slice none 0 0) <| Zad <| Zab <| Zac <| Zaa <| rp 38 (.slice none 0 0) ?_
      refine rp 39 (.slice (some ⟨gE, oE, none⟩) n c) ?_
      have hO := OwnL.none8 (X := fun b => K b \/ w.heap.size <= b) (w := u1) (base := w.heap.size) (fun b hb => .inr hb)
      obtain ⟨VA, wA, hrA, hOA, hbA⟩ := appP hO (hl.go hB) (fun b hb => ⟨by simp [Value.ownBlock], .inl hb⟩) (by simp; omega) hB.size
      refine rw_v 40 VA (fun _ => by kernel_rfl) (fun _ => Zk2 hrA _ _ rfl (by kernel_rfl) (by kernel_rfl)) ?_
      rw [List.nil_append] at hOA
      replace hB : Bl w wA := Below.trans hB hbA
      refine rp 8 (VA) <| Zad <| Zab <| Zac <| Zaa <| rp 41 (VA) <| rp 42 (.slice ak nk ck) <| rp 43 (.slice ax nx cx) <| rp 44 (.agg #[.slice ak nk ck, .slice ax nx cx]) ?_
      have hOw := hOA.own
      have hwz := hB.size
      refine Zdg 45 #[.slice ak nk ck, .slice ax nx cx] 28 1 (fun _ => by kernel_rfl) (fun _ => by kernel_rfl) ?_
      intro wN gN hnN
      have hP1 := PAt.one hnN ((hk0.go hB).mono (K' := fun b => (K b /\ b < w.heap.size) \/ wA.heap.size <= b) (fun b hb => .inl hb)) ((hx0.go hB).mono (K' := fun b => (K b /\ b < w.heap.size) \/ wA.heap.size <= b) (fun b hb => .inl hb)) (by have := hnN.hg; exact .inr (by omega))
      replace hB := hB.go hnN.below
      replace hOA := hOA.far hnN.below
      obtain ⟨VC, wC, hrC, hOC, hbC⟩ := appP hOA hP1 (fun b hb => ⟨fun e => by have := hOw b e; rcases hb with h | h <;> omega, by rcases hb with h | h; exact .inl h.1; exact .inr (by omega)⟩) (by omega) hB.size
      refine rw_v 46 VC (fun _ => by kernel_rfl) (fun _ => Zk2 hrC _ _ rfl (by kernel_rfl) (by kernel_rfl)) ?_
      replace hB : Bl w wC := Below.trans hB hbC
      refine rp 8 (VC) <| Zad <| Zab <| Zac <| Zaa <| rp 47 (VC) <| rp 6 (VC) <| rp 7 (.int .i64 0) <| Zad <| Zab <| Za7 ?_
      have he : addE (lkP l) k x = 0 := by unfold addE; rw [hlk, if_pos (by omega), if_pos (by omega)]; simp only; rw [hls]; simp
      obtain ⟨aF, cF, vsF, eF, hF⟩ := hOC.pat
      subst eF
      exact Zag (.tuple #[.slice aF (l ++ [(k, x)]).length cF, .int .i64 0]) (fun _ => by kernel_rfl) ⟨_, rfl, ⟨aF, _, cF, vsF, by rw [he], by unfold addL; rw [if_pos he]; exact hF⟩, hB⟩
     | false =>
      refine Zw0 [(36, .bool true), (35, .bool true), (34, .bool false), (33, .slice ak nk ck), (32, .slice a1 n1 c1), (31, .pointer (some ⟨gE, oE + (n - 1) * 2, none⟩)), (30, .pointer (some ⟨gE, oE + (n - 1) * 2, none⟩)), (29, .int .i64 ((n - 1 : Nat) : Int)), (28, .int .i64 n), (27, .slice (some ⟨gE, oE, none⟩) n c), (26, .slice (some ⟨gE, oE, none⟩) n c), (25, .bool true), (24, .bool true), (23, .int .i64 n), (22, .slice (some ⟨gE, oE, none⟩) n c), (20, .bool false), (19, .bool false), (18, .int .i64 nx), (17, .slice ax nx cx), (16, .bool false), (15, .bool false), (14, .int .i64 nx), (13, .slice ax nx cx), (11, .bool false), (10, .int .i64 nk), (9, .slice ak nk ck), (7, .int .i64 0), (6, .slice none 0 0), (0, .slice (some ⟨gE, oE, none⟩) n c), (1, .slice ak nk ck), (2, .slice ax nx cx)] (by exact ⟨fun _ => by kernel_rfl, ⟨fun _ => by kernel_rfl, ⟨fun _ => by kernel_rfl, ⟨fun _ => by kernel_rfl, ⟨fun _ => by kernel_rfl, ⟨fun _ => by kernel_rfl, ⟨fun _ => by kernel_rfl, ⟨fun _ => by kernel_rfl, ⟨fun _ => by kernel_rfl, ⟨fun _ => by kernel_rfl, ⟨fun _ => by kernel_rfl, ⟨fun _ => by kernel_rfl, ⟨fun _ => by kernel_rfl, ⟨fun _ => by kernel_rfl, ⟨fun _ => by kernel_rfl, ⟨fun _ => by kernel_rfl, ⟨fun _ => by kernel_rfl, ⟨fun _ => by kernel_rfl, ⟨fun _ => by kernel_rfl, ⟨fun _ => by kernel_rfl, ⟨fun _ => by kernel_rfl, ⟨fun _ => by kernel_rfl, ⟨fun _ => by kernel_rfl, ⟨fun _ => by kernel_rfl, ⟨fun _ => by kernel_rfl, ⟨fun _ => by kernel_rfl, ⟨fun _ => by kernel_rfl, ⟨fun _ => by kernel_rfl, ⟨fun _ => by kernel_rfl, ⟨fun _ => by kernel_rfl, ⟨fun _ => by kernel_rfl, trivial⟩⟩⟩⟩⟩⟩⟩⟩⟩⟩⟩⟩⟩⟩⟩⟩⟩⟩⟩⟩⟩⟩⟩⟩⟩⟩⟩⟩⟩⟩⟩) <| Zao (fun _ => by kernel_rfl) <| Zac <| Zaa <| rp 37 (.slice (some ⟨gE, oE, none⟩) n c) <| rp 6 (.slice (some ⟨gE, oE, none⟩) n c) <| rp 7 (.int .i64 80) <| Zad <| Zab <| Za7 <| Zaq ?_
      have he : addE (lkP l) k x = 80 := by unfold addE; rw [hlk, if_pos (by omega), if_pos (by omega)]; simp only; rw [hls]; simp
      exact Zag (.tuple #[.slice (some ⟨gE, oE, none⟩) n c, .int .i64 80]) (fun _ => by kernel_rfl) ⟨_, rfl, ⟨_, n, c, vs, by rw [he], by unfold addL; rw [if_neg (by rw [he]; decide)]; exact (hl.go hB).mono (fun b hb => .inl hb)⟩, hB⟩
    ·skip
     rw [show (decide ((n : Int) > (0 : Int))) = false from decide_eq_false (by omega)]
     have hlk : lkP l = none := by have : l = [] := List.eq_nil_of_length_eq_zero (by omega); rw [this]; rfl
     refine Zba 26 (fun _ => by kernel_rfl) <| Zba 27 (fun _ => by kernel_rfl) <| Zba 28 (fun _ => by kernel_rfl) <| Zba 29 (fun _ => by kernel_rfl) <| Zba 30 (fun _ => by kernel_rfl) <| Zba 31 (fun _ => by kernel_rfl) <| Zba 32 (fun _ => by kernel_rfl) <| Zba 33 (fun _ => by kernel_rfl) <| Zba 34 (fun _ => by kernel_rfl) <| Zba 35 (fun _ => by kernel_rfl) <| rp 36 (.bool false) <| Zad ?_
     refine Zab <| Zan (fun _ => by kernel_rfl) <| Za0 <| Zab <| Zac <| Zaa <| rp 8 (.slice none 0 0) <| Zad <| Zab <| Zac <| Zaa <| rp 38 (.slice none 0 0) ?_
     refine rp 39 (.slice a n c) ?_
     have hO := OwnL.none8 (X := fun b => K b \/ w.heap.size <= b) (w := w) (base := w.heap.size) (fun b hb => .inr hb)
     obtain ⟨VA, wA, hrA, hOA, hbA⟩ := appP hO (hl.go hB) (fun b hb => ⟨by simp [Value.ownBlock], .inl hb⟩) (by simp; omega) hB.size
     refine rw_v 40 VA (fun _ => by kernel_rfl) (fun _ => Zk2 hrA _ _ rfl (by kernel_rfl) (by kernel_rfl)) ?_
     rw [List.nil_append] at hOA
     replace hB : Bl w wA := Below.trans hB hbA
     refine rp 8 (VA) <| Zad <| Zab <| Zac <| Zaa <| rp 41 (VA) <| rp 42 (.slice ak nk ck) <| rp 43 (.slice ax nx cx) <| rp 44 (.agg #[.slice ak nk ck, .slice ax nx cx]) ?_
     have hOw := hOA.own
     have hwz := hB.size
     refine Zdg 45 #[.slice ak nk ck, .slice ax nx cx] 28 1 (fun _ => by kernel_rfl) (fun _ => by kernel_rfl) ?_
     intro wN gN hnN
     have hP1 := PAt.one hnN ((hk0.go hB).mono (K' := fun b => (K b /\ b < w.heap.size) \/ wA.heap.size <= b) (fun b hb => .inl hb)) ((hx0.go hB).mono (K' := fun b => (K b /\ b < w.heap.size) \/ wA.heap.size <= b) (fun b hb => .inl hb)) (by have := hnN.hg; exact .inr (by omega))
     replace hB := hB.go hnN.below
     replace hOA := hOA.far hnN.below
     obtain ⟨VC, wC, hrC, hOC, hbC⟩ := appP hOA hP1 (fun b hb => ⟨fun e => by have := hOw b e; rcases hb with h | h <;> omega, by rcases hb with h | h; exact .inl h.1; exact .inr (by omega)⟩) (by omega) hB.size
     refine rw_v 46 VC (fun _ => by kernel_rfl) (fun _ => Zk2 hrC _ _ rfl (by kernel_rfl) (by kernel_rfl)) ?_
     replace hB : Bl w wC := Below.trans hB hbC
     refine rp 8 (VC) <| Zad <| Zab <| Zac <| Zaa <| rp 47 (VC) <| rp 6 (VC) <| rp 7 (.int .i64 0) <| Zad <| Zab <| Za7 ?_
     have he : addE (lkP l) k x = 0 := by unfold addE; rw [hlk, if_pos (by omega), if_pos (by omega)]
     obtain ⟨aF, cF, vsF, eF, hF⟩ := hOC.pat
     subst eF
     exact Zag (.tuple #[.slice aF (l ++ [(k, x)]).length cF, .int .i64 0]) (fun _ => by kernel_rfl) ⟨_, rfl, ⟨aF, _, cF, vsF, by rw [he], by unfold addL; rw [if_pos he]; exact hF⟩, hB⟩
   ·skip
    rw [show (decide ((nx : Int) > (256 : Int))) = true from decide_eq_true (by omega)]
    refine Zao (fun _ => by kernel_rfl) <| Zac <| Zaa <| rp 21 (.slice a n c) <| rp 6 (.slice a n c) <| rp 7 (.int .i64 71) <| Zad <| Zab <| Za7 <| Zaq ?_
    have he : addE (lkP l) k x = 71 := by unfold addE; rw [if_pos (by omega), if_neg (by omega)]
    exact Zag (.tuple #[.slice a n c, .int .i64 71]) (fun _ => by kernel_rfl) ⟨_, rfl, ⟨_, n, c, vs, by rw [he], by unfold addL; rw [if_neg (by rw [he]; decide)]; exact (hl.go hB).mono (fun b hb => .inl hb)⟩, hB⟩
 ·skip
  rw [show (decide ((nk : Int) > (32 : Int))) = true from decide_eq_true (by omega)]
  refine Zao (fun _ => by kernel_rfl) <| Zac <| Zaa <| rp 12 (.slice a n c) <| rp 6 (.slice a n c) <| rp 7 (.int .i64 70) <| Zad <| Zab <| Za7 <| Zaq ?_
  have he : addE (lkP l) k x = 70 := by unfold addE; rw [if_neg (by omega)]
  exact Zag (.tuple #[.slice a n c, .int .i64 70]) (fun _ => by kernel_rfl) ⟨_, rfl, ⟨_, n, c, vs, by rw [he], by unfold addL; rw [if_neg (by rw [he]; decide)]; exact (hl.go hB).mono (fun b hb => .inl hb)⟩, hB⟩
structure Tk (t : Tr) (T : PList) : Prop where
 rel : Rel t T
 lst : Lst (lkP T) T
theorem Tk.nil : Tk no [] := ⟨Rel.nil, rfl⟩
theorem Tk.step {t : Tr} {T : PList} {k x : List Int} (h : Tk t T) (hk : Byk k) (he : addE (lkP T) k x = 0) : Tk (putT t k x) (addL T k x) /\ lkP (addL T k x) = some k /\ (addL T k x).length = T.length + 1 := by
 obtain ⟨h1, h2⟩ := h.lst.step he
 have h3 := h.rel.put (x := x) hk
 have h4 : addL T k x = T ++ [(k, x)] := if_pos he
 rw [h1] at h2 h3
 rw [h4, Zso]
 exact ⟨⟨h3, by rw [Zso]; exact h2⟩, rfl, by simp⟩
theorem Tk.small {t : Tr} {T : PList} (h : Tk t T) : ∀ (j : Nat) q y, T[j]? = some (q, y) -> q.length <= 1000000 := fun j q y hq => by have := ((h.rel.m q y).1 (List.mem_of_getElem? hq)).2.1; omega
theorem Zzg (K : Nat -> Prop) (w : World) : PAt K w none 0 0 [] [] := ⟨rfl, rfl, Nat.le_refl _, fun _ => ⟨rfl, rfl⟩, fun j u hj => by simp [flatP] at hj, fun j p e h => by simp at h, fun x hx => by cases hx⟩
theorem PAt.keep8 {K L : Nat -> Prop} {w w' : World} {a : Option Addr} {n c : Nat} {vs : List (Value × Value)} {l : PList} (h : PAt K w a n c vs l) (hk : Keep K L w w') : PAt L w' a n c vs l := by
 refine ⟨h.vl, h.ll, h.nc, h.nil, fun j u hj => ?_, fun j p e h1 h2 => ?_, fun x hx hn => ?_⟩
 ·obtain ⟨g, off, e1, e2⟩ := h.row j u hj
  have hn : 0 < n := by
   have := (List.getElem?_eq_some_iff.1 hj).1
   have h2 := h.vl
   rcases Nat.eq_zero_or_pos n with h0 | h0
   ·rw [h0] at h2; rw [List.eq_nil_of_length_eq_zero h2] at this; simp [flatP] at this
   ·exact h0
  exact ⟨g, off, e1, (World.cell?_of_block (w := w) (hk g (h.rk _ e1 hn) (block_lt_of_cell e2)).1).trans e2⟩
 ·obtain ⟨a1, n1, c1, a2, n2, c2, e1, e2, h3, h4⟩ := h.gd j p e h1 h2
  exact ⟨a1, n1, c1, a2, n2, c2, e1, e2, h3.keep hk, h4.keep hk⟩
 ·have hlt : x.block < w.heap.size := by
   have h2 := h.vl
   obtain ⟨p, r, hv⟩ : ∃ p r, vs = p :: r := by
    cases vs with
    | nil => simp at h2; omega
    | cons p r => exact ⟨p, r, rfl⟩
   obtain ⟨g, off, e1, e2⟩ := h.row 0 p.1 (by rw [hv]; simp [flatP])
   rw [e1] at hx; cases hx
   exact block_lt_of_cell e2
  exact (hk _ (h.rk x hx hn) hlt).2
def NotIn (a : Option Addr) (b : Nat) : Prop := ∀ g o, a = some ⟨g, o, none⟩ -> b ≠ g
theorem Bu.sub {Y Y' : Nat -> Prop} {w : World} {base gB m : Nat} {t : Tr} {lk : Option (List Int)} {vW : Value} (h : Bu Y w base gB m t lk vW) (hY : ∀ b, b < w.heap.size -> Y b -> Y' b) : Bu Y' w base gB m t lk vW := by
 obtain ⟨pV, rs, fs, hC, hP⟩ := h
 refine ⟨pV, rs, fs, ⟨hC.row, ?_, hC.kg, hC.sm⟩, ?_⟩
 ·rcases hC.wv with q | ⟨g, cap, e, hg, hw⟩
  ·exact .inl q
  ·exact .inr ⟨g, cap, e, hg, ⟨hw.row, hw.nc, hw.cm, hw.y, hw.at'.keep (fun b hb hl => ⟨rfl, hb.1, hb.2.1, hY b hl hb.2.2⟩)⟩⟩
 ·rcases hP with q | ⟨a, n, c, k, v, r, e1, e2, e3⟩
  ·exact .inl q
  ·exact .inr ⟨a, n, c, k, v, r, e1, e2.keep (fun b hb hl => ⟨rfl, hb.1, hb.2.1, hY b hl hb.2.2⟩), e3⟩
theorem Bu.touK {Y : Nat -> Prop} {gT : Nat} {w w' : World} {base gB m : Nat} {t : Tr} {lk : Option (List Int)} {vW : Value} (h : Bu Y w base gB m t lk vW) (ht : Touch gT w w') (h1 : gB ≠ gT) (h2 : KF vW gT) (hY : ¬ Y gT) : Bu Y w' base gB m t lk vW := by
 obtain ⟨pV, rs, fs, hC, hP⟩ := h
 refine ⟨pV, rs, fs, ⟨(ht.block gB (lt_of_get hC.row) h1).trans hC.row, ?_, hC.kg, hC.sm⟩, ?_⟩
 ·rcases hC.wv with q | ⟨g, cap, e, hg, hw⟩
  ·exact .inl q
  ·subst e
   obtain ⟨cur, r1, r2⟩ := hw.row
   have eg := ht.block g (lt_of_get r1) (fun e => Zfb h2 e.symm)
   exact .inr ⟨g, cap, rfl, hg, ⟨⟨cur, eg.trans r1, r2⟩, hw.nc, hw.cm, hw.y.same eg, hw.at'.keep (fun b hb hl => ⟨ht.block b hl (fun e => hY (e ▸ hb.2.2)), hb⟩)⟩⟩
 ·rcases hP with q | ⟨a, n, c, k, v, r, e1, e2, e3⟩
  ·exact .inl q
  ·exact .inr ⟨a, n, c, k, v, r, e1, e2.keep (fun b hb hl => ⟨ht.block b hl (fun e => hY (e ▸ hb.2.2)), hb⟩), e3⟩
structure Sft (w : World) (a : Option Addr) (n : Nat) : Prop where
 e : ∀ j, j < n -> ∃ g o, a = some ⟨g, o, none⟩ /\ (∃ x : Int, w.cell? ⟨g, o + j, none⟩ = some (.int .u8 x)) /\ ∀ q, w.frozen? ⟨g, q, none⟩ = false
theorem Sft.go {w w' : World} {a : Option Addr} {n : Nat} (h : Sft w a n) (hb : Bl w w') : Sft w' a n := ⟨fun j hj => by
 obtain ⟨g, o, e1, ⟨x, e2⟩, e3⟩ := h.e j hj
 have hlt := block_lt_of_cell e2
 exact ⟨g, o, e1, ⟨x, (Below.cell hb hlt).trans e2⟩, fun q => (World.frozen?_of_block (w := w) (Below.block hb g hlt)).trans (e3 q)⟩⟩
theorem Sft.keep {w w' : World} {a : Option Addr} {n : Nat} (h : Sft w a n) (hk : ∀ g o, a = some ⟨g, o, none⟩ -> g < w.heap.size -> w'.heap[g]? = w.heap[g]?) : Sft w' a n := ⟨fun j hj => by
 obtain ⟨g, o, e1, ⟨x, e2⟩, e3⟩ := h.e j hj
 have hb := hk g o e1 (block_lt_of_cell e2)
 exact ⟨g, o, e1, ⟨x, (World.cell?_of_block (w := w) hb).trans e2⟩, fun q => (World.frozen?_of_block (w := w) hb).trans (e3 q)⟩⟩
theorem Sft.set {w w' : World} {g o n i : Nat} (h : Sft w (some ⟨g, o, none⟩) n) {x : Int} (hs : Set1 w w' g (o + i) (.int .u8 x)) : Sft w' (some ⟨g, o, none⟩) n := ⟨fun j hj => by
 obtain ⟨g', o', e1, ⟨y, e2⟩, e3⟩ := h.e j hj
 cases e1
 refine ⟨g, o, rfl, ?_, fun q => by rw [hs.hw, World.frozen?_setCell]; exact e3 q⟩
 rw [hs.hw]
 by_cases e : j = i
 ·subst e; exact ⟨x, World.cell?_setCell_same _ _ _ e2⟩
 ·exact ⟨y, by rw [World.cell?_setCell_other _ _ _ _ (by intro q; injection q with _ q2; omega)]; exact e2⟩⟩
theorem Sft.of {K : Nat -> Prop} {w : World} {a : Option Addr} {n c : Nat} {bs : List Int} (h : Sk K w a n c bs) (hf : ∀ g o, a = some ⟨g, o, none⟩ -> ∀ q, w.frozen? ⟨g, q, none⟩ = false) : Sft w a n := ⟨fun j hj => by
 rcases h.ag.i with ⟨q, _⟩ | ⟨gb, off, e, hl, _, _, _, hc⟩
 ·omega
 ·exact ⟨gb, off, e, ⟨_, hc j (by omega)⟩, hf gb off e⟩⟩
theorem Zr7 {ρ : Operand -> Value} {w : World} {o : Oper} {x y : Operand} {g k : Nat} {z old : Int} (ho : o.op = .store 5 x y) (hx : ρ x = .pointer (some ⟨g, k, none⟩)) (hy : ρ y = .int .u8 z) (hc : w.cell? ⟨g, k, none⟩ = some (.int .u8 old)) (hf : ∀ q, w.frozen? ⟨g, q, none⟩ = false) :
  (execOp ρ o).run Tryz.prog w = .ok .skip (w.setCell ⟨g, k, none⟩ (.int .u8 z)) := by
 unfold execOp
 rw [ho]
 simp only [hx, hy]
 go_simp
theorem Zwk {w : World} {base : Nat} {a : Option Addr} {n c : Nat} {bs : List Int} (h : OwnB w base (.slice a n c) bs) : ∀ g off, a = some ⟨g, off, none⟩ -> base <= g /\ g < w.heap.size /\ ∀ o, w.frozen? ⟨g, o, none⟩ = false := by
 intro g off e
 rcases h.2 with ⟨h1, _⟩ | ⟨k, cap, cur, hv, hb, hh, r⟩
 ·injection h1 with h1; rw [h1] at e; cases e
 ·injection hv with hv1
  rw [hv1] at e; cases e
  exact ⟨hb, lt_of_get hh, fun o => frozen_of_row _ _ _ _ _ hh⟩
set_option maxHeartbeats 8000000 in
theorem Zsl {K : Nat -> Prop} {w : World} {a : Option Addr} {n c : Nat} {vs : List (Value × Value)} {l : PList} (hl : PAt K w a n c vs l) (hn : n <= 2932031007317) (hM : ∀ e ∈ l, e.1.length <= 140737488351232 /\ e.2.length <= 140737488351232) :
  Calls Tryz.prog 3 #[.slice a n c] w fun e w' => ∃ u, e = .returned u /\ (fun u w' => u = .bool true /\ Bl w w') u w' := by
 have hB := Bl.refl w
 have hlo := hl.old
 have hll := hl.ll
 refine Za4 Tryz.func3 rfl 79 rfl ?_
 show CW _ _ _ _ _ _ _ [(0, .slice a n c)] _
 refine Zac <| Zaa <| rp 2 (.bool false) <| Zad <| Zab <| Zac <| Zaa <| Zaz 11 4 #[] (fun _ => by kernel_rfl) (fun _ => by kernel_rfl) (R := fun u w' => (∃ gB, u = .pointer (some ⟨gB, 0, none⟩) /\ Bu (fun _ => True) w' 0 gB 0 no none (.slice none 0 0) /\ w.heap.size <= gB) /\ Bl w w') (Zlf (Y := fun _ => True) 0) ?_
 rintro _ u1 ⟨⟨gB, rfl, hU, hgB⟩, hb1⟩
 replace hB := hB.go hb1
 have hgl := hU.lo.2
 refine rp 3 (.pointer (some ⟨gB, 0, none⟩)) <| Zad <| Zab <| Zac <| Zac <| Zaa <| rp 12 (.pointer (some ⟨gB, 0, none⟩)) <| rp 13 (.bool false) <| rp 14 (.bool false) <| Zaz 15 5 #[] (fun _ => by kernel_rfl) (fun _ => by kernel_rfl) (R := fun u w' => u = .bool true /\ Bl u1 w') (Zt9) ?_
 rintro _ u3 ⟨rfl, hb3⟩
 replace hB := hB.go hb3
 replace hU := hU.go hb3
 refine rp 16 (.bool false) <| rp 17 (.bool false) <| Zad <| Zab <| Zan (fun _ => by kernel_rfl) <| Za0 <| Zab <| Zac <| Zaa <| rp 4 (.slice none 0 0) <| Zad <| Zab ?_
 refine Zac <| Zac <| Zaa <| rp 18 (.slice a n c) <| rp 19 (.int .i64 n) <| rp 20 (.int .i64 0) <| Zad <| Zab <| Zav ?_
 obtain ⟨bs, hbs⟩ : ∃ b, u3.heap.size = b := ⟨_, rfl⟩
 have hU0 : Bu (fun _ => True) u3 bs gB 0 no none (.slice none 0 0) := hU.anew bs
 have hz3 := hB.size
 have hgB3 := hU.lo.2
 refine Zcv (X := Nat × Option Addr × Nat × Nat) (fun q => [(20, .int .i64 ((q.1 : Nat) : Int)), (18, .slice a n c), (19, .int .i64 n), (3, .pointer (some ⟨gB, 0, none⟩)), (4, .slice q.2.1 q.2.2.1 q.2.2.2)]) (fun q v => Bl w v /\ (∃ t T vW vsT, Bu (fun _ => True) v bs gB T.length t (lkP T) vW /\ PAt (fun b => KF vW b /\ b ≠ gB) v q.2.1 q.2.2.1 q.2.2.2 vsT T /\ Tk t T /\ T.length <= q.1) /\ q.1 <= n /\ bs <= v.heap.size) (fun q => n - q.1) (0, none, 0, 0) (by exact ⟨fun _ => by kernel_rfl, ⟨fun _ => by kernel_rfl, ⟨fun _ => by kernel_rfl, ⟨fun _ => by kernel_rfl, ⟨fun _ => by kernel_rfl, trivial⟩⟩⟩⟩⟩) ⟨hB, ⟨no, [], .slice none 0 0, [], hU0, Zzg _ _, Tk.nil, Nat.le_refl _⟩, Nat.zero_le _, by show bs <= u3.heap.size; omega⟩ ?_
 clear hB hU hU0
 rintro ⟨j, aT, nT, cT⟩ v ⟨hB, ⟨t, T, vW, vsT, hU, hT, hk, hTl⟩, hj, hbv⟩
 simp only at hB hU hT hTl hj hbv
 have hTn := hT.ll
 show CW _ _ _ _ _ _ _ [(20, .int .i64 ((j : Nat) : Int)), (18, .slice a n c), (19, .int .i64 n), (3, .pointer (some ⟨gB, 0, none⟩)), (4, .slice aT nT cT)] _
 by_cases hlt : j < n
 ·skip
  obtain ⟨gE, oE, a1, n1, c1, a2, n2, c2, k, x, ea, hej, hc1, hc2, hs1, hs2⟩ := (hlo.go hB).at hlt
  subst ea
  have hUl := hU.lo
  have hlm := hM _ (List.mem_of_getElem? hej)
  have lk1 := hs1.len
  have lx1 := hs2.len
  simp only at hlm
  replace hU := hU.sub (Y' := fun b => b < v.heap.size) (fun b hb _ => hb)
  replace hT := hT.old
  refine Zac <| Zaa <| rv 21 (.bool true) (fun _ => Zah (v := .bool (decide (((j : Nat) : Int) < (n : Int)))) (by kernel_rfl) (congrArg Value.bool (decide_eq_true (by omega)))) <| Zad <| Zab <| Zac <| Zao (fun _ => by kernel_rfl) <| Za0 <| Zab <| Zac <| Zav <| Zac ?_
  refine Zaa <| rv 22 (.pointer (some ⟨gE, oE + j * 2, none⟩)) (fun _ => Zat 22 _ _ gE oE j n c 2 28 rfl (by kernel_rfl) (by kernel_rfl) hlt Tryz.underlying22 (by kernel_rfl)) <| rv 23 (.agg #[.slice a1 n1 c1, .slice a2 n2 c2]) (fun _ => Zj0 28 _ gE (oE + j * 2) [.slice a1 n1 c1, .slice a2 n2 c2] _ rfl (by kernel_rfl) (rng2 hc1 hc2) Tryz.underlying28 rfl (by kernel_rfl)) <| Zcf 6 #[.slice none 0 0, .slice none 0 0] 28 (fun _ => by kernel_rfl) (fun _ => by kernel_rfl) ?_
  intro wA gA hnA
  refine Zdk gA #[.slice a1 n1 c1, .slice a2 n2 c2] (fun _ => by kernel_rfl) (fun _ => Zbn 28 _ _ _ _ _ _ rfl (by kernel_rfl) (by kernel_rfl) hnA.row (by kernel_rfl) rfl (by kernel_rfl)) ?_
  intro wC hpC
  have hnC := hnA.put hpC
  have hgA := hnC.hg
  replace hB := hB.go hnC.below
  replace hU := hU.go hnC.below
  replace hT := hT.go hnC.below
  replace hs1 := hs1.go hnC.below
  replace hs2 := hs2.go hnC.below
  have hrA : Rw gA wC #[.slice a1 n1 c1, .slice a2 n2 c2] 28 := hnC.row
  have hzC := hnC.below.size
  refine Zad <| Zab <| Zac <| Zaa <| rp 24 (.pointer (some ⟨gA, 0, none⟩)) <| rv 25 (.slice a1 n1 c1) (fun _ => Zam 26 _ ⟨gA, 0, none⟩ _ _ rfl (by kernel_rfl) (by rw [cell_of_row _ _ _ _ _ _ hrA]; rfl) Tryz.underlying26 rfl) ?_
  obtain ⟨vK, wK, hrK, hoK, hbK⟩ := Zt6 (w := wC) (base := wC.heap.size) (v := .slice none 0 0) (bs := []) (World.ownsRow_nil _ _ _ 1) hs1.ag (by simp; omega) (Nat.le_refl _)
  refine rw_v 26 vK (fun _ => by kernel_rfl) (fun _ => Zwm hrK _ _ rfl (by kernel_rfl) (by kernel_rfl)) ?_
  rw [List.nil_append] at hoK
  obtain ⟨aK, cK, eK, hsK⟩ := hoK.sk (K := fun b => wC.heap.size <= b) hs1.ag.b (fun b hb => hb)
  subst eK
  have hfK := Zwk hoK
  have hSK : Sft wK aK k.length := Sft.of hsK (fun g o e => (hfK g o e).2.2)
  have hzK := Below.size hbK
  replace hB := hB.go (show Bl wC wK from hbK)
  replace hU := hU.go (show Bl wC wK from hbK)
  replace hT := hT.go (show Bl wC wK from hbK)
  replace hs1 := hs1.go (show Bl wC wK from hbK)
  replace hs2 := hs2.go (show Bl wC wK from hbK)
  replace hrA := hrA.go (show Bl wC wK from hbK)
  refine rp 7 (.slice aK k.length cK) <| Zad <| Zab <| Zac <| Zaa <| rp 27 (.pointer (some ⟨gA, 1, none⟩)) <| rv 28 (.slice a2 n2 c2) (fun _ => Zam 26 _ ⟨gA, 1, none⟩ _ _ rfl (by kernel_rfl) (by rw [cell_of_row _ _ _ _ _ _ hrA]; rfl) Tryz.underlying26 rfl) ?_
  obtain ⟨vX, wX, hrX, hoX, hbX⟩ := Zt6 (w := wK) (base := wK.heap.size) (v := .slice none 0 0) (bs := []) (World.ownsRow_nil _ _ _ 1) hs2.ag (by simp; omega) (Nat.le_refl _)
  refine rw_v 29 vX (fun _ => by kernel_rfl) (fun _ => Zwm hrX _ _ rfl (by kernel_rfl) (by kernel_rfl)) ?_
  rw [List.nil_append] at hoX
  obtain ⟨aX, cX, eX, hsX⟩ := hoX.sk (K := fun b => wK.heap.size <= b) hs2.ag.b (fun b hb => hb)
  subst eX
  have hfX := Zwk hoX
  have hSX : Sft wX aX x.length := Sft.of hsX (fun g o e => (hfX g o e).2.2)
  have hzX := Below.size hbX
  replace hB := hB.go (show Bl wK wX from hbX)
  replace hU := hU.go (show Bl wK wX from hbX)
  replace hT := hT.go (show Bl wK wX from hbX)
  replace hs1 := hs1.go (show Bl wK wX from hbX)
  replace hs2 := hs2.go (show Bl wK wX from hbX)
  replace hrA := hrA.go (show Bl wK wX from hbX)
  replace hSK := hSK.go (show Bl wK wX from hbX)
  replace hsK := hsK.go (show Bl wK wX from hbX)
  refine rp 8 (.slice aX x.length cX) <| Zad <| Zab <| Zac <| Zaa <| rp 30 (.pointer (some ⟨gB, 0, none⟩)) <| rp 31 (.slice aK k.length cK) <| rp 32 (.slice aX x.length cX) ?_
  have hkB : isB k := hs1.ag.b
  replace hU := hU.sub (Y' := fun b => NotIn aK b /\ NotIn aX b) (fun b _ hb => ⟨fun g o e => by have := (hfK g o e).1; omega, fun g o e => by have := (hfX g o e).1; omega⟩)
  refine Zaz 33 6 #[.pointer (some ⟨gB, 0, none⟩), .slice aK k.length cK, .slice aX x.length cX] (fun _ => by kernel_rfl) (fun _ => by kernel_rfl) (R := RAd (fun b => NotIn aK b /\ NotIn aX b) (wX) bs gB T.length t (lkP T) vW k x) (Zlg hU (fun b hb => ⟨fun g o e => by have := (hfK g o e).2.1; omega, fun g o e => by have := (hfX g o e).2.1; omega⟩) (by omega) (by omega) hsK (hsX.mono (fun b hb => ⟨fun e => by have := (hUl.1 b e).2; have : _ <= b := hb; omega, by have : _ <= b := hb; have := hUl.2; omega⟩))) ?_
  rintro _ u4 ⟨rfl, vW2, hU2, hA2⟩
  have hz4 := hA2.size
  have hrA4 := (hA2.block gA (lt_of_get hrA) (by have := hUl.2; omega) (fun e => by have := (hUl.1 gA e).2; omega)).trans hrA
  replace hT := hT.keep8 (L := fun b => (KF vW2 b /\ b ≠ gB) /\ b < v.heap.size) (fun b hb hl => ⟨(hA2.keep8 b hb.1 hl).1, (hA2.keep8 b hb.1 hl).2, hb.2⟩)
  replace hs1 := hs1.keep (L := fun b => b < w.heap.size) (fun b hb hl => ⟨hA2.block b hl (by have := hb.2; omega) (fun e => by have := (hUl.1 b e).1; have := hb.2; omega), hb.2⟩)
  replace hs2 := hs2.keep (L := fun b => b < w.heap.size) (fun b hb hl => ⟨hA2.block b hl (by have := hb.2; omega) (fun e => by have := (hUl.1 b e).1; have := hb.2; omega), hb.2⟩)
  replace hSK := hSK.keep (fun g o e hl => hA2.block g hl (by have := (hfK g o e).1; have := hUl.2; omega) (fun q => by have := (hUl.1 g q).2; have := (hfK g o e).1; omega))
  replace hSX := hSX.keep (fun g o e hl => hA2.block g hl (by have := (hfX g o e).1; have := hUl.2; omega) (fun q => by have := (hUl.1 g q).2; have := (hfX g o e).1; omega))
  replace hB : Bl w u4 := hA2.blw hB (by omega) (fun k hk => by have := (hUl.1 k hk).1; omega)
  clear hU hrA hsK hsX
  have hrA : Rw gA u4 #[.slice a1 n1 c1, .slice a2 n2 c2] 28 := hrA4
  have hU2l := hU2.lo
  have hoK2 : ∀ g o, aK = some ⟨g, o, none⟩ -> vW2.ownBlock ≠ some g := fun g o e q => by
   have h1 := hfK g o e
   rcases hA2.own with r | r
   ·rw [r] at q; have := (hUl.1 g q).2; omega
   ·have := r g q; omega
  have hoX2 : ∀ g o, aX = some ⟨g, o, none⟩ -> vW2.ownBlock ≠ some g := fun g o e q => by
   have h1 := hfX g o e
   rcases hA2.own with r | r
   ·rw [r] at q; have := (hUl.1 g q).2; omega
   ·have := r g q; omega
  refine Zad <| Zab <| Zac <| Zaa <| rp 35 (.slice aT nT cT) <| rp 36 (.pointer (some ⟨gA, 0, none⟩)) <| rv 37 (.slice a1 n1 c1) (fun _ => Zam 26 _ ⟨gA, 0, none⟩ _ _ rfl (by kernel_rfl) (by rw [cell_of_row _ _ _ _ _ _ hrA]; rfl) Tryz.underlying26 rfl) <| rp 38 (.pointer (some ⟨gA, 1, none⟩)) <| rv 39 (.slice a2 n2 c2) (fun _ => Zam 26 _ ⟨gA, 1, none⟩ _ _ rfl (by kernel_rfl) (by rw [cell_of_row _ _ _ _ _ _ hrA]; rfl) Tryz.underlying26 rfl) ?_
  have hU2lo : ∀ b, vW2.ownBlock = some b -> bs <= b /\ b < u4.heap.size := hU2l.1
  refine Zaz 40 7 #[.slice aT nT cT, .slice a1 n1 c1, .slice a2 n2 c2] (fun _ => by kernel_rfl) (fun _ => by kernel_rfl) (R := fun u w' => (∃ a' n' c' vs', u = .tuple #[.slice a' n' c', .int .i64 (addE (lkP T) k x)] /\ PAt (fun b => ((KF vW2 b /\ b ≠ gB) /\ b < v.heap.size) \/ (u4).heap.size <= b) w' a' n' c' vs' (addL T k x)) /\ Bl (u4) w') (Zvx hT (by omega) hk.small (hs1.mono (fun b hb => ⟨⟨⟨fun e => by have := (hU2lo b e).1; have : b < w.heap.size := hb; omega, by have : b < w.heap.size := hb; omega⟩, by have : b < w.heap.size := hb; omega⟩, by have : b < w.heap.size := hb; have := hB.size; omega⟩)) (hs2.mono (fun b hb => ⟨⟨⟨fun e => by have := (hU2lo b e).1; have : b < w.heap.size := hb; omega, by have : b < w.heap.size := hb; omega⟩, by have : b < w.heap.size := hb; omega⟩, by have : b < w.heap.size := hb; have := hB.size; omega⟩))) ?_
  rintro _ u6 ⟨⟨a6, n6, c6, vs6, rfl, hP6⟩, hb6⟩
  replace hT := hP6.mono (K' := fun b => (KF vW2 b /\ b ≠ gB) /\ NotIn aK b /\ NotIn aX b) (fun b hb => by rcases hb with h | h; exact ⟨h.1, fun g o e => by have := (hfK g o e).1; have := h.2; omega, fun g o e => by have := (hfX g o e).1; have := h.2; omega⟩; exact ⟨⟨fun e => by have := (hU2lo b e).2; omega, by have := hU2l.2; omega⟩, fun g o e => by have := (hfK g o e).2.1; omega, fun g o e => by have := (hfX g o e).2.1; omega⟩)
  replace hB := hB.go hb6
  replace hs1 := hs1.go hb6
  replace hs2 := hs2.go hb6
  replace hU2 := hU2.go hb6
  replace hSK := hSK.go hb6
  replace hSX := hSX.go hb6
  replace hrA := hrA.go hb6
  have hz6 := hb6.size
  obtain ⟨tN, TN, eTN, hU, hkN, hlN⟩ : ∃ tN TN, addL T k x = TN /\ Bu (fun b => NotIn aK b /\ NotIn aX b) u6 bs gB TN.length tN (lkP TN) vW2 /\ Tk tN TN /\ TN.length <= T.length + 1 := by
   by_cases he : addE (lkP T) k x = 0
   ·obtain ⟨hk2, hlk2, hln2⟩ := hk.step (x := x) hkB he
    rw [if_pos he, if_pos he, if_pos he, <- hln2, <- hlk2] at hU2
    exact ⟨_, _, rfl, hU2, hk2, by omega⟩
   ·have hTe : addL T k x = T := if_neg he
    rw [if_neg he, if_neg he, if_neg he] at hU2
    exact ⟨t, T, hTe, hU2, hk, by omega⟩
  rw [eTN] at hT
  clear hU2
  have hU2l6 : ∀ b, vW2.ownBlock = some b -> b < u4.heap.size := fun b e => (hU2lo b e).2
  have hownK : ∀ g o, aK = some ⟨g, o, none⟩ -> vW2.ownBlock ≠ some g := hoK2
  have hownX : ∀ g o, aX = some ⟨g, o, none⟩ -> vW2.ownBlock ≠ some g := hoX2
  have hapart : ∀ g o, aK = some ⟨g, o, none⟩ -> ∀ g2 o2, aX = some ⟨g2, o2, none⟩ -> g ≠ g2 := fun g o e g2 o2 e2 h => by have := (hfK g o e).2.1; have := (hfX g2 o2 e2).1; omega
  refine rp 34 (.tuple #[.slice a6 n6 c6, .int .i64 (addE (lkP T) k x)]) <| rp 41 (.slice a6 n6 c6) <| rp 42 (.int .i64 (addE (lkP T) k x)) <| rp 4 (.slice a6 n6 c6) <| Zad <| Zab <| Zac <| Zac ?_
  have hwz6 := hB.size
  refine Zaa <| rp 43 (.slice aK k.length cK) <| rp 44 (.int .i64 k.length) <| rp 45 (.int .i64 0) <| Zad <| Zab <| Zav <| Zcv (X := Nat) (fun q => [(45, .int .i64 ((q : Nat) : Int)), (44, .int .i64 k.length), (7, .slice aK k.length cK), (8, .slice aX x.length cX), (20, .int .i64 ((j : Nat) : Int)), (18, .slice (some ⟨gE, oE, none⟩) n c), (19, .int .i64 n), (3, .pointer (some ⟨gB, 0, none⟩)), (4, .slice a6 n6 c6)]) (fun q v => Bl w v /\ u6.heap.size <= v.heap.size /\ Bu (fun b => NotIn aK b /\ NotIn aX b) v bs gB TN.length tN (lkP TN) vW2 /\ PAt (fun b => (KF vW2 b /\ b ≠ gB) /\ NotIn aK b /\ NotIn aX b) v a6 n6 c6 vs6 TN /\ Sft v aK k.length /\ Sft v aX x.length /\ q <= k.length) (fun q => k.length - q) 0 (by exact ⟨fun _ => by kernel_rfl, ⟨fun _ => by kernel_rfl, ⟨fun _ => by kernel_rfl, ⟨fun _ => by kernel_rfl, ⟨fun _ => by kernel_rfl, ⟨fun _ => by kernel_rfl, ⟨fun _ => by kernel_rfl, ⟨fun _ => by kernel_rfl, ⟨fun _ => by kernel_rfl, trivial⟩⟩⟩⟩⟩⟩⟩⟩⟩) ⟨hB, Nat.le_refl _, hU, hT, hSK, hSX, Nat.zero_le _⟩ ?_
  clear hB hU hT hSK hSX
  rintro i v7 ⟨hB, hz7, hU, hT, hSK, hSX, hi⟩
  show CW _ _ _ _ _ _ _ [(45, .int .i64 ((i : Nat) : Int)), (44, .int .i64 k.length), (7, .slice aK k.length cK), (8, .slice aX x.length cX), (20, .int .i64 ((j : Nat) : Int)), (18, .slice (some ⟨gE, oE, none⟩) n c), (19, .int .i64 n), (3, .pointer (some ⟨gB, 0, none⟩)), (4, .slice a6 n6 c6)] _
  by_cases hil : i < k.length
  ·skip
   obtain ⟨gT, oT, eT, ⟨xo, hxo⟩, hfr⟩ := hSK.e i hil
   have hfT := hfK gT oT eT
   have hYT : ¬ ((fun b => NotIn aK b /\ NotIn aX b) gT) := fun h => h.1 gT oT eT rfl
   have hKT : KF vW2 gT := fun e => by exact hownK gT oT eT e
   have hne : ∀ g o, aX = some ⟨g, o, none⟩ -> g ≠ gT := fun g o e h => by exact hapart gT oT eT g o e h.symm
   refine Zac <| Zaa <| rv 46 (.bool true) (fun _ => Zah (v := .bool (decide (((i : Nat) : Int) < (k.length : Int)))) (by kernel_rfl) (congrArg Value.bool (decide_eq_true (by omega)))) <| Zad <| Zab <| Zac <| Zao (fun _ => by kernel_rfl) <| Za0 <| Zab <| Zac <| Zav <| Zac ?_
   refine Zaa <| rp 47 (.int .i64 ((i : Nat) : Int)) <| rp 9 (.int .i64 ((i : Nat) : Int)) <| Zad <| Zab <| Zaa <| rp 48 (.slice aK k.length cK) <| rp 49 (.int .i64 ((i : Nat) : Int)) <| rp 50 (.int .i64 ((i : Nat) : Int)) <| rp 51 (.int .u8 (IntKind.u8.wrap ((i : Nat) : Int))) <| rv 52 (.pointer (some ⟨gT, oT + i * 1, none⟩)) (fun _ => Zat 26 _ _ gT oT i k.length cK 1 5 rfl (by rw [<- eT]; kernel_rfl) (by kernel_rfl) hil Tryz.underlying26 (by kernel_rfl)) <| Zf8 gT (oT + i * 1) (.int .u8 (IntKind.u8.wrap ((i : Nat) : Int))) (fun _ => by kernel_rfl) (fun _ => Zr7 (old := xo) rfl (by kernel_rfl) (by kernel_rfl) (by rw [Nat.mul_one]; exact hxo) hfr) ?_
   intro v8 hs8
   rw [Nat.mul_one] at hs8
   replace hB : Bl w v8 := hs8.touch.below hB (by omega) hB.size
   replace hU := hU.touK hs8.touch (by omega) hKT hYT
   replace hT := hT.tou hs8.touch (fun h => hYT h.2)
   have hSX8 := hSX.keep (fun g o e _ => hs8.other (hne g o e))
   replace hz7 : u6.heap.size <= v8.heap.size := Nat.le_trans hz7 hs8.touch.size
   rw [eT] at hSK
   have hSK8 := hSK.set hs8
   rw [<- eT] at hSK8
   clear hSK hSX
   have hSK := hSK8
   have hSX := hSX8
   refine Zad <| Za9 <| Zab <| Zaa <| rv 53 (.int .i64 (((i : Nat) : Int) + 1)) (fun _ => Zah (v := .int .i64 (IntKind.i64.wrap (((i : Nat) : Int) + 1))) (by kernel_rfl) (congrArg (Value.int .i64) (Zby (by omega) (by omega)))) <| rp 45 (.int .i64 (((i : Nat) : Int) + 1)) <| Zad ?_
   exact Zbf (E := fun q => [(45, .int .i64 ((q : Nat) : Int)), (44, .int .i64 k.length), (7, .slice aK k.length cK), (8, .slice aX x.length cX), (20, .int .i64 ((j : Nat) : Int)), (18, .slice (some ⟨gE, oE, none⟩) n c), (19, .int .i64 n), (3, .pointer (some ⟨gB, 0, none⟩)), (4, .slice a6 n6 c6)]) (R := fun q v => Bl w v /\ u6.heap.size <= v.heap.size /\ Bu (fun b => NotIn aK b /\ NotIn aX b) v bs gB TN.length tN (lkP TN) vW2 /\ PAt (fun b => (KF vW2 b /\ b ≠ gB) /\ NotIn aK b /\ NotIn aX b) v a6 n6 c6 vs6 TN /\ Sft v aK k.length /\ Sft v aX x.length /\ q <= k.length) (μ := fun q => k.length - q) (x := i) (i + 1) (by exact ⟨fun _ => by kernel_rfl, ⟨fun _ => by kernel_rfl, ⟨fun _ => by kernel_rfl, ⟨fun _ => by kernel_rfl, ⟨fun _ => by kernel_rfl, ⟨fun _ => by kernel_rfl, ⟨fun _ => by kernel_rfl, ⟨fun _ => by kernel_rfl, ⟨fun _ => by kernel_rfl, trivial⟩⟩⟩⟩⟩⟩⟩⟩⟩) ⟨hB, hz7, hU, hT, hSK, hSX, hil⟩ (by omega)
  refine Zac <| Zaa <| rv 46 (.bool false) (fun _ => Zah (v := .bool (decide (((i : Nat) : Int) < (k.length : Int)))) (by kernel_rfl) (congrArg Value.bool (decide_eq_false (by omega)))) <| Zad <| Zab <| Zac <| Zan (fun _ => by kernel_rfl) <| Zc8 <| Zap <| Zap <| Zbb <| Zab ?_
  refine Zac <| Zaa <| rp 54 (.slice aX x.length cX) <| rp 55 (.int .i64 x.length) <| rp 56 (.int .i64 0) <| Zad <| Zab <| Zav <| Zcv (X := Nat) (fun q => [(56, .int .i64 ((q : Nat) : Int)), (55, .int .i64 x.length), (7, .slice aK k.length cK), (8, .slice aX x.length cX), (20, .int .i64 ((j : Nat) : Int)), (18, .slice (some ⟨gE, oE, none⟩) n c), (19, .int .i64 n), (3, .pointer (some ⟨gB, 0, none⟩)), (4, .slice a6 n6 c6)]) (fun q v => Bl w v /\ u6.heap.size <= v.heap.size /\ Bu (fun b => NotIn aK b /\ NotIn aX b) v bs gB TN.length tN (lkP TN) vW2 /\ PAt (fun b => (KF vW2 b /\ b ≠ gB) /\ NotIn aK b /\ NotIn aX b) v a6 n6 c6 vs6 TN /\ Sft v aK k.length /\ Sft v aX x.length /\ q <= x.length) (fun q => x.length - q) 0 (by exact ⟨fun _ => by kernel_rfl, ⟨fun _ => by kernel_rfl, ⟨fun _ => by kernel_rfl, ⟨fun _ => by kernel_rfl, ⟨fun _ => by kernel_rfl, ⟨fun _ => by kernel_rfl, ⟨fun _ => by kernel_rfl, ⟨fun _ => by kernel_rfl, ⟨fun _ => by kernel_rfl, trivial⟩⟩⟩⟩⟩⟩⟩⟩⟩) ⟨hB, hz7, hU, hT, hSK, hSX, Nat.zero_le _⟩ ?_
  clear hB hU hT hSK hSX
  rintro i v7 ⟨hB, hz7, hU, hT, hSK, hSX, hi⟩
  show CW _ _ _ _ _ _ _ [(56, .int .i64 ((i : Nat) : Int)), (55, .int .i64 x.length), (7, .slice aK k.length cK), (8, .slice aX x.length cX), (20, .int .i64 ((j : Nat) : Int)), (18, .slice (some ⟨gE, oE, none⟩) n c), (19, .int .i64 n), (3, .pointer (some ⟨gB, 0, none⟩)), (4, .slice a6 n6 c6)] _
  by_cases hil : i < x.length
  ·skip
   obtain ⟨gT, oT, eT, ⟨xo, hxo⟩, hfr⟩ := hSX.e i hil
   have hfT := hfX gT oT eT
   have hYT : ¬ ((fun b => NotIn aK b /\ NotIn aX b) gT) := fun h => h.2 gT oT eT rfl
   have hKT : KF vW2 gT := fun e => by exact hownX gT oT eT e
   have hne : ∀ g o, aK = some ⟨g, o, none⟩ -> g ≠ gT := fun g o e h => by exact hapart g o e gT oT eT h
   refine Zac <| Zaa <| rv 57 (.bool true) (fun _ => Zah (v := .bool (decide (((i : Nat) : Int) < (x.length : Int)))) (by kernel_rfl) (congrArg Value.bool (decide_eq_true (by omega)))) <| Zad <| Zab <| Zac <| Zao (fun _ => by kernel_rfl) <| Za0 <| Zab <| Zac <| Zav <| Zac ?_
   refine Zaa <| rp 58 (.int .i64 ((i : Nat) : Int)) <| rp 10 (.int .i64 ((i : Nat) : Int)) <| Zad <| Zab <| Zaa <| rp 59 (.slice aX x.length cX) <| rp 60 (.int .i64 ((i : Nat) : Int)) <| rv 61 (.pointer (some ⟨gT, oT + i * 1, none⟩)) (fun _ => Zat 26 _ _ gT oT i x.length cX 1 5 rfl (by rw [<- eT]; kernel_rfl) (by kernel_rfl) hil Tryz.underlying26 (by kernel_rfl)) <| rv 62 (.int .u8 xo) (fun _ => Zam 5 _ ⟨gT, oT + i * 1, none⟩ _ _ rfl (by kernel_rfl) (by rw [Nat.mul_one]; exact hxo) Tryz.underlying5 rfl) <| rp 63 (.int .u8 (IntKind.u8.wrap (xo + 1))) <| rv 64 (.pointer (some ⟨gT, oT + i * 1, none⟩)) (fun _ => Zat 26 _ _ gT oT i x.length cX 1 5 rfl (by rw [<- eT]; kernel_rfl) (by kernel_rfl) hil Tryz.underlying26 (by kernel_rfl)) ?_
   refine Zf8 gT (oT + i * 1) (.int .u8 (IntKind.u8.wrap (xo + 1))) (fun _ => by kernel_rfl) (fun _ => Zr7 (old := xo) rfl (by kernel_rfl) (by kernel_rfl) (by rw [Nat.mul_one]; exact hxo) hfr) ?_
   intro v8 hs8
   rw [Nat.mul_one] at hs8
   replace hB : Bl w v8 := hs8.touch.below hB (by omega) hB.size
   replace hU := hU.touK hs8.touch (by omega) hKT hYT
   replace hT := hT.tou hs8.touch (fun h => hYT h.2)
   have hSK8 := hSK.keep (fun g o e _ => hs8.other (hne g o e))
   replace hz7 : u6.heap.size <= v8.heap.size := Nat.le_trans hz7 hs8.touch.size
   rw [eT] at hSX
   have hSX8 := hSX.set hs8
   rw [<- eT] at hSX8
   clear hSK hSX
   have hSK := hSK8
   have hSX := hSX8
   refine Zad <| Za9 <| Zab <| Zaa <| rv 65 (.int .i64 (((i : Nat) : Int) + 1)) (fun _ => Zah (v := .int .i64 (IntKind.i64.wrap (((i : Nat) : Int) + 1))) (by kernel_rfl) (congrArg (Value.int .i64) (Zby (by omega) (by omega)))) <| rp 56 (.int .i64 (((i : Nat) : Int) + 1)) <| Zad ?_
   exact Zbf (E := fun q => [(56, .int .i64 ((q : Nat) : Int)), (55, .int .i64 x.length), (7, .slice aK k.length cK), (8, .slice aX x.length cX), (20, .int .i64 ((j : Nat) : Int)), (18, .slice (some ⟨gE, oE, none⟩) n c), (19, .int .i64 n), (3, .pointer (some ⟨gB, 0, none⟩)), (4, .slice a6 n6 c6)]) (R := fun q v => Bl w v /\ u6.heap.size <= v.heap.size /\ Bu (fun b => NotIn aK b /\ NotIn aX b) v bs gB TN.length tN (lkP TN) vW2 /\ PAt (fun b => (KF vW2 b /\ b ≠ gB) /\ NotIn aK b /\ NotIn aX b) v a6 n6 c6 vs6 TN /\ Sft v aK k.length /\ Sft v aX x.length /\ q <= x.length) (μ := fun q => x.length - q) (x := i) (i + 1) (by exact ⟨fun _ => by kernel_rfl, ⟨fun _ => by kernel_rfl, ⟨fun _ => by kernel_rfl, ⟨fun _ => by kernel_rfl, ⟨fun _ => by kernel_rfl, ⟨fun _ => by kernel_rfl, ⟨fun _ => by kernel_rfl, ⟨fun _ => by kernel_rfl, ⟨fun _ => by kernel_rfl, trivial⟩⟩⟩⟩⟩⟩⟩⟩⟩) ⟨hB, hz7, hU, hT, hSK, hSX, hil⟩ (by omega)
  refine Zac <| Zaa <| rv 57 (.bool false) (fun _ => Zah (v := .bool (decide (((i : Nat) : Int) < (x.length : Int)))) (by kernel_rfl) (congrArg Value.bool (decide_eq_false (by omega)))) <| Zad <| Zab <| Zac <| Zan (fun _ => by kernel_rfl) <| Zc8 <| Zap <| Zap <| Zbb <| Za9 ?_
  refine Zab <| Zaa <| rv 66 (.int .i64 (((j : Nat) : Int) + 1)) (fun _ => Zah (v := .int .i64 (IntKind.i64.wrap (((j : Nat) : Int) + 1))) (by kernel_rfl) (congrArg (Value.int .i64) (Zby (by omega) (by omega)))) <| rp 20 (.int .i64 (((j : Nat) : Int) + 1)) <| Zad ?_
  have hBv := hB.size
  exact Zbf (E := fun q => [(20, .int .i64 ((q.1 : Nat) : Int)), (18, .slice (some ⟨gE, oE, none⟩) n c), (19, .int .i64 n), (3, .pointer (some ⟨gB, 0, none⟩)), (4, .slice q.2.1 q.2.2.1 q.2.2.2)]) (R := fun q v => Bl w v /\ (∃ t T vW vsT, Bu (fun _ => True) v bs gB T.length t (lkP T) vW /\ PAt (fun b => KF vW b /\ b ≠ gB) v q.2.1 q.2.2.1 q.2.2.2 vsT T /\ Tk t T /\ T.length <= q.1) /\ q.1 <= n /\ bs <= v.heap.size) (μ := fun q => n - q.1) (x := (j, aT, nT, cT)) (j + 1, a6, n6, c6) (by exact ⟨fun _ => by kernel_rfl, ⟨fun _ => by kernel_rfl, ⟨fun _ => by kernel_rfl, ⟨fun _ => by kernel_rfl, ⟨fun _ => by kernel_rfl, trivial⟩⟩⟩⟩⟩) ⟨hB, ⟨tN, TN, vW2, vs6, hU.sub (fun _ _ _ => trivial), hT.mono (fun b hb => hb.1), hkN, by show TN.length <= j + 1; omega⟩, by show j + 1 <= n; omega, by show bs <= _; omega⟩ (by show n - (j + 1) < n - j; omega)
 obtain rfl : j = n := by omega
 show CW _ _ _ _ _ _ _ [(20, .int .i64 ((j : Nat) : Int)), (18, .slice a j c), (19, .int .i64 ((j : Nat) : Int)), (3, .pointer (some ⟨gB, 0, none⟩)), (4, .slice aT nT cT)] _
 refine Zac <| Zaa <| rv 21 (.bool false) (fun _ => Zah (v := .bool (decide (((j : Nat) : Int) < ((j : Nat) : Int)))) (by kernel_rfl) (congrArg Value.bool (decide_eq_false (by omega)))) <| Zad <| Zab <| Zac <| Zan (fun _ => by kernel_rfl) <| Zc8 <| Zap <| Zap <| Zbb <| Zab ?_
 refine Zac ?_
 have hdl := Zen t
 obtain ⟨ds, hds⟩ : ∃ ds, rootP t = ds := ⟨_, rfl⟩
 rw [hds] at hdl
 refine Zaa <| rp 67 (.pointer (some ⟨gB, 0, none⟩)) <| Zaz 68 8 #[.pointer (some ⟨gB, 0, none⟩)] (fun _ => by kernel_rfl) (fun _ => by kernel_rfl) (R := fun u w' => u = .agg (B8 ds) /\ Bl (v) w') (((Zf4 hU).mono (fun e w' ⟨u, e1, e2, e3⟩ => ⟨u, e1, by rw [e2, hds], e3⟩))) ?_
 rintro _ u1 ⟨rfl, hb2⟩
 replace hB := hB.go hb2
 replace hU := hU.go hb2
 replace hT := hT.go hb2
 refine rp 69 (.slice aT nT cT) <| Zaz 70 9 #[.slice aT nT cT] (fun _ => by kernel_rfl) (fun _ => by kernel_rfl) (R := fun u w' => u = .agg (B8 ds) /\ Bl (u1) w') (((Zsb hk.rel hT (by omega)).mono (fun e w' ⟨u, e1, e2, e3⟩ => ⟨u, e1, by rw [e2, hds], e3⟩))) ?_
 rintro _ u3 ⟨rfl, hb4⟩
 replace hB := hB.go hb4
 replace hU := hU.go hb4
 replace hT := hT.go hb4
 refine rv 71 (.bool true) (fun _ => Zor rfl (by kernel_rfl) (by kernel_rfl) hdl) <| rp 72 (.bool true) <| rp 73 (.pointer (some ⟨gB, 0, none⟩)) <| Zaz 74 8 #[.pointer (some ⟨gB, 0, none⟩)] (fun _ => by kernel_rfl) (fun _ => by kernel_rfl) (R := fun u w' => u = .agg (B8 ds) /\ Bl (u3) w') (((Zf4 hU).mono (fun e w' ⟨u, e1, e2, e3⟩ => ⟨u, e1, by rw [e2, hds], e3⟩))) ?_
 rintro _ u5 ⟨rfl, hb6⟩
 replace hB := hB.go hb6
 replace hU := hU.go hb6
 replace hT := hT.go hb6
 refine rp 75 (.slice aT nT cT) <| Zaz 76 9 #[.slice aT nT cT] (fun _ => by kernel_rfl) (fun _ => by kernel_rfl) (R := fun u w' => u = .agg (B8 ds) /\ Bl (u5) w') (((Zsb hk.rel hT (by omega)).mono (fun e w' ⟨u, e1, e2, e3⟩ => ⟨u, e1, by rw [e2, hds], e3⟩))) ?_
 rintro _ u7 ⟨rfl, hb8⟩
 replace hB := hB.go hb8
 replace hU := hU.go hb8
 replace hT := hT.go hb8
 refine rv 77 (.bool true) (fun _ => Zor rfl (by kernel_rfl) (by kernel_rfl) hdl) <| rp 78 (.bool true) <| rp 2 (.bool true) <| Zad <| Zab <| Za7 ?_
 exact Zag (.bool true) (fun _ => by kernel_rfl) ⟨_, rfl, rfl, hB⟩
theorem Zjc {K : Nat -> Prop} (a : Option Addr) (n c : Nat) (vs : List (Value × Value)) (l : PList) (w : World) (hl : PAt K w a n c vs l) (hn : n <= 2932031007317) (hM : ∀ e ∈ l, e.1.length <= 140737488351232 /\ e.2.length <= 140737488351232) :
  Calls Tryz.prog 3 #[.slice a n c] w fun e w' => e = .returned (.bool true) /\ Below w.heap.size w w' :=
 (Zsl hl hn hM).mono (fun e w' ⟨u, e1, e2, e3⟩ => ⟨by rw [e1, e2], e3⟩)
end Go.Proofs.YtdkpilgelgjieabGreat
namespace Go.Proofs.YtdkpilgelgjieabGreat
open Go.ChangeShapes Go.WideShapes Go.ChangeAt Go.RowKit
open Go.ChangeMaps (open_string shut_string)
theorem own : ownKnob Tryz.prog.godebug = none := by kernel_rfl
theorem Zx3 : laidOutB Tryz.prog = true := by kernel_rfl
theorem Z0a : Tryz.prog.cellsOf 5 = 1 := by kernel_rfl
theorem Z0b : Tryz.prog.bytesOf 5 = 1 := by kernel_rfl
end Go.Proofs.YtdkpilgelgjieabGreat
