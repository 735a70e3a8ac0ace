/- What a trie has, as entries. -/
import Derived.Test.YtefhepcplempkaaGreatG24
import Derived.Test.YtefhepcplempkaaGreatG31
import Derived.Test.YtefhepcplempkaaGreatG00
import Derived.Test.YtefhepcplempkaaGreatG29
import Derived.Test.YtefhepcplempkaaGreatG30
set_option linter.unusedVariables false
set_option maxRecDepth 100000
namespace Go.Proofs.YtefhepcplempkaaGreat
open Go.RowKit
open Tr
def nbE (e : List Int × List Int) : List Int × List Int := (Ni.nib e.1, e.2)
def EnR (w : World) (L : PList) : Value -> World -> Prop := fun u w' => (∃ a c vs, u = .slice a L.length c /\ PAt (fun _ => True) w' a L.length c vs (L.map nbE)) /\ Bl w w'
set_option maxHeartbeats 8000000 in
theorem Zl9 {K : Nat -> Prop} {w : World} {g : Nat} {t : Tr} (hT : Tri K w g t) (hLk : ∀ e ∈ entsF [] t, e.1.length <= 32) (hLn : (entsF [] t).length <= 2932031007390) :
  Calls Tryz.prog 27 #[.pointer (some ⟨g, 0, none⟩)] w fun e w' => ∃ u, e = .returned u /\ EnR w (entsF [] t) u w' := by
 have hB := Bl.refl w
 refine Zr4 Tryz.func27 rfl 18 rfl ?_
 show CW _ _ _ _ _ _ _ [(0, .pointer (some ⟨g, 0, none⟩))] _
 have hTl := hT.lt
 have hTo := hT.old
 refine Zac <| Zaa <| rp 2 (.slice none 0 0) <| Zad <| Zab <| Zac <| Zaa <| Za3 3 #[.slice none 0 0] 55 (fun _ => by kernel_rfl) (fun _ => by kernel_rfl) ?_
 intro w6 gL hn6
 have hgL := hn6.hg
 replace hB := hB.go hn6.below
 have hL : Rw gL w6 #[.slice none 0 0] 55 := hn6.row
 have hTk : Tri (fun b => b ≠ gL) w6 g t := (hTo.go hn6.below).mono (fun b hb => by have : b < _ := hb; omega)
 have hgne : g ≠ gL := by omega
 refine Zad <| Zab <| Zac <| Zac <| Zaa <| rp 6 (.pointer (some ⟨g, 0, none⟩)) <| Zap 7 53 #[.pointer (some ⟨g, 0, none⟩)] (fun _ => by kernel_rfl) (fun _ => by kernel_rfl) (R := fun u w' => (∃ gB, u = .func (.func 76) #[] #[.pointer (some ⟨gB, 0, none⟩)] /\ Rw gB w' #[.pointer (some ⟨g, 0, none⟩)] 25 /\ w6.heap.size <= gB) /\ Bl w6 w') (Zya (g := g)) ?_
 rintro _ w7 ⟨⟨gB, rfl, hgB, hzB⟩, hb7⟩
 replace hB := hB.go hb7
 replace hL := hL.go hb7
 replace hTk := hTk.go hb7
 refine Zad <| Zab <| Zas <| Zbq [(3, .pointer (some ⟨gL, 0, none⟩)), (7, .func (.func 76) #[] #[.pointer (some ⟨gB, 0, none⟩)])] (by exact ⟨fun _ => by kernel_rfl, ⟨fun _ => by kernel_rfl, trivial⟩⟩) ?_
 have hlL := lt_of_get hL
 obtain ⟨⟨vT, hrT, htT⟩, hok⟩ := id hTk
 obtain ⟨L, hents⟩ : ∃ L, entsF [] t = L := ⟨_, rfl⟩
 rw [hents] at hLk hLn ⊢
 refine Zr2 76 #[.pointer (some ⟨gB, 0, none⟩)] (fun _ => by kernel_rfl) (by decide) (by decide) (by decide) (fun args w => by kernel_rfl) (U := fun b => b = gL) (L := L) (fun lp J Wq hbq V hJ0 => (Zu1 V (hgB.go hbq) hJ0 (Nat.le_refl _) (hrT.go hbq) (htT.go hbq) hok (fun b hb hu => hb hu) (by rw [hents]; exact List.prefix_rfl)).mono (fun e W' ⟨u, e1, h⟩ => ⟨u, e1, by rw [<- hents]; exact h.resolve_right id⟩)) (fun b hu => by have e : b = gL := hu; omega) (fun pre => EnI w w7 gL (pre.map nbE)) (fun s W W' row h => EnI.own hB.size (s.map nbE) W W' row h) ⟨hB, ⟨_, hL, OwnE.none (fun b hb => by omega), SlB.nil _⟩, fun _ _ _ _ _ hh => hh, Nat.le_refl _⟩ (fun u v e => e = [(3, .pointer (some ⟨gL, 0, none⟩)), (4, u), (5, v)]) ?_ ?_ ?_
 ·intro lp u v W
  refine Zac <| Zaa <| rp 4 (u) <| Zad <| Zab <| Zaa <| rp 5 (v) <| Zad ?_
  exact fun a ha => ⟨rfl, _, ha.sub (env' := [(3, .pointer (some ⟨gL, 0, none⟩)), (4, u), (5, v)]) (by exact ⟨fun _ => by kernel_rfl, ⟨fun _ => by kernel_rfl, ⟨fun _ => by kernel_rfl, trivial⟩⟩⟩), rfl⟩
 ·intro lp pre W M a1 a2 n1 c1 n2 c2 k x e hlp hrec hIv hpre hM1 hM2 hs1 hs2 he
  subst he
  obtain ⟨hB, ⟨v, hL, hO, hS⟩, hkp, hsz⟩ := hIv
  have hlen : (pre.map nbE).length + 1 <= L.length := by obtain ⟨sf, hsf⟩ := hpre; rw [<- hsf]; simp
  have hlL2 := lt_of_get hL
  have hkl : k.length <= 32 := hLk (k, x) (by obtain ⟨sf, hsf⟩ := hpre; rw [<- hsf]; simp)
  have hk1 := hs1.len
  have hL0 := hL
  have hO0 := hO
  have hS0 := hS
  have hWW := Bl.refl W
  refine Zas <| Zun (fun v => True) (by kernel_rfl) (by kernel_rfl) (fun ⟨_, _, h⟩ => h) (trivial) ?_
  replace hs1 := hs1.drew
  replace hs2 := hs2.drew
  replace hL := hL.drew
  replace hWW := hWW.drew
  refine dt 1 11 (.slice a1 n1 c1) (fun v hv _ => by kernel_rfl) trivial <| dt 3 13 (.slice a2 n2 c2) (fun v hv _ => by kernel_rfl) trivial <| Zag [0, 2] (by kernel_rfl) (by simp) ?_
  refine ar_v 0 10 v rfl (fun _ => by kernel_rfl) (fun _ => Zai 55 _ ⟨gL, 0, none⟩ _ _ rfl (by kernel_rfl) (by rw [cell_of_row _ _ _ _ _ _ hL]; rfl) Tryz.underlying55 rfl) trivial ?_ ?_
  ·skip
   refine Zag [2] (by kernel_rfl) (by simp) ?_
   refine Zar 2 12 28 #[.slice a1 n1 c1] rfl (fun _ => by kernel_rfl) (fun _ => by kernel_rfl) (R := fun u w' => (∃ a', u = .slice a' (2 * n1) (2 * n1) /\ Ni.Cut w' (W.drew).heap.size a' (2 * n1) (Ni.nib k)) /\ Bl (W.drew) w') (((Ni.of_any a1 n1 c1 k (W.drew) hs1.ag (by omega)).mono (fun e w' ⟨⟨a', e1, e2⟩, e3⟩ => ⟨_, e1, ⟨a', rfl, e2⟩, e3⟩))) (fun _ _ _ => trivial) ?_ Zao
   rintro _ u3 ⟨⟨a3, rfl, hc3⟩, hb3⟩
   have hz3 := hWW.size
   replace hs1 := hs1.go hb3
   replace hs2 := hs2.go hb3
   replace hL := hL.go hb3
   replace hWW := hWW.go hb3
   have hp3 := Cut.skb hc3
   refine dt 4 14 (.agg #[.slice a3 (2 * n1) (2 * n1), .slice a2 n2 c2]) (fun v hv => (fun _ => by kernel_rfl)) trivial <| Zag [5] (by kernel_rfl) (by simp) ?_
   refine Zbt 5 15 #[.slice a3 (2 * n1) (2 * n1), .slice a2 n2 c2] 95 1 rfl (fun _ => by kernel_rfl) (fun _ => by kernel_rfl) (fun _ _ _ => trivial) ?_ Zao
   intro W1 gN hnN
   have hOw := hO0.far hWW
   have hSw := hS0.go hWW (fun k hk => (hO0.own k hk).2)
   have hP1 := PAt.oneE (K := fun b => w7.heap.size <= b /\ v.ownBlock ≠ some b) hnN ((hp3.nsl hSw).mono (fun b hb => ⟨by have := hb.1.1; omega, hb.2⟩)) ((hs2.nsl hSw).mono (fun b hb => ⟨by have := hb.1; omega, hb.2⟩)) ⟨by rw [hnN.hg]; have := hWW.size; omega, fun e => by have := (hOw.own gN e).2; have := hnN.hg; omega⟩
   have hO1 := hOw.far hnN.below
   have hS1 := hSw.go hnN.below (fun k hk => (hOw.own k hk).2)
   replace hs1 := hs1.go hnN.below
   replace hs2 := hs2.go hnN.below
   replace hL := hL.go hnN.below
   replace hWW := hWW.go hnN.below
   refine Zag [6] (by kernel_rfl) (by simp) ?_
   obtain ⟨v2, W2, hr2, hO2, hS2, hb2_, hk2, hv2⟩ := Zx9 hO1 hS1 hP1 (fun b hb => ⟨hb.2, by have := hb.1; omega⟩) (by omega) (by have := hWW.size; omega)
   refine ar_v 6 16 v2 rfl (fun _ => by kernel_rfl) (fun _ => Zde hr2 _ _ rfl (by kernel_rfl) (by kernel_rfl)) trivial ?_ Zao
   have hLo : v.ownBlock ≠ some gL := fun e => by have := (hO0.own gL e).1; omega
   have hL2 : Rw gL W2 #[v] 55 := (hk2 gL (lt_of_get hL) hLo).trans hL
   refine Zag [7] (by kernel_rfl) (by simp) ?_
   refine Zd2 7 gL 0 v2 rfl (fun _ => by kernel_rfl) (fun _ => Zck 55 _ _ gL 0 _ 55 _ hL2 rfl (by kernel_rfl) (by kernel_rfl) (by show 0 < 1; omega) hO2.cel hO2.one (by kernel_rfl)) (fun _ _ => trivial) ?_ Zao
   intro W3 hs3
   refine Zat (by kernel_rfl) <| Za2 ?_
   have hz3 : W3.heap.size = W2.heap.size := hs3.size
   have hz2 : W1.heap.size <= W2.heap.size := Below.size hb2_
   have hz1 : W.heap.size <= W1.heap.size := hWW.size
   have hkk : ∀ (k : Nat) (cs : Array Value) (T : TypeId) (fr : Nat × Nat), k ≠ gL -> Pr cs -> W.heap[k]? = some (Obj.cells cs T fr) -> W3.heap[k]? = some (Obj.cells cs T fr) := fun k cs T fr hk hP hh => ((hs3.other hk).trans ((hk2 k (Nat.lt_of_lt_of_le (lt_of_get hh) hz1) (fun e => Znb (hS0 k cs T fr e hh) hP)).trans (Below.block hWW k (lt_of_get hh)))).trans hh
   have hko : ∀ (k : Nat) (o : Obj), k ≠ gL -> v.ownBlock ≠ some k -> W.heap[k]? = some o -> W3.heap[k]? = some o := fun k o hk he hh => ((hs3.other hk).trans ((hk2 k (Nat.lt_of_lt_of_le (lt_of_get hh) hz1) he).trans (Below.block hWW k (lt_of_get hh)))).trans hh
   have hnc : ∀ (k : Nat) (o : Obj), W.heap[k]? = some o -> o.isCells = false -> v.ownBlock ≠ some k := fun k o hh hc e => by obtain ⟨cs, hcs⟩ := hO0.row k e; rw [hcs] at hh; cases hh; cases hc
   have hL3 : Rw gL W3 #[v2] 55 := hL2.set hs3 rfl
   have hne2 : ∀ k, v2.ownBlock = some k -> k ≠ gL := fun k hk e => by have := (hO2.own k hk).1; omega
   have hO3 : OwnE (fun b => b ≠ gL) W3 w7.heap.size v2 (pre.map nbE ++ [(Ni.nib k, x)]) := hO2.tou hs3.touch (by omega)
   have hS3 : SlB W3 v2 := fun k cur T fr hk hh => hS2 k cur T fr hk ((hs3.other (hne2 k hk)).symm.trans hh)
   refine Zqo ⟨by omega, fun q o hq ho hc => hko q o (by omega) (hnc q o ho hc) ho⟩ ⟨by omega, fun q cs T fr _ hU hP hh => hkk q cs T fr hU hP hh⟩ ⟨?_, ⟨v2, hL3, by rw [List.map_append]; exact hO3, hS3⟩, fun q cs T fr hq hh => ?_, by omega⟩
   ·refine Below.trans hB ⟨?_, ?_, ?_, by omega, fun q hq => ?_⟩
    ·rw [hs3.touch.os, Below.os hb2_, Below.os hWW]
    ·rw [hs3.touch.tape, Below.tape hb2_, Below.tape hWW]
    ·rw [hs3.touch.output, Below.output hb2_, Below.output hWW]
    ·exact (hs3.other (by omega)).trans ((Below.block hb2_ q (by omega)).trans (Below.block hWW q (by have := Below.size hB; omega)))
   ·exact hko q _ hq (fun e => by have := (hO0.own q e).1; have := lt_of_get hh; omega) (hkp q cs T fr hq hh)
  refine Zar 2 12 28 #[.slice a1 n1 c1] rfl (fun _ => by kernel_rfl) (fun _ => by kernel_rfl) (R := fun u w' => (∃ a', u = .slice a' (2 * n1) (2 * n1) /\ Ni.Cut w' (W.drew).heap.size a' (2 * n1) (Ni.nib k)) /\ Bl (W.drew) w') (((Ni.of_any a1 n1 c1 k (W.drew) hs1.ag (by omega)).mono (fun e w' ⟨⟨a', e1, e2⟩, e3⟩ => ⟨_, e1, ⟨a', rfl, e2⟩, e3⟩))) (fun _ _ _ => trivial) ?_ Zao
  rintro _ u3 ⟨⟨a3, rfl, hc3⟩, hb3⟩
  have hz3 := hWW.size
  replace hs1 := hs1.go hb3
  replace hs2 := hs2.go hb3
  replace hL := hL.go hb3
  replace hWW := hWW.go hb3
  have hp3 := Cut.skb hc3
  refine dt 4 14 (.agg #[.slice a3 (2 * n1) (2 * n1), .slice a2 n2 c2]) (fun v hv => (fun _ => by kernel_rfl)) trivial <| Zag [0, 5] (by kernel_rfl) (by simp) ?_
  refine ar_v 0 10 v rfl (fun _ => by kernel_rfl) (fun _ => Zai 55 _ ⟨gL, 0, none⟩ _ _ rfl (by kernel_rfl) (by rw [cell_of_row _ _ _ _ _ _ hL]; rfl) Tryz.underlying55 rfl) trivial ?_ ?_
  ·skip
   refine Zag [5] (by kernel_rfl) (by simp) ?_
   refine Zbt 5 15 #[.slice a3 (2 * n1) (2 * n1), .slice a2 n2 c2] 95 1 rfl (fun _ => by kernel_rfl) (fun _ => by kernel_rfl) (fun _ _ _ => trivial) ?_ Zao
   intro W1 gN hnN
   have hOw := hO0.far hWW
   have hSw := hS0.go hWW (fun k hk => (hO0.own k hk).2)
   have hP1 := PAt.oneE (K := fun b => w7.heap.size <= b /\ v.ownBlock ≠ some b) hnN ((hp3.nsl hSw).mono (fun b hb => ⟨by have := hb.1.1; omega, hb.2⟩)) ((hs2.nsl hSw).mono (fun b hb => ⟨by have := hb.1; omega, hb.2⟩)) ⟨by rw [hnN.hg]; have := hWW.size; omega, fun e => by have := (hOw.own gN e).2; have := hnN.hg; omega⟩
   have hO1 := hOw.far hnN.below
   have hS1 := hSw.go hnN.below (fun k hk => (hOw.own k hk).2)
   replace hs1 := hs1.go hnN.below
   replace hs2 := hs2.go hnN.below
   replace hL := hL.go hnN.below
   replace hWW := hWW.go hnN.below
   refine Zag [6] (by kernel_rfl) (by simp) ?_
   obtain ⟨v2, W2, hr2, hO2, hS2, hb2_, hk2, hv2⟩ := Zx9 hO1 hS1 hP1 (fun b hb => ⟨hb.2, by have := hb.1; omega⟩) (by omega) (by have := hWW.size; omega)
   refine ar_v 6 16 v2 rfl (fun _ => by kernel_rfl) (fun _ => Zde hr2 _ _ rfl (by kernel_rfl) (by kernel_rfl)) trivial ?_ Zao
   have hLo : v.ownBlock ≠ some gL := fun e => by have := (hO0.own gL e).1; omega
   have hL2 : Rw gL W2 #[v] 55 := (hk2 gL (lt_of_get hL) hLo).trans hL
   refine Zag [7] (by kernel_rfl) (by simp) ?_
   refine Zd2 7 gL 0 v2 rfl (fun _ => by kernel_rfl) (fun _ => Zck 55 _ _ gL 0 _ 55 _ hL2 rfl (by kernel_rfl) (by kernel_rfl) (by show 0 < 1; omega) hO2.cel hO2.one (by kernel_rfl)) (fun _ _ => trivial) ?_ Zao
   intro W3 hs3
   refine Zat (by kernel_rfl) <| Za2 ?_
   have hz3 : W3.heap.size = W2.heap.size := hs3.size
   have hz2 : W1.heap.size <= W2.heap.size := Below.size hb2_
   have hz1 : W.heap.size <= W1.heap.size := hWW.size
   have hkk : ∀ (k : Nat) (cs : Array Value) (T : TypeId) (fr : Nat × Nat), k ≠ gL -> Pr cs -> W.heap[k]? = some (Obj.cells cs T fr) -> W3.heap[k]? = some (Obj.cells cs T fr) := fun k cs T fr hk hP hh => ((hs3.other hk).trans ((hk2 k (Nat.lt_of_lt_of_le (lt_of_get hh) hz1) (fun e => Znb (hS0 k cs T fr e hh) hP)).trans (Below.block hWW k (lt_of_get hh)))).trans hh
   have hko : ∀ (k : Nat) (o : Obj), k ≠ gL -> v.ownBlock ≠ some k -> W.heap[k]? = some o -> W3.heap[k]? = some o := fun k o hk he hh => ((hs3.other hk).trans ((hk2 k (Nat.lt_of_lt_of_le (lt_of_get hh) hz1) he).trans (Below.block hWW k (lt_of_get hh)))).trans hh
   have hnc : ∀ (k : Nat) (o : Obj), W.heap[k]? = some o -> o.isCells = false -> v.ownBlock ≠ some k := fun k o hh hc e => by obtain ⟨cs, hcs⟩ := hO0.row k e; rw [hcs] at hh; cases hh; cases hc
   have hL3 : Rw gL W3 #[v2] 55 := hL2.set hs3 rfl
   have hne2 : ∀ k, v2.ownBlock = some k -> k ≠ gL := fun k hk e => by have := (hO2.own k hk).1; omega
   have hO3 : OwnE (fun b => b ≠ gL) W3 w7.heap.size v2 (pre.map nbE ++ [(Ni.nib k, x)]) := hO2.tou hs3.touch (by omega)
   have hS3 : SlB W3 v2 := fun k cur T fr hk hh => hS2 k cur T fr hk ((hs3.other (hne2 k hk)).symm.trans hh)
   refine Zqo ⟨by omega, fun q o hq ho hc => hko q o (by omega) (hnc q o ho hc) ho⟩ ⟨by omega, fun q cs T fr _ hU hP hh => hkk q cs T fr hU hP hh⟩ ⟨?_, ⟨v2, hL3, by rw [List.map_append]; exact hO3, hS3⟩, fun q cs T fr hq hh => ?_, by omega⟩
   ·refine Below.trans hB ⟨?_, ?_, ?_, by omega, fun q hq => ?_⟩
    ·rw [hs3.touch.os, Below.os hb2_, Below.os hWW]
    ·rw [hs3.touch.tape, Below.tape hb2_, Below.tape hWW]
    ·rw [hs3.touch.output, Below.output hb2_, Below.output hWW]
    ·exact (hs3.other (by omega)).trans ((Below.block hb2_ q (by omega)).trans (Below.block hWW q (by have := Below.size hB; omega)))
   ·exact hko q _ hq (fun e => by have := (hO0.own q e).1; have := lt_of_get hh; omega) (hkp q cs T fr hq hh)
  refine Zbt 5 15 #[.slice a3 (2 * n1) (2 * n1), .slice a2 n2 c2] 95 1 rfl (fun _ => by kernel_rfl) (fun _ => by kernel_rfl) (fun _ _ _ => trivial) ?_ Zao
  intro W1 gN hnN
  have hOw := hO0.far hWW
  have hSw := hS0.go hWW (fun k hk => (hO0.own k hk).2)
  have hP1 := PAt.oneE (K := fun b => w7.heap.size <= b /\ v.ownBlock ≠ some b) hnN ((hp3.nsl hSw).mono (fun b hb => ⟨by have := hb.1.1; omega, hb.2⟩)) ((hs2.nsl hSw).mono (fun b hb => ⟨by have := hb.1; omega, hb.2⟩)) ⟨by rw [hnN.hg]; have := hWW.size; omega, fun e => by have := (hOw.own gN e).2; have := hnN.hg; omega⟩
  have hO1 := hOw.far hnN.below
  have hS1 := hSw.go hnN.below (fun k hk => (hOw.own k hk).2)
  replace hs1 := hs1.go hnN.below
  replace hs2 := hs2.go hnN.below
  replace hL := hL.go hnN.below
  replace hWW := hWW.go hnN.below
  refine Zag [0] (by kernel_rfl) (by simp) ?_
  refine ar_v 0 10 v rfl (fun _ => by kernel_rfl) (fun _ => Zai 55 _ ⟨gL, 0, none⟩ _ _ rfl (by kernel_rfl) (by rw [cell_of_row _ _ _ _ _ _ hL]; rfl) Tryz.underlying55 rfl) trivial ?_ Zao
  refine Zag [6] (by kernel_rfl) (by simp) ?_
  obtain ⟨v2, W2, hr2, hO2, hS2, hb2_, hk2, hv2⟩ := Zx9 hO1 hS1 hP1 (fun b hb => ⟨hb.2, by have := hb.1; omega⟩) (by omega) (by have := hWW.size; omega)
  refine ar_v 6 16 v2 rfl (fun _ => by kernel_rfl) (fun _ => Zde hr2 _ _ rfl (by kernel_rfl) (by kernel_rfl)) trivial ?_ Zao
  have hLo : v.ownBlock ≠ some gL := fun e => by have := (hO0.own gL e).1; omega
  have hL2 : Rw gL W2 #[v] 55 := (hk2 gL (lt_of_get hL) hLo).trans hL
  refine Zag [7] (by kernel_rfl) (by simp) ?_
  refine Zd2 7 gL 0 v2 rfl (fun _ => by kernel_rfl) (fun _ => Zck 55 _ _ gL 0 _ 55 _ hL2 rfl (by kernel_rfl) (by kernel_rfl) (by show 0 < 1; omega) hO2.cel hO2.one (by kernel_rfl)) (fun _ _ => trivial) ?_ Zao
  intro W3 hs3
  refine Zat (by kernel_rfl) <| Za2 ?_
  have hz3 : W3.heap.size = W2.heap.size := hs3.size
  have hz2 : W1.heap.size <= W2.heap.size := Below.size hb2_
  have hz1 : W.heap.size <= W1.heap.size := hWW.size
  have hkk : ∀ (k : Nat) (cs : Array Value) (T : TypeId) (fr : Nat × Nat), k ≠ gL -> Pr cs -> W.heap[k]? = some (Obj.cells cs T fr) -> W3.heap[k]? = some (Obj.cells cs T fr) := fun k cs T fr hk hP hh => ((hs3.other hk).trans ((hk2 k (Nat.lt_of_lt_of_le (lt_of_get hh) hz1) (fun e => Znb (hS0 k cs T fr e hh) hP)).trans (Below.block hWW k (lt_of_get hh)))).trans hh
  have hko : ∀ (k : Nat) (o : Obj), k ≠ gL -> v.ownBlock ≠ some k -> W.heap[k]? = some o -> W3.heap[k]? = some o := fun k o hk he hh => ((hs3.other hk).trans ((hk2 k (Nat.lt_of_lt_of_le (lt_of_get hh) hz1) he).trans (Below.block hWW k (lt_of_get hh)))).trans hh
  have hnc : ∀ (k : Nat) (o : Obj), W.heap[k]? = some o -> o.isCells = false -> v.ownBlock ≠ some k := fun k o hh hc e => by obtain ⟨cs, hcs⟩ := hO0.row k e; rw [hcs] at hh; cases hh; cases hc
  have hL3 : Rw gL W3 #[v2] 55 := hL2.set hs3 rfl
  have hne2 : ∀ k, v2.ownBlock = some k -> k ≠ gL := fun k hk e => by have := (hO2.own k hk).1; omega
  have hO3 : OwnE (fun b => b ≠ gL) W3 w7.heap.size v2 (pre.map nbE ++ [(Ni.nib k, x)]) := hO2.tou hs3.touch (by omega)
  have hS3 : SlB W3 v2 := fun k cur T fr hk hh => hS2 k cur T fr hk ((hs3.other (hne2 k hk)).symm.trans hh)
  refine Zqo ⟨by omega, fun q o hq ho hc => hko q o (by omega) (hnc q o ho hc) ho⟩ ⟨by omega, fun q cs T fr _ hU hP hh => hkk q cs T fr hU hP hh⟩ ⟨?_, ⟨v2, hL3, by rw [List.map_append]; exact hO3, hS3⟩, fun q cs T fr hq hh => ?_, by omega⟩
  ·refine Below.trans hB ⟨?_, ?_, ?_, by omega, fun q hq => ?_⟩
   ·rw [hs3.touch.os, Below.os hb2_, Below.os hWW]
   ·rw [hs3.touch.tape, Below.tape hb2_, Below.tape hWW]
   ·rw [hs3.touch.output, Below.output hb2_, Below.output hWW]
   ·exact (hs3.other (by omega)).trans ((Below.block hb2_ q (by omega)).trans (Below.block hWW q (by have := Below.size hB; omega)))
  ·exact hko q _ hq (fun e => by have := (hO0.own q e).1; have := lt_of_get hh; omega) (hkp q cs T fr hq hh)
 intro D W hD hIv hdd
 have hB7 := hB
 obtain ⟨hB, ⟨v, hL, hO, hS⟩, hkp, hsz⟩ := hIv
 obtain ⟨aV, cV, vsV, rfl, _⟩ := OwnE.pat hO
 rw [List.length_map] at hL
 refine Za2 <| Zab <| Zac <| Zaa <| rv 17 (.slice aV L.length cV) (fun _ => Zai 55 _ ⟨gL, 0, none⟩ _ _ rfl (by kernel_rfl) (by rw [cell_of_row _ _ _ _ _ _ hL]; rfl) Tryz.underlying55 rfl) <| rp 2 (.slice aV L.length cV) <| Zad <| Zab <| Zam ?_
 have hO' := hO.cells (w' := W.putObj D (.deferred none)) (by simp) (fun k cs T fr hh => (World.putObj_heap_other (fun e => by subst e; rw [hdd] at hh; cases hh)).trans hh)
 obtain ⟨a', c', vs', e', hPt⟩ := OwnE.pat hO'
 cases e'
 rw [List.length_map] at hPt
 exact Zks hdd (.slice aV L.length cV) (fun _ => by kernel_rfl) ⟨_, rfl, ⟨aV, cV, vs', rfl, hPt.mono (fun _ _ => trivial)⟩, Below.grown hB (grownBy_putObj' _ _ _) hB.size (fun k e => by cases e; exact Nat.le_trans hB7.size hD)⟩
set_option maxHeartbeats 4000000 in
theorem Zyj {w : World} {vW : Value} {gE oE c : Nat} {a1 a2 : Option Addr} {n1 c1 n2 c2 : Nat} {p x : List Int} (hc1 : w.cell? ⟨gE, oE + 0 * 2, none⟩ = some (.slice a1 n1 c1)) (hc2 : w.cell? ⟨gE, oE + 0 * 2 + 1, none⟩ = some (.slice a2 n2 c2)) (hs1 : Sk (fun _ => True) w a1 n1 c1 p) (hs2 : Sk (fun _ => True) w a2 n2 c2 x) (hn1 : n1 <= 1000) (hn2 : n2 <= 1000) :
  Calls Tryz.prog 56 #[vW, .slice (some ⟨gE, oE, none⟩) 1 c, .int .i64 0] w fun e w' => ∃ u, e = .returned u /\ (fun u w' => (∃ z : NV, u = .agg z.cells.toArray /\ NodeAt (fun _ => True) w' z (nodeP (leaf p x))) /\ Bl w w') u w' := by
 have hB := Bl.refl w
 have ls1 := hs1.len
 have ls2 := hs2.len
 have hs2w : Sk (fun b => b < w.heap.size) w a2 n2 c2 x := ⟨hs2.ag, fun q hq hn => hs2.old hq hn⟩
 have hs1w : Sk (fun b => b < w.heap.size) w a1 n1 c1 p := ⟨hs1.ag, fun q hq hn => hs1.old hq hn⟩
 refine Zal Tryz.func56 rfl 53 rfl ?_
 show CW _ _ _ _ _ _ _ [(0, vW), (1, .slice (some ⟨gE, oE, none⟩) 1 c), (2, .int .i64 0)] _
 refine Zac <| Zaa <| Za3 6 nz.cells.toArray 68 (fun _ => by kernel_rfl) (fun _ => by kernel_rfl) ?_
 intro w1 g6 hn6
 have h6 : Rw g6 w1 nz.cells.toArray 68 := hn6.row
 have hg6 : w.heap.size <= g6 := by rw [hn6.hg]; exact Nat.le_refl _
 replace hB := hB.go hn6.below
 replace hs1 := hs1.go hn6.below
 replace hs2 := hs2.go hn6.below
 have hB1 := hB
 refine Zad <| Zab <| Zac <| Za1 (fun v => Bl w v) (by kernel_rfl) (hB.drew) ?_
 replace hB := hB.drew
 replace hs1 := hs1.drew
 replace hs2 := hs2.drew
 replace h6 := h6.drew
 refine dt 0 10 (.slice (some ⟨gE, oE, none⟩) 1 c) (fun v hv _ => by kernel_rfl) hB <| dt 1 11 (.pointer (some ⟨gE, oE + 0 * 2, none⟩)) (fun v hv _ => Za0 55 _ _ gE oE 0 1 c 2 95 rfl (by kernel_rfl) (by kernel_rfl) (by omega) Tryz.underlying55 (by kernel_rfl)) hB <| dt 2 12 (.pointer (some ⟨gE, oE + 0 * 2, none⟩)) (fun v hv _ => by kernel_rfl) hB <| dt 3 13 (.slice a1 n1 c1) (fun v hv _ => Zai 23 _ _ _ _ rfl (by kernel_rfl) ((Below.cell hv (block_lt_of_cell hc1)).trans hc1) Tryz.underlying23 rfl) hB <| dt 4 14 (.slice (some ⟨gE, oE, none⟩) 1 c) (fun v hv _ => by kernel_rfl) hB <| dt 5 15 (.slice (some ⟨gE, oE, none⟩) 1 c) (fun v hv _ => by kernel_rfl) hB <| dt 6 16 (.int .i64 1) (fun v hv _ => by kernel_rfl) hB <| dt 7 17 (.int .i64 0) (fun v hv _ => by kernel_rfl) hB <| dt 8 18 (.pointer (some ⟨gE, oE + 0 * 2, none⟩)) (fun v hv _ => Za0 55 _ _ gE oE 0 1 c 2 95 rfl (by kernel_rfl) (by kernel_rfl) (by omega) Tryz.underlying55 (by kernel_rfl)) hB <| dt 9 19 (.pointer (some ⟨gE, oE + 0 * 2, none⟩)) (fun v hv _ => by kernel_rfl) hB <| dt 10 20 (.slice a1 n1 c1) (fun v hv _ => Zai 23 _ _ _ _ rfl (by kernel_rfl) ((Below.cell hv (block_lt_of_cell hc1)).trans hc1) Tryz.underlying23 rfl) hB <| dt 11 7 (.slice a1 n1 c1) (fun v hv _ => by kernel_rfl) hB ?_
 refine dt 12 8 (.slice a1 n1 c1) (fun v hv _ => by kernel_rfl) hB <| Zat (by kernel_rfl) <| Zab <| Zac <| Zaa <| rp 21 (.slice a1 n1 c1) <| rp 22 (.slice a1 n1 c1) <| Zap 23 81 #[.slice a1 n1 c1, .slice a1 n1 c1] (fun _ => by kernel_rfl) (fun _ => by kernel_rfl) (R := fun u w' => u = .int .i64 (Ni.com p p : Nat) /\ Bl (w1.drew) w') (((Ni.common_any _ _ _ _ _ _ p p _ hs1.ag hs1.ag (by omega) (by omega)).mono (fun e w' h => ⟨_, h.1, rfl, h.2⟩))) ?_
 rintro _ u2 ⟨rfl, hb2⟩
 replace hB := hB.go hb2
 replace hs1 := hs1.go hb2
 replace hs2 := hs2.go hb2
 replace h6 := h6.go hb2
 refine rp 9 (.int .i64 ((Ni.com p p : Nat) : Int)) <| Zad <| Zab <| Zac <| Zas <| Zac <| Zaa <| rp 25 (.slice (some ⟨gE, oE, none⟩) 1 c) <| rp 26 (.int .i64 1) <| rp 27 (.bool true) <| rp 24 (.bool true) <| Zad ?_
 refine Zab <| Zak (fun _ => by kernel_rfl) <| Zac ?_
 have hSE := hB
 obtain ⟨a9, n9, c9, hr9, hs9w⟩ := hs1w.cutFrom 0 (by omega)
 rw [List.drop_zero] at hs9w
 have ls9 := hs9w.len
 refine Za1 (fun v => Bl w v) (by kernel_rfl) (hB.drew) ?_
 replace hB := hB.drew
 replace hs1 := hs1.drew
 replace hs2 := hs2.drew
 replace h6 := h6.drew
 refine dt 0 28 (.slice a1 n1 c1) (fun v hv _ => by kernel_rfl) hB <| dt 1 29 (.int .i64 0) (fun v hv _ => by kernel_rfl) hB <| dt 2 30 (.slice a9 n9 c9) (fun v hv _ => hr9 _ _ _ _ _ _ rfl (by kernel_rfl) (by kernel_rfl) rfl) hB <| dt 3 31 (.slice (some ⟨gE, oE, none⟩) 1 c) (fun v hv _ => by kernel_rfl) hB <| dt 4 32 (.pointer (some ⟨gE, oE + 0 * 2, none⟩)) (fun v hv _ => Za0 55 _ _ gE oE 0 1 c 2 95 rfl (by kernel_rfl) (by kernel_rfl) (by omega) Tryz.underlying55 (by kernel_rfl)) hB <| dt 5 33 (.pointer (some ⟨gE, oE + 0 * 2 + 1, none⟩)) (fun v hv _ => by kernel_rfl) hB <| dt 6 34 (.slice a2 n2 c2) (fun v hv _ => Zai 23 _ _ _ _ rfl (by kernel_rfl) ((Below.cell hv (block_lt_of_cell hc2)).trans hc2) Tryz.underlying23 rfl) hB <| dt 7 35 (.agg (NV.cells ⟨1, a9, n9, c9, a2, n2, c2, rz, none, 0, 0⟩).toArray) (fun v hv _ => Zev 68 _ [(0, .int .i64 1), (1, .slice a9 n9 c9), (2, .slice a2 n2 c2)] _ rfl (by kernel_rfl) (Zj0 _ _ _ _ _ _)) hB <| Zag [8] (by kernel_rfl) (by simp) ?_
 refine Zht 8 g6 (NV.cells ⟨1, a9, n9, c9, a2, n2, c2, rz, none, 0, 0⟩).toArray rfl (fun _ => by kernel_rfl) (fun _ => Za5 68 _ _ _ _ _ _ rfl (by kernel_rfl) (by kernel_rfl) h6 (by kernel_rfl) (by kernel_rfl) (by kernel_rfl)) (fun w' h => h.below hB hg6 hB.size) ?_ Zao
 intro w9 hp9
 have h9 : Rw g6 w9 (NV.cells ⟨1, a9, n9, c9, a2, n2, c2, rz, none, 0, 0⟩).toArray 68 := hp9.row h6
 have hk9 : ∀ {a : Option Addr} {n c : Nat} {bs : List Int}, Sk (fun b => b < w.heap.size) w a n c bs -> Sk (fun _ => True) w9 a n c bs := fun h => (h.go (hp9.below hB hg6 hB.size)).mono (fun _ _ => trivial)
 replace hB : Bl w w9 := hp9.below hB hg6 hB.size
 refine Zat (by kernel_rfl) <| Zab <| Zam <| Zau <| Zah ?_
 exact Zae (.agg (NV.cells ⟨1, a9, n9, c9, a2, n2, c2, rz, none, 0, 0⟩).toArray) (fun _ => Zes Tryz.results56 _ g6 ⟨1, a9, n9, c9, a2, n2, c2, rz, none, 0, 0⟩ rfl (by kernel_rfl) h9) ⟨_, rfl, ⟨⟨1, a9, n9, c9, a2, n2, c2, rz, none, 0, 0⟩, rfl, ⟨rfl, (hk9 (show Sk _ w a9 n9 c9 p from hs9w)).agk (by omega), (hk9 hs2w).agk (by omega), Zgc _, ⟨rfl, Nat.le_refl _, Nat.zero_le _, Nat.zero_le _, fun _ => ⟨rfl, rfl⟩⟩, fun j r hr => by simp [nodeP] at hr⟩⟩, hB⟩
set_option maxHeartbeats 4000000 in
theorem wenc1 {w : World} {vW : Value} {gE oE c : Nat} {a1 a2 : Option Addr} {n1 c1 n2 c2 : Nat} {p x : List Int} (hc1 : w.cell? ⟨gE, oE + 0 * 2, none⟩ = some (.slice a1 n1 c1)) (hc2 : w.cell? ⟨gE, oE + 0 * 2 + 1, none⟩ = some (.slice a2 n2 c2)) (hs1 : Sk (fun _ => True) w a1 n1 c1 p) (hs2 : Sk (fun _ => True) w a2 n2 c2 x) (hn1 : n1 <= 1000) (hn2 : n2 <= 1000) :
  Calls Tryz.prog 29 #[vW, .slice (some ⟨gE, oE, none⟩) 1 c, .int .i64 0] w fun e w' => ∃ u, e = .returned u /\ (fun u w' => (∃ a n c, u = .slice a n c /\ Sk (fun b => w.heap.size <= b) w' a n c (encT (leaf p x))) /\ Bl w w') u w' := by
 have hB := Bl.refl w
 refine Zal Tryz.func29 rfl 18 rfl ?_
 show CW _ _ _ _ _ _ _ [(0, vW), (1, .slice (some ⟨gE, oE, none⟩) 1 c), (2, .int .i64 0)] _
 refine Zac <| Zaa <| rp 6 (.slice none 0 0) <| Zad <| Zab <| Zac <| Zaa <| rp 10 (vW) <| rp 11 (.slice (some ⟨gE, oE, none⟩) 1 c) <| rp 12 (.int .i64 0) <| Zap 13 56 #[vW, .slice (some ⟨gE, oE, none⟩) 1 c, .int .i64 0] (fun _ => by kernel_rfl) (fun _ => by kernel_rfl) (R := fun u w' => (∃ z : NV, u = .agg z.cells.toArray /\ NodeAt (fun _ => True) w' z (nodeP (leaf p x))) /\ Bl w w') (Zyj hc1 hc2 hs1 hs2 hn1 hn2) ?_
 rintro _ u1 ⟨⟨y, rfl, hN⟩, hb1⟩
 replace hB := hB.go hb1
 refine Zap 14 55 #[.agg y.cells.toArray] (fun _ => by kernel_rfl) (fun _ => by kernel_rfl) (R := fun u w' => ∃ a m c, u = .tuple #[.slice a m c, .int .i64 ((NEP (nodeP (leaf p x))).2 : Nat)] /\ Sk (fun b => u1.heap.size <= b) w' a m c (NEP (nodeP (leaf p x))).1 /\ Bl u1 w') ((Zg7 (fun _ => True) y (nodeP (leaf p x)) u1 hN).mono (fun e w' h => by obtain ⟨⟨a, m, c, e1, h1, h2⟩, h3⟩ := h; exact ⟨_, e1, a, m, c, rfl, ⟨h1, fun q hq hn => by rcases h1.i with ⟨q1, q2⟩ | ⟨gb, off, q1, _⟩; omega; rw [hq] at q1; cases q1; exact (h2 gb off hq hn).1⟩, h3⟩)) ?_
 rintro _ u2 ⟨a3, n3, c3, rfl, hs3, hb2⟩
 have hz2 := hB.size
 replace hB := hB.go hb2
 refine rp 9 (.tuple #[.slice a3 n3 c3, .int .i64 ((NEP (nodeP (leaf p x))).2 : Nat)]) <| rp 15 (.slice a3 n3 c3) <| rp 16 (.int .i64 ((NEP (nodeP (leaf p x))).2 : Nat)) <| rp 7 (.slice a3 n3 c3) <| rp 8 (.int .i64 ((NEP (nodeP (leaf p x))).2 : Nat)) <| Zad <| Zab <| Zac <| Zaa <| rp 17 (.slice a3 n3 c3) <| rp 6 (.slice a3 n3 c3) <| Zad ?_
 refine Zab <| Zam ?_
 exact Zae (.slice a3 n3 c3) (fun _ => by kernel_rfl) ⟨_, rfl, ⟨a3, n3, c3, rfl, by rw [Zbj (t := leaf p x) (by simp)]; exact hs3.mono (fun b hb => by have : _ <= b := hb; omega)⟩, hB⟩
theorem rev1 {w : World} {g c : Nat} :
  Calls Tryz.prog 30 #[.slice (some ⟨g, 0, none⟩) 1 c] w fun e w' => ∃ u, e = .returned u /\ Bl w w' := by
 have hB := Bl.refl w
 refine Zal Tryz.func30 rfl 28 rfl ?_
 show CW _ _ _ _ _ _ _ [(0, .slice (some ⟨g, 0, none⟩) 1 c)] _
 refine Zac <| Zaa <| rp 4 (.slice (some ⟨g, 0, none⟩) 1 c) <| rp 5 (.int .i64 1) <| rp 6 (.int .i64 0) <| rp 2 (.int .i64 0) <| rp 3 (.int .i64 0) <| Zad <| Zab <| Zas <| Zb1 (X := Unit) (fun _ => [(2, .int .i64 0), (3, .int .i64 0), (0, .slice (some ⟨g, 0, none⟩) 1 c)]) (fun _ v => Bl w v) (fun _ => 0) () (by exact ⟨fun _ => by kernel_rfl, ⟨fun _ => by kernel_rfl, ⟨fun _ => by kernel_rfl, trivial⟩⟩⟩) hB ?_
 clear hB
 intro _ v hB
 show CW _ _ _ _ _ _ _ [(2, .int .i64 0), (3, .int .i64 0), (0, .slice (some ⟨g, 0, none⟩) 1 c)] _
 refine Zac <| Zac <| Zaa <| rp 7 (.int .i64 0) <| rp 8 (.int .i64 0) <| rp 9 (.bool false) <| Zad <| Zab <| Zaf (fun _ => by kernel_rfl) <| Zbs <| Zaq <| Zaq ?_
 refine Za4 ?_
 exact Zeh (.tuple #[]) (fun _ => by kernel_rfl) ⟨_, rfl, hB⟩
theorem Zx8 {w : World} {gN : Nat} {u : Value} {T : TypeId} (hr : Rw gN w #[u] T) : ∃ v' w' cV, (∀ ty, (Builtin.append_ #[28, 28] ty #[.slice none 0 0, .slice (some ⟨gN, 0, none⟩) 1 1]).run Tryz.prog w = .ok v' w') /\ (∃ g, v' = .slice (some ⟨g, 0, none⟩) 1 cV /\ w'.cell? ⟨g, 0 + 0 * 1, none⟩ = some u /\ 1 <= cV) /\ Below w.heap.size w w' := by
 obtain ⟨i, hi, hz, hsz, hby⟩ : ∃ i, Tryz.prog.info? 23 = some i /\ i.zero = some (.slice none 0 0) /\ i.size = 1 /\ i.bytes = 24 := by
  have h : (Tryz.prog.info? 23).map (fun i => (i.zero, i.size, i.bytes)) = some (some (.slice none 0 0), 1, 24) := by kernel_rfl
  cases hq : Tryz.prog.info? 23 with
  | none => rw [hq] at h; simp at h
  | some i => rw [hq] at h; simp at h; exact ⟨i, rfl, h.1, h.2.1, h.2.2⟩
 have hq := fun ty => run_append_nil (P := Tryz.prog) w 28 ty 23 i _ Tryz.underlying28 hi hz ⟨gN, 0, none⟩ 1 1 [u] (by simp [hsz]) (fun j v hj => by
  cases j with
  | zero => cases hj; rw [Zay]; exact (by rw [cell_of_row _ _ _ _ _ _ hr]; rfl)
  | succ j => simp at hj) (by omega) (by omega) (by rw [hby]; omega)
 refine ⟨_, _, _, hq, ⟨_, rfl, ?_, grownCap_ge w 1 0 _⟩, (Below.refl _ _).drew.alloc (Nat.le_refl _) _⟩
 exact (cell_of_row _ _ _ _ _ _ (show (w.drew.alloc (.cells _ _ _)).heap[w.heap.size]? = some _ from heap_alloc_new w.drew _)).trans (by rw [Nat.zero_mul, Nat.add_zero, Array.getElem?_append_left (by simp)]; rfl)
set_option maxHeartbeats 4000000 in
theorem Zy4 {K K1 : Nat -> Prop} {w : World} {g : Nat} {t : Tr} (hT : Tri K w g t) {kk x : List Int} (hen : entsF [] t = [(kk, x)]) (hkk : kk.length <= 32) (hxl : x.length <= 256) {a : Option Addr} {n c : Nat} {k : List Int} (hk : Sk K1 w a n c k) (hn : n <= 32) :
  Calls Tryz.prog 11 #[.pointer (some ⟨g, 0, none⟩), .slice a n c] w fun e w' => ∃ u, e = .returned u /\ (fun u w' => (∃ a' c', u = .tuple #[.slice a' 1 c', .int .i64 0] /\ 1 <= c' /\ Bt (fun _ => True) w' a' 1 [encT (leaf (Ni.nib kk) x)]) /\ Bl w w') u w' := by
 have hB := Bl.refl w
 have lk := hk.len
 refine Zal Tryz.func11 rfl 31 rfl ?_
 show CW _ _ _ _ _ _ _ [(0, .pointer (some ⟨g, 0, none⟩)), (1, .slice a n c)] _
 refine Zac <| Zaa <| rp 4 (.slice none 0 0) <| rp 5 (.int .i64 0) <| Zad <| Zab <| Zac <| Zac <| Zaa <| rp 10 (.slice a n c) <| Zap 11 26 #[.slice a n c] (fun _ => by kernel_rfl) (fun _ => by kernel_rfl) (R := fun u w' => u = .bool true /\ Bl (w) w') ((isKey_any.mono (fun e w' ⟨u, e1, e2, e3⟩ => ⟨u, e1, by rw [e2, decide_eq_true (by omega)], e3⟩))) ?_
 rintro _ u1 ⟨rfl, hb1⟩
 replace hB := hB.go hb1
 replace hk := hk.go hb1
 have hTu := hT.go hb1
 refine rp 12 (.bool false) <| Zad <| Zab <| Zaf (fun _ => by kernel_rfl) <| Zan <| Zab <| Zac <| Zaa <| rp 13 (.pointer (some ⟨g, 0, none⟩)) <| Zap 14 27 #[.pointer (some ⟨g, 0, none⟩)] (fun _ => by kernel_rfl) (fun _ => by kernel_rfl) (R := EnR u1 [(kk, x)]) ((by have := Zl9 hTu (by rw [hen]; intro e he; simp at he; rw [he]; exact hkk) (by rw [hen]; simp); rw [hen] at this; exact this)) ?_
 rintro _ u2 ⟨⟨aV, cV, vsV, rfl, hPt⟩, hb2⟩
 replace hB := hB.go hb2
 replace hk := hk.go hb2
 replace hPt : PAt (fun _ => True) u2 aV 1 cV vsV [(Ni.nib kk, x)] := hPt
 obtain ⟨gE, oE, a1, n1, c1, a2, n2, c2, kq, xq, ea, hej, hc1, hc2, hs1, hs2⟩ := hPt.at (j := 0) (by omega)
 subst ea
 cases hej
 have hl1 := hs1.len
 have hl2 := hs2.len
 rw [Ni.nib_len] at hl1
 refine rp 6 (.slice (some ⟨gE, oE, none⟩) 1 cV) <| Zad <| Zab <| Zac <| Zac <| Zaa <| rp 15 (.slice (some ⟨gE, oE, none⟩) 1 cV) <| rp 16 (.int .i64 1) <| rp 17 (.bool false) <| Zad <| Zab <| Zaf (fun _ => by kernel_rfl) ?_
 refine Zan <| Zab <| Zac <| Zaa <| rp 18 (.slice a n c) ?_
 have hbo := Bl.refl u2
 refine Zap 19 28 #[.slice a n c] (fun _ => by kernel_rfl) (fun _ => by kernel_rfl) (R := fun u w' => (∃ a', u = .slice a' (2 * n) (2 * n) /\ Ni.Cut w' (u2).heap.size a' (2 * n) (Ni.nib k)) /\ Bl (u2) w') (((Ni.of_any a n c k (u2) hk.ag (by omega)).mono (fun e w' ⟨⟨a', e1, e2⟩, e3⟩ => ⟨_, e1, ⟨a', rfl, e2⟩, e3⟩))) ?_
 rintro _ u3 ⟨⟨a3, rfl, hc3⟩, hb3⟩
 replace hB := hB.go hb3
 replace hk := hk.go hb3
 replace hbo := hbo.go hb3
 refine rp 20 (.agg #[.slice a3 (2 * n) (2 * n), .slice none 0 0]) <| Za3 7 #[.slice none 0 0, .slice none 0 0] 59 (fun _ => by kernel_rfl) (fun _ => by kernel_rfl) ?_
 intro wA gA hnA
 refine Zbu gA #[.slice a3 (2 * n) (2 * n), .slice none 0 0] (fun _ => by kernel_rfl) (fun _ => Za5 59 _ _ _ _ _ _ rfl (by kernel_rfl) (by kernel_rfl) hnA.row (by kernel_rfl) rfl (by kernel_rfl)) ?_
 intro wC hpC
 have hnC := hnA.put hpC
 replace hB := hB.go hnC.below
 replace hk := hk.go hnC.below
 replace hbo := hbo.go hnC.below
 have hrA : Rw gA wC #[.slice a3 (2 * n) (2 * n), .slice none 0 0] 59 := hnC.row
 refine Zad <| Zab <| Zac <| Zaa <| rp 21 (.slice (some ⟨gE, oE, none⟩) 1 cV) ?_
 refine Zap 22 29 #[.pointer (some ⟨gA, 0, none⟩), .slice (some ⟨gE, oE, none⟩) 1 cV, .int .i64 0] (fun _ => by kernel_rfl) (fun _ => by kernel_rfl) (R := fun u w' => (∃ a n c, u = .slice a n c /\ Sk (fun b => wC.heap.size <= b) w' a n c (encT (leaf (Ni.nib kk) x))) /\ Bl wC w') (wenc1 ((Below.cell hbo (block_lt_of_cell hc1)).trans hc1) ((Below.cell hbo (block_lt_of_cell hc2)).trans hc2) (hs1.go hbo) (hs2.go hbo) (by omega) (by omega)) ?_
 rintro _ u4 ⟨⟨a4, n4, c4, rfl, hs4⟩, hb4⟩
 have hz4 := hB.size
 replace hB := hB.go hb4
 replace hk := hk.go hb4
 replace hbo := hbo.go hb4
 replace hrA := hrA.go hb4
 refine rp 8 (.slice a4 n4 c4) <| Zad <| Zab <| Zac <| Zaa <| rp 23 (.pointer (some ⟨gA, 1, none⟩)) <| rv 24 (.slice none 0 0) (fun _ => Zai 28 _ ⟨gA, 1, none⟩ _ _ rfl (by kernel_rfl) (by rw [cell_of_row _ _ _ _ _ _ hrA]; rfl) Tryz.underlying28 rfl) <| rp 25 (.slice a4 n4 c4) <| Zbe 26 #[.slice a4 n4 c4] 23 1 (fun _ => by kernel_rfl) (fun _ => by kernel_rfl) ?_
 intro w5 gN hnN
 replace hB := hB.go hnN.below
 replace hk := hk.go hnN.below
 replace hbo := hbo.go hnN.below
 replace hrA := hrA.go hnN.below
 replace hs4 := hs4.go hnN.below
 have hrN : Rw gN w5 #[.slice a4 n4 c4] 23 := hnN.row
 have hz5 := hB.size
 obtain ⟨V6, w6, cV6, hr6, hg6, hb6⟩ := Zx8 hrN
 refine rw_v 27 V6 (fun _ => by kernel_rfl) (fun _ => Zde hr6 _ _ rfl (by kernel_rfl) (by kernel_rfl)) ?_
 replace hB := hB.go hb6
 replace hk := hk.go hb6
 replace hbo := hbo.go hb6
 replace hrA := hrA.go hb6
 replace hs4 := hs4.go hb6
 obtain ⟨g6, rfl, hc6, hzz⟩ := hg6
 refine rp 9 (.slice (some ⟨g6, 0, none⟩) 1 cV6) <| Zad <| Zab <| Zac <| Zaa <| rp 28 (.slice (some ⟨g6, 0, none⟩) 1 cV6) <| Zap 29 30 #[.slice (some ⟨g6, 0, none⟩) 1 cV6] (fun _ => by kernel_rfl) (fun _ => by kernel_rfl) (R := fun u w' => Bl w6 w') (rev1) ?_
 rintro _ u7 hb7
 replace hB := hB.go hb7
 replace hk := hk.go hb7
 replace hbo := hbo.go hb7
 replace hrA := hrA.go hb7
 replace hs4 := hs4.go hb7
 refine Zad <| Zab <| Zac <| Zaa <| rp 30 (.slice (some ⟨g6, 0, none⟩) 1 cV6) <| rp 4 (.slice (some ⟨g6, 0, none⟩) 1 cV6) <| rp 5 (.int .i64 0) <| Zad <| Zab <| Zam ?_
 exact Zae (.tuple #[.slice (some ⟨g6, 0, none⟩) 1 cV6, .int .i64 0]) (fun _ => by kernel_rfl) ⟨_, rfl, ⟨_, cV6, rfl, hzz, ⟨rfl, fun j hj => ⟨g6, 0, a4, n4, c4, rfl, by rw [show j = 0 by omega]; exact (Below.cell hb7 (block_lt_of_cell hc6)).trans hc6, by rw [show j = 0 by omega]; exact hs4.mono (fun _ _ => trivial)⟩⟩⟩, hB⟩
theorem Zmt (b k : Nat) (hk : k ≠ b) : ∀ (vs : List Value) (o : Nat) (w : World), (w.setCells b o vs).heap[k]? = w.heap[k]?
 | [], _, _ => rfl
 | v :: r, o, w => (Zmt b k hk r (o + 1) _).trans (heap_setCell_other _ _ _ _ hk)
theorem Zp1 (b : Nat) : ∀ (vs : List Value) (o : Nat) (w : World), (w.setCells b o vs).os = w.os /\ (w.setCells b o vs).tape = w.tape /\ (w.setCells b o vs).output = w.output /\ (w.setCells b o vs).heap.size = w.heap.size
 | [], _, _ => ⟨rfl, rfl, rfl, rfl⟩
 | v :: r, o, w => by
  obtain ⟨h1, h2, h3, h4⟩ := Zp1 b r (o + 1) (w.setCell ⟨b, o, none⟩ v)
  exact ⟨h1, h2, h3, h4.trans (by simp)⟩
theorem Zvh (b : Nat) (t : TypeId) : ∀ (vs : List Value) (o : Nat) (w : World) (cur : Array Value), w.heap[b]? = some (.cells cur t (0, 0)) -> ∃ cur' : Array Value, (w.setCells b o vs).heap[b]? = some (.cells cur' t (0, 0)) /\ cur'.size = cur.size
 | [], _, _, cur, h => ⟨cur, h, rfl⟩
 | v :: r, o, w, cur, h => by
  obtain ⟨c', h1, h2⟩ := Zvh b t r (o + 1) (w.setCell ⟨b, o, none⟩ v) _ (heap_setCell_same w b o cur t v h)
  exact ⟨c', h1, by rw [h2]; simp⟩
structure St (w w' : World) (g : Nat) : Prop where
 other : ∀ k, k ≠ g -> w'.heap[k]? = w.heap[k]?
 os : w'.os = w.os
 tape : w'.tape = w.tape
 output : w'.output = w.output
 size : w'.heap.size = w.heap.size
theorem St.of (w : World) (g o : Nat) (vs : List Value) : St w (w.setCells g o vs) g := by
 obtain ⟨h1, h2, h3, h4⟩ := Zp1 g vs o w
 exact ⟨fun k hk => Zmt g k hk vs o w, h1, h2, h3, h4⟩
theorem Sk.st {K : Nat -> Prop} {w w' : World} {a : Option Addr} {n c : Nat} {bs : List Int} {g : Nat} (h : Sk K w a n c bs) (hp : St w w' g) (hK : ∀ b, K b -> b ≠ g) : Sk K w' a n c bs := by
 refine ⟨⟨?_, h.ag.nil, h.ag.l, h.ag.b⟩, h.k⟩
 rcases h.ag.i with h1 | ⟨gb, off, h1, h2, h3, h4, h5, h7⟩
 ·exact .inl h1
 ·exact .inr ⟨gb, off, h1, h2, h3, h4, h5, fun j hj => (World.cell?_of_block (show w'.heap[gb]? = w.heap[gb]? from hp.other gb (hK gb (h.k _ h1 h3)))).trans (h7 j hj)⟩
theorem TA.st {K : Nat -> Prop} {w w' : World} {g : Nat} (hp : St w w' g) (hK : ∀ b, K b -> b ≠ g) : ∀ {t : Tr} {v : Value}, TA K w t v -> TA K w' t v := by
 intro t
 induction t with
 | no => intro v h; exact h
 | leaf p x => rintro v ⟨a, n, c, a', n', c', h1, h2, h3, h4⟩; exact ⟨a, n, c, a', n', c', h1, h2.st hp hK, h3.st hp hK, h4⟩
 | ext p t ih => rintro v ⟨a, n, c, u, h1, h2, h3⟩; exact ⟨a, n, c, u, h1, h2.st hp hK, ih h3⟩
 | br k x ih => rintro v ⟨vs, a, n, c, h1, h2, h3, h4⟩; exact ⟨vs, a, n, c, h1, fun i hi => ih i (h2 i hi), h3.st hp hK, h4⟩
theorem TK.st {K : Nat -> Prop} {w w' : World} {g : Nat} {k : Nat -> Tr} {vs : Nat -> Value} (h : TK K w k vs) (hp : St w w' g) (hK : ∀ b, K b -> b ≠ g) : TK K w' k vs := fun i hi => (h i hi).st hp hK
theorem TA.aged {X : Nat -> Prop} {w : World} {gW : Nat} {vN : Value} : ∀ {t : Tr} {v : Value}, TA (KW gW vN X) w t v -> TA (KW gW vN (fun b => b < w.heap.size)) w t v := by
 intro t
 induction t with
 | no => intro v h; exact h
 | leaf p x => rintro v ⟨a, n, c, a', n', c', h1, h2, h3, h4⟩; exact ⟨a, n, c, a', n', c', h1, h2.aged, h3.aged, h4⟩
 | ext p t ih => rintro v ⟨a, n, c, u, h1, h2, h3⟩; exact ⟨a, n, c, u, h1, h2.aged, ih h3⟩
 | br k x ih => rintro v ⟨vs, a, n, c, h1, h2, h3, h4⟩; exact ⟨vs, a, n, c, h1, fun i hi => ih i (h2 i hi), h3.aged, h4⟩
theorem TK.aged {X : Nat -> Prop} {w : World} {gW : Nat} {vN : Value} {k : Nat -> Tr} {vs : Nat -> Value} (h : TK (KW gW vN X) w k vs) : TK (KW gW vN (fun b => b < w.heap.size)) w k vs := fun i hi => (h i hi).aged
theorem Rf.st {K : Nat -> Prop} {w w' : World} {y : RV} {r : PR} {g : Nat} (h : Rf K w y r) (hp : St w w' g) (hK : ∀ b, K b -> b ≠ g) : Rf K w' y r := ⟨h.at'.go (fun b hb _ => ⟨hp.other b (hK b hb), hb⟩)⟩
theorem Rw.st {g g' : Nat} {w w' : World} {cells : Array Value} {T : TypeId} (h : Rw g w cells T) (hp : St w w' g') (hne : g ≠ g') : Rw g w' cells T := (hp.other g hne).trans h
theorem Wt.st {X : Nat -> Prop} {w w' : World} {gW base g : Nat} {vN : Value} {ns : List (List Int)} {old : Array Value} {T : TypeId} (h : Wt w gW base vN X ns) (hr : w.heap[g]? = some (.cells old T (0, 0))) (h1 : T ≠ 23) (h2 : T ≠ 80) (hX : ∀ b, X b -> b ≠ g) (hp : St w w' g) : Wt w' gW base vN X ns := by
 obtain ⟨vals, ⟨q1, ho⟩, hv⟩ := h.o
 have hne : gW ≠ g := by
  rintro rfl
  have := h.r
  rw [Rw, hr] at this
  simp at this
  exact h2 this.2
 refine ⟨(hp.other _ hne).trans h.r, ⟨vals, ⟨q1, ?_⟩, hv.1, fun j u hu => ?_⟩, h.b⟩
 case refine_2 =>
  obtain ⟨a, n, c, e, hs⟩ := hv.2 j u hu
  exact ⟨a, n, c, e, hs.st hp (fun b hb => hX b hb.2.2)⟩
 rcases ho with q | ⟨g', cap, cur, e1, e2, e3, e4⟩
 ·exact .inl q
 ·refine .inr ⟨g', cap, cur, e1, e2, (hp.other _ ?_).trans e3, e4⟩
  rintro rfl
  rw [hr] at e3
  simp at e3
  exact h1 e3.2
theorem Wg.st {w v v' : World} {gW g : Nat} {vN vN' : Value} (h : Wg w v gW vN vN') (hp : St v v' g) (hg : w.heap.size <= g) : Wg w v' gW vN vN' :=
 ⟨hp.os.trans h.os, hp.tape.trans h.tape, hp.output.trans h.output, by rw [hp.size]; exact h.size, fun k hk h1 h2 => (hp.other k (by omega)).trans (h.block k hk h1 h2), h.own⟩
def kz : Array Value := (Array.range 544).map (fun x => rz.cells.toArray[x % 34]!)
def updR (ys : Nat -> RV) (i : Nat) (y : RV) : Nat -> RV := fun j => if j = i then y else ys j
structure Kr (gK : Nat) (w : World) (ys : Nat -> RV) : Prop where
 row : ∃ cur : Array Value, w.heap[gK]? = some (.cells cur 65 (0, 0)) /\ cur.size = 544
 rng : ∀ i, i < 16 -> w.rangeAt gK (0 + i * 34) (ys i).cells
 ln : ∀ i, (ys i).d.length = 32
theorem Kr.same {gK : Nat} {w w' : World} {ys : Nat -> RV} (h : Kr gK w ys) (e : w'.heap[gK]? = w.heap[gK]?) : Kr gK w' ys := by
 obtain ⟨cur, h1, h2⟩ := h.row
 exact ⟨⟨cur, e.trans h1, h2⟩, fun i hi m v hv => (World.cell?_of_block (show w'.heap[gK]? = w.heap[gK]? from e)).trans (h.rng i hi m v hv), h.ln⟩
theorem Kr.wg {gK : Nat} {w w' : World} {gW base : Nat} {X : Nat -> Prop} {vN vN' : Value} {ns : List (List Int)} {ys : Nat -> RV} (h : Kr gK w ys) (hg : Wg w w' gW vN vN') (hw : Wt w gW base vN X ns) : Kr gK w' ys := by
 obtain ⟨cur, h1, h2⟩ := h.row
 exact h.same ((hg.row hw h1 (by decide) (by decide)).trans h1.symm)
theorem Kr.lt {gK : Nat} {w : World} {ys : Nat -> RV} (h : Kr gK w ys) : gK < w.heap.size := by
 obtain ⟨cur, h1, h2⟩ := h.row
 exact lt_of_get h1
theorem Kr.there {gK : Nat} {w : World} {ys : Nat -> RV} (h : Kr gK w ys) {j : Nat} (hj : j < 16) : w.there gK (0 + j * 34) 34 := by
 obtain ⟨cur, h1, h2⟩ := h.row
 intro m hm
 refine ⟨?_, frozen_of_row _ _ _ _ _ h1⟩
 rw [cell_of_row _ _ _ _ _ _ h1, Array.getElem?_eq_getElem (by omega)]
 rfl
theorem Kr.put {gK : Nat} {w : World} {ys : Nat -> RV} (h : Kr gK w ys) {j : Nat} (hj : j < 16) {y : RV} (hy : y.d.length = 32) : Kr gK (w.setCells gK (0 + j * 34) y.cells) (updR ys j y) := by
 have ht := h.there hj
 obtain ⟨cur, h1, h2⟩ := h.row
 obtain ⟨cur', h3, h4⟩ := Zvh gK 65 y.cells (0 + j * 34) w cur h1
 refine ⟨⟨cur', h3, h4.trans h2⟩, fun i hi => ?_, fun i => ?_⟩
 ·unfold updR
  by_cases e : i = j
  ·rw [if_pos e, e]
   exact World.rangeAt_setCells_same w gK (0 + j * 34) y.cells (by rw [RV.len hy]; exact ht)
  ·rw [if_neg e]
   refine World.rangeAt_setCells_apart (h.rng i hi) gK (0 + j * 34) y.cells (.inr ?_)
   rw [RV.len (h.ln i), RV.len hy]
   omega
 ·unfold updR
  split
  ·exact hy
  ·exact h.ln i
theorem Kr.new {w w' : World} {gK : Nat} (h : New w w' gK kz 65) : Kr gK w' (fun _ => rz) := by
 refine ⟨⟨kz, h.row, by simp [kz]⟩, fun i hi m v hv => ?_, fun _ => rfl⟩
 have hm : m < 34 := by have := (List.getElem?_eq_some_iff.1 hv).1; rw [RV.len (x := rz) rfl] at this; exact this
 rw [cell_of_row _ _ _ _ _ _ h.row]
 unfold kz
 rw [Array.getElem?_map, Array.getElem?_eq_getElem (by rw [Array.size_range]; omega)]
 rw [Array.getElem_range, Option.map_some]
 rw [show (0 + i * 34 + m) % 34 = m from by omega]
 rw [<- hv, getElem!_pos _ _ (by rw [List.size_toArray, RV.len (x := rz) rfl]; exact hm)]
 simp
theorem Zqi {ρ : Operand -> Value} {w : World} {o : Oper} (x z : Operand) {gK j : Nat} {ys : Nat -> RV} {y : RV} (h : Kr gK w ys) (hj : j < 16) (hy : y.d.length = 32) (ho : o.op = .store 65 x z) (hx : ρ x = .pointer (some ⟨gK, 0 + j * 34, none⟩)) (hz : ρ z = .agg y.cells.toArray) :
  (execOp ρ o).run Tryz.prog w = .ok .skip (w.setCells gK (0 + j * 34) y.cells) := by
 have := run_storeAt_mid (P := Tryz.prog) w gK (0 + j * 34) 65 y.cells.toArray (by rw [Zbb hy]; exact h.there hj) (by rw [Zbn, Zbb hy]) (Zcb y)
 unfold execOp
 simp only [ho, hx, hz, Sem.run_bind, this, Result.andThen_ok, Sem.run_pure]
def rP (k : Nat -> Tr) (i : Nat) : PR := if (k i).isNo then r0 else referP (encT (k i))
def nmK (k : Nat -> Tr) (i : Nat) : List (List Int) := if (k i).isNo then [] else nmd (k i) ++ nm1 (encT (k i))
def nmJ (k : Nat -> Tr) (j : Nat) : List (List Int) := (List.range j).flatMap (nmK k)
theorem Zgh (k : Nat -> Tr) (j : Nat) : nmJ k (j + 1) = nmJ k j ++ nmK k j := by simp [nmJ, List.range_succ, List.flatMap_append]
theorem Znc (k : Nat -> Tr) (i : Nat) : ∀ d, (nmJ k i).length <= (nmJ k (i + d)).length
 | 0 => Nat.le_refl _
 | d + 1 => by rw [<- Nat.add_assoc, Zgh, List.length_append]; have := Znc k i d; omega
theorem Zo9 : (fun (va : Option Addr) (vn vc : Nat) (ka : Option Addr) (kn kc : Nat) => Tryz.prog.built 68 [(0, .int .i64 3), (4, .slice ka kn kc), (2, .slice va vn vc)]) = fun va vn vc ka kn kc => some (NV.cells ⟨3, none, 0, 0, va, vn, vc, rz, ka, kn, kc⟩).toArray := by kernel_rfl
theorem Zse (va : Option Addr) (vn vc : Nat) (ka : Option Addr) (kn kc : Nat) : Tryz.prog.built 68 [(0, .int .i64 3), (4, .slice ka kn kc), (2, .slice va vn vc)] = some (NV.cells ⟨3, none, 0, 0, va, vn, vc, rz, ka, kn, kc⟩).toArray := congrFun (congrFun (congrFun (congrFun (congrFun (congrFun Zo9 va) vn) vc) ka) kn) kc
def RFS (t : Tr) : Prop := ∀ {v : World} {gW base : Nat} {vM : Value} {Y Z : Nat -> Prop} {ns : List (List Int)} {val : Value}, TA (KW gW vM Z) v t val -> Wt v gW base vM Y ns -> (∀ b, v.heap.size <= b -> Y b) -> (ns ++ nmd t).length + 1 <= 8800000000000 -> Calls Tryz.prog 194 #[.pointer (some ⟨gW, 0, none⟩), val] v fun e w' => ∃ u, e = .returned u /\ RRf v gW base vM Y ns t u w'
structure BI (w : World) (gW base : Nat) (vN : Value) (X : Nat -> Prop) (ns : List (List Int)) (k : Nat -> Tr) (vs : Nat -> Value) (a : Option Addr) (n c : Nat) (x : List Int) (gB gN gK : Nat) (j : Nat) (vM : Value) (ys : Nat -> RV) (v : World) : Prop where
 hrB : Rw gB v (brc vs (.slice a n c)) 221
 hrN : Rw gN v nz.cells.toArray 68
 hK : Kr gK v ys
 hk : TK (KW gW vM (fun b => b < w.heap.size)) v k vs
 hx : Sk (KW gW vM (fun b => b < w.heap.size)) v a n c x
 hr : ∀ i, i < 16 -> Rf (KW gW vM (fun b => gK < b)) v (ys i) (if i < j then rP k i else r0)
 hW : Wt v gW base vM (fun b => X b /\ b ≠ gN /\ b ≠ gK) (ns ++ nmJ k j)
 hG : Wg w v gW vN vM
theorem BI.skip {w : World} {gW base : Nat} {vN : Value} {X : Nat -> Prop} {ns : List (List Int)} {k : Nat -> Tr} {vs : Nat -> Value} {a : Option Addr} {n c : Nat} {x : List Int} {gB gN gK j : Nat} {vM : Value} {ys : Nat -> RV} {v : World} (h : BI w gW base vN X ns k vs a n c x gB gN gK j vM ys v) (hno : (k j).isNo = true) : BI w gW base vN X ns k vs a n c x gB gN gK (j + 1) vM ys v := by
 refine ⟨h.hrB, h.hrN, h.hK, h.hk, h.hx, fun i hi => ?_, by rw [Zgh, show nmK k j = [] from by unfold nmK; rw [if_pos hno], List.append_nil]; exact h.hW, h.hG⟩
 have := h.hr i hi
 by_cases e : i = j
 ·subst e
  rw [if_neg (by omega)] at this
  rw [if_pos (by omega), show rP k i = r0 from by unfold rP; rw [if_pos hno]]
  exact this
 ·by_cases h1 : i < j
  ·rw [if_pos h1] at this; rw [if_pos (by omega)]; exact this
  ·rw [if_neg h1] at this; rw [if_neg (by omega)]; exact this
theorem BI.step {w : World} {gW base : Nat} {vN : Value} {X : Nat -> Prop} {ns : List (List Int)} {k : Nat -> Tr} {vs : Nat -> Value} {a : Option Addr} {n c : Nat} {x : List Int} {gB gN gK j : Nat} {vM : Value} {ys : Nat -> RV} {v : World} (h : BI w gW base vN X ns k vs a n c x gB gN gK j vM ys v) (hj : j < 16) (hno : (k j).isNo = false) (hg1 : w.heap.size <= gB) (hg2 : gB < gN) (hg3 : gN < gK)
  {y : RV} {vP : Value} {u : World} (hRf : Rf (KW gW vP (fun b => v.heap.size < b)) u y (referP (encT (k j)))) (hW : Wt u gW base vP (fun b => X b /\ b ≠ gN /\ b ≠ gK) ((ns ++ nmJ k j) ++ (nmd (k j) ++ nm1 (encT (k j))))) (hG : Wg v u gW vM vP) : Kr gK u ys /\ BI w gW base vN X ns k vs a n c x gB gN gK (j + 1) vP (updR ys j y) (u.setCells gK (0 + j * 34) y.cells) := by
 have hKu := h.hK.wg hG h.hW
 have hlt := h.hK.lt
 have hst := St.of u gK (0 + j * 34) y.cells
 have hyl := hRf.at'.len
 obtain ⟨cur, hc1, hc2⟩ := hKu.row
 refine ⟨hKu, (h.hrB.wg hG h.hW (by decide) (by decide)).st hst (by omega), (h.hrN.wg hG h.hW (by decide) (by decide)).st hst (by omega), hKu.put hj hyl, (h.hk.wg hG).st hst (fun b hb => by have := hb.2.2; omega), (h.hx.wg hG).st hst (fun b hb => by have := hb.2.2; omega), fun i hi => ?_, ?_, (h.hG.trans hG).st hst (by omega)⟩
 ·by_cases e : i = j
  ·subst e
   rw [if_pos (by omega), show updR ys i y i = y from by simp [updR], show rP k i = referP (encT (k i)) from by unfold rP; rw [if_neg (by simp [hno])]]
   exact (hRf.mono (fun b hb => ⟨hb.1, hb.2.1, by have := hb.2.2; omega⟩)).st hst (fun b hb => by have := hb.2.2; omega)
  ·rw [show updR ys j y i = ys i from by simp [updR, e]]
   have q := ((h.hr i hi).wg hG).st hst (fun b hb => by have := hb.2.2; omega)
   by_cases h1 : i < j
   ·rw [if_pos h1] at q; rw [if_pos (by omega)]; exact q
   ·rw [if_neg h1] at q; rw [if_neg (by omega)]; exact q
 ·have e : ns ++ nmJ k (j + 1) = (ns ++ nmJ k j) ++ (nmd (k j) ++ nm1 (encT (k j))) := by rw [Zgh, show nmK k j = nmd (k j) ++ nm1 (encT (k j)) from by unfold nmK; rw [if_neg (by simp [hno])], List.append_assoc]
  rw [e]
  exact hW.st hc1 (by decide) (by decide) (fun b hb => hb.2.2) hst
theorem Zp8 (K : Nat -> Prop) (w : World) : RefAt K w rz r0 := ⟨rfl, rfl, (Zgc w).2.2.1, rfl, ⟨.inl ⟨rfl, rfl⟩, fun _ => ⟨rfl, rfl⟩, rfl, fun x hx => by cases hx⟩, Nat.zero_le _, fun _ _ e => by cases e⟩
theorem Zxh {K : Nat -> Prop} {w : World} {gK : Nat} {ys : Nat -> RV} {k : Nat -> Tr} {x : List Int} (h : Kr gK w ys) (hr : ∀ i, i < 16 -> Rf K w (ys i) (if i < 16 then rP k i else r0)) : KidsAt (fun _ => True) w (some ⟨gK, 0, none⟩) (nodeP (br k x)).ks := by
 intro j r hj
 have hl : j < 16 := by have := (List.getElem?_eq_some_iff.1 hj).1; simpa [nodeP] using this
 have e : r = rP k j := by
  simp only [nodeP] at hj
  rw [List.getElem?_map, List.getElem?_range hl] at hj
  simp at hj
  rw [<- hj]; rfl
 have q := hr j hl
 rw [if_pos hl] at q
 exact ⟨gK, 0, ys j, rfl, trivial, h.rng j hl, by rw [e]; exact q.at'.go (fun b hb _ => ⟨rfl, trivial⟩)⟩
set_option maxHeartbeats 4000000 in
theorem Zsk {w : World} {gW base : Nat} {vN : Value} {X : Nat -> Prop} {ns : List (List Int)} (hW : Wt w gW base vN X ns) {Z : Nat -> Prop} {a : Option Addr} {n c : Nat} {x : List Int} {k : Nat -> Tr} {vs : Nat -> Value} (hk : TK (KW gW vN Z) w k vs) (hx : Sk (KW gW vN Z) w a n c x) (hn2 : n <= 256) (hX : ∀ b, w.heap.size <= b -> X b) (hR : ∀ i, i < 16 -> k i = no \/ RFS (k i)) (hM : (ns ++ nmJ k 16).length + 1 <= 8800000000000) :
  Calls Tryz.prog 190 #[.agg (brc vs (.slice a n c)), .pointer (some ⟨gW, 0, none⟩)] w fun e w' => ∃ u, e = .returned u /\ RNd w gW base vN X ns (br k x) u w' := by
 have hB := Bl.refl w
 replace hk := hk.aged
 replace hx := hx.aged
 have hW0 := hW
 refine Zal Tryz.func190 rfl 28 rfl ?_
 show CW _ _ _ _ _ _ _ [(0, .agg (brc vs (.slice a n c))), (1, .pointer (some ⟨gW, 0, none⟩))] _
 refine Zac <| Zaa <| Za3 2 (brc vs (.slice a n c)) 221 (fun _ => by kernel_rfl) (fun _ => by kernel_rfl) ?_
 intro w1 gB hnB
 replace hB := hB.go hnB.below
 replace hk := hk.go hnB.below
 replace hx := hx.go hnB.below
 have hrB : Rw gB w1 (brc vs (.slice a n c)) 221 := hnB.row
 have hgB := hnB.hg
 have hsB := hnB.size
 refine Za3 4 nz.cells.toArray 68 (fun _ => by kernel_rfl) (fun _ => by kernel_rfl) ?_
 intro w2 gN hnN
 replace hB := hB.go hnN.below
 replace hk := hk.go hnN.below
 replace hx := hx.go hnN.below
 replace hrB := hrB.go hnN.below
 have hrN : Rw gN w2 nz.cells.toArray 68 := hnN.row
 have hgN := hnN.hg
 have hsN := hnN.size
 refine Zad <| Zab <| Zac <| Zaa <| Zbe 8 kz 65 16 (fun _ => by kernel_rfl) (fun _ => by kernel_rfl) ?_
 intro w3 gK hnK
 replace hB := hB.go hnK.below
 replace hk := hk.go hnK.below
 replace hx := hx.go hnK.below
 replace hrB := hrB.go hnK.below
 replace hrN := hrN.go hnK.below
 have hK := Kr.new hnK
 have hgK := hnK.hg
 have hI : BI w gW base vN X ns k vs a n c x gB gN gK 0 vN (fun _ => rz) w3 := ⟨hrB, hrN, hK, hk, hx, fun i hi => by rw [if_neg (by omega)]; exact ⟨Zp8 _ _⟩, (by rw [show nmJ k 0 = [] from rfl, List.append_nil]; exact (hW0.mono (Y := fun b => X b /\ b ≠ gN /\ b ≠ gK) (fun b hb hx => ⟨hx, by omega, by omega⟩)).go hB), Wg.of_below hB⟩
 have hord : w.heap.size <= gB /\ gB < gN /\ gN < gK := by omega
 clear hrB hrN hK hk hx hB
 refine rp 5 (.slice (some ⟨gK, 0, none⟩) 16 16) <| Zad <| Zab <| Zac <| Zac <| Zaa <| rp 9 (.pointer (some ⟨gB, 0, none⟩)) <| rv 10 (.agg (bra vs)) (fun _ => Zqm hI.hrB _ rfl (by kernel_rfl)) <| rp 11 (.int .i64 0) <| Zad <| Zab <| Zas ?_
 refine Zb1 (X := Nat × Value × (Nat -> RV)) (fun z => [(11, .int .i64 ((z.1 : Nat) : Int)), (10, .agg (bra vs)), (5, .slice (some ⟨gK, 0, none⟩) 16 16), (1, .pointer (some ⟨gW, 0, none⟩)), (2, .pointer (some ⟨gB, 0, none⟩)), (4, .pointer (some ⟨gN, 0, none⟩))]) (fun z v => BI w gW base vN X ns k vs a n c x gB gN gK z.1 z.2.1 z.2.2 v /\ z.1 <= 16) (fun z => 16 - z.1) (0, vN, fun _ => rz) (by exact ⟨fun _ => by kernel_rfl, ⟨fun _ => by kernel_rfl, ⟨fun _ => by kernel_rfl, ⟨fun _ => by kernel_rfl, ⟨fun _ => by kernel_rfl, ⟨fun _ => by kernel_rfl, trivial⟩⟩⟩⟩⟩⟩) ⟨hI, Nat.zero_le _⟩ ?_
 clear hI
 rintro ⟨j, vM, ys⟩ v ⟨hI, hj⟩
 simp only at hI hj
 show CW _ _ _ _ _ _ _ [(11, .int .i64 ((j : Nat) : Int)), (10, .agg (bra vs)), (5, .slice (some ⟨gK, 0, none⟩) 16 16), (1, .pointer (some ⟨gW, 0, none⟩)), (2, .pointer (some ⟨gB, 0, none⟩)), (4, .pointer (some ⟨gN, 0, none⟩))] _
 by_cases hlt : j < 16
 ·skip
  refine Zac <| Zaa <| rv 12 (.bool true) (fun _ => Zaj (v := .bool (decide (((j : Nat) : Int) < (16 : Int)))) (by kernel_rfl) (congrArg Value.bool (decide_eq_true (by omega)))) <| Zad <| Zab <| Zac <| Zak (fun _ => by kernel_rfl) <| Zan <| Zab <| Zac <| Zas <| Zac ?_
  refine Zaa <| rp 13 (.int .i64 ((j : Nat) : Int)) <| rv 14 (vs j) (fun _ => Zkq _ _ vs j hlt rfl (by kernel_rfl) (by kernel_rfl)) <| rp 6 (.int .i64 ((j : Nat) : Int)) <| rp 7 (vs j) <| Zad <| Zab <| Zac <| Zaa <| rp 15 (vs j) <| rv 16 (.bool (!(k j).isNo)) (fun _ => Zy9 (hI.hk j hlt) _ _ rfl (by kernel_rfl) (by kernel_rfl)) <| Zad ?_
  refine Zab ?_
  cases hno : (k j).isNo with
  | true =>
   show CW _ _ _ _ _ _ _ [(16, .bool false), (15, vs j), (7, vs j), (6, .int .i64 ((j : Nat) : Int)), (14, vs j), (13, .int .i64 ((j : Nat) : Int)), (12, .bool true), (11, .int .i64 ((j : Nat) : Int)), (10, .agg (bra vs)), (5, .slice (some ⟨gK, 0, none⟩) 16 16), (1, .pointer (some ⟨gW, 0, none⟩)), (2, .pointer (some ⟨gB, 0, none⟩)), (4, .pointer (some ⟨gN, 0, none⟩))] _
   have hI2 := hI.skip hno
   refine Zaf (fun _ => by kernel_rfl) <| Zan <| Za2 <| Zab <| Zaa <| rv 23 (.int .i64 ((j + 1 : Nat) : Int)) (fun _ => Zaj (v := .int .i64 (IntKind.i64.wrap (((j : Nat) : Int) + 1))) (by kernel_rfl) (congrArg (Value.int .i64) (by rw [Zbl (by omega) (by omega)]; rfl))) <| rp 11 (.int .i64 ((j + 1 : Nat) : Int)) <| Zad ?_
   exact Zbc (E := fun z => [(11, .int .i64 ((z.1 : Nat) : Int)), (10, .agg (bra vs)), (5, .slice (some ⟨gK, 0, none⟩) 16 16), (1, .pointer (some ⟨gW, 0, none⟩)), (2, .pointer (some ⟨gB, 0, none⟩)), (4, .pointer (some ⟨gN, 0, none⟩))]) (R := fun z v => BI w gW base vN X ns k vs a n c x gB gN gK z.1 z.2.1 z.2.2 v /\ z.1 <= 16) (μ := fun z => 16 - z.1) (x := (j, vM, ys)) (j + 1, vM, ys) (by exact ⟨fun _ => by kernel_rfl, ⟨fun _ => by kernel_rfl, ⟨fun _ => by kernel_rfl, ⟨fun _ => by kernel_rfl, ⟨fun _ => by kernel_rfl, ⟨fun _ => by kernel_rfl, trivial⟩⟩⟩⟩⟩⟩) ⟨hI2, by omega⟩ (by show 16 - (j + 1) < 16 - j; omega)
  | false =>
   show CW _ _ _ _ _ _ _ [(16, .bool true), (15, vs j), (7, vs j), (6, .int .i64 ((j : Nat) : Int)), (14, vs j), (13, .int .i64 ((j : Nat) : Int)), (12, .bool true), (11, .int .i64 ((j : Nat) : Int)), (10, .agg (bra vs)), (5, .slice (some ⟨gK, 0, none⟩) 16 16), (1, .pointer (some ⟨gW, 0, none⟩)), (2, .pointer (some ⟨gB, 0, none⟩)), (4, .pointer (some ⟨gN, 0, none⟩))] _
   refine Zak (fun _ => by kernel_rfl) <| Zaa <| rp 17 (.slice (some ⟨gK, 0, none⟩) 16 16) <| rp 18 (.int .i64 ((j : Nat) : Int)) <| rp 19 (.pointer (some ⟨gW, 0, none⟩)) <| rp 20 (vs j) ?_
   have hRj : RFS (k j) := by
    rcases hR j hlt with h | h
    ·rw [h] at hno; simp [isNo] at hno
    ·exact h
   have hMj : ((ns ++ nmJ k j) ++ nmd (k j)).length + 1 <= 8800000000000 := by
    have h1 := Znc k (j + 1) (15 - j)
    rw [show j + 1 + (15 - j) = 16 from by omega, Zgh, show nmK k j = nmd (k j) ++ nm1 (encT (k j)) from by unfold nmK; rw [if_neg (by simp [hno])]] at h1
    simp only [List.length_append] at h1 hM ⊢
    omega
   refine Zap 21 194 #[.pointer (some ⟨gW, 0, none⟩), vs j] (fun _ => by kernel_rfl) (fun _ => by kernel_rfl) (R := RRf v gW base vM (fun b => X b /\ b ≠ gN /\ b ≠ gK) (ns ++ nmJ k j) (k j)) (hRj (hI.hk j hlt) hI.hW (fun b hb => ⟨hX b (Nat.le_trans hI.hG.size hb), by have := hI.hK.lt; omega, by have := hI.hK.lt; omega⟩) hMj) ?_
   rintro _ u1 ⟨y, vP, rfl, hRf, hW1, hG1⟩
   have hyl := hRf.at'.len
   obtain ⟨hKu, hI2⟩ := hI.step hlt hno hord.1 hord.2.1 hord.2.2 hRf hW1 hG1
   refine rv 22 (.pointer (some ⟨gK, 0 + j * 34, none⟩)) (fun _ => Za0 66 _ _ gK 0 j 16 16 34 65 rfl (by kernel_rfl) (by kernel_rfl) hlt Tryz.underlying66 (by kernel_rfl)) <| rw_s (fun _ => by kernel_rfl) (fun _ => Zqi _ _ hKu hlt hyl rfl (by kernel_rfl) (by kernel_rfl)) ?_
   generalize u1.setCells gK (0 + j * 34) y.cells = wS at hI2 ⊢
   refine Zad <| Za2 <| Zab <| Zaa <| rv 23 (.int .i64 ((j + 1 : Nat) : Int)) (fun _ => Zaj (v := .int .i64 (IntKind.i64.wrap (((j : Nat) : Int) + 1))) (by kernel_rfl) (congrArg (Value.int .i64) (by rw [Zbl (by omega) (by omega)]; rfl))) <| rp 11 (.int .i64 ((j + 1 : Nat) : Int)) <| Zad ?_
   exact Zbc (E := fun z => [(11, .int .i64 ((z.1 : Nat) : Int)), (10, .agg (bra vs)), (5, .slice (some ⟨gK, 0, none⟩) 16 16), (1, .pointer (some ⟨gW, 0, none⟩)), (2, .pointer (some ⟨gB, 0, none⟩)), (4, .pointer (some ⟨gN, 0, none⟩))]) (R := fun z v => BI w gW base vN X ns k vs a n c x gB gN gK z.1 z.2.1 z.2.2 v /\ z.1 <= 16) (μ := fun z => 16 - z.1) (x := (j, vM, ys)) (j + 1, vP, updR ys j y) (by exact ⟨fun _ => by kernel_rfl, ⟨fun _ => by kernel_rfl, ⟨fun _ => by kernel_rfl, ⟨fun _ => by kernel_rfl, ⟨fun _ => by kernel_rfl, ⟨fun _ => by kernel_rfl, trivial⟩⟩⟩⟩⟩⟩) ⟨hI2, by omega⟩ (by show 16 - (j + 1) < 16 - j; omega)
 obtain rfl : j = 16 := by omega
 refine Zac <| Zaa <| rv 12 (.bool false) (fun _ => Zaj (v := .bool (decide (((16 : Nat) : Int) < (16 : Int)))) (by kernel_rfl) (congrArg Value.bool (rfl))) <| Zad <| Zab <| Zac <| Zaf (fun _ => by kernel_rfl) <| Zbs <| Zaq <| Zaq <| Za4 <| Zab ?_
 refine Zac <| Zaa <| rp 24 (.slice (some ⟨gK, 0, none⟩) 16 16) <| rp 25 (.pointer (some ⟨gB, 16, none⟩)) <| rv 26 (.slice a n c) (fun _ => Zai 23 _ ⟨gB, 16, none⟩ _ _ rfl (by kernel_rfl) (by rw [cell_of_row _ _ _ _ _ _ hI.hrB]; rfl) Tryz.underlying23 rfl) <| rv 27 (.agg (NV.cells ⟨3, none, 0, 0, a, n, c, rz, some ⟨gK, 0, none⟩, 16, 16⟩).toArray) (fun _ => Zev 68 _ [(0, .int .i64 3), (4, .slice (some ⟨gK, 0, none⟩) 16 16), (2, .slice a n c)] _ rfl (by kernel_rfl) (Zse _ _ _ _ _ _)) <| Zbu gN (NV.cells ⟨3, none, 0, 0, a, n, c, rz, some ⟨gK, 0, none⟩, 16, 16⟩).toArray (fun _ => by kernel_rfl) (fun _ => Za5 68 _ _ _ _ _ _ rfl (by kernel_rfl) (by kernel_rfl) hI.hrN (by rw [Zdi, Zby (y := ⟨3, none, 0, 0, a, n, c, rz, some ⟨gK, 0, none⟩, 16, 16⟩) rfl]) (by rw [Zby (y := ⟨3, none, 0, 0, a, n, c, rz, some ⟨gK, 0, none⟩, 16, 16⟩) rfl]; rfl) (Zha _)) ?_
 intro wE hpE
 have hrE : Rw gN wE (NV.cells ⟨3, none, 0, 0, a, n, c, rz, some ⟨gK, 0, none⟩, 16, 16⟩).toArray 68 := hpE.row hI.hrN
 have hxE := hI.hx.put hpE (fun b hb => by have := hb.2.2; omega)
 have hKE := hI.hK.same (hpE.other (by omega))
 have hRE := fun i hi => (hI.hr i hi).put hpE (fun b hb => by have := hb.2.2; omega)
 have hWE := (hI.hW.put hI.hrN (by decide) (by decide) (fun b hb => hb.2.1) hpE).mono (Y := X) (fun b _ hb => hb.1)
 have hGE := hI.hG.put hpE (by omega)
 refine Zad <| Zab <| Zam ?_
 have lx := hxE.len
 exact Zae (.agg (NV.cells ⟨3, none, 0, 0, a, n, c, rz, some ⟨gK, 0, none⟩, 16, 16⟩).toArray) (fun _ => Zes Tryz.results190 _ gN ⟨3, none, 0, 0, a, n, c, rz, some ⟨gK, 0, none⟩, 16, 16⟩ rfl (by kernel_rfl) hrE) ⟨_, rfl, ⟨3, none, 0, 0, a, n, c, rz, some ⟨gK, 0, none⟩, 16, 16⟩, vM, rfl, ⟨rfl, Zss _, hxE.agk (by omega), Zgc _, ⟨(by simp [nodeP]), Nat.le_refl _, (by show 16 <= maxLen; unfold maxLen; omega), (by show 16 <= _; omega), fun e => by cases e⟩, Zxh hKE hRE⟩, hWE, hGE⟩
end Go.Proofs.YtefhepcplempkaaGreat
