/- What a proof says of a key: its whole way. -/
import Derived.Test.YtefhepcplempkaaGreatG24
import Derived.Test.YtefhepcplempkaaGreatG23
import Derived.Test.YtefhepcplempkaaGreatG15
import Derived.Test.YtefhepcplempkaaGreatG00
import Derived.Test.YtefhepcplempkaaGreatG01
import Derived.Test.YtefhepcplempkaaGreatG19
set_option linter.unusedVariables false
set_option maxRecDepth 100000
namespace Go.Proofs.YtefhepcplempkaaGreat
open Go.RowKit
open Tr
open Di (dref)
def VbR (w : World) (o : Option (List Int)) : Value -> World -> Prop := fun u w' => (∃ (a : Option Addr) (n c : Nat), u = .tuple #[.slice a n c, .bool o.isSome] /\ (o = none -> a = none /\ n = 0 /\ c = 0) /\ ∀ v, o = some v -> Sk (Own w.heap.size w') w' a n c v) /\ Bl w w'
abbrev SlX := (Option Addr × Nat × Nat) × (Option Addr × Nat × Nat) × Bool
structure VbI (w : World) (gR : Nat) (K : Nat -> Prop) (A : Option (List Int)) (x : SlX) (v : World) : Prop where
 r : ∃ (y : RV) (r : PR) (p : List Int) (M : List (List Int)) (f : Nat), Rw gR v y.cells.toArray 65 /\ RefAt (fun b => b ≠ gR) v y r /\ Sk (fun b => b ≠ gR) v x.1.1 x.1.2.1 x.1.2.2 p /\ Nb p /\ Bt K w x.2.1.1 x.2.1.2.1 M /\ x.2.1.2.1 <= x.2.1.2.2 /\ (∀ b ∈ M, b.length <= 140737488351232) /\ x.1.2.1 < f /\ veP f r p M x.2.2 = A
 b : Bl w v
 g : w.heap.size <= gR
theorem Nb.drop {p : List Int} (h : Nb p) (k : Nat) : Nb (p.drop k) := fun i hi => h i (List.mem_of_mem_drop hi)
def vfP (d k : List Int) (M : List (List Int)) : Int × List Int :=
 if 32 < k.length then (70, []) else if M = [] /\ d = dref [128] then (0, []) else
  match veP (2 * k.length + 1) ⟨2, d, []⟩ (Ni.nib k) M false with
  | none => (90, [])
  | some v => (0, v)
def VfR (w : World) (o : Int × List Int) : Value -> World -> Prop := fun u w' => (∃ (a : Option Addr) (n c : Nat), u = .tuple #[.slice a n c, .bool (decide (0 < n)), .int .i64 o.1] /\ Sk (Own w.heap.size w') w' a n c o.2) /\ Bl w w'
theorem Cut.skb {w : World} {base : Nat} {a : Option Addr} {n : Nat} {bs : List Int} (h : Ni.Cut w base a n bs) : Sk (fun b => base <= b /\ b < w.heap.size) w a n n bs := ⟨h.ag, fun x hx hn => by
 obtain ⟨g, off, cur, e1, e2, e3⟩ := h.own hn
 rw [e1] at hx; cases hx
 exact ⟨e2, lt_of_get e3⟩⟩
set_option maxHeartbeats 1000000 in
theorem isKey_any {w : World} {a : Option Addr} {n c : Nat} :
  Calls Tryz.prog 26 #[.slice a n c] w fun e w' => ∃ u, e = .returned u /\ (fun u w' => u = .bool (decide ((n : Int) <= (32 : Int))) /\ Bl w w') u w' := by
 have hB := Bl.refl w
 refine Zaj Tryz.func26 rfl 6 rfl ?_
 show CW _ _ _ _ _ _ _ [(0, .slice a n c)] _
 refine Zac <| Zaa <| rp 2 (.bool false) <| Zad <| Zab <| Zac <| Zaa <| rp 3 (.slice a n c) <| rp 4 (.int .i64 n) <| rp 5 (.bool (decide ((n : Int) <= (32 : Int)))) <| rp 2 (.bool (decide ((n : Int) <= (32 : Int)))) <| Zad ?_
 refine Zab <| Zap ?_
 exact Zae (.bool (decide ((n : Int) <= (32 : Int)))) (fun _ => by kernel_rfl) ⟨_, rfl, rfl, hB⟩
end Go.Proofs.YtefhepcplempkaaGreat
namespace Go.Proofs.YtefhepcplempkaaGreat
open Go.RowKit
section
variable {m : Nat} {P : Program} {ds : List Deferred} {n : Nat} {Q : Exit → Act → World → Prop} {env : Env} {w : World} {ops : Array Oper} {S : World → Prop}
theorem Zn6 {l : Nat} {o : Oper} {a : Act} {w : World} {K : Act -> World -> Prop} (hnd : ∀ c, o.op ≠ .defer c) (h : o.wp P a w K Q) : o.wpIn (Fence.wide.inRound l) m P a w K Q := by
 refine ⟨fun f _ => trivial, ?_⟩
 rw [Oper.semAt_eq _ _ _ hnd]
 unfold Oper.wp at h
 generalize (execOp a.eval o).run P w = r at h ⊢
 cases r with
 | ok x w' =>
  cases x with
  | value v => exact h
  | skip => exact h
  | defer d => exact h
  | enter f args => exact ⟨fun e => absurd e Bool.false_ne_true, callsIn_wide.2 h⟩
  | row row args => exact ⟨fun e => absurd e Bool.false_ne_true, fun c cs _ => by obtain ⟨v, w'', r, s⟩ := h c cs; exact ⟨v, w'', r, stepsIn_wide.2 s⟩⟩
  | _ => exact h.elim
 | halt x w' =>
  cases x with
  | panic v => exact h
  | _ => exact h.elim
theorem Zpo {l : Nat} (hLO : ¬ LetsOut Q) (hnd : ops.all (fun o => match o.op with | .defer _ => false | _ => true) = true) {i : Nat} {K : Act -> World -> Prop} {a : Act} {w : World} (h : wpOp P ops Q i K a w) : wpOpIn (Fence.wide.inRound l) m P ops Q i K a w := by
 unfold wpOp at h
 unfold wpOpIn
 cases ho : ops[i]? with
 | none => simpa [ho] using h
 | some o =>
  simp only [ho] at h ⊢
  have hd : ∀ c, o.op ≠ .defer c := fun c e => by
   have := Array.all_eq_true.1 hnd i (Array.getElem?_eq_some_iff.1 ho).1
   rw [(Array.getElem?_eq_some_iff.1 ho).2, e] at this
   cases this
  split
  ·rename_i hw
   simp only [hw, if_true] at h
   rcases h with h | h
   ·exact Zn6 hd h
   ·exact absurd h.2 hLO
  ·rename_i hw
   simp only [hw] at h
   exact ⟨fun f _ => trivial, h⟩
theorem Zh7 {l : Nat} (hLO : ¬ LetsOut Q) (hnd : ops.all (fun o => match o.op with | .defer _ => false | _ => true) = true) : ∀ (fuel : Nat) (listed : Array Bool) (a : Act) (w : World), wpAnyH P .any ops Q S fuel listed a w -> wpAnyIn (Fence.wide.inRound l) m P .any ops Q fuel listed a w
 | 0, _, _, _, h => h
 | fuel + 1, _, _, _, h => ⟨h.1, fun i hi => wpOpIn_mono (fun a' w' h' => Zh7 hLO hnd fuel _ a' w' h'.2) (Zpo hLO hnd (h.2 i hi))⟩
theorem Zuz {id l : Nat} (S : World -> Prop) (hm : P.follows .mixedOrders = true) (hnd : ops.all (fun o => match o.op with | .defer _ => false | _ => true) = true) (hLO : ¬ LetsOut Q) (hS : S w.drew) (h : DW P ds n Q ops S ops.size (Array.replicate ops.size false) env w.drew) : CW (some l) m P ds n Q (.region id ops true) env w := fun a ha =>
 wpIn_region_any (F := Fence.wide.inRound l) hm (Zh7 hLO hnd _ _ _ _ (h a ha))
end
end Go.Proofs.YtefhepcplempkaaGreat
namespace Go.Proofs.YtefhepcplempkaaGreat
open Go.RowKit
open Tr
def nbE (e : List Int × List Int) : List Int × List Int := (Ni.nib e.1, e.2)
def EnR (w : World) (L : PList) : Value -> World -> Prop := fun u w' => (∃ a c vs, u = .slice a L.length c /\ PAt (fun _ => True) w' a L.length c vs (L.map nbE)) /\ Bl w w'
set_option maxHeartbeats 8000000 in
theorem Zho {K : Nat -> Prop} {w : World} {g : Nat} {t : Tr} (hT : Tri K w g t) (hLk : ∀ e ∈ entsF [] t, e.1.length <= 32) (hLn : (entsF [] t).length <= 2932031007390) :
  Calls Tryz.prog 27 #[.pointer (some ⟨g, 0, none⟩)] w fun e w' => ∃ u, e = .returned u /\ EnR w (entsF [] t) u w' := by
 have hB := Bl.refl w
 refine Zse Tryz.func27 rfl 18 rfl ?_
 show CW _ _ _ _ _ _ _ [(0, .pointer (some ⟨g, 0, none⟩))] _
 have hTl := hT.lt
 have hTo := hT.old
 refine Zac <| Zaa <| rp 2 (.slice none 0 0) <| Zad <| Zab <| Zac <| Zaa <| Zax 3 #[.slice none 0 0] 55 (fun _ => by kernel_rfl) (fun _ => by kernel_rfl) ?_
 intro w6 gL hn6
 have hgL := hn6.hg
 replace hB := hB.go hn6.below
 have hL : Rw gL w6 #[.slice none 0 0] 55 := hn6.row
 have hTk : Tri (fun b => b ≠ gL) w6 g t := (hTo.go hn6.below).mono (fun b hb => by have : b < _ := hb; omega)
 have hgne : g ≠ gL := by omega
 refine Zad <| Zab <| Zac <| Zac <| Zaa <| rp 6 (.pointer (some ⟨g, 0, none⟩)) <| Zao 7 53 #[.pointer (some ⟨g, 0, none⟩)] (fun _ => by kernel_rfl) (fun _ => by kernel_rfl) (R := fun u w' => (∃ gB, u = .func (.func 76) #[] #[.pointer (some ⟨gB, 0, none⟩)] /\ Rw gB w' #[.pointer (some ⟨g, 0, none⟩)] 25 /\ w6.heap.size <= gB) /\ Bl w6 w') (Zyx (g := g)) ?_
 rintro _ w7 ⟨⟨gB, rfl, hgB, hzB⟩, hb7⟩
 replace hB := hB.go hb7
 replace hL := hL.go hb7
 replace hTk := hTk.go hb7
 refine Zad <| Zab <| Zar <| Zwc [(3, .pointer (some ⟨gL, 0, none⟩)), (7, .func (.func 76) #[] #[.pointer (some ⟨gB, 0, none⟩)])] (by exact ⟨fun _ => by kernel_rfl, ⟨fun _ => by kernel_rfl, trivial⟩⟩) ?_
 have hlL := lt_of_get hL
 obtain ⟨⟨vT, hrT, htT⟩, hok⟩ := id hTk
 obtain ⟨L, hents⟩ : ∃ L, entsF [] t = L := ⟨_, rfl⟩
 rw [hents] at hLk hLn ⊢
 refine Zsd 76 #[.pointer (some ⟨gB, 0, none⟩)] (fun _ => by kernel_rfl) (by decide) (by decide) (by decide) (fun args w => by kernel_rfl) (U := fun b => b = gL) (L := L) (fun lp J Wq hbq V hJ0 => (Zvc V (hgB.go hbq) hJ0 (Nat.le_refl _) (hrT.go hbq) (htT.go hbq) hok (fun b hb hu => hb hu) (by rw [hents]; exact List.prefix_rfl)).mono (fun e W' ⟨u, e1, h⟩ => ⟨u, e1, by rw [<- hents]; exact h.resolve_right id⟩)) (fun b hu => by have e : b = gL := hu; omega) (fun pre => EnI w w7 gL (pre.map nbE)) (fun s W W' row h => EnI.own hB.size (s.map nbE) W W' row h) ⟨hB, ⟨_, hL, OwnE.none (fun b hb => by omega), SlB.nil _⟩, fun _ _ _ _ _ hh => hh, Nat.le_refl _⟩ (fun u v e => e = [(3, .pointer (some ⟨gL, 0, none⟩)), (4, u), (5, v)]) ?_ ?_ ?_
 ·intro lp u v W
  refine Zac <| Zaa <| rp 4 (u) <| Zad <| Zab <| Zaa <| rp 5 (v) <| Zad ?_
  exact fun a ha => ⟨rfl, _, ha.sub (env' := [(3, .pointer (some ⟨gL, 0, none⟩)), (4, u), (5, v)]) (by exact ⟨fun _ => by kernel_rfl, ⟨fun _ => by kernel_rfl, ⟨fun _ => by kernel_rfl, trivial⟩⟩⟩), rfl⟩
 ·intro lp pre W M a1 a2 n1 c1 n2 c2 k x e hlp hrec hIv hpre hM1 hM2 hs1 hs2 he
  subst he
  obtain ⟨hB, ⟨v, hL, hO, hS⟩, hkp, hsz⟩ := hIv
  have hlen : (pre.map nbE).length + 1 <= L.length := by obtain ⟨sf, hsf⟩ := hpre; rw [<- hsf]; simp
  have hlL2 := lt_of_get hL
  have hkl : k.length <= 32 := hLk (k, x) (by obtain ⟨sf, hsf⟩ := hpre; rw [<- hsf]; simp)
  have hk1 := hs1.len
  have hL0 := hL
  have hO0 := hO
  have hS0 := hS
  have hWW := Bl.refl W
  refine Zar <| Zuz (fun v => True) (by kernel_rfl) (by kernel_rfl) (fun ⟨_, _, h⟩ => h) (trivial) ?_
  replace hs1 := hs1.drew
  replace hs2 := hs2.drew
  replace hL := hL.drew
  replace hWW := hWW.drew
  refine dt 1 11 (.slice a1 n1 c1) (fun v hv _ => by kernel_rfl) trivial <| dt 3 13 (.slice a2 n2 c2) (fun v hv _ => by kernel_rfl) trivial <| Zaf [0, 2] (by kernel_rfl) (by simp) ?_
  refine ar_v 0 10 v rfl (fun _ => by kernel_rfl) (fun _ => Zah 55 _ ⟨gL, 0, none⟩ _ _ rfl (by kernel_rfl) (by rw [cell_of_row _ _ _ _ _ _ hL]; rfl) Tryz.underlying55 rfl) trivial ?_ ?_
  ·skip
   refine Zaf [2] (by kernel_rfl) (by simp) ?_
   refine Zat 2 12 28 #[.slice a1 n1 c1] rfl (fun _ => by kernel_rfl) (fun _ => by kernel_rfl) (R := fun u w' => (∃ a', u = .slice a' (2 * n1) (2 * n1) /\ Ni.Cut w' (W.drew).heap.size a' (2 * n1) (Ni.nib k)) /\ Bl (W.drew) w') (((Ni.of_any a1 n1 c1 k (W.drew) hs1.ag (by omega)).mono (fun e w' ⟨⟨a', e1, e2⟩, e3⟩ => ⟨_, e1, ⟨a', rfl, e2⟩, e3⟩))) (fun _ _ _ => trivial) ?_ Zam
   rintro _ u3 ⟨⟨a3, rfl, hc3⟩, hb3⟩
   have hz3 := hWW.size
   replace hs1 := hs1.go hb3
   replace hs2 := hs2.go hb3
   replace hL := hL.go hb3
   replace hWW := hWW.go hb3
   have hp3 := Cut.skb hc3
   refine dt 4 14 (.agg #[.slice a3 (2 * n1) (2 * n1), .slice a2 n2 c2]) (fun v hv => (fun _ => by kernel_rfl)) trivial <| Zaf [5] (by kernel_rfl) (by simp) ?_
   refine Zbz 5 15 #[.slice a3 (2 * n1) (2 * n1), .slice a2 n2 c2] 95 1 rfl (fun _ => by kernel_rfl) (fun _ => by kernel_rfl) (fun _ _ _ => trivial) ?_ Zam
   intro W1 gN hnN
   have hOw := hO0.far hWW
   have hSw := hS0.go hWW (fun k hk => (hO0.own k hk).2)
   have hP1 := PAt.oneE (K := fun b => w7.heap.size <= b /\ v.ownBlock ≠ some b) hnN ((hp3.nsl hSw).mono (fun b hb => ⟨by have := hb.1.1; omega, hb.2⟩)) ((hs2.nsl hSw).mono (fun b hb => ⟨by have := hb.1; omega, hb.2⟩)) ⟨by rw [hnN.hg]; have := hWW.size; omega, fun e => by have := (hOw.own gN e).2; have := hnN.hg; omega⟩
   have hO1 := hOw.far hnN.below
   have hS1 := hSw.go hnN.below (fun k hk => (hOw.own k hk).2)
   replace hs1 := hs1.go hnN.below
   replace hs2 := hs2.go hnN.below
   replace hL := hL.go hnN.below
   replace hWW := hWW.go hnN.below
   refine Zaf [6] (by kernel_rfl) (by simp) ?_
   obtain ⟨v2, W2, hr2, hO2, hS2, hb2_, hk2, hv2⟩ := Zyw hO1 hS1 hP1 (fun b hb => ⟨hb.2, by have := hb.1; omega⟩) (by omega) (by have := hWW.size; omega)
   refine ar_v 6 16 v2 rfl (fun _ => by kernel_rfl) (fun _ => Zec hr2 _ _ rfl (by kernel_rfl) (by kernel_rfl)) trivial ?_ Zam
   have hLo : v.ownBlock ≠ some gL := fun e => by have := (hO0.own gL e).1; omega
   have hL2 : Rw gL W2 #[v] 55 := (hk2 gL (lt_of_get hL) hLo).trans hL
   refine Zaf [7] (by kernel_rfl) (by simp) ?_
   refine Zb5 7 gL 0 v2 rfl (fun _ => by kernel_rfl) (fun _ => Zbo 55 _ _ gL 0 _ 55 _ hL2 rfl (by kernel_rfl) (by kernel_rfl) (by show 0 < 1; omega) hO2.cel hO2.one (by kernel_rfl)) (fun _ _ => trivial) ?_ Zam
   intro W3 hs3
   refine Zas (by kernel_rfl) <| Za0 ?_
   have hz3 : W3.heap.size = W2.heap.size := hs3.size
   have hz2 : W1.heap.size <= W2.heap.size := Below.size hb2_
   have hz1 : W.heap.size <= W1.heap.size := hWW.size
   have hkk : ∀ (k : Nat) (cs : Array Value) (T : TypeId) (fr : Nat × Nat), k ≠ gL -> Pr cs -> W.heap[k]? = some (Obj.cells cs T fr) -> W3.heap[k]? = some (Obj.cells cs T fr) := fun k cs T fr hk hP hh => ((hs3.other hk).trans ((hk2 k (Nat.lt_of_lt_of_le (lt_of_get hh) hz1) (fun e => Znb (hS0 k cs T fr e hh) hP)).trans (Below.block hWW k (lt_of_get hh)))).trans hh
   have hko : ∀ (k : Nat) (o : Obj), k ≠ gL -> v.ownBlock ≠ some k -> W.heap[k]? = some o -> W3.heap[k]? = some o := fun k o hk he hh => ((hs3.other hk).trans ((hk2 k (Nat.lt_of_lt_of_le (lt_of_get hh) hz1) he).trans (Below.block hWW k (lt_of_get hh)))).trans hh
   have hnc : ∀ (k : Nat) (o : Obj), W.heap[k]? = some o -> o.isCells = false -> v.ownBlock ≠ some k := fun k o hh hc e => by obtain ⟨cs, hcs⟩ := hO0.row k e; rw [hcs] at hh; cases hh; cases hc
   have hL3 : Rw gL W3 #[v2] 55 := hL2.set hs3 rfl
   have hne2 : ∀ k, v2.ownBlock = some k -> k ≠ gL := fun k hk e => by have := (hO2.own k hk).1; omega
   have hO3 : OwnE (fun b => b ≠ gL) W3 w7.heap.size v2 (pre.map nbE ++ [(Ni.nib k, x)]) := hO2.tou hs3.touch (by omega)
   have hS3 : SlB W3 v2 := fun k cur T fr hk hh => hS2 k cur T fr hk ((hs3.other (hne2 k hk)).symm.trans hh)
   refine Zqv ⟨by omega, fun q o hq ho hc => hko q o (by omega) (hnc q o ho hc) ho⟩ ⟨by omega, fun q cs T fr _ hU hP hh => hkk q cs T fr hU hP hh⟩ ⟨?_, ⟨v2, hL3, by rw [List.map_append]; exact hO3, hS3⟩, fun q cs T fr hq hh => ?_, by omega⟩
   ·refine Below.trans hB ⟨?_, ?_, ?_, by omega, fun q hq => ?_⟩
    ·rw [hs3.touch.os, Below.os hb2_, Below.os hWW]
    ·rw [hs3.touch.tape, Below.tape hb2_, Below.tape hWW]
    ·rw [hs3.touch.output, Below.output hb2_, Below.output hWW]
    ·exact (hs3.other (by omega)).trans ((Below.block hb2_ q (by omega)).trans (Below.block hWW q (by have := Below.size hB; omega)))
   ·exact hko q _ hq (fun e => by have := (hO0.own q e).1; have := lt_of_get hh; omega) (hkp q cs T fr hq hh)
  refine Zat 2 12 28 #[.slice a1 n1 c1] rfl (fun _ => by kernel_rfl) (fun _ => by kernel_rfl) (R := fun u w' => (∃ a', u = .slice a' (2 * n1) (2 * n1) /\ Ni.Cut w' (W.drew).heap.size a' (2 * n1) (Ni.nib k)) /\ Bl (W.drew) w') (((Ni.of_any a1 n1 c1 k (W.drew) hs1.ag (by omega)).mono (fun e w' ⟨⟨a', e1, e2⟩, e3⟩ => ⟨_, e1, ⟨a', rfl, e2⟩, e3⟩))) (fun _ _ _ => trivial) ?_ Zam
  rintro _ u3 ⟨⟨a3, rfl, hc3⟩, hb3⟩
  have hz3 := hWW.size
  replace hs1 := hs1.go hb3
  replace hs2 := hs2.go hb3
  replace hL := hL.go hb3
  replace hWW := hWW.go hb3
  have hp3 := Cut.skb hc3
  refine dt 4 14 (.agg #[.slice a3 (2 * n1) (2 * n1), .slice a2 n2 c2]) (fun v hv => (fun _ => by kernel_rfl)) trivial <| Zaf [0, 5] (by kernel_rfl) (by simp) ?_
  refine ar_v 0 10 v rfl (fun _ => by kernel_rfl) (fun _ => Zah 55 _ ⟨gL, 0, none⟩ _ _ rfl (by kernel_rfl) (by rw [cell_of_row _ _ _ _ _ _ hL]; rfl) Tryz.underlying55 rfl) trivial ?_ ?_
  ·skip
   refine Zaf [5] (by kernel_rfl) (by simp) ?_
   refine Zbz 5 15 #[.slice a3 (2 * n1) (2 * n1), .slice a2 n2 c2] 95 1 rfl (fun _ => by kernel_rfl) (fun _ => by kernel_rfl) (fun _ _ _ => trivial) ?_ Zam
   intro W1 gN hnN
   have hOw := hO0.far hWW
   have hSw := hS0.go hWW (fun k hk => (hO0.own k hk).2)
   have hP1 := PAt.oneE (K := fun b => w7.heap.size <= b /\ v.ownBlock ≠ some b) hnN ((hp3.nsl hSw).mono (fun b hb => ⟨by have := hb.1.1; omega, hb.2⟩)) ((hs2.nsl hSw).mono (fun b hb => ⟨by have := hb.1; omega, hb.2⟩)) ⟨by rw [hnN.hg]; have := hWW.size; omega, fun e => by have := (hOw.own gN e).2; have := hnN.hg; omega⟩
   have hO1 := hOw.far hnN.below
   have hS1 := hSw.go hnN.below (fun k hk => (hOw.own k hk).2)
   replace hs1 := hs1.go hnN.below
   replace hs2 := hs2.go hnN.below
   replace hL := hL.go hnN.below
   replace hWW := hWW.go hnN.below
   refine Zaf [6] (by kernel_rfl) (by simp) ?_
   obtain ⟨v2, W2, hr2, hO2, hS2, hb2_, hk2, hv2⟩ := Zyw hO1 hS1 hP1 (fun b hb => ⟨hb.2, by have := hb.1; omega⟩) (by omega) (by have := hWW.size; omega)
   refine ar_v 6 16 v2 rfl (fun _ => by kernel_rfl) (fun _ => Zec hr2 _ _ rfl (by kernel_rfl) (by kernel_rfl)) trivial ?_ Zam
   have hLo : v.ownBlock ≠ some gL := fun e => by have := (hO0.own gL e).1; omega
   have hL2 : Rw gL W2 #[v] 55 := (hk2 gL (lt_of_get hL) hLo).trans hL
   refine Zaf [7] (by kernel_rfl) (by simp) ?_
   refine Zb5 7 gL 0 v2 rfl (fun _ => by kernel_rfl) (fun _ => Zbo 55 _ _ gL 0 _ 55 _ hL2 rfl (by kernel_rfl) (by kernel_rfl) (by show 0 < 1; omega) hO2.cel hO2.one (by kernel_rfl)) (fun _ _ => trivial) ?_ Zam
   intro W3 hs3
   refine Zas (by kernel_rfl) <| Za0 ?_
   have hz3 : W3.heap.size = W2.heap.size := hs3.size
   have hz2 : W1.heap.size <= W2.heap.size := Below.size hb2_
   have hz1 : W.heap.size <= W1.heap.size := hWW.size
   have hkk : ∀ (k : Nat) (cs : Array Value) (T : TypeId) (fr : Nat × Nat), k ≠ gL -> Pr cs -> W.heap[k]? = some (Obj.cells cs T fr) -> W3.heap[k]? = some (Obj.cells cs T fr) := fun k cs T fr hk hP hh => ((hs3.other hk).trans ((hk2 k (Nat.lt_of_lt_of_le (lt_of_get hh) hz1) (fun e => Znb (hS0 k cs T fr e hh) hP)).trans (Below.block hWW k (lt_of_get hh)))).trans hh
   have hko : ∀ (k : Nat) (o : Obj), k ≠ gL -> v.ownBlock ≠ some k -> W.heap[k]? = some o -> W3.heap[k]? = some o := fun k o hk he hh => ((hs3.other hk).trans ((hk2 k (Nat.lt_of_lt_of_le (lt_of_get hh) hz1) he).trans (Below.block hWW k (lt_of_get hh)))).trans hh
   have hnc : ∀ (k : Nat) (o : Obj), W.heap[k]? = some o -> o.isCells = false -> v.ownBlock ≠ some k := fun k o hh hc e => by obtain ⟨cs, hcs⟩ := hO0.row k e; rw [hcs] at hh; cases hh; cases hc
   have hL3 : Rw gL W3 #[v2] 55 := hL2.set hs3 rfl
   have hne2 : ∀ k, v2.ownBlock = some k -> k ≠ gL := fun k hk e => by have := (hO2.own k hk).1; omega
   have hO3 : OwnE (fun b => b ≠ gL) W3 w7.heap.size v2 (pre.map nbE ++ [(Ni.nib k, x)]) := hO2.tou hs3.touch (by omega)
   have hS3 : SlB W3 v2 := fun k cur T fr hk hh => hS2 k cur T fr hk ((hs3.other (hne2 k hk)).symm.trans hh)
   refine Zqv ⟨by omega, fun q o hq ho hc => hko q o (by omega) (hnc q o ho hc) ho⟩ ⟨by omega, fun q cs T fr _ hU hP hh => hkk q cs T fr hU hP hh⟩ ⟨?_, ⟨v2, hL3, by rw [List.map_append]; exact hO3, hS3⟩, fun q cs T fr hq hh => ?_, by omega⟩
   ·refine Below.trans hB ⟨?_, ?_, ?_, by omega, fun q hq => ?_⟩
    ·rw [hs3.touch.os, Below.os hb2_, Below.os hWW]
    ·rw [hs3.touch.tape, Below.tape hb2_, Below.tape hWW]
    ·rw [hs3.touch.output, Below.output hb2_, Below.output hWW]
    ·exact (hs3.other (by omega)).trans ((Below.block hb2_ q (by omega)).trans (Below.block hWW q (by have := Below.size hB; omega)))
   ·exact hko q _ hq (fun e => by have := (hO0.own q e).1; have := lt_of_get hh; omega) (hkp q cs T fr hq hh)
  refine Zbz 5 15 #[.slice a3 (2 * n1) (2 * n1), .slice a2 n2 c2] 95 1 rfl (fun _ => by kernel_rfl) (fun _ => by kernel_rfl) (fun _ _ _ => trivial) ?_ Zam
  intro W1 gN hnN
  have hOw := hO0.far hWW
  have hSw := hS0.go hWW (fun k hk => (hO0.own k hk).2)
  have hP1 := PAt.oneE (K := fun b => w7.heap.size <= b /\ v.ownBlock ≠ some b) hnN ((hp3.nsl hSw).mono (fun b hb => ⟨by have := hb.1.1; omega, hb.2⟩)) ((hs2.nsl hSw).mono (fun b hb => ⟨by have := hb.1; omega, hb.2⟩)) ⟨by rw [hnN.hg]; have := hWW.size; omega, fun e => by have := (hOw.own gN e).2; have := hnN.hg; omega⟩
  have hO1 := hOw.far hnN.below
  have hS1 := hSw.go hnN.below (fun k hk => (hOw.own k hk).2)
  replace hs1 := hs1.go hnN.below
  replace hs2 := hs2.go hnN.below
  replace hL := hL.go hnN.below
  replace hWW := hWW.go hnN.below
  refine Zaf [0] (by kernel_rfl) (by simp) ?_
  refine ar_v 0 10 v rfl (fun _ => by kernel_rfl) (fun _ => Zah 55 _ ⟨gL, 0, none⟩ _ _ rfl (by kernel_rfl) (by rw [cell_of_row _ _ _ _ _ _ hL]; rfl) Tryz.underlying55 rfl) trivial ?_ Zam
  refine Zaf [6] (by kernel_rfl) (by simp) ?_
  obtain ⟨v2, W2, hr2, hO2, hS2, hb2_, hk2, hv2⟩ := Zyw hO1 hS1 hP1 (fun b hb => ⟨hb.2, by have := hb.1; omega⟩) (by omega) (by have := hWW.size; omega)
  refine ar_v 6 16 v2 rfl (fun _ => by kernel_rfl) (fun _ => Zec hr2 _ _ rfl (by kernel_rfl) (by kernel_rfl)) trivial ?_ Zam
  have hLo : v.ownBlock ≠ some gL := fun e => by have := (hO0.own gL e).1; omega
  have hL2 : Rw gL W2 #[v] 55 := (hk2 gL (lt_of_get hL) hLo).trans hL
  refine Zaf [7] (by kernel_rfl) (by simp) ?_
  refine Zb5 7 gL 0 v2 rfl (fun _ => by kernel_rfl) (fun _ => Zbo 55 _ _ gL 0 _ 55 _ hL2 rfl (by kernel_rfl) (by kernel_rfl) (by show 0 < 1; omega) hO2.cel hO2.one (by kernel_rfl)) (fun _ _ => trivial) ?_ Zam
  intro W3 hs3
  refine Zas (by kernel_rfl) <| Za0 ?_
  have hz3 : W3.heap.size = W2.heap.size := hs3.size
  have hz2 : W1.heap.size <= W2.heap.size := Below.size hb2_
  have hz1 : W.heap.size <= W1.heap.size := hWW.size
  have hkk : ∀ (k : Nat) (cs : Array Value) (T : TypeId) (fr : Nat × Nat), k ≠ gL -> Pr cs -> W.heap[k]? = some (Obj.cells cs T fr) -> W3.heap[k]? = some (Obj.cells cs T fr) := fun k cs T fr hk hP hh => ((hs3.other hk).trans ((hk2 k (Nat.lt_of_lt_of_le (lt_of_get hh) hz1) (fun e => Znb (hS0 k cs T fr e hh) hP)).trans (Below.block hWW k (lt_of_get hh)))).trans hh
  have hko : ∀ (k : Nat) (o : Obj), k ≠ gL -> v.ownBlock ≠ some k -> W.heap[k]? = some o -> W3.heap[k]? = some o := fun k o hk he hh => ((hs3.other hk).trans ((hk2 k (Nat.lt_of_lt_of_le (lt_of_get hh) hz1) he).trans (Below.block hWW k (lt_of_get hh)))).trans hh
  have hnc : ∀ (k : Nat) (o : Obj), W.heap[k]? = some o -> o.isCells = false -> v.ownBlock ≠ some k := fun k o hh hc e => by obtain ⟨cs, hcs⟩ := hO0.row k e; rw [hcs] at hh; cases hh; cases hc
  have hL3 : Rw gL W3 #[v2] 55 := hL2.set hs3 rfl
  have hne2 : ∀ k, v2.ownBlock = some k -> k ≠ gL := fun k hk e => by have := (hO2.own k hk).1; omega
  have hO3 : OwnE (fun b => b ≠ gL) W3 w7.heap.size v2 (pre.map nbE ++ [(Ni.nib k, x)]) := hO2.tou hs3.touch (by omega)
  have hS3 : SlB W3 v2 := fun k cur T fr hk hh => hS2 k cur T fr hk ((hs3.other (hne2 k hk)).symm.trans hh)
  refine Zqv ⟨by omega, fun q o hq ho hc => hko q o (by omega) (hnc q o ho hc) ho⟩ ⟨by omega, fun q cs T fr _ hU hP hh => hkk q cs T fr hU hP hh⟩ ⟨?_, ⟨v2, hL3, by rw [List.map_append]; exact hO3, hS3⟩, fun q cs T fr hq hh => ?_, by omega⟩
  ·refine Below.trans hB ⟨?_, ?_, ?_, by omega, fun q hq => ?_⟩
   ·rw [hs3.touch.os, Below.os hb2_, Below.os hWW]
   ·rw [hs3.touch.tape, Below.tape hb2_, Below.tape hWW]
   ·rw [hs3.touch.output, Below.output hb2_, Below.output hWW]
   ·exact (hs3.other (by omega)).trans ((Below.block hb2_ q (by omega)).trans (Below.block hWW q (by have := Below.size hB; omega)))
  ·exact hko q _ hq (fun e => by have := (hO0.own q e).1; have := lt_of_get hh; omega) (hkp q cs T fr hq hh)
 intro D W hD hIv hdd
 have hB7 := hB
 obtain ⟨hB, ⟨v, hL, hO, hS⟩, hkp, hsz⟩ := hIv
 obtain ⟨aV, cV, vsV, rfl, _⟩ := OwnE.pat hO
 rw [List.length_map] at hL
 refine Za0 <| Zab <| Zac <| Zaa <| rv 17 (.slice aV L.length cV) (fun _ => Zah 55 _ ⟨gL, 0, none⟩ _ _ rfl (by kernel_rfl) (by rw [cell_of_row _ _ _ _ _ _ hL]; rfl) Tryz.underlying55 rfl) <| rp 2 (.slice aV L.length cV) <| Zad <| Zab <| Zap ?_
 have hO' := hO.cells (w' := W.putObj D (.deferred none)) (by simp) (fun k cs T fr hh => (World.putObj_heap_other (fun e => by subst e; rw [hdd] at hh; cases hh)).trans hh)
 obtain ⟨a', c', vs', e', hPt⟩ := OwnE.pat hO'
 cases e'
 rw [List.length_map] at hPt
 exact Zku hdd (.slice aV L.length cV) (fun _ => by kernel_rfl) ⟨_, rfl, ⟨aV, cV, vs', rfl, hPt.mono (fun _ _ => trivial)⟩, Below.grown hB (grownBy_putObj' _ _ _) hB.size (fun k e => by cases e; exact Nat.le_trans hB7.size hD)⟩
end Go.Proofs.YtefhepcplempkaaGreat
