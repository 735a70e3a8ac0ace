/- The answers that the document fixes, by the general Prove and Verify of one leaf. -/
import Derived.Test.YtefhepcplempkaaGreatG32
import Derived.Test.YtefhepcplempkaaGreatG00
import Derived.ProofKit
import Derived.OpenShut
import Derived.ShutString
import Derived.ChangeOld
import Derived.SizedLaws
import Derived.Test.YtefhepcplempkaaGreatG18
set_option linter.unusedVariables false
set_option maxRecDepth 100000
namespace Go.Proofs.YtefhepcplempkaaGreat
open Go.RowKit
open Tr
open Di (dref)
theorem Zve : vaP ⟨1, [6, 1], [1], r0, []⟩ (Ni.nib [97]) = [1] := by simp [vaP, Ni.nib]
theorem Zvd : vaP ⟨1, [6, 1], [1], r0, []⟩ (Ni.nib [98]) = [] := by simp [vaP, Ni.nib]
set_option maxHeartbeats 4000000 in
theorem Zpj {w : World} :
  Calls Tryz.prog 9 #[] w fun e w' => ∃ u, e = .returned u /\ (fun u w' => u = .bool true /\ Bl w w') u w' := by
 have hB := Bl.refl w
 have hdl := dref_len [196, 130, 32, 97, 1]
 have hdb := Zjp [196, 130, 32, 97, 1]
 have hrt := Zpi
 obtain ⟨ds, hds⟩ : ∃ ds, dref [196, 130, 32, 97, 1] = ds := ⟨_, rfl⟩
 rw [hds] at hdl hdb hrt
 refine Zaj Tryz.func9 rfl 72 rfl ?_
 show CW _ _ _ _ _ _ _ [] _
 refine Zac <| Zaa <| rp 0 (.bool false) <| Zad <| Zab <| Zac <| Zaa <| Zao 10 23 #[] (fun _ => by kernel_rfl) (fun _ => by kernel_rfl) (R := fun u w' => (∃ g, u = .pointer (some ⟨g, 0, none⟩) /\ w.heap.size <= g /\ Tri (fun _ => True) w' g no) /\ Bl w w') (Zq2) ?_
 rintro _ u2 ⟨⟨g, rfl, hgT, hT⟩, hb2⟩
 replace hB := hB.go hb2
 refine rp 1 (.pointer (some ⟨g, 0, none⟩)) <| Zad <| Zab <| Zac <| Zac <| Zaa <| rp 11 (.pointer (some ⟨g, 0, none⟩)) <| rp 12 (.bool false) <| Zad <| Zab <| Zai (fun _ => by kernel_rfl) <| Zan ?_
 refine Zab <| Zac <| Zaa <| rp 13 (.pointer (some ⟨g, 0, none⟩)) <| Zbi 14 #[.int .u8 97] 5 1 (fun _ => by kernel_rfl) (fun _ => by kernel_rfl) ?_
 intro w1 g2 hn3
 obtain ⟨w4, hr5, hb6, hs7⟩ := Zjv (x := 97) (by omega) hn3 (K := fun b => True) (fun _ _ => trivial)
 refine rw_v 15 (.slice (some ⟨g2, 0, none⟩) 1 1) (fun _ => by kernel_rfl) (fun _ => hr5 _ _ _ rfl (by kernel_rfl)) ?_
 replace hB := hB.go hb6
 replace hT := hT.go hb6
 refine Zbi 16 #[.int .u8 1] 5 1 (fun _ => by kernel_rfl) (fun _ => by kernel_rfl) ?_
 intro w8 g9 hn10
 have hs11 : Sk (fun b => True) w8 (some ⟨g9, 0, none⟩) 1 1 [1] := Zqp (by omega) hn10 (fun _ _ => trivial)
 replace hB := hB.go hn10.below
 replace hT := hT.go hn10.below
 replace hs7 := hs7.go hn10.below
 refine Zao 17 24 #[.pointer (some ⟨g, 0, none⟩), .slice (some ⟨g2, 0, none⟩) 1 1, .slice (some ⟨g9, 0, none⟩) 1 1] (fun _ => by kernel_rfl) (fun _ => by kernel_rfl) (R := fun u w' => u = .int .i64 (putE [97] [1]) /\ Tri (fun _ => True) w' g (putT no [97] [1]) /\ Touch g (w8) w') ((Zmo hT hs7 hs11 (fun _ _ => trivial))) ?_
 rintro _ u5 ⟨rfl, hTn, hto⟩
 replace hB : Bl w u5 := hto.below hB hgT hB.size
 rw [Zir] at hTn
 replace hT := hTn
 refine Zad <| Zab <| Zac <| Zaa <| rp 19 (.pointer (some ⟨g, 0, none⟩)) <| Zbi 20 #[.int .u8 98] 5 1 (fun _ => by kernel_rfl) (fun _ => by kernel_rfl) ?_
 intro w12 g13 hn14
 obtain ⟨w15, hr16, hb17, hs18⟩ := Zjv (x := 98) (by omega) hn14 (K := fun b => True) (fun _ _ => trivial)
 refine rw_v 21 (.slice (some ⟨g13, 0, none⟩) 1 1) (fun _ => by kernel_rfl) (fun _ => hr16 _ _ _ rfl (by kernel_rfl)) ?_
 replace hB := hB.go hb17
 replace hT := hT.go hb17
 refine Zao 22 11 #[.pointer (some ⟨g, 0, none⟩), .slice (some ⟨g13, 0, none⟩) 1 1] (fun _ => by kernel_rfl) (fun _ => by kernel_rfl) (R := fun u w' => (∃ v base, u = .tuple #[v, .int .i64 0] /\ (w15).heap.size <= base /\ OwnS w' base v (prvP (leaf [6, 1] [1]) [98])) /\ Bl (w15) w') ((Zko hT alive_rel (by simp) hs18 (by omega) ((show _ \/ _ from alive_rel.ok).resolve_left (by simp)) (by obtain ⟨⟨v, _, h2⟩, _⟩ := hT; exact h2.vb) (by simp [wyN]))) ?_
 rintro _ u6 ⟨⟨vP, bP, rfl, _, hO⟩, hb6⟩
 replace hB := hB.go hb6
 replace hT := hT.go hb6
 replace hs18 := hs18.go hb6
 rw [Zs1] at hO
 obtain ⟨aP, cP, rfl, hP, hcP⟩ := hO.bt
 replace hP : Bt (fun _ => True) u6 aP 1 [[196, 130, 32, 97, 1]] := hP
 replace hcP : 1 <= cP := hcP
 refine rp 18 (.tuple #[.slice aP 1 cP, .int .i64 0]) <| rp 23 (.slice aP 1 cP) <| rp 24 (.int .i64 0) <| rp 2 (.slice aP 1 cP) <| rp 3 (.int .i64 0) <| Zad <| Zab <| Zac <| Zaa <| rp 26 (.pointer (some ⟨g, 0, none⟩)) <| Zao 27 14 #[.pointer (some ⟨g, 0, none⟩)] (fun _ => by kernel_rfl) (fun _ => by kernel_rfl) (R := fun u w' => u = .agg (B8 ds) /\ Bl (u6) w') (((Zmv hT (by simp [nmd])).mono (fun e w' ⟨u, e1, e2, e3⟩ => ⟨u, e1, by rw [e2, hrt], e3⟩))) ?_
 rintro _ u19 ⟨rfl, hb20⟩
 replace hB := hB.go hb20
 replace hT := hT.go hb20
 replace hs18 := hs18.go hb20
 replace hP := hP.go hb20
 refine Zbi 28 #[.int .u8 97] 5 1 (fun _ => by kernel_rfl) (fun _ => by kernel_rfl) ?_
 intro w21 g22 hn23
 obtain ⟨w24, hr25, hb26, hs27⟩ := Zjv (x := 97) (by omega) hn23 (K := fun b => True) (fun _ _ => trivial)
 refine rw_v 29 (.slice (some ⟨g22, 0, none⟩) 1 1) (fun _ => by kernel_rfl) (fun _ => hr25 _ _ _ rfl (by kernel_rfl)) ?_
 replace hB := hB.go hb26
 replace hT := hT.go hb26
 replace hs18 := hs18.go hb26
 replace hP := hP.go hb26
 refine rp 30 (.slice aP 1 cP) <| Zao 31 17 #[.agg (B8 ds), .slice (some ⟨g22, 0, none⟩) 1 1, .slice aP 1 cP] (fun _ => by kernel_rfl) (fun _ => by kernel_rfl) (R := fun u w' => (∃ a c, u = .tuple #[.slice a 1 c, .bool true, .int .i64 0] /\ Sk (fun _ => True) w' a 1 c [1]) /\ Bl (w24) w') ((by rw [<- hds]; exact (Zj6 hs27 (by omega) hP (by decide) Zn1 rfl).mono (fun e w' ⟨u, e1, ⟨a, n, c, e2, e3⟩, e4⟩ => by rw [Zve] at e3; have hl : (1 : Nat) = n := e3.len; subst hl; exact ⟨u, e1, ⟨a, c, e2, e3.mono (fun _ _ => trivial)⟩, e4⟩))) ?_
 rintro _ u28 ⟨⟨av30, cv31, rfl, hs32⟩, hb29⟩
 replace hB := hB.go hb29
 replace hT := hT.go hb29
 replace hs18 := hs18.go hb29
 replace hP := hP.go hb29
 replace hs27 := hs27.go hb29
 refine rp 25 (.tuple #[.slice av30 1 cv31, .bool true, .int .i64 0]) <| rp 32 (.slice av30 1 cv31) <| rp 33 (.bool true) <| rp 34 (.int .i64 0) <| rp 4 (.slice av30 1 cv31) <| rp 5 (.bool true) <| rp 6 (.int .i64 0) <| Zad <| Zab <| Zac <| Zaa <| rp 36 (.pointer (some ⟨g, 0, none⟩)) ?_
 refine Zao 37 14 #[.pointer (some ⟨g, 0, none⟩)] (fun _ => by kernel_rfl) (fun _ => by kernel_rfl) (R := fun u w' => u = .agg (B8 ds) /\ Bl (u28) w') (((Zmv hT (by simp [nmd])).mono (fun e w' ⟨u, e1, e2, e3⟩ => ⟨u, e1, by rw [e2, hrt], e3⟩))) ?_
 rintro _ u33 ⟨rfl, hb34⟩
 replace hB := hB.go hb34
 replace hT := hT.go hb34
 replace hs18 := hs18.go hb34
 replace hP := hP.go hb34
 replace hs27 := hs27.go hb34
 replace hs32 := hs32.go hb34
 refine Zbi 38 #[.int .u8 98] 5 1 (fun _ => by kernel_rfl) (fun _ => by kernel_rfl) ?_
 intro w35 g36 hn37
 obtain ⟨w38, hr39, hb40, hs41⟩ := Zjv (x := 98) (by omega) hn37 (K := fun b => True) (fun _ _ => trivial)
 refine rw_v 39 (.slice (some ⟨g36, 0, none⟩) 1 1) (fun _ => by kernel_rfl) (fun _ => hr39 _ _ _ rfl (by kernel_rfl)) ?_
 replace hB := hB.go hb40
 replace hT := hT.go hb40
 replace hs18 := hs18.go hb40
 replace hP := hP.go hb40
 replace hs27 := hs27.go hb40
 replace hs32 := hs32.go hb40
 refine rp 40 (.slice aP 1 cP) <| Zao 41 17 #[.agg (B8 ds), .slice (some ⟨g36, 0, none⟩) 1 1, .slice aP 1 cP] (fun _ => by kernel_rfl) (fun _ => by kernel_rfl) (R := fun u w' => (∃ a c, u = .tuple #[.slice a 0 c, .bool false, .int .i64 0] /\ Sk (fun _ => True) w' a 0 c []) /\ Bl (w38) w') ((by rw [<- hds]; exact (Zj6 hs41 (by omega) hP (by decide) Zn1 rfl).mono (fun e w' ⟨u, e1, ⟨a, n, c, e2, e3⟩, e4⟩ => by rw [Zvd] at e3; have hl : (0 : Nat) = n := e3.len; subst hl; exact ⟨u, e1, ⟨a, c, e2, e3.mono (fun _ _ => trivial)⟩, e4⟩))) ?_
 rintro _ u42 ⟨⟨av44, cv45, rfl, hs46⟩, hb43⟩
 replace hB := hB.go hb43
 replace hT := hT.go hb43
 replace hs18 := hs18.go hb43
 replace hP := hP.go hb43
 replace hs27 := hs27.go hb43
 replace hs32 := hs32.go hb43
 replace hs41 := hs41.go hb43
 refine rp 35 (.tuple #[.slice av44 0 cv45, .bool false, .int .i64 0]) <| rp 42 (.slice av44 0 cv45) <| rp 43 (.bool false) <| rp 44 (.int .i64 0) <| rp 7 (.slice av44 0 cv45) <| rp 8 (.bool false) <| rp 9 (.int .i64 0) <| Zad <| Zab <| Zac <| Zaa <| rp 45 (.int .i64 0) ?_
 refine rp 46 (.bool true) <| rp 47 (.bool true) <| rp 48 (.slice aP 1 cP) <| rp 49 (.int .i64 1) <| rp 50 (.bool true) <| rp 51 (.bool true) <| rp 52 (.bool true) <| rp 53 (.int .i64 0) <| rp 54 (.bool true) <| rp 55 (.bool true) <| rp 56 (.bool true) <| rp 57 (.bool true) ?_
 refine rp 58 (.bool true) <| rp 59 (.bool true) <| rp 60 (.slice av30 1 cv31) <| rv 61 (.string (strOfNums ([1]))) (fun _ => hs32.run_str _ _ _ rfl (by kernel_rfl)) <| rp 62 (.bool true) <| rp 63 (.bool true) <| rp 64 (.bool true) <| rp 65 (.int .i64 0) <| rp 66 (.bool true) <| rp 67 (.bool true) <| rp 68 (.bool true) <| rp 69 (.bool false) ?_
 refine rp 70 (.bool true) <| rp 71 (.bool true) <| rp 0 (.bool true) <| Zad <| Zab <| Zap ?_
 exact Zae (.bool true) (fun _ => by kernel_rfl) ⟨_, rfl, rfl, hB⟩
theorem wy_le : ∀ (t : Tr) {B : Nat}, Tr.Ok B t -> ∀ (p pre : List Int), Nb p -> (wyN (pre ++ p) t pre).length <= p.length := by
 intro t
 have h1 : ∀ (kp pre : List Int) (t : Tr), (wy1 kp pre t).length <= 1 := fun kp pre t => by unfold wy1; split <;> simp
 induction t with
 | no => intro B h; exact h.elim
 | leaf _ _ => intro B _ p pre _; simp [wyN]
 | ext q c ih =>
  intro B hO p pre hp
  by_cases e : p.take q.length = q
  ·obtain ⟨r, rfl⟩ : ∃ r, p = q ++ r := ⟨p.drop q.length, by have h9 := List.take_append_drop q.length p; rw [e] at h9; exact h9.symm⟩
   have h2 := ih hO.2.2.2.2 r (pre ++ q) (fun j hj => hp j (List.mem_append.2 (.inr hj)))
   have h3 := h1 (pre ++ q ++ r) (pre ++ q) c
   have h4 := List.length_pos_iff.2 hO.2.1
   rw [wyN, <- List.append_assoc, List.length_append, List.length_append]; omega
  ·have hoff : ¬ (pre ++ p).take (pre ++ q).length = pre ++ q := by rw [Zqq]; exact e
   rw [wyN, Zj2 _ hoff, Ziu hoff]; simp
 | br k x ih =>
  intro B hO p pre hp
  cases p with
  | nil => rw [List.append_nil, Zvi]; simp
  | cons i p =>
   have hi := hp i List.mem_cons_self
   obtain ⟨m, rfl⟩ : ∃ m : Nat, i = ((m : Nat) : Int) := ⟨i.toNat, by omega⟩
   rw [Zy4 pre p k x (by omega)]
   split
   ·simp
   ·rename_i hno
    obtain ⟨_, o2, o3⟩ := (hO.1 m).resolve_left (fun e => hno (by rw [e]; rfl))
    have h2 := ih m o3 p (pre ++ [((m : Nat) : Int)]) (fun j hj => hp j (List.mem_cons_of_mem _ hj))
    have h3 := h1 (pre ++ ((m : Nat) : Int) :: p) (pre ++ [((m : Nat) : Int)]) (k m)
    rw [show pre ++ [((m : Nat) : Int)] ++ p = pre ++ ((m : Nat) : Int) :: p from by simp] at h2
    rw [List.length_append, List.length_cons]; omega
theorem Zxi {t : Tr} (hO : t = no \/ Tr.Ok 64 t) {k : List Int} (hk : isB k) : (prvP t k).length <= 2 * k.length + 1 := by
 rcases hO with rfl | hO
 ·simp [prvP, Tr.isNo]
 ·have := wy_le t hO (Ni.nib k) [] (Zqz hk)
  rw [Ni.nib_len, List.nil_append] at this
  unfold prvP
  rw [if_neg (fun h => hO.ne (isNo_iff.1 h))]
  simp; omega
theorem Zzo {t : Tr} {L : PList} (h : Rel t L) : t = no ↔ L = [] := by
 constructor
 ·rintro rfl
  cases L with
  | nil => rfl
  | cons q L => exact absurd ((h.m q.1 q.2).1 (List.mem_cons_self)).2.2.2.symm ((h.m q.1 q.2).1 (List.mem_cons_self)).2.2.1
 ·rintro rfl
  exact (h.one (.inl rfl) (fun q _ hq => absurd rfl hq) (fun k x hk => by cases hk)).symm
theorem Zxh {t : Tr} {L : PList} (h : Rel t L) (k : List Int) : (prvP t k).length = 0 ↔ L.length = 0 := by
 rw [List.length_eq_zero_iff (l := L), <- Zzo h]
 unfold prvP
 by_cases hn : t.isNo = true
 ·rw [if_pos hn]; exact ⟨fun _ => isNo_iff.1 hn, fun _ => rfl⟩
 ·rw [if_neg hn]; exact ⟨fun e => by simp at e, fun e => absurd (isNo_iff.2 e) hn⟩
theorem Zzt {t : Tr} {k : List Int} : ∀ b ∈ prvP t k, b ∈ nodesP t := fun b hb => by
 unfold prvP at hb
 unfold nodesP
 split
 ·rename_i h; rw [if_pos h] at hb; cases hb
 ·rename_i h
  rw [if_neg h, List.mem_reverse, List.mem_append] at hb
  rw [(Zej (nmd t ++ [encT t]) [] (by simp [SrtB])).2]
  refine .inr (List.mem_append.2 ?_)
  exact hb.imp (Zy2 _ _ _ b) id
set_option maxHeartbeats 8000000 in
theorem Zob {K K1 : Nat -> Prop} (a : Option Addr) (n c : Nat) (vs : List (Value × Value)) (l : PList) (ak : Option Addr) (nk ck : Nat) (k : List Int) (w : World) (hl : PAt K w a n c vs l) (hn : n <= 2932031007317) (hk : Sk K1 w ak nk ck k) :
  Calls Tryz.prog 7 #[.slice a n c, .slice ak nk ck] w fun e w' => e = .returned (.bool true) /\ Bl w w' := by
 have hB := Bl.refl w
 have lk := hk.len
 have hkB : isB k := hk.ag.b
 refine Zaj Tryz.func7 rfl 77 rfl ?_
 show CW _ _ _ _ _ _ _ [(0, .slice a n c), (1, .slice ak nk ck)] _
 refine Zac <| Zaa <| rp 4 (.bool false) <| Zad <| Zab <| Zac <| Zac <| Zaa <| Zao 13 9 #[] (fun _ => by kernel_rfl) (fun _ => by kernel_rfl) (R := fun u w' => u = .bool true /\ Bl w w') (Zpj) ?_
 rintro _ u1 ⟨rfl, hb1⟩
 replace hB := hB.go hb1
 replace hl := hl.go hb1
 replace hk := hk.go hb1
 refine rp 14 (.bool false) <| Zad <| Zab <| Zai (fun _ => by kernel_rfl) <| Zan <| Zab <| Zac <| Zaa <| rp 16 (.slice a n c) <| Zao 17 10 #[.slice a n c] (fun _ => by kernel_rfl) (fun _ => by kernel_rfl) (R := StR u1 n) (Zn9 hl (by omega)) ?_
 rintro _ u2 ⟨⟨g, aS, mS, cS, vsS, t, L, rfl, hgT, hT, hP, hRel, hLn, hsz⟩, hb2⟩
 replace hB := hB.go hb2
 replace hl := hl.go hb2
 replace hk := hk.go hb2
 have hMn : (nmd t).length + 1 <= 8800000000000 := by have := Zz0 t; omega
 have hmS := hP.ll
 have hOk := hRel.ok
 have hVb : Vb t := by obtain ⟨⟨v, _, h2⟩, _⟩ := hT; exact h2.vb
 have hpl := Zxi hOk hkB
 have hpn := Zxh hRel k
 clear hP
 refine rp 15 (.tuple #[.pointer (some ⟨g, 0, none⟩), .slice aS mS cS]) <| rp 18 (.pointer (some ⟨g, 0, none⟩)) <| rp 19 (.slice aS mS cS) <| rp 5 (.pointer (some ⟨g, 0, none⟩)) <| rp 6 (.slice aS mS cS) <| Zad <| Zab <| Zac ?_
 by_cases hk32 : nk <= 32
 ·skip
  refine Zaa <| rp 21 (.pointer (some ⟨g, 0, none⟩)) <| rp 22 (.slice ak nk ck) <| Zao 23 11 #[.pointer (some ⟨g, 0, none⟩), .slice ak nk ck] (fun _ => by kernel_rfl) (fun _ => by kernel_rfl) (R := fun u w' => (∃ v base, u = .tuple #[v, .int .i64 0] /\ (u2).heap.size <= base /\ OwnS w' base v (prvP t k)) /\ Bl (u2) w') (Zqj hT hRel (by omega) hk hk32) ?_
  rintro _ u3 ⟨⟨vP, bP, rfl, hbP, hO⟩, hb3⟩
  replace hB := hB.go hb3
  replace hk := hk.go hb3
  replace hT := hT.go hb3
  obtain ⟨aP, cP, rfl, hBt, hcP⟩ := hO.bt
  clear hO
  refine rp 20 (.tuple #[.slice aP (prvP t k).length cP, .int .i64 0]) <| rp 24 (.slice aP (prvP t k).length cP) <| rp 25 (.int .i64 0) <| rp 7 (.slice aP (prvP t k).length cP) <| rp 8 (.int .i64 0) <| Zad <| Zab <| Zac <| Zac <| Zaa <| rp 26 (.int .i64 0) <| rp 27 (.bool false) ?_
  refine Zad <| Zab <| Zai (fun _ => by kernel_rfl) <| Zan <| Zab <| Zac <| Zac <| Zaa <| rp 31 (.slice aP (prvP t k).length cP) <| rp 32 (.int .i64 ((prvP t k).length)) <| rp 33 (.slice ak nk ck) <| rp 34 (.int .i64 nk) ?_
  refine rv 35 (.int .i64 ((2 : Int) * nk)) (fun _ => Zag (v := .int .i64 (IntKind.i64.wrap ((2 : Int) * nk))) (by kernel_rfl) (congrArg (Value.int .i64) (Zbc (by omega) (by omega)))) <| rv 36 (.int .i64 (((2 : Int) * nk : Int) + 1)) (fun _ => Zag (v := .int .i64 (IntKind.i64.wrap (((2 : Int) * nk : Int) + 1))) (by kernel_rfl) (congrArg (Value.int .i64) (Zbc (by omega) (by omega)))) <| rv 37 (.bool false) (fun _ => Zag (v := .bool (decide (((prvP t k).length : Int) > (((2 : Int) * nk : Int) + 1 : Int)))) (by kernel_rfl) (congrArg Value.bool (decide_eq_false (by omega)))) <| rp 38 (.bool false) <| rp 39 (.slice aP (prvP t k).length cP) <| rp 40 (.int .i64 ((prvP t k).length)) <| rv 41 (.bool (decide (mS = 0))) (fun _ => Zag (v := .bool (((prvP t k).length : Int) == (0 : Int))) (by kernel_rfl) (congrArg Value.bool (by rw [Bool.eq_iff_iff]; simp only [beq_iff_eq, decide_eq_true_eq]; omega))) <| rp 42 (.slice aS mS cS) <| rp 43 (.int .i64 mS) <| rv 44 (.bool (decide (mS = 0))) (fun _ => Zag (v := .bool ((mS : Int) == (0 : Int))) (by kernel_rfl) (congrArg Value.bool (by rw [Bool.eq_iff_iff]; simp only [beq_iff_eq, decide_eq_true_eq]; omega))) <| rv 45 (.bool false) (fun _ => by generalize decide (mS = 0) = b; cases b <;> kernel_rfl) <| rp 46 (.bool false) ?_
  refine Zad <| Zab <| Zai (fun _ => by kernel_rfl) <| Zan <| Zab <| Zac <| Zaa <| rp 47 (.pointer (some ⟨g, 0, none⟩)) <| Zao 48 20 #[.pointer (some ⟨g, 0, none⟩)] (fun _ => by kernel_rfl) (fun _ => by kernel_rfl) (R := RNo (u3) t) (Zqx hT hMn) ?_
  rintro _ u6 ⟨⟨aN, nN, cN, rfl, hN, _, hNz⟩, hb6⟩
  replace hB := hB.go hb6
  replace hk := hk.go hb6
  replace hT := hT.go hb6
  replace hBt := hBt.go hb6
  have hNl := hN.len
  have hpl0 := hBt.len
  refine rp 9 (.slice aN nN cN) <| Zad <| Zab <| Zac <| Zac <| Zaa <| rp 49 (.slice aP (prvP t k).length cP) <| rp 50 (.int .i64 ((prvP t k).length)) <| rp 51 (.int .i64 0) <| Zad <| Zab <| Zar ?_
  have hB0 := hB
  have hU : Bl u6 u6 := Below.refl _ _
  refine Zby (X := Nat) (fun q => [(51, .int .i64 ((q : Nat) : Int)), (50, .int .i64 (prvP t k).length), (7, .slice aP (prvP t k).length cP), (9, .slice aN nN cN)]) (fun q v => Bl u6 v /\ q <= (prvP t k).length) (fun q => (prvP t k).length - q) 0 (by exact ⟨fun _ => by kernel_rfl, ⟨fun _ => by kernel_rfl, ⟨fun _ => by kernel_rfl, ⟨fun _ => by kernel_rfl, trivial⟩⟩⟩⟩) ⟨hU, Nat.zero_le _⟩ ?_
  clear hB hU
  rintro i v ⟨hU, hi⟩
  have hB : Bl w v := hB0.go hU
  show CW _ _ _ _ _ _ _ [(51, .int .i64 ((i : Nat) : Int)), (50, .int .i64 (prvP t k).length), (7, .slice aP (prvP t k).length cP), (9, .slice aN nN cN)] _
  by_cases hin : i < (prvP t k).length
  ·skip
   obtain ⟨g1, o1, a1, n1, c1, e1, hc1, hs1⟩ := hBt.row i hin
   subst e1
   obtain ⟨x, ex⟩ : ∃ x, (prvP t k).getD i [] = x := ⟨_, rfl⟩
   rw [ex] at hs1
   obtain ⟨q0, hq0, eq0⟩ : ∃ q0, q0 < nN /\ (nodesP t).getD q0 [] = x := by
    have hm : x ∈ nodesP t := Zzt x (by rw [<- ex, List.getD, List.getElem?_eq_getElem hin]; exact List.getElem_mem _)
    obtain ⟨q0, h1, h2⟩ := List.getElem_of_mem hm
    exact ⟨q0, by omega, by rw [List.getD, List.getElem?_eq_getElem h1]; exact h2⟩
   obtain ⟨g2, o2, _, _, _, e2, _, _⟩ := hN.row q0 hq0
   subst e2
   refine Zac <| Zaa <| rv 52 (.bool true) (fun _ => Zag (v := .bool (decide (((i : Nat) : Int) < ((prvP t k).length : Int)))) (by kernel_rfl) (congrArg Value.bool (decide_eq_true (by omega)))) <| Zad <| Zab <| Zac <| Zak (fun _ => by kernel_rfl) <| Zan <| Zab <| Zac <| Zar <| Zac ?_
   refine Zaa <| rp 53 (.int .i64 ((i : Nat) : Int)) <| rp 10 (.int .i64 ((i : Nat) : Int)) <| Zad <| Zab <| Zac <| Zaa <| rp 11 (.bool false) <| Zad <| Zab <| Zac <| Zac ?_
   refine Zaa <| rp 54 (.slice (some ⟨g2, o2, none⟩) nN cN) <| rp 55 (.int .i64 nN) <| rp 56 (.int .i64 0) <| Zad <| Zab <| Zar ?_
   refine Zby (X := Nat × Bool) (fun q => [(56, .int .i64 ((q.1 : Nat) : Int)), (55, .int .i64 nN), (11, .bool q.2), (10, .int .i64 ((i : Nat) : Int)), (51, .int .i64 ((i : Nat) : Int)), (50, .int .i64 (prvP t k).length), (7, .slice (some ⟨g1, o1, none⟩) (prvP t k).length cP), (9, .slice (some ⟨g2, o2, none⟩) nN cN)]) (fun q v => Bl u6 v /\ q.1 <= nN /\ (q0 < q.1 -> q.2 = true)) (fun q => nN - q.1) (0, false) (by exact ⟨fun _ => by kernel_rfl, ⟨fun _ => by kernel_rfl, ⟨fun _ => by kernel_rfl, ⟨fun _ => by kernel_rfl, ⟨fun _ => by kernel_rfl, ⟨fun _ => by kernel_rfl, ⟨fun _ => by kernel_rfl, ⟨fun _ => by kernel_rfl, trivial⟩⟩⟩⟩⟩⟩⟩⟩) ⟨hU, Nat.zero_le _, fun h => absurd h (Nat.not_lt_zero _)⟩ ?_
   clear hB hU
   rintro ⟨q, bb⟩ v2 ⟨hU, hqn, hbb⟩
   simp only at hU hqn hbb
   have hB : Bl w v2 := hB0.go hU
   show CW _ _ _ _ _ _ _ [(56, .int .i64 ((q : Nat) : Int)), (55, .int .i64 nN), (11, .bool bb), (10, .int .i64 ((i : Nat) : Int)), (51, .int .i64 ((i : Nat) : Int)), (50, .int .i64 (prvP t k).length), (7, .slice (some ⟨g1, o1, none⟩) (prvP t k).length cP), (9, .slice (some ⟨g2, o2, none⟩) nN cN)] _
   by_cases hq : q < nN
   ·skip
    obtain ⟨g3, o3, a2, n2, c2, e2, hc2, hs2⟩ := hN.row q hq
    cases e2
    obtain ⟨y, ey⟩ : ∃ y, (nodesP t).getD q [] = y := ⟨_, rfl⟩
    rw [ey] at hs2
    cases bb with
    | true =>
     refine Zac <| Zaa <| rv 57 (.bool true) (fun _ => Zag (v := .bool (decide (((q : Nat) : Int) < (nN : Int)))) (by kernel_rfl) (congrArg Value.bool (decide_eq_true (by omega)))) <| Zad <| Zab <| Zac <| Zak (fun _ => by kernel_rfl) <| Zan <| Zab <| Zac <| Zar <| Zac ?_
     refine Zaa <| rp 58 (.int .i64 ((q : Nat) : Int)) <| rp 12 (.int .i64 ((q : Nat) : Int)) <| Zad <| Zab <| Zaz (fun v => Bl u6 v) (by kernel_rfl) (hU.drew) ?_
     replace hB := hB.drew
     replace hU := hU.drew
     refine dt 0 59 (.bool true) (fun v hv _ => by kernel_rfl) hU <| dt 1 60 (.bool true) (fun v hv _ => by kernel_rfl) hU <| df 2 61 hU <| df 3 62 hU <| df 4 63 hU <| df 5 64 hU <| df 6 65 hU <| df 7 66 hU <| df 8 67 hU <| df 9 68 hU <| df 10 69 hU <| df 11 70 hU ?_
     refine df 12 71 hU <| dt 13 72 (.bool true) (fun v hv _ => by kernel_rfl) hU <| dt 14 11 (.bool true) (fun v hv _ => by kernel_rfl) hU <| Zas (by kernel_rfl) <| Za0 <| Zab <| Zaa <| rv 73 (.int .i64 (((q : Nat) : Int) + 1)) (fun _ => Zag (v := .int .i64 (IntKind.i64.wrap (((q : Nat) : Int) + 1))) (by kernel_rfl) (congrArg (Value.int .i64) (Zbc (by omega) (by omega)))) <| rp 56 (.int .i64 (((q : Nat) : Int) + 1)) <| Zad ?_
     exact Za8 (E := fun q => [(56, .int .i64 ((q.1 : Nat) : Int)), (55, .int .i64 nN), (11, .bool q.2), (10, .int .i64 ((i : Nat) : Int)), (51, .int .i64 ((i : Nat) : Int)), (50, .int .i64 (prvP t k).length), (7, .slice (some ⟨g1, o1, none⟩) (prvP t k).length cP), (9, .slice (some ⟨g2, o2, none⟩) nN cN)]) (R := fun q v => Bl u6 v /\ q.1 <= nN /\ (q0 < q.1 -> q.2 = true)) (μ := fun q => nN - q.1) (x := (q, true)) (q + 1, true) (by exact ⟨fun _ => by kernel_rfl, ⟨fun _ => by kernel_rfl, ⟨fun _ => by kernel_rfl, ⟨fun _ => by kernel_rfl, ⟨fun _ => by kernel_rfl, ⟨fun _ => by kernel_rfl, ⟨fun _ => by kernel_rfl, ⟨fun _ => by kernel_rfl, trivial⟩⟩⟩⟩⟩⟩⟩⟩) ⟨hU, by show q + 1 <= nN; omega, fun h => rfl⟩ (by show nN - (q + 1) < nN - q; omega)
    | false =>
     refine Zac <| Zaa <| rv 57 (.bool true) (fun _ => Zag (v := .bool (decide (((q : Nat) : Int) < (nN : Int)))) (by kernel_rfl) (congrArg Value.bool (decide_eq_true (by omega)))) <| Zad <| Zab <| Zac <| Zak (fun _ => by kernel_rfl) <| Zan <| Zab <| Zac <| Zar <| Zac ?_
     refine Zaa <| rp 58 (.int .i64 ((q : Nat) : Int)) <| rp 12 (.int .i64 ((q : Nat) : Int)) <| Zad <| Zab <| Zaz (fun v => Bl u6 v) (by kernel_rfl) (hU.drew) ?_
     replace hB := hB.drew
     replace hU := hU.drew
     refine dt 0 59 (.bool false) (fun v hv _ => by kernel_rfl) hU <| dt 1 60 (.bool false) (fun v hv _ => by kernel_rfl) hU <| dt 2 61 (.slice (some ⟨g2, o2, none⟩) nN cN) (fun v hv _ => by kernel_rfl) hU <| dt 3 62 (.int .i64 ((q : Nat) : Int)) (fun v hv _ => by kernel_rfl) hU <| dt 4 63 (.pointer (some ⟨g2, o2 + q * 1, none⟩)) (fun v hv _ => Zau 28 _ _ g2 o2 q nN cN 1 23 rfl (by kernel_rfl) (by kernel_rfl) (by omega) Tryz.underlying28 (by kernel_rfl)) hU <| dt 5 64 (.slice a2 n2 c2) (fun v hv _ => Zah 23 _ _ _ _ rfl (by kernel_rfl) ((Below.cell hv (block_lt_of_cell hc2)).trans hc2) Tryz.underlying23 rfl) hU <| dt 6 65 (.string (strOfNums y)) (fun v hv _ => (hs2.go hv).run_str _ _ _ rfl (by kernel_rfl)) hU <| dt 7 66 (.slice (some ⟨g1, o1, none⟩) (prvP t k).length cP) (fun v hv _ => by kernel_rfl) hU <| dt 8 67 (.int .i64 ((i : Nat) : Int)) (fun v hv _ => by kernel_rfl) hU <| dt 9 68 (.pointer (some ⟨g1, o1 + i * 1, none⟩)) (fun v hv _ => Zau 28 _ _ g1 o1 i (prvP t k).length cP 1 23 rfl (by kernel_rfl) (by kernel_rfl) (by omega) Tryz.underlying28 (by kernel_rfl)) hU <| dt 10 69 (.slice a1 n1 c1) (fun v hv _ => Zah 23 _ _ _ _ rfl (by kernel_rfl) ((Below.cell hv (block_lt_of_cell hc1)).trans hc1) Tryz.underlying23 rfl) hU <| dt 11 70 (.string (strOfNums x)) (fun v hv _ => (hs1.go hv).run_str _ _ _ rfl (by kernel_rfl)) hU ?_
     refine dt 12 71 (.bool (decide (y = x))) (fun v hv _ => Zqs 9 _ _ _ (strOfNums y) (strOfNums x) rfl (by kernel_rfl) (by kernel_rfl) (Zlr hs2.ag.b hs1.ag.b)) hU <| dt 13 72 (.bool (decide (y = x))) (fun v hv _ => by kernel_rfl) hU <| dt 14 11 (.bool (decide (y = x))) (fun v hv _ => by kernel_rfl) hU <| Zas (by kernel_rfl) <| Za0 <| Zab <| Zaa <| rv 73 (.int .i64 (((q : Nat) : Int) + 1)) (fun _ => Zag (v := .int .i64 (IntKind.i64.wrap (((q : Nat) : Int) + 1))) (by kernel_rfl) (congrArg (Value.int .i64) (Zbc (by omega) (by omega)))) <| rp 56 (.int .i64 (((q : Nat) : Int) + 1)) <| Zad ?_
     exact Za8 (E := fun q => [(56, .int .i64 ((q.1 : Nat) : Int)), (55, .int .i64 nN), (11, .bool q.2), (10, .int .i64 ((i : Nat) : Int)), (51, .int .i64 ((i : Nat) : Int)), (50, .int .i64 (prvP t k).length), (7, .slice (some ⟨g1, o1, none⟩) (prvP t k).length cP), (9, .slice (some ⟨g2, o2, none⟩) nN cN)]) (R := fun q v => Bl u6 v /\ q.1 <= nN /\ (q0 < q.1 -> q.2 = true)) (μ := fun q => nN - q.1) (x := (q, false)) (q + 1, (decide (y = x))) (by exact ⟨fun _ => by kernel_rfl, ⟨fun _ => by kernel_rfl, ⟨fun _ => by kernel_rfl, ⟨fun _ => by kernel_rfl, ⟨fun _ => by kernel_rfl, ⟨fun _ => by kernel_rfl, ⟨fun _ => by kernel_rfl, ⟨fun _ => by kernel_rfl, trivial⟩⟩⟩⟩⟩⟩⟩⟩) ⟨hU, by show q + 1 <= nN; omega, fun h => by
        rcases Nat.lt_or_ge q0 q with h2 | h2
        ·have := hbb h2; cases this
        ·obtain rfl : q0 = q := by have : q0 < q + 1 := h; omega
         exact decide_eq_true (ey.symm.trans eq0)⟩ (by show nN - (q + 1) < nN - q; omega)
   obtain rfl : bb = true := hbb (by omega)
   show CW _ _ _ _ _ _ _ [(56, .int .i64 ((q : Nat) : Int)), (55, .int .i64 nN), (11, .bool true), (10, .int .i64 ((i : Nat) : Int)), (51, .int .i64 ((i : Nat) : Int)), (50, .int .i64 (prvP t k).length), (7, .slice (some ⟨g1, o1, none⟩) (prvP t k).length cP), (9, .slice (some ⟨g2, o2, none⟩) nN cN)] _
   refine Zac <| Zaa <| rv 57 (.bool false) (fun _ => Zag (v := .bool (decide (((q : Nat) : Int) < (nN : Int)))) (by kernel_rfl) (congrArg Value.bool (decide_eq_false (by omega)))) <| Zad <| Zab <| Zac <| Zai (fun _ => by kernel_rfl) <| Zbl <| Zal <| Zal <| Zay <| Zab ?_
   refine Zac <| Zaa <| rp 74 (.bool true) <| rp 75 (.bool false) <| Zad <| Zab <| Zai (fun _ => by kernel_rfl) <| Zan <| Za0 <| Zab <| Zaa <| rv 76 (.int .i64 (((i : Nat) : Int) + 1)) (fun _ => Zag (v := .int .i64 (IntKind.i64.wrap (((i : Nat) : Int) + 1))) (by kernel_rfl) (congrArg (Value.int .i64) (Zbc (by omega) (by omega)))) ?_
   refine rp 51 (.int .i64 (((i : Nat) : Int) + 1)) <| Zad ?_
   exact Za8 (E := fun q => [(51, .int .i64 ((q : Nat) : Int)), (50, .int .i64 (prvP t k).length), (7, .slice (some ⟨g1, o1, none⟩) (prvP t k).length cP), (9, .slice (some ⟨g2, o2, none⟩) nN cN)]) (R := fun q v => Bl u6 v /\ q <= (prvP t k).length) (μ := fun q => (prvP t k).length - q) (x := i) (i + 1) (by exact ⟨fun _ => by kernel_rfl, ⟨fun _ => by kernel_rfl, ⟨fun _ => by kernel_rfl, ⟨fun _ => by kernel_rfl, trivial⟩⟩⟩⟩) ⟨hU, by show i + 1 <= (prvP t k).length; omega⟩ (by show (prvP t k).length - (i + 1) < (prvP t k).length - i; omega)
  refine Zac <| Zaa <| rv 52 (.bool false) (fun _ => Zag (v := .bool (decide (((i : Nat) : Int) < ((prvP t k).length : Int)))) (by kernel_rfl) (congrArg Value.bool (decide_eq_false (by omega)))) <| Zad <| Zab <| Zac <| Zai (fun _ => by kernel_rfl) <| Zbl <| Zal <| Zal <| Zay <| Zab ?_
  refine Zac <| Zaa <| rp 4 (.bool true) <| Zad <| Zab <| Zap ?_
  exact Zae (.bool true) (fun _ => by kernel_rfl) ⟨rfl, hB⟩
 ·skip
  refine Zaa <| rp 21 (.pointer (some ⟨g, 0, none⟩)) <| rp 22 (.slice ak nk ck) <| Zao 23 11 #[.pointer (some ⟨g, 0, none⟩), .slice ak nk ck] (fun _ => by kernel_rfl) (fun _ => by kernel_rfl) (R := fun u w' => u = .tuple #[.slice none 0 0, .int .i64 70] /\ Bl (u2) w') (Zoi hT hRel (by omega) hk (by omega)) ?_
  rintro _ u3 ⟨rfl, hb3⟩
  replace hB := hB.go hb3
  replace hk := hk.go hb3
  replace hT := hT.go hb3
  refine rp 20 (.tuple #[.slice none 0 0, .int .i64 70]) <| rp 24 (.slice none 0 0) <| rp 25 (.int .i64 70) <| rp 7 (.slice none 0 0) <| rp 8 (.int .i64 70) <| Zad <| Zab <| Zac <| Zac <| Zaa <| rp 26 (.int .i64 70) <| rp 27 (.bool true) ?_
  refine Zad <| Zab <| Zak (fun _ => by kernel_rfl) <| Zac <| Zaa <| rp 28 (.slice ak nk ck) <| rp 29 (.int .i64 nk) <| rv 30 (.bool true) (fun _ => Zag (v := .bool (decide ((nk : Int) > (32 : Int)))) (by kernel_rfl) (congrArg Value.bool (decide_eq_true (by omega)))) <| rp 4 (.bool true) <| Zad <| Zab <| Zap ?_
  refine Zaq ?_
  exact Zae (.bool true) (fun _ => by kernel_rfl) ⟨rfl, hB⟩
end Go.Proofs.YtefhepcplempkaaGreat
namespace Go.Proofs.YtefhepcplempkaaGreat
open Go.ChangeShapes Go.WideShapes Go.ChangeAt Go.RowKit
open Go.ChangeMaps (open_string shut_string)
theorem own : ownKnob Tryz.prog.godebug = none := by kernel_rfl
theorem Zri : laidOutB Tryz.prog = true := by kernel_rfl
theorem Zwf : Tryz.prog.cellsOf 5 = 1 := by kernel_rfl
theorem Zwg : Tryz.prog.bytesOf 5 = 1 := by kernel_rfl
theorem Zop {H : Type} {enc : TypeId × Value -> H} {w : World} {base b0 : Nat} {r : Reach} {held : Bool} {v : Value} {d : DataW H} {p : List MemPlace}
  (hv : Value.okWide Tryz.prog w r b0 23 v) (h : DataW.Trod enc Tryz.prog w base (fun _ => true) held 23 v d p)
  (hsz : ∀ elems spare, d = .slice elems spare -> (elems.length + spare.length) * Tryz.prog.bytesOf 5 <= reachBytes) :
  ∃ a len cap bs, v = .slice a len cap /\ In0 w a len cap bs /\ (a = none -> len = 0 /\ cap = 0) /\ bs.length = len /\ (∀ x ∈ bs, 0 <= x /\ x < 256) /\ len <= 140737488351232 := by
 obtain ⟨a, len, cap, rfl⟩ := okWide_slice Tryz.underlying23 hv
 obtain ⟨fuel, hf⟩ := h
 rcases open_ints Tryz.underlying23 Tryz.underlying5 Zwf hf with ⟨hcs, _⟩ | ⟨x, l, c, zs, hcs, _, hl, hm, hz, hx, hcell, hwz⟩
 ·simp [Value.cells] at hcs
  obtain ⟨rfl, rfl, rfl⟩ := hcs
  exact ⟨none, 0, 0, [], rfl, .inl ⟨rfl, rfl⟩, fun _ => ⟨rfl, rfl⟩, rfl, (fun x hx => by cases hx), by omega⟩
 ·simp [Value.cells] at hcs
  obtain ⟨rfl, rfl, rfl⟩ := hcs
  have hz2 : zs.length = cap := by simpa using hz
  have hsz2 := hsz _ _ (Prod.mk.inj hx).1
  rw [Zwg] at hsz2
  simp only [lits, List.length_map, List.length_take, List.length_drop, reachBytes] at hsz2
  have hlen : (zs.take len).length = len := by rw [List.length_take]; omega
  have hbd : ∀ n ∈ zs.take len, 0 <= n /\ n < 256 := fun n hn => by
   have := bounds_u8 (hwz n (List.mem_of_mem_take hn))
   omega
  refine ⟨some x, len, cap, zs.take len, rfl, ?_, (fun h => by cases h), hlen, hbd, by omega⟩
  by_cases h0 : len = 0
  ·subst h0
   exact .inl ⟨rfl, by simp⟩
  ·obtain ⟨b, off, spot⟩ := x
   have hc := hcell 0 (by omega)
   have hspot : spot = none := by simpa [Addr.add] using World.cell?_spot hc
   subst hspot
   refine .inr ⟨b, off, rfl, hlen, by omega, hl, hm, fun j hj => ?_⟩
   rw [hlen] at hj
   have := hcell j (by omega)
   rw [Za1] at this
   rw [this, List.getD, List.getD, List.getElem?_take_of_lt hj]
theorem Zxo {H : Type} {enc : TypeId × Value -> H} {w : World} {base b0 : Nat} {r : Reach} {held : Bool} {v : Value} {d : DataW H} {p : List MemPlace}
  (hv : Value.okWide Tryz.prog w r b0 23 v) (h : DataW.Trod enc Tryz.prog w base (fun _ => true) held 23 v d p)
  (hsz : ∀ elems spare, d = .slice elems spare -> (elems.length + spare.length) * Tryz.prog.bytesOf 5 <= reachBytes) :
  ∃ a len cap bs, v = .slice a len cap /\ Ag w a len cap bs /\ len <= 140737488351232 := by
 obtain ⟨a, len, cap, bs, h1, h2, h3, h4, h5, h6⟩ := Zop hv h hsz
 exact ⟨a, len, cap, bs, h1, ⟨h2, h3, h4, h5⟩, h6⟩
end Go.Proofs.YtefhepcplempkaaGreat
namespace Go.Proofs.YtefhepcplempkaaGreat
open Go.ChangeShapes Go.WideShapes Go.ChangeAt Go.RowKit
theorem Zsi : Tryz.prog.cellsOf 51 = 2 := by kernel_rfl
theorem Zwe : Tryz.prog.cellsOf 23 = 1 := by kernel_rfl
theorem Zyr : Tryz.prog.bytesOf 51 = 48 := by kernel_rfl
structure Pax where
 ka : Option Addr
 kn : Nat
 kc : Nat
 va : Option Addr
 vn : Nat
 vc : Nat
 k : List Int
 x : List Int
def Pax.pv (y : Pax) : Value × Value := (.slice y.ka y.kn y.kc, .slice y.va y.vn y.vc)
section
variable {H : Type} {enc : TypeId × Value → H} {w : World} {held : Bool}
theorem Zm9 {fuel : Nat} {cs : List Value} {x : DataW H × List MemPlace} (hf : DataW.trod enc Tryz.prog w 0 (fun _ => true) held fuel 23 cs = some x)
  (hsz : ∀ n ∈ x.1.weights Tryz.prog 23, n <= reachBytes) : ∃ a len cap bs, cs = [.slice a len cap] /\ Ag w a len cap bs /\ len <= 140737488351232 := by
 rcases open_ints Tryz.underlying23 Tryz.underlying5 Zwf hf with ⟨hcs, _⟩ | ⟨p, len, cap, zs, hcs, _, hl, hm, hz, hx, hcell, hwz⟩
 ·exact ⟨none, 0, 0, [], hcs, ⟨.inl ⟨rfl, rfl⟩, fun _ => ⟨rfl, rfl⟩, rfl, fun x hx => by cases hx⟩, by omega⟩
 ·have hz2 : zs.length = cap := by simpa using hz
  have hsz2 := hsz ((zs.take len).length + (zs.drop len).length) (by
   rw [hx]
   simp only [DataW.weights, Tryz.underlying23, lits, List.length_map, Zwg, Nat.mul_one]
   exact List.mem_cons_self ..)
  simp only [List.length_take, List.length_drop, reachBytes] at hsz2
  have hlen : (zs.take len).length = len := by rw [List.length_take]; omega
  have hbd : ∀ n ∈ zs.take len, 0 <= n /\ n < 256 := fun n hn => by
   have := bounds_u8 (hwz n (List.mem_of_mem_take hn))
   omega
  refine ⟨some p, len, cap, zs.take len, hcs, ⟨?_, (fun h => by cases h), hlen, hbd⟩, by omega⟩
  by_cases h0 : len = 0
  ·subst h0
   exact .inl ⟨rfl, by simp⟩
  ·obtain ⟨b, off, spot⟩ := p
   have hc := hcell 0 (by omega)
   have hspot : spot = none := by simpa [Addr.add] using World.cell?_spot hc
   subst hspot
   refine .inr ⟨b, off, rfl, hlen, by omega, hl, hm, fun j hj => ?_⟩
   rw [hlen] at hj
   have := hcell j (by omega)
   rw [Za1] at this
   rw [this, List.getD, List.getD, List.getElem?_take_of_lt hj]
theorem Zgs {e : TypeId} : ∀ {ds : List (DataW H)} {d : DataW H}, d ∈ ds -> ∀ n ∈ d.weights Tryz.prog e, n ∈ DataW.weightsAll Tryz.prog e ds
 | [], d, h, _, _ => by cases h
 | d0 :: r, d, h, n, hn => by
  rw [DataW.weightsAll, List.mem_append]
  rcases List.mem_cons.1 h with rfl | h
  ·exact .inl hn
  ·exact .inr (Zgs h n hn)
theorem Zw4 {cs : List Value} (h : cs.length = 2) : cs = (cs.drop 0).take 1 ++ (cs.drop 1).take 1 := by
 match cs, h with
 | [a, b], _ => rfl
theorem Zoo {fuel : Nat} {cs : List Value} {x : DataW H × List MemPlace} (hf : DataW.trod enc Tryz.prog w 0 (fun _ => true) held fuel 51 cs = some x)
  (hsz : ∀ n ∈ x.1.weights Tryz.prog 51, n <= reachBytes) : ∃ y : Pax, cs = [y.pv.1, y.pv.2] /\ Ag w y.ka y.kn y.kc y.k /\ Ag w y.va y.vn y.vc y.x := by
 obtain ⟨xs, n, hfu, hx, hcl, hxl, hel⟩ := DataW.trod_struct Tryz.underlying51 hf
 rw [Zsi] at hcl
 have e1 := hel 0 _ rfl
 have e2 := hel 1 _ rfl
 have hxl3 : xs.length = 2 := hxl
 obtain ⟨x1, x2, rfl⟩ : ∃ x1 x2, xs = [x1, x2] := by
  match xs, hxl3 with
  | [a, b], _ => exact ⟨a, b, rfl⟩
 subst hx
 have f1 : DataW.trod enc Tryz.prog w 0 (fun _ => true) held n 23 ((cs.drop 0).take (Tryz.prog.cellsOf 23)) = some x1 := e1
 have f2 : DataW.trod enc Tryz.prog w 0 (fun _ => true) held n 23 ((cs.drop 1).take (Tryz.prog.cellsOf 23)) = some x2 := e2
 rw [Zwe] at f1
 rw [Zwe] at f2
 obtain ⟨a1, m1, c1, b1, hb1, hag1, hl1⟩ := Zm9 f1 (fun k hk => hsz k (by
  show k ∈ (DataW.agg [x1.1, x2.1]).weights Tryz.prog 51
  simp only [DataW.weights, Tryz.underlying51]
  simp only [List.map, DataW.weightsEach, List.mem_append]
  exact .inl hk))
 obtain ⟨a2, m2, c2, b2, hb2, hag2, hl2⟩ := Zm9 f2 (fun k hk => hsz k (by
  show k ∈ (DataW.agg [x1.1, x2.1]).weights Tryz.prog 51
  simp only [DataW.weights, Tryz.underlying51]
  simp only [List.map, DataW.weightsEach, List.mem_append]
  exact .inr (.inl hk)))
 refine ⟨⟨a1, m1, c1, a2, m2, c2, b1, b2⟩, ?_, hag1, hag2⟩
 rw [Zw4 (cs := cs) hcl, hb1, hb2]
 rfl
theorem Zly {fuel : Nat} {cs : List Value} {x : DataW H × List MemPlace} (hf : DataW.trod enc Tryz.prog w 0 (fun _ => true) held fuel 22 cs = some x)
  (hsz : ∀ n ∈ x.1.weights Tryz.prog 22, n <= reachBytes) : ∃ a m c vs l, cs = [.slice a m c] /\ PAt (fun _ => True) w a m c vs l /\ m <= 2932031007317 := by
 rcases DataW.trod_slice Tryz.underlying22 hf with ⟨hcs, _⟩ | ⟨p, len, cap, elems, rest, n, hfu, hcs, hx, _, hl, hm, hlen, hel, _, _⟩
 ·exact ⟨none, 0, 0, [], [], hcs, PAt.empty _ _, by omega⟩
 ·subst hx
  have hw : (DataW.slice (elems.map (·.1)) (rest.map (·.1))).weights Tryz.prog 22 = ((elems.map (·.1)).length + (rest.map (·.1)).length) * Tryz.prog.bytesOf 51 :: (DataW.weightsAll Tryz.prog 51 (elems.map (·.1)) ++ DataW.weightsAll Tryz.prog 51 (rest.map (·.1))) := by
   simp only [DataW.weights, Tryz.underlying22]
  have hszw : ∀ n ∈ (DataW.slice (elems.map (·.1)) (rest.map (·.1))).weights Tryz.prog 22, n <= reachBytes := hsz
  rw [hw] at hszw
  clear hsz
  have hsz1 := hszw _ (List.mem_cons_self ..)
  rw [Zyr, List.length_map, List.length_map, hlen] at hsz1
  unfold reachBytes at hsz1
  have hthing : ∀ i, i < len -> ∃ y : Pax, (∀ k, k < 2 -> w.cell? ((p.add (i * 2)).add k) = [y.pv.1, y.pv.2][k]?) /\ Ag w y.ka y.kn y.kc y.k /\ Ag w y.va y.vn y.vc y.x := by
   intro i hi
   have he := hel i hi
   rw [Zsi, List.getElem?_eq_getElem (by omega), Option.bind_eq_some_iff] at he
   obtain ⟨cs', hc1, hc2⟩ := he
   obtain ⟨_, hc3, hc4⟩ := World.cells?_some hc1
   obtain ⟨y, hcs', hr⟩ := Zoo hc2 (fun k hk => hszw k (List.mem_cons_of_mem _ (List.mem_append_left _ (Zgs (List.mem_map_of_mem (List.getElem_mem _)) k hk))))
   refine ⟨y, ?_, hr⟩
   rw [hcs'] at hc4
   exact hc4
  have hspot : 0 < len -> p.spot = none := by
   intro h
   obtain ⟨y, hc, hr⟩ := hthing 0 h
   have c0 := hc 0 (by omega)
   rw [show [y.pv.1, y.pv.2][0]? = some y.pv.1 from rfl] at c0
   simpa [Addr.add] using World.cell?_spot c0
  have hall : ∀ d k, k + d = len -> ∃ ks : List Pax, ks.length = d /\ (∀ j u, (flatP (ks.map Pax.pv))[j]? = some u -> ∃ g off, (some p : Option Addr) = some ⟨g, off, none⟩ /\ w.cell? ⟨g, off + k * 2 + j, none⟩ = some u) /\ ∀ y ∈ ks, Ag w y.ka y.kn y.kc y.k /\ Ag w y.va y.vn y.vc y.x := by
   intro d
   induction d with
   | zero => intro k _; exact ⟨[], rfl, (fun j r hr => by simp [flatP] at hr), fun x hx => by cases hx⟩
   | succ d ihd =>
    intro k hk
    obtain ⟨ks, h1, h2, h3⟩ := ihd (k + 1) (by omega)
    obtain ⟨y, hc, hr⟩ := hthing k (by omega)
    refine ⟨y :: ks, by rw [List.length_cons, h1], fun j u hu => ?_, fun x hx => ?_⟩
    ·obtain ⟨g, off, spot⟩ := p
     have hsp : spot = none := hspot (by omega)
     subst hsp
     refine ⟨g, off, rfl, ?_⟩
     have hu2 : ([y.pv.1, y.pv.2] ++ flatP (ks.map Pax.pv))[j]? = some u := hu
     match j, hu2 with
     | 0, hu2 =>
      have := hc 0 (by omega)
      rw [Za1, Za1] at this
      exact this.trans hu2
     | 1, hu2 =>
      have := hc 1 (by omega)
      rw [Za1, Za1] at this
      exact this.trans hu2
     | j + 2, hu2 =>
      obtain ⟨g', off', e, h4⟩ := h2 j u (by simpa using hu2)
      cases e
      rw [show off + k * 2 + (j + 2) = off + (k + 1) * 2 + j from by omega]
      exact h4
    ·rcases List.mem_cons.1 hx with rfl | hx
     ·exact hr
     ·exact h3 x hx
  obtain ⟨ks, h1, h2, h3⟩ := hall len 0 (by omega)
  refine ⟨some p, len, cap, ks.map Pax.pv, ks.map (fun y => (y.k, y.x)), hcs, ⟨by rw [List.length_map, h1], by rw [List.length_map, h1], hl, (fun e => by cases e), fun j u hu => ?_, fun j q e hq he => ?_, fun _ _ _ => trivial⟩, by omega⟩
  ·obtain ⟨g, off, e, h4⟩ := h2 j u hu
   exact ⟨g, off, e, by rw [show off + j = off + 0 * 2 + j from by omega]; exact h4⟩
  ·rw [List.getElem?_map] at hq he
   obtain ⟨y, hy, rfl⟩ := Option.map_eq_some_iff.1 hq
   rw [hy] at he
   cases he
   have hm := h3 y (List.mem_of_getElem? hy)
   exact ⟨_, _, _, _, _, _, rfl, rfl, ⟨hm.1, fun _ _ _ => trivial⟩, ⟨hm.2, fun _ _ _ => trivial⟩⟩
end
theorem Zon {H : Type} {enc : TypeId × Value -> H} {w : World} {b0 : Nat} {r : Reach} {held : Bool} {v : Value} {d : DataW H} {p : List MemPlace}
  (hv : Value.okWide Tryz.prog w r b0 22 v) (h : DataW.Trod enc Tryz.prog w 0 (fun _ => true) held 22 v d p)
  (hsz : ∀ n ∈ d.weights Tryz.prog 22, n <= reachBytes) : ∃ a m c vs l, v = .slice a m c /\ PAt (fun _ => True) w a m c vs l /\ m <= 2932031007317 := by
 obtain ⟨a, len, cap, rfl⟩ := okWide_slice Tryz.underlying22 hv
 obtain ⟨fuel, hf⟩ := h
 obtain ⟨a', m, c, vs, l, hcs, hx⟩ := Zly hf hsz
 simp [Value.cells] at hcs
 obtain ⟨rfl, rfl, rfl⟩ := hcs
 exact ⟨_, _, _, vs, l, rfl, hx⟩
theorem Zto {H : Type} {ts : List TypeId} {ds : List (DataW H)} (h : (DataW.weightsEach Tryz.prog ts ds).all (· <= reachBytes) = true) {j : Nat} {t : TypeId} {d : DataW H} (ht : ts[j]? = some t) (hd : ds[j]? = some d) : ∀ n ∈ d.weights Tryz.prog t, n <= reachBytes := by
 intro n hn
 have := List.all_eq_true.1 h n (DataW.weights_mem_each ht hd n hn)
 simpa using this
end Go.Proofs.YtefhepcplempkaaGreat
