/- What a writer writes: any tree. -/
import Derived.Test.YtefhepcplempkaaGreatG32
import Derived.Test.YtefhepcplempkaaGreatG00
import Derived.Test.YtefhepcplempkaaGreatG29
set_option linter.unusedVariables false
set_option maxRecDepth 100000
namespace Go.Proofs.YtefhepcplempkaaGreat
open Go.RowKit
open Tr
theorem Zre (x : Value) : Iv "pergola/trie.node" (.iface 131 x) 179 x := Zf7 fun w vs => by kernel_rfl
theorem Zrf (x : Value) : Iv "pergola/trie.node" (.iface 226 x) 197 x := Zf7 fun w vs => by kernel_rfl
theorem Zrg (x : Value) : Iv "pergola/trie.node" (.iface 221 x) 190 x := Zf7 fun w vs => by kernel_rfl
def NDS (t : Tr) : Prop := ∀ {v : World} {gW base : Nat} {vM : Value} {Y Z : Nat -> Prop} {ns : List (List Int)} {val : Value}, TA (KW gW vM Z) v t val -> Wt v gW base vM Y ns -> (∀ b, v.heap.size <= b -> Y b) -> (ns ++ nmd t).length + 1 <= 8800000000000 -> MC "pergola/trie.node" val #[.pointer (some ⟨gW, 0, none⟩)] v (RNd v gW base vM Y ns t)
theorem Zl1 {t : Tr} (hne : t ≠ no) (h : NDS t) {v : World} {gW base : Nat} {vM : Value} {Y Z : Nat -> Prop} {ns : List (List Int)} {val : Value} (ht : TA (KW gW vM Z) v t val) (hW : Wt v gW base vM Y ns) (hY : ∀ b, v.heap.size <= b -> Y b) (hM : (ns ++ nmd t).length + 1 <= 8800000000000) :
  Calls Tryz.prog 40 #[.pointer (some ⟨gW, 0, none⟩), val] v fun e w' => ∃ u, e = .returned u /\ REn v gW base vM Y ns t u w' := by
 have hm := h ht hW hY hM
 obtain ⟨T0, v0, rfl⟩ := ht.iface hne
 exact Zo2 hne hm
theorem Zvj {t : Tr} (hne : t ≠ no) (h : NDS t) : RFS t := by
 intro v gW base vM Y Z ns val ht hW hY hM
 have hE : ∀ v', Bl v v' -> ∀ Y' : Nat -> Prop, Wt v' gW base vM Y' ns -> (∀ b, v'.heap.size <= b -> Y' b) -> Calls Tryz.prog 40 #[.pointer (some ⟨gW, 0, none⟩), val] v' fun e w' => ∃ u, e = .returned u /\ REn v' gW base vM Y' ns t u w' :=
  fun v' hb Y' hW' hY' => Zl1 hne h (ht.go hb) hW' hY' hM
 obtain ⟨T0, v0, rfl⟩ := ht.iface hne
 by_cases hs : (encT t).length < 32
 ·exact Zj4 hW hY hE hM hs
 ·exact Zlk hW hY hE hM hs
theorem Zqy (t : Tr) : ∀ {B : Nat}, Tr.Ok B t -> B <= 64 -> NDS t := by
 induction t with
 | no => intro B hO; exact hO.elim
 | leaf p x =>
  intro B hO h64 v gW base vM Y Z ns val ht hW hY hM
  obtain ⟨a1, n1, c1, a2, n2, c2, rfl, h1, h2, h3⟩ := ht
  exact ⟨_, _, _, rfl, Zre _, Zq8 hW h1 h2 (by have := h1.len; have := hO.2.1; omega) h3⟩
 | ext p t ih =>
  intro B hO h64 v gW base vM Y Z ns val ht hW hY hM
  obtain ⟨a1, n1, c1, u, rfl, h1, h2⟩ := ht
  obtain ⟨o1, o2, o3, o4, o5⟩ := hO
  have hne : t ≠ no := fun e => by rw [e] at o4; simp [isBr] at o4
  have hR : RFS t := Zvj hne (ih o5 (by omega))
  have hM' : (ns ++ nmd t).length + 1 <= 8800000000000 := by
   simp only [nmd, List.length_append] at hM ⊢
   omega
  obtain ⟨Tu, xu, rfl⟩ := h2.iface hne
  exact ⟨_, _, _, rfl, Zrf _, Zrx hW h1 (by have := h1.len; omega) hY (fun v' hb Y' hW' hY' => hR (h2.go hb) hW' hY' hM')⟩
 | br k x ih =>
  intro B hO h64 v gW base vM Y Z ns val ht hW hY hM
  obtain ⟨vs, a1, n1, c1, rfl, h1, h2, h3⟩ := ht
  refine ⟨_, _, _, rfl, Zrg _, Zsk hW h1 h2 h3 hY (fun i hi => ?_) hM⟩
  rcases hO.1 i with h | ⟨_, _, h⟩
  ·exact .inl h
  ·exact .inr (Zvj h.ne (ih i h (by omega)))
end Go.Proofs.YtefhepcplempkaaGreat
namespace Go.Proofs.YtefhepcplempkaaGreat
open Go.RowKit
open Tr
open Di (dref)
def rootP (t : Tr) : List Int := if t.isNo then dref [128] else dref (encT t)
theorem Wg.below {w v u : World} {gW : Nat} {vN vM : Value} (h : Wg v u gW vN vM) (hb : Bl w v) (hg : w.heap.size <= gW) (hv : vN.ownBlock = none) : Bl w u :=
 Below.trans hb ⟨h.os, h.tape, h.output, h.size, fun k hk => h.block k (Nat.lt_of_lt_of_le hk hb.size) (by omega) (by rw [hv]; simp)⟩
theorem Wt.new {w w' : World} {gW : Nat} (h : New w w' gW #[.slice none 0 0] 80) : Wt w' gW gW (.slice none 0 0) (fun _ => True) [] := ⟨h.row, ⟨[], ⟨rfl, .inl ⟨rfl, rfl⟩⟩, rfl, fun j v hj => by simp at hj⟩, Nat.le_refl _⟩
set_option maxHeartbeats 4000000 in
theorem Zth {K : Nat -> Prop} {w : World} {g : Nat} {t : Tr} {T0 : TypeId} {v0 : Value} (hr : Rw g w #[.iface T0 v0] 76) (ht : TA K w t (.iface T0 v0)) (hO : Tr.Ok 64 t) (hne : t ≠ no) (hM : (nmd t).length + 1 <= 8800000000000) :
  Calls Tryz.prog 14 #[.pointer (some ⟨g, 0, none⟩)] w fun e w' => ∃ u, e = .returned u /\ (fun u w' => u = .agg (B8 (dref (encT t))) /\ Bl w w') u w' := by
 have hB := Bl.refl w
 have hdl := dref_len (encT t)
 obtain ⟨ds, hds⟩ : ∃ ds, dref (encT t) = ds := ⟨_, rfl⟩
 rw [hds] at hdl ⊢
 replace ht := ht.old
 refine Zal Tryz.func14 rfl 16 rfl ?_
 show CW _ _ _ _ _ _ _ [(0, .pointer (some ⟨g, 0, none⟩))] _
 refine Zac <| Zaa <| Za3 2 (B8 z32) 35 (fun _ => by kernel_rfl) (fun _ => by kernel_rfl) ?_
 intro w1 g2 hn3
 replace hB := hB.go hn3.below
 replace hr := hr.go hn3.below
 replace ht := ht.go hn3.below
 have hr4 : Rw g2 w1 (B8 z32) 35 := hn3.row
 have hgd := hn3.hg
 refine Zad <| Zab <| Zac <| Zac <| Zaa <| rp 3 (.pointer (some ⟨g, 0, none⟩)) <| rp 4 (.pointer (some ⟨g, 0, none⟩)) <| rp 5 (.pointer (some ⟨g, 0, none⟩)) <| rv 6 (.iface T0 v0) (fun _ => Zai 74 _ ⟨g, 0, none⟩ _ _ rfl (by kernel_rfl) (by rw [cell_of_row _ _ _ _ _ _ hr]; rfl) Tryz.underlying74 rfl) <| rp 7 (.bool false) <| Zad <| Zab ?_
 refine Zaf (fun _ => by kernel_rfl) <| Zan <| Zab <| Zac <| Zaa <| Za3 9 #[.slice none 0 0] 80 (fun _ => by kernel_rfl) (fun _ => by kernel_rfl) ?_
 intro wW gW hnW
 have hzW := hB.size
 replace hB := hB.go hnW.below
 replace hr := hr.go hnW.below
 replace ht := ht.go hnW.below
 replace hr4 := hr4.go hnW.below
 have hgW := hnW.hg
 have hWt := Wt.new hnW
 refine rp 10 (.pointer (some ⟨g, 0, none⟩)) <| rp 11 (.pointer (some ⟨g, 0, none⟩)) <| rp 12 (.pointer (some ⟨g, 0, none⟩)) <| rv 13 (.iface T0 v0) (fun _ => Zai 74 _ ⟨g, 0, none⟩ _ _ rfl (by kernel_rfl) (by rw [cell_of_row _ _ _ _ _ _ hr]; rfl) Tryz.underlying74 rfl) <| Zap 14 40 #[.pointer (some ⟨gW, 0, none⟩), .iface T0 v0] (fun _ => by kernel_rfl) (fun _ => by kernel_rfl) (R := REn wW gW gW (.slice none 0 0) (fun _ => True) [] t) (Zl1 hne (Zqy t hO (by omega)) (ht.mono (K' := KW gW (.slice none 0 0) (fun _ => True)) (fun b hb => ⟨by omega, by simp [Value.ownBlock], trivial⟩)) hWt (fun _ _ => trivial) (by simpa using hM)) ?_
 rintro _ u1 ⟨a2, n2, c2, vM, rfl, hs2, hW1, hG, hen⟩
 replace hr4 := hr4.wg hG hWt (by decide) (by decide)
 replace hB := hG.below hB (by omega) rfl
 clear hr ht hWt
 have l2 := hs2.len
 refine Zap 15 39 #[.slice a2 n2 c2] (fun _ => by kernel_rfl) (fun _ => by kernel_rfl) (R := fun u w' => u = .agg (B8 ds) /\ Bl u1 w') ((Zjq a2 n2 c2 (encT t) u1 hs2.ag (by omega)).mono (fun e w' h => ⟨_, by rw [h.1, hds], rfl, h.2⟩)) ?_
 rintro _ u2 ⟨rfl, hb2⟩
 replace hr4 := hr4.go hb2
 replace hB := hB.go hb2
 refine Zbu g2 (B8 ds) (fun _ => by kernel_rfl) (fun _ => Za5 35 _ _ _ _ _ _ rfl (by kernel_rfl) (by kernel_rfl) hr4 (Zdw hdl) (Ziv hdl) (B8_one _)) ?_
 intro uE hpE
 replace hB : Bl w uE := hpE.below hB (by omega) hB.size
 have hrE : Rw g2 uE (B8 ds) 35 := hpE.row hr4
 refine Zad <| Zab <| Zam ?_
 exact Zae (.agg (B8 ds)) (fun _ => Zkg Tryz.results14 _ g2 ds hdl (by kernel_rfl) hrE) ⟨_, rfl, rfl, hB⟩
theorem Zi2 {K : Nat -> Prop} {w : World} {g : Nat} {t : Tr} (h : Tri K w g t) (hM : (nmd t).length + 1 <= 8800000000000) :
  Calls Tryz.prog 14 #[.pointer (some ⟨g, 0, none⟩)] w fun e w' => ∃ u, e = .returned u /\ u = .agg (B8 (rootP t)) /\ Bl w w' := by
 obtain ⟨⟨v, h1, h2⟩, h3⟩ := h
 rcases h3 with rfl | hO
 ·rw [show v = .nilIface from h2] at h1
  exact Zws h1
 ·have hne := hO.ne
  obtain ⟨T0, v0, rfl⟩ := h2.iface hne
  rw [show rootP t = dref (encT t) from by unfold rootP; rw [if_neg (fun e => hne (isNo_iff.1 e))]]
  exact Zth h1 h2 hO hne hM
end Go.Proofs.YtefhepcplempkaaGreat
namespace Go.Proofs.YtefhepcplempkaaGreat
namespace Tr
def sz : Tr -> Nat
 | no => 0
 | leaf _ _ => 1
 | ext _ c => sz c + 1
 | br k _ => ((List.range 16).map fun i => sz (k i)).sum + 1
theorem Zvd (k : Nat -> Tr) (i : Nat) (t : Tr) (m : Nat) (h : sz t <= sz (k i) + m) : ∀ n, ((List.range n).map fun j => sz (upd k i t j)).sum <= ((List.range n).map fun j => sz (k j)).sum + (if i < n then m else 0)
 | 0 => by simp
 | n + 1 => by
  have ih := Zvd k i t m h n
  rw [List.range_succ, List.map_append, List.map_append, List.sum_append, List.sum_append]
  simp only [List.map_cons, List.map_nil, List.sum_cons, List.sum_nil, Nat.add_zero]
  by_cases e : n = i
  ·subst e
   rw [Za8, if_pos (by omega)]
   rw [if_neg (by omega)] at ih
   omega
  ·rw [Za6 k t e]
   by_cases h2 : i < n
   ·rw [if_pos (by omega)]; rw [if_pos h2] at ih; omega
   ·rw [if_neg (by omega)]; rw [if_neg h2] at ih; omega
theorem Zlp (k : Nat -> Tr) (i : Nat) (t : Tr) (m : Nat) (x y : List Int) (h : sz t <= sz (k i) + m) : sz (br (upd k i t) x) <= sz (br k y) + m := by
 have := Zvd k i t m h 16
 simp only [sz]
 split at this <;> omega
theorem Zpt (p : List Int) (t : Tr) : sz (und p t) <= sz t + 1 := by
 cases t with
 | no => simp [und, sz]
 | leaf q v => simp [und, sz]
 | ext q c => simp [und, sz]
 | br k v =>
  simp only [und]
  split
  ·omega
  ·simp only [sz]; omega
theorem Zpu (k : Nat -> Tr) (x q v : List Int) : sz (add k x q v) <= sz (br k x) + 1 := by
 cases q with
 | nil => simp only [add, sz]; omega
 | cons i r => exact Zlp k i.toNat (leaf r v) 1 x x (by simp only [sz]; omega)
theorem Zwi (t : Tr) (q v : List Int) : sz (addT t q v) <= sz t + 1 := by
 cases t with
 | br k x => exact Zpu k x q v
 | no => simp [addT]
 | leaf p x => simp [addT]
 | ext p c => simp [addT]
theorem Zyt (x : List Int) : sz (br nk x) = 1 := by
 simp only [sz]
 have : ((List.range 16).map fun i => sz (nk i)) = (List.range 16).map fun _ => 0 := by simp [nk, sz]
 rw [this]; rfl
theorem Zys : ∀ (t : Tr) (q v : List Int), sz (put t q v) <= sz t + 3 := by
 intro t
 induction t with
 | no => intro q v; simp [put, sz]
 | leaf p x =>
  intro q v
  simp only [put]
  split
  ·simp [sz]
  ·have h1 := Zpt (q.take (Ni.com p q)) (addT (add nk [] (p.drop (Ni.com p q)) x) (q.drop (Ni.com p q)) v)
   have h2 := Zwi (add nk [] (p.drop (Ni.com p q)) x) (q.drop (Ni.com p q)) v
   have h3 := Zpu nk [] (p.drop (Ni.com p q)) x
   have h4 := Zyt []
   have h5 : sz (leaf p x) = 1 := rfl
   omega
 | ext p c ih =>
  intro q v
  simp only [put]
  split
  ·have := ih (q.drop p.length) v
   simp only [sz]; omega
  ·have h1 := Zpt (q.take (Ni.com p q)) (add (upd nk (p.getD (Ni.com p q) 0).toNat (und (p.drop (Ni.com p q + 1)) c)) [] (q.drop (Ni.com p q)) v)
   have h2 := Zpu (upd nk (p.getD (Ni.com p q) 0).toNat (und (p.drop (Ni.com p q + 1)) c)) [] (q.drop (Ni.com p q)) v
   have h3 := Zlp nk (p.getD (Ni.com p q) 0).toNat (und (p.drop (Ni.com p q + 1)) c) (sz c + 1) [] [] (by have := Zpt (p.drop (Ni.com p q + 1)) c; omega)
   have h4 := Zyt []
   have h5 : sz (ext p c) = sz c + 1 := rfl
   omega
 | br k x ih =>
  intro q v
  cases q with
  | nil => simp [put, sz]
  | cons i r => exact Zlp k i.toNat (put (k i.toNat) r v) 3 x x (ih i.toNat r v)
theorem Zvg (f g : Nat -> Nat) (h : ∀ i, f i <= g i) : ∀ l : List Nat, (l.map f).sum <= (l.map g).sum
 | [] => Nat.le_refl _
 | a :: l => by simp only [List.map_cons, List.sum_cons]; have := h a; have := Zvg f g h l; omega
theorem Zqu (b : List Int) : (nm1 b).length <= 1 := by unfold nm1; split <;> simp
theorem Zw9 : ∀ t : Tr, (nmd t).length + (if t.isNo then 0 else 1) <= sz t := by
 intro t
 induction t with
 | no => simp [nmd, isNo, sz]
 | leaf p x => simp [nmd, isNo, sz]
 | ext p c ih =>
  simp only [nmd, isNo, sz, List.length_append, Bool.false_eq_true, if_false]
  have h1 := Zqu (encT c)
  by_cases hc : c.isNo = true
  ·rw [if_pos hc] at ih
   cases c with
   | no => simp [encT, nm1, nmd, sz]
   | leaf p x => simp [isNo] at hc
   | ext p x => simp [isNo] at hc
   | br p x => simp [isNo] at hc
  ·rw [if_neg hc] at ih; omega
 | br k x ih =>
  rw [show (br k x).isNo = false from rfl]
  simp only [nmd, sz, Bool.false_eq_true, if_false, List.length_flatMap]
  have := Zvg (fun i => (if (k i).isNo then [] else nmd (k i) ++ nm1 (encT (k i))).length) (fun i => sz (k i)) (fun i => by
   have h1 := Zqu (encT (k i))
   have h2 := ih i
   by_cases hc : (k i).isNo = true
   ·simp [hc]
   ·rw [if_neg hc] at h2
    simp only [hc, Bool.false_eq_true, if_false, List.length_append]
    omega) (List.range 16)
  omega
theorem Zvq (t : Tr) : (nmd t).length <= sz t := by have := Zw9 t; omega
end Tr
open Tr
theorem Zwg (t : Tr) (k x : List Int) : Tr.sz (putT t k x) <= Tr.sz t + 3 := by
 unfold putT
 split
 ·exact Zys _ _ _
 ·omega
end Go.Proofs.YtefhepcplempkaaGreat
namespace Go.Proofs.YtefhepcplempkaaGreat
open Go.RowKit
open Tr
open Di (dref)

theorem Zod (t : Tr) : (rootP t).length = 32 := by unfold rootP; split <;> exact dref_len _
theorem Zp5 (t : Tr) : isB (rootP t) := by unfold rootP; split <;> exact Ze6 _
theorem Zpc : putT no [97] [1] = leaf [6, 1] [1] := by simp [putT, put, Ni.nib]
theorem Zlh : encT (leaf [6, 1] [1]) = [196, 130, 32, 97, 1] := by kernel_rfl
theorem Zpd : rootP (leaf [6, 1] [1]) = dref [196, 130, 32, 97, 1] := by rw [<- Zlh]; rfl
theorem Zpe : entsF [] (leaf [6, 1] [1]) = [([97], [1])] := by kernel_rfl
theorem Zn2 : ND [196, 130, 32, 97, 1] = some ⟨1, [6, 1], [1], r0, []⟩ := by kernel_rfl
theorem Zu3 : vfP (dref [196, 130, 32, 97, 1]) [97] [[196, 130, 32, 97, 1]] = (0, [1]) := by
 simp [vfP, veP, opP, Zn2, foP, vaP, Ni.nib]
theorem Zu2 : vfP (dref [196, 130, 32, 97, 1]) [98] [[196, 130, 32, 97, 1]] = (0, []) := by
 simp [vfP, veP, opP, Zn2, foP, vaP, Ni.nib]
set_option maxHeartbeats 4000000 in
theorem Zsp {w : World} :
  Calls Tryz.prog 9 #[] w fun e w' => ∃ u, e = .returned u /\ (fun u w' => u = .bool true /\ Bl w w') u w' := by
 have hB := Bl.refl w
 have hdl := dref_len [196, 130, 32, 97, 1]
 have hdb := Ze6 [196, 130, 32, 97, 1]
 have hva := Zu3
 have hvb := Zu2
 have hrt := Zpd
 obtain ⟨ds, hds⟩ : ∃ ds, dref [196, 130, 32, 97, 1] = ds := ⟨_, rfl⟩
 rw [hds] at hdl hdb hva hvb hrt
 refine Zal Tryz.func9 rfl 72 rfl ?_
 show CW _ _ _ _ _ _ _ [] _
 refine Zac <| Zaa <| rp 0 (.bool false) <| Zad <| Zab <| Zac <| Zaa <| Zap 10 23 #[] (fun _ => by kernel_rfl) (fun _ => by kernel_rfl) (R := fun u w' => (∃ g, u = .pointer (some ⟨g, 0, none⟩) /\ w.heap.size <= g /\ Tri (fun _ => True) w' g no) /\ Bl w w') (Zqx) ?_
 rintro _ u2 ⟨⟨g, rfl, hgT, hT⟩, hb2⟩
 replace hB := hB.go hb2
 refine rp 1 (.pointer (some ⟨g, 0, none⟩)) <| Zad <| Zab <| Zac <| Zac <| Zaa <| rp 11 (.pointer (some ⟨g, 0, none⟩)) <| rp 12 (.bool false) <| Zad <| Zab <| Zaf (fun _ => by kernel_rfl) <| Zan ?_
 refine Zab <| Zac <| Zaa <| rp 13 (.pointer (some ⟨g, 0, none⟩)) <| Zbe 14 #[.int .u8 97] 5 1 (fun _ => by kernel_rfl) (fun _ => by kernel_rfl) ?_
 intro w1 g2 hn3
 obtain ⟨w4, hr5, hb6, hs7⟩ := Zjv (x := 97) (by omega) hn3 (K := fun b => True) (fun _ _ => trivial)
 refine rw_v 15 (.slice (some ⟨g2, 0, none⟩) 1 1) (fun _ => by kernel_rfl) (fun _ => hr5 _ _ _ rfl (by kernel_rfl)) ?_
 replace hB := hB.go hb6
 replace hT := hT.go hb6
 refine Zbe 16 #[.int .u8 1] 5 1 (fun _ => by kernel_rfl) (fun _ => by kernel_rfl) ?_
 intro w8 g9 hn10
 have hs11 : Sk (fun b => True) w8 (some ⟨g9, 0, none⟩) 1 1 [1] := Zm8 (by omega) hn10 (fun _ _ => trivial)
 replace hB := hB.go hn10.below
 replace hT := hT.go hn10.below
 replace hs7 := hs7.go hn10.below
 refine Zap 17 24 #[.pointer (some ⟨g, 0, none⟩), .slice (some ⟨g2, 0, none⟩) 1 1, .slice (some ⟨g9, 0, none⟩) 1 1] (fun _ => by kernel_rfl) (fun _ => by kernel_rfl) (R := fun u w' => u = .int .i64 (putE [97] [1]) /\ Tri (fun _ => True) w' g (putT no [97] [1]) /\ Touch g (w8) w') ((Zmo hT hs7 hs11 (fun _ _ => trivial))) ?_
 rintro _ u5 ⟨rfl, hTn, hto⟩
 replace hB : Bl w u5 := hto.below hB hgT hB.size
 rw [Zpc] at hTn
 replace hT := hTn
 refine Zad <| Zab <| Zac <| Zaa <| rp 19 (.pointer (some ⟨g, 0, none⟩)) <| Zbe 20 #[.int .u8 98] 5 1 (fun _ => by kernel_rfl) (fun _ => by kernel_rfl) ?_
 intro w12 g13 hn14
 obtain ⟨w15, hr16, hb17, hs18⟩ := Zjv (x := 98) (by omega) hn14 (K := fun b => True) (fun _ _ => trivial)
 refine rw_v 21 (.slice (some ⟨g13, 0, none⟩) 1 1) (fun _ => by kernel_rfl) (fun _ => hr16 _ _ _ rfl (by kernel_rfl)) ?_
 replace hB := hB.go hb17
 replace hT := hT.go hb17
 refine Zap 22 11 #[.pointer (some ⟨g, 0, none⟩), .slice (some ⟨g13, 0, none⟩) 1 1] (fun _ => by kernel_rfl) (fun _ => by kernel_rfl) (R := fun u w' => (∃ a' c', u = .tuple #[.slice a' 1 c', .int .i64 0] /\ 1 <= c' /\ Bt (fun _ => True) w' a' 1 [[196, 130, 32, 97, 1]]) /\ Bl (w15) w') ((by have := Zy4 hT Zpe (by decide) (by decide) hs18 (by omega); rw [show leaf (Ni.nib [97]) [1] = leaf [6, 1] [1] from rfl, Zlh] at this; exact this)) ?_
 rintro _ u6 ⟨⟨aP, cP, rfl, hcP, hP⟩, hb6⟩
 replace hB := hB.go hb6
 replace hT := hT.go hb6
 replace hs18 := hs18.go hb6
 refine rp 18 (.tuple #[.slice aP 1 cP, .int .i64 0]) <| rp 23 (.slice aP 1 cP) <| rp 24 (.int .i64 0) <| rp 2 (.slice aP 1 cP) <| rp 3 (.int .i64 0) <| Zad <| Zab <| Zac <| Zaa <| rp 26 (.pointer (some ⟨g, 0, none⟩)) <| Zap 27 14 #[.pointer (some ⟨g, 0, none⟩)] (fun _ => by kernel_rfl) (fun _ => by kernel_rfl) (R := fun u w' => u = .agg (B8 ds) /\ Bl (u6) w') (((Zi2 hT (by simp [nmd])).mono (fun e w' ⟨u, e1, e2, e3⟩ => ⟨u, e1, by rw [e2, hrt], e3⟩))) ?_
 rintro _ u19 ⟨rfl, hb20⟩
 replace hB := hB.go hb20
 replace hT := hT.go hb20
 replace hs18 := hs18.go hb20
 replace hP := hP.go hb20
 refine Zbe 28 #[.int .u8 97] 5 1 (fun _ => by kernel_rfl) (fun _ => by kernel_rfl) ?_
 intro w21 g22 hn23
 obtain ⟨w24, hr25, hb26, hs27⟩ := Zjv (x := 97) (by omega) hn23 (K := fun b => True) (fun _ _ => trivial)
 refine rw_v 29 (.slice (some ⟨g22, 0, none⟩) 1 1) (fun _ => by kernel_rfl) (fun _ => hr25 _ _ _ rfl (by kernel_rfl)) ?_
 replace hB := hB.go hb26
 replace hT := hT.go hb26
 replace hs18 := hs18.go hb26
 replace hP := hP.go hb26
 refine rp 30 (.slice aP 1 cP) <| Zap 31 17 #[.agg (B8 ds), .slice (some ⟨g22, 0, none⟩) 1 1, .slice aP 1 cP] (fun _ => by kernel_rfl) (fun _ => by kernel_rfl) (R := fun u w' => (∃ a c, u = .tuple #[.slice a 1 c, .bool true, .int .i64 0] /\ Sk (fun _ => True) w' a 1 c [1]) /\ Bl (w24) w') (((Zfd hdl hdb hs27 hP hcP (fun b hb => by simp at hb; rw [hb]; decide)).mono (fun e w' ⟨u, e1, ⟨a, n, c, e2, e3⟩, e4⟩ => by rw [hva] at e2 e3; have hl : (1 : Nat) = n := e3.len; subst hl; exact ⟨u, e1, ⟨a, c, e2, e3.mono (fun _ _ => trivial)⟩, e4⟩))) ?_
 rintro _ u28 ⟨⟨av30, cv31, rfl, hs32⟩, hb29⟩
 replace hB := hB.go hb29
 replace hT := hT.go hb29
 replace hs18 := hs18.go hb29
 replace hP := hP.go hb29
 replace hs27 := hs27.go hb29
 refine rp 25 (.tuple #[.slice av30 1 cv31, .bool true, .int .i64 0]) <| rp 32 (.slice av30 1 cv31) <| rp 33 (.bool true) <| rp 34 (.int .i64 0) <| rp 4 (.slice av30 1 cv31) <| rp 5 (.bool true) <| rp 6 (.int .i64 0) <| Zad <| Zab <| Zac <| Zaa <| rp 36 (.pointer (some ⟨g, 0, none⟩)) ?_
 refine Zap 37 14 #[.pointer (some ⟨g, 0, none⟩)] (fun _ => by kernel_rfl) (fun _ => by kernel_rfl) (R := fun u w' => u = .agg (B8 ds) /\ Bl (u28) w') (((Zi2 hT (by simp [nmd])).mono (fun e w' ⟨u, e1, e2, e3⟩ => ⟨u, e1, by rw [e2, hrt], e3⟩))) ?_
 rintro _ u33 ⟨rfl, hb34⟩
 replace hB := hB.go hb34
 replace hT := hT.go hb34
 replace hs18 := hs18.go hb34
 replace hP := hP.go hb34
 replace hs27 := hs27.go hb34
 replace hs32 := hs32.go hb34
 refine Zbe 38 #[.int .u8 98] 5 1 (fun _ => by kernel_rfl) (fun _ => by kernel_rfl) ?_
 intro w35 g36 hn37
 obtain ⟨w38, hr39, hb40, hs41⟩ := Zjv (x := 98) (by omega) hn37 (K := fun b => True) (fun _ _ => trivial)
 refine rw_v 39 (.slice (some ⟨g36, 0, none⟩) 1 1) (fun _ => by kernel_rfl) (fun _ => hr39 _ _ _ rfl (by kernel_rfl)) ?_
 replace hB := hB.go hb40
 replace hT := hT.go hb40
 replace hs18 := hs18.go hb40
 replace hP := hP.go hb40
 replace hs27 := hs27.go hb40
 replace hs32 := hs32.go hb40
 refine rp 40 (.slice aP 1 cP) <| Zap 41 17 #[.agg (B8 ds), .slice (some ⟨g36, 0, none⟩) 1 1, .slice aP 1 cP] (fun _ => by kernel_rfl) (fun _ => by kernel_rfl) (R := fun u w' => (∃ a c, u = .tuple #[.slice a 0 c, .bool false, .int .i64 0] /\ Sk (fun _ => True) w' a 0 c []) /\ Bl (w38) w') (((Zfd hdl hdb hs41 hP hcP (fun b hb => by simp at hb; rw [hb]; decide)).mono (fun e w' ⟨u, e1, ⟨a, n, c, e2, e3⟩, e4⟩ => by rw [hvb] at e2 e3; have hl : (0 : Nat) = n := e3.len; subst hl; exact ⟨u, e1, ⟨a, c, e2, e3.mono (fun _ _ => trivial)⟩, e4⟩))) ?_
 rintro _ u42 ⟨⟨av44, cv45, rfl, hs46⟩, hb43⟩
 replace hB := hB.go hb43
 replace hT := hT.go hb43
 replace hs18 := hs18.go hb43
 replace hP := hP.go hb43
 replace hs27 := hs27.go hb43
 replace hs32 := hs32.go hb43
 replace hs41 := hs41.go hb43
 refine rp 35 (.tuple #[.slice av44 0 cv45, .bool false, .int .i64 0]) <| rp 42 (.slice av44 0 cv45) <| rp 43 (.bool false) <| rp 44 (.int .i64 0) <| rp 7 (.slice av44 0 cv45) <| rp 8 (.bool false) <| rp 9 (.int .i64 0) <| Zad <| Zab <| Zac <| Zaa <| rp 45 (.int .i64 0) ?_
 refine rp 46 (.bool true) <| rp 47 (.bool true) <| rp 48 (.slice aP 1 cP) <| rp 49 (.int .i64 1) <| rp 50 (.bool true) <| rp 51 (.bool true) <| rp 52 (.bool true) <| rp 53 (.int .i64 0) <| rp 54 (.bool true) <| rp 55 (.bool true) <| rp 56 (.bool true) <| rp 57 (.bool true) ?_
 refine rp 58 (.bool true) <| rp 59 (.bool true) <| rp 60 (.slice av30 1 cv31) <| rv 61 (.string (strOfNums ([1]))) (fun _ => hs32.run_str _ _ _ rfl (by kernel_rfl)) <| rp 62 (.bool true) <| rp 63 (.bool true) <| rp 64 (.bool true) <| rp 65 (.int .i64 0) <| rp 66 (.bool true) <| rp 67 (.bool true) <| rp 68 (.bool true) <| rp 69 (.bool false) ?_
 refine rp 70 (.bool true) <| rp 71 (.bool true) <| rp 0 (.bool true) <| Zad <| Zab <| Zam ?_
 exact Zae (.bool true) (fun _ => by kernel_rfl) ⟨_, rfl, rfl, hB⟩
end Go.Proofs.YtefhepcplempkaaGreat
