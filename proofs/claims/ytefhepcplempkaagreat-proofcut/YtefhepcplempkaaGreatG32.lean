/- What Verify tells of what Prove tells. -/
import Derived.Test.YtefhepcplempkaaGreatG30
import Derived.Test.YtefhepcplempkaaGreatG31
import Derived.Test.YtefhepcplempkaaGreatG00
set_option linter.unusedVariables false
set_option maxRecDepth 100000
namespace Go.Proofs.YtefhepcplempkaaGreat
open Go.RowKit
open Tr
open Di (dref)
theorem Zjo {kp pre r : List Int} (h : ¬ kp.take pre.length = pre) : ¬ kp.take (pre ++ r).length = pre ++ r := fun e => h (by
 have := congrArg (List.take pre.length) e
 rw [List.take_take, List.take_left, Nat.min_eq_left (by rw [List.length_append]; omega)] at this
 exact this)
theorem Zka {kp : List Int} : ∀ (t : Tr) {pre : List Int}, ¬ kp.take pre.length = pre -> wyN kp t pre = [] := by
 intro t
 induction t with
 | no => intro pre _; rfl
 | leaf _ _ => intro pre _; rfl
 | ext q c ih => intro pre h; rw [wyN, ih (Zjo h), wy1, if_neg (fun e => Zjo h e.2)]; rfl
 | br k x ih =>
  intro pre h
  rw [wyN, List.flatMap_eq_nil_iff]
  intro i _
  split
  ·rfl
  ·rw [ih i (Zjo h), wy1, if_neg (fun e => Zjo h e.2)]; rfl
theorem Zi6 {kp pre : List Int} {t : Tr} (h : ¬ kp.take pre.length = pre) : wy1 kp pre t = [] := by rw [wy1, if_neg (fun e => h e.2)]
theorem Zky (pre p q : List Int) : (pre ++ p).take (pre ++ q).length = pre ++ q ↔ p.take q.length = q := by
 rw [List.length_append, List.take_append, List.take_of_length_le (by omega : pre.length <= pre.length + q.length), show pre.length + q.length - pre.length = q.length from by omega]
 exact ⟨fun h => List.append_cancel_left h, fun h => by rw [h]⟩
theorem Zyz (pre p : List Int) (k : Nat -> Tr) (x : List Int) {i : Nat} (hi : i < 16) : wyN (pre ++ ((i : Nat) : Int) :: p) (br k x) pre = if (k i).isNo then [] else wyN (pre ++ ((i : Nat) : Int) :: p) (k i) (pre ++ [((i : Nat) : Int)]) ++ wy1 (pre ++ ((i : Nat) : Int) :: p) (pre ++ [((i : Nat) : Int)]) (k i) := by
 rw [wyN]
 have : (fun j : Nat => if (k j).isNo then [] else wyN (pre ++ ((i : Nat) : Int) :: p) (k j) (pre ++ [((j : Nat) : Int)]) ++ wy1 (pre ++ ((i : Nat) : Int) :: p) (pre ++ [((j : Nat) : Int)]) (k j)) = fun j => if j = i then (if (k i).isNo then [] else wyN (pre ++ ((i : Nat) : Int) :: p) (k i) (pre ++ [((i : Nat) : Int)]) ++ wy1 (pre ++ ((i : Nat) : Int) :: p) (pre ++ [((i : Nat) : Int)]) (k i)) else [] := by
  funext j
  by_cases e : j = i
  ·subst e; simp
  ·rw [if_neg e]
   have hoff : ¬ (pre ++ ((i : Nat) : Int) :: p).take (pre ++ [((j : Nat) : Int)]).length = pre ++ [((j : Nat) : Int)] := by
    rw [Zky]
    simp
    omega
   split
   ·rfl
   ·rw [Zka _ hoff, Zi6 hoff]; rfl
 rw [this, Zns, if_pos hi]
theorem Zvd (pre : List Int) (k : Nat -> Tr) (x : List Int) : wyN pre (br k x) pre = [] := by
 rw [wyN, List.flatMap_eq_nil_iff]
 intro i _
 have hoff : ¬ pre.take (pre ++ [((i : Nat) : Int)]).length = pre ++ [((i : Nat) : Int)] := fun e => by
  have := congrArg List.length e
  simp at this
 split
 ·rfl
 ·rw [Zka _ hoff, Zi6 hoff]; rfl
def Nv (r : PR) (t : Tr) (M M' : List (List Int)) : Prop := (r.k = 2 /\ r.d = dref (encT t) /\ M = encT t :: M') \/ (r.k = 1 /\ r.i = encT t /\ M = M')
theorem Zxh {r : PR} {t : Tr} {M M' : List (List Int)} (hW : Wn (nodeP t)) (hne : t ≠ no) (h : Nv r t M M') : opP r M = some (nodeP t, M') := by
 have hd : ND (encT t) = some (nodeP t) := by rw [Zbm hne]; exact hW.isB.2.1
 unfold opP
 rcases h with ⟨h1, h2, rfl⟩ | ⟨h1, h2, rfl⟩
 ·rw [if_pos h1]
  simp only
  rw [if_pos h2.symm, hd]; rfl
 ·rw [if_neg (by omega), h2, hd]; rfl
theorem Zzt {kp pre : List Int} {t : Tr} (hon : kp.take pre.length = pre) (W : List (List Int)) : Nv (referP (encT t)) t ((W ++ wy1 kp pre t).reverse) W.reverse := by
 unfold referP wy1
 by_cases hl : (encT t).length < 32
 ·rw [if_pos hl, if_neg (fun e => by omega), List.append_nil]
  exact .inr ⟨rfl, rfl, rfl⟩
 ·rw [if_neg hl, if_pos ⟨by omega, hon⟩]
  exact .inl ⟨rfl, rfl, by simp⟩
theorem Zwf : ∀ (t : Tr) {B : Nat}, Tr.Ok B t -> B <= 64 -> Vb t -> ∀ {f : Nat} {r : PR} {pre p : List Int} {M : List (List Int)} {ex : Bool}, Nb p -> p.length < f -> (ex = true -> t.isBr = true) -> Nv r t M (wyN (pre ++ p) t pre).reverse -> veP f r p M ex = some (Tr.get t p) := by
 intro t
 induction t with
 | no => intro B h; exact h.elim
 | leaf q x =>
  intro B hO hB hV f r pre p M ex hp hf hex hN
  obtain ⟨f, rfl⟩ : ∃ g, f = g + 1 := ⟨f - 1, by omega⟩
  rw [Zfj (Zxh (Zkc _ hO hB hV) (by simp) hN) (fun h => by have := hex h.1; cases this) (by simp [foP, nodeP])]
  rw [if_pos (show (wyN (pre ++ p) (leaf q x) pre).reverse = [] from rfl)]
  simp only [vaP, nodeP, Tr.get]
  by_cases e : q = p
  ·subst e; simp
  ·simp [e, Ne.symm e]
 | ext q c ih =>
  intro B hO hB hV f r pre p M ex hp hf hex hN
  obtain ⟨f, rfl⟩ : ∃ g, f = g + 1 := ⟨f - 1, by omega⟩
  have ho := Zxh (Zkc _ hO hB hV) (by simp) hN
  have hx : ¬ (ex = true /\ (nodeP (ext q c)).k ≠ 3) := fun h => by have := hex h.1; cases this
  obtain ⟨o1, o2, o3, o4, o5⟩ := hO
  rw [Tr.get]
  by_cases e : p.take q.length = q
  ·rw [Zmn ho hx (show foP (nodeP (ext q c)) p = some (referP (encT c), p.drop q.length) from by simp [foP, nodeP, e]), if_pos e]
   have hpq : pre ++ p = (pre ++ q) ++ p.drop q.length := by rw [List.append_assoc]; congr 1; have h9 := List.take_append_drop q.length p; rw [e] at h9; exact h9.symm
   have hql : 0 < q.length := List.length_pos_iff.2 o2
   refine ih o5 (by omega) hV.2 (pre := pre ++ q) (hp.drop _) (by have := congrArg List.length e; rw [List.length_take] at this; rw [List.length_drop]; omega) (fun _ => o4) ?_
   rw [wyN, <- hpq]
   exact Zzt (by rw [Zky]; exact e) _
  ·have hoff : ¬ (pre ++ p).take (pre ++ q).length = pre ++ q := by rw [Zky]; exact e
   rw [Zfj ho hx (by simp [foP, nodeP, e]), if_neg e, wyN, Zka _ hoff, Zi6 hoff]
   rw [if_pos (show ([] ++ [] : List (List Int)).reverse = [] from rfl)]
   unfold vaP
   split <;> rfl
 | br k x ih =>
  intro B hO hB hV f r pre p M ex hp hf hex hN
  obtain ⟨f, rfl⟩ : ∃ g, f = g + 1 := ⟨f - 1, by omega⟩
  have ho := Zxh (Zkc _ hO hB hV) (by simp) hN
  have hx : ¬ (ex = true /\ (nodeP (br k x)).k ≠ 3) := fun h => h.2 rfl
  cases p with
  | nil =>
   rw [List.append_nil] at ho
   rw [Zfj ho hx (by simp [foP, nodeP]), Zvd]
   simp [vaP, nodeP, Tr.get]
  | cons i q =>
   have hi := hp i List.mem_cons_self
   obtain ⟨m, rfl⟩ : ∃ m : Nat, i = ((m : Nat) : Int) := ⟨i.toNat, by omega⟩
   have hm : m < 16 := by omega
   have hkd : kidP (nodeP (br k x)) (((m : Nat) : Int) :: q) = if (k m).isNo then r0 else referP (encT (k m)) := by
    simp [kidP, nodeP, List.getD, hm]
   rw [Zyz pre q k x hm] at ho
   rw [Tr.get, Int.toNat_natCast]
   cases hno : (k m).isNo with
   | true =>
    rw [hno, if_pos rfl] at hkd
    rw [hno, if_pos rfl] at ho
    rw [Zfj ho hx (show foP (nodeP (br k x)) (((m : Nat) : Int) :: q) = none from by unfold foP; rw [if_pos ⟨rfl, by simp⟩, hkd, if_pos (show r0.k = 0 from rfl)]), isNo_iff.1 hno]
    simp [vaP, nodeP, Tr.get]
   | false =>
    rw [hno, if_neg (by simp)] at hkd
    rw [hno, if_neg (by simp)] at ho
    obtain ⟨_, o2, o3⟩ := (hO.1 m).resolve_left (fun e => by rw [e] at hno; cases hno)
    have hwk := Zkc _ o3 (by omega) (hV.2 _ hm)
    have hk0 : (kidP (nodeP (br k x)) (((m : Nat) : Int) :: q)).k ≠ 0 := by rw [hkd, Zbm o3.ne]; exact hwk.ref.2.1
    rw [Zmn ho hx (show foP (nodeP (br k x)) (((m : Nat) : Int) :: q) = some (referP (encT (k m)), q) from by unfold foP; rw [if_pos ⟨rfl, by simp⟩, if_neg hk0, hkd]; rfl)]
    refine ih m o3 (by omega) (hV.2 _ hm) (pre := pre ++ [((m : Nat) : Int)]) (fun j hj => hp j (List.mem_cons_of_mem _ hj)) (by simp at hf; omega) (fun h => by simp [nodeP] at h) ?_
    rw [show pre ++ [((m : Nat) : Int)] ++ q = pre ++ ((m : Nat) : Int) :: q from by simp]
    exact Zzt (by rw [show pre ++ ((m : Nat) : Int) :: q = pre ++ (((m : Nat) : Int) :: q) from rfl, Zky]; simp) _
theorem Zwe {t : Tr} (hO : t = no \/ Tr.Ok 64 t) (hV : Vb t) {k : List Int} (hk : isB k) (hl : k.length <= 32) : vfP (rootP t) k (prvP t k) = (0, Tr.get t (Ni.nib k)) := by
 unfold vfP
 rw [if_neg (by omega)]
 rcases hO with rfl | hO
 ·rw [if_pos ⟨rfl, rfl⟩]; rfl
 ·have hp : prvP t k = encT t :: (wyN (Ni.nib k) t []).reverse := by unfold prvP; rw [if_neg (fun h => hO.ne (isNo_iff.1 h))]; simp
  have hr : rootP t = dref (encT t) := by
   cases t with
   | no => exact hO.elim
   | leaf _ _ => rfl
   | ext _ _ => rfl
   | br _ _ => rfl
  have hv := Zwf t hO (Nat.le_refl _) hV (f := 2 * k.length + 1) (r := ⟨2, rootP t, []⟩) (pre := []) (p := Ni.nib k) (ex := false) (Zk3 hk) (by rw [Ni.nib_len]; omega) (fun h => by cases h) (.inl ⟨rfl, hr, rfl⟩)
  rw [List.nil_append] at hv
  rw [hp, if_neg (fun h => by cases h.1), hv]
theorem Zvc : ∀ (t : Tr) {B : Nat}, Tr.Ok B t -> ∀ (kp pre : List Int), (wyN kp t pre).length <= B := by
 intro t
 have h1 : ∀ (kp pre : List Int) (t : Tr), (wy1 kp pre t).length <= 1 := fun kp pre t => by unfold wy1; split <;> simp
 induction t with
 | no => intro B h; exact h.elim
 | leaf _ _ => intro B _ kp pre; simp [wyN]
 | ext q c ih =>
  intro B hO kp pre
  have := ih hO.2.2.2.2 kp (pre ++ q)
  have := h1 kp (pre ++ q) c
  have := List.length_pos_iff.2 hO.2.1
  have := hO.2.2.1
  rw [wyN, List.length_append]; omega
 | br k x ih =>
  intro B hO kp pre
  by_cases hon : kp.take pre.length = pre
  ·obtain ⟨p, rfl⟩ : ∃ p, kp = pre ++ p := ⟨kp.drop pre.length, by have h9 := List.take_append_drop pre.length kp; rw [hon] at h9; exact h9.symm⟩
   cases p with
   | nil => rw [List.append_nil, Zvd]; simp
   | cons i p =>
    by_cases hi : 0 <= i /\ i < 16
    ·obtain ⟨m, rfl⟩ : ∃ m : Nat, i = ((m : Nat) : Int) := ⟨i.toNat, by omega⟩
     rw [Zyz pre p k x (by omega)]
     split
     ·simp
     ·rename_i hno
      obtain ⟨_, o2, o3⟩ := (hO.1 m).resolve_left (fun e => hno (by rw [e]; rfl))
      have := ih m o3 (pre ++ ((m : Nat) : Int) :: p) (pre ++ [((m : Nat) : Int)])
      have := h1 (pre ++ ((m : Nat) : Int) :: p) (pre ++ [((m : Nat) : Int)]) (k m)
      rw [List.length_append]; omega
    ·rw [wyN, show ((List.range 16).flatMap fun j => if (k j).isNo then [] else wyN (pre ++ i :: p) (k j) (pre ++ [((j : Nat) : Int)]) ++ wy1 (pre ++ i :: p) (pre ++ [((j : Nat) : Int)]) (k j)) = [] from by
      rw [List.flatMap_eq_nil_iff]
      intro j hj
      have hoff : ¬ (pre ++ i :: p).take (pre ++ [((j : Nat) : Int)]).length = pre ++ [((j : Nat) : Int)] := by
       rw [Zky]; rw [List.mem_range] at hj; simp; omega
      split
      ·rfl
      ·rw [Zka _ hoff, Zi6 hoff]; rfl]
     simp
  ·rw [Zka _ hon]; simp
theorem Zqw : ∀ (t : Tr) {B : Nat}, Tr.Ok B t -> B <= 64 -> Vb t -> ∀ b ∈ nmd t ++ [encT t], b.length <= 65540 := by
 intro t
 have top : ∀ (t : Tr) {B : Nat}, Tr.Ok B t -> B <= 64 -> Vb t -> (encT t).length <= 65540 := fun t B h1 h2 h3 => by rw [Zbm h1.ne]; exact (Zkc t h1 h2 h3).isB.2.2
 have hm1 : ∀ {b c : List Int}, b ∈ nm1 c -> b = c := fun {b c} h => by
  unfold nm1 at h
  split at h
  ·cases h
  ·simpa using h
 induction t with
 | no => intro B h; exact h.elim
 | leaf q x =>
  intro B h1 h2 h3 b hb
  simp only [nmd, List.nil_append, List.mem_singleton] at hb
  rw [hb]; exact top _ h1 h2 h3
 | ext q c ih =>
  intro B h1 h2 h3 b hb
  rcases List.mem_append.1 hb with hb | hb
  ·simp only [nmd, List.mem_append] at hb
   refine ih h1.2.2.2.2 (by omega) h3.2 b (List.mem_append.2 ?_)
   rcases hb with hb | hb
   ·exact .inl hb
   ·exact .inr (by rw [hm1 hb]; simp)
  ·rw [List.mem_singleton] at hb; rw [hb]; exact top _ h1 h2 h3
 | br k x ih =>
  intro B h1 h2 h3 b hb
  rcases List.mem_append.1 hb with hb | hb
  ·simp only [nmd, List.mem_flatMap, List.mem_range] at hb
   obtain ⟨i, hi, hb⟩ := hb
   cases hno : (k i).isNo with
   | true => rw [hno, if_pos rfl] at hb; cases hb
   | false =>
    rw [hno, if_neg (by simp)] at hb
    obtain ⟨_, o2, o3⟩ := (h1.1 i).resolve_left (fun e => by rw [e] at hno; cases hno)
    refine ih i o3 (by omega) (h3.2 i hi) b (List.mem_append.2 ?_)
    rcases List.mem_append.1 hb with hb | hb
    ·exact .inl hb
    ·exact .inr (by rw [hm1 hb]; simp)
  ·rw [List.mem_singleton] at hb; rw [hb]; exact top _ h1 h2 h3
theorem alive_rel : Rel (leaf [6, 1] [1]) [([97], [1])] := by
 have h := Rel.nil.put (k := [97]) (x := [1]) (fun i hi => by simp at hi; omega)
 rw [Zi3] at h
 exact h
theorem Zsx : prvP (leaf [6, 1] [1]) [98] = [[196, 130, 32, 97, 1]] := by rw [<- Zlo]; rfl
set_option maxHeartbeats 4000000 in
theorem Zpi {w : World} :
  Calls Tryz.prog 9 #[] w fun e w' => ∃ u, e = .returned u /\ (fun u w' => u = .bool true /\ Bl w w') u w' := by
 have hB := Bl.refl w
 have hdl := dref_len [196, 130, 32, 97, 1]
 have hdb := Zfa [196, 130, 32, 97, 1]
 have hva := Zu8
 have hvb := Zu7
 have hrt := Zph
 obtain ⟨ds, hds⟩ : ∃ ds, dref [196, 130, 32, 97, 1] = ds := ⟨_, rfl⟩
 rw [hds] at hdl hdb hva hvb hrt
 refine Zal Tryz.func9 rfl 72 rfl ?_
 show CW _ _ _ _ _ _ _ [] _
 refine Zac <| Zaa <| rp 0 (.bool false) <| Zad <| Zab <| Zac <| Zaa <| Zao 10 23 #[] (fun _ => by kernel_rfl) (fun _ => by kernel_rfl) (R := fun u w' => (∃ g, u = .pointer (some ⟨g, 0, none⟩) /\ w.heap.size <= g /\ Tri (fun _ => True) w' g no) /\ Bl w w') (Zq0) ?_
 rintro _ u2 ⟨⟨g, rfl, hgT, hT⟩, hb2⟩
 replace hB := hB.go hb2
 refine rp 1 (.pointer (some ⟨g, 0, none⟩)) <| Zad <| Zab <| Zac <| Zac <| Zaa <| rp 11 (.pointer (some ⟨g, 0, none⟩)) <| rp 12 (.bool false) <| Zad <| Zab <| Zah (fun _ => by kernel_rfl) <| Zap ?_
 refine Zab <| Zac <| Zaa <| rp 13 (.pointer (some ⟨g, 0, none⟩)) <| Zbl 14 #[.int .u8 97] 5 1 (fun _ => by kernel_rfl) (fun _ => by kernel_rfl) ?_
 intro w1 g2 hn3
 obtain ⟨w4, hr5, hb6, hs7⟩ := Zj4 (x := 97) (by omega) hn3 (K := fun b => True) (fun _ _ => trivial)
 refine rw_v 15 (.slice (some ⟨g2, 0, none⟩) 1 1) (fun _ => by kernel_rfl) (fun _ => hr5 _ _ _ rfl (by kernel_rfl)) ?_
 replace hB := hB.go hb6
 replace hT := hT.go hb6
 refine Zbl 16 #[.int .u8 1] 5 1 (fun _ => by kernel_rfl) (fun _ => by kernel_rfl) ?_
 intro w8 g9 hn10
 have hs11 : Sk (fun b => True) w8 (some ⟨g9, 0, none⟩) 1 1 [1] := Zqq (by omega) hn10 (fun _ _ => trivial)
 replace hB := hB.go hn10.below
 replace hT := hT.go hn10.below
 replace hs7 := hs7.go hn10.below
 refine Zao 17 24 #[.pointer (some ⟨g, 0, none⟩), .slice (some ⟨g2, 0, none⟩) 1 1, .slice (some ⟨g9, 0, none⟩) 1 1] (fun _ => by kernel_rfl) (fun _ => by kernel_rfl) (R := fun u w' => u = .int .i64 (putE [97] [1]) /\ Tri (fun _ => True) w' g (putT no [97] [1]) /\ Touch g (w8) w') ((Zmp hT hs7 hs11 (fun _ _ => trivial))) ?_
 rintro _ u5 ⟨rfl, hTn, hto⟩
 replace hB : Bl w u5 := hto.below hB hgT hB.size
 rw [Zi3] at hTn
 replace hT := hTn
 refine Zad <| Zab <| Zac <| Zaa <| rp 19 (.pointer (some ⟨g, 0, none⟩)) <| Zbl 20 #[.int .u8 98] 5 1 (fun _ => by kernel_rfl) (fun _ => by kernel_rfl) ?_
 intro w12 g13 hn14
 obtain ⟨w15, hr16, hb17, hs18⟩ := Zj4 (x := 98) (by omega) hn14 (K := fun b => True) (fun _ _ => trivial)
 refine rw_v 21 (.slice (some ⟨g13, 0, none⟩) 1 1) (fun _ => by kernel_rfl) (fun _ => hr16 _ _ _ rfl (by kernel_rfl)) ?_
 replace hB := hB.go hb17
 replace hT := hT.go hb17
 refine Zao 22 11 #[.pointer (some ⟨g, 0, none⟩), .slice (some ⟨g13, 0, none⟩) 1 1] (fun _ => by kernel_rfl) (fun _ => by kernel_rfl) (R := fun u w' => (∃ v base, u = .tuple #[v, .int .i64 0] /\ (w15).heap.size <= base /\ OwnS w' base v (prvP (leaf [6, 1] [1]) [98])) /\ Bl (w15) w') ((Zku hT alive_rel (by simp) hs18 (by omega) ((show _ \/ _ from alive_rel.ok).resolve_left (by simp)) (by obtain ⟨⟨v, _, h2⟩, _⟩ := hT; exact h2.vb) (by simp [wyN]))) ?_
 rintro _ u6 ⟨⟨vP, bP, rfl, _, hO⟩, hb6⟩
 replace hB := hB.go hb6
 replace hT := hT.go hb6
 replace hs18 := hs18.go hb6
 rw [Zsx] at hO
 obtain ⟨aP, cP, rfl, hP, hcP⟩ := hO.bt
 replace hP : Bt (fun _ => True) u6 aP 1 [[196, 130, 32, 97, 1]] := hP
 replace hcP : 1 <= cP := hcP
 refine rp 18 (.tuple #[.slice aP 1 cP, .int .i64 0]) <| rp 23 (.slice aP 1 cP) <| rp 24 (.int .i64 0) <| rp 2 (.slice aP 1 cP) <| rp 3 (.int .i64 0) <| Zad <| Zab <| Zac <| Zaa <| rp 26 (.pointer (some ⟨g, 0, none⟩)) <| Zao 27 14 #[.pointer (some ⟨g, 0, none⟩)] (fun _ => by kernel_rfl) (fun _ => by kernel_rfl) (R := fun u w' => u = .agg (B8 ds) /\ Bl (u6) w') (((Zjd hT (by simp [nmd])).mono (fun e w' ⟨u, e1, e2, e3⟩ => ⟨u, e1, by rw [e2, hrt], e3⟩))) ?_
 rintro _ u19 ⟨rfl, hb20⟩
 replace hB := hB.go hb20
 replace hT := hT.go hb20
 replace hs18 := hs18.go hb20
 replace hP := hP.go hb20
 refine Zbl 28 #[.int .u8 97] 5 1 (fun _ => by kernel_rfl) (fun _ => by kernel_rfl) ?_
 intro w21 g22 hn23
 obtain ⟨w24, hr25, hb26, hs27⟩ := Zj4 (x := 97) (by omega) hn23 (K := fun b => True) (fun _ _ => trivial)
 refine rw_v 29 (.slice (some ⟨g22, 0, none⟩) 1 1) (fun _ => by kernel_rfl) (fun _ => hr25 _ _ _ rfl (by kernel_rfl)) ?_
 replace hB := hB.go hb26
 replace hT := hT.go hb26
 replace hs18 := hs18.go hb26
 replace hP := hP.go hb26
 refine rp 30 (.slice aP 1 cP) <| Zao 31 17 #[.agg (B8 ds), .slice (some ⟨g22, 0, none⟩) 1 1, .slice aP 1 cP] (fun _ => by kernel_rfl) (fun _ => by kernel_rfl) (R := fun u w' => (∃ a c, u = .tuple #[.slice a 1 c, .bool true, .int .i64 0] /\ Sk (fun _ => True) w' a 1 c [1]) /\ Bl (w24) w') (((Zfi hdl hdb hs27 hP hcP (fun b hb => by simp at hb; rw [hb]; decide)).mono (fun e w' ⟨u, e1, ⟨a, n, c, e2, e3⟩, e4⟩ => by rw [hva] at e2 e3; have hl : (1 : Nat) = n := e3.len; subst hl; exact ⟨u, e1, ⟨a, c, e2, e3.mono (fun _ _ => trivial)⟩, e4⟩))) ?_
 rintro _ u28 ⟨⟨av30, cv31, rfl, hs32⟩, hb29⟩
 replace hB := hB.go hb29
 replace hT := hT.go hb29
 replace hs18 := hs18.go hb29
 replace hP := hP.go hb29
 replace hs27 := hs27.go hb29
 refine rp 25 (.tuple #[.slice av30 1 cv31, .bool true, .int .i64 0]) <| rp 32 (.slice av30 1 cv31) <| rp 33 (.bool true) <| rp 34 (.int .i64 0) <| rp 4 (.slice av30 1 cv31) <| rp 5 (.bool true) <| rp 6 (.int .i64 0) <| Zad <| Zab <| Zac <| Zaa <| rp 36 (.pointer (some ⟨g, 0, none⟩)) ?_
 refine Zao 37 14 #[.pointer (some ⟨g, 0, none⟩)] (fun _ => by kernel_rfl) (fun _ => by kernel_rfl) (R := fun u w' => u = .agg (B8 ds) /\ Bl (u28) w') (((Zjd hT (by simp [nmd])).mono (fun e w' ⟨u, e1, e2, e3⟩ => ⟨u, e1, by rw [e2, hrt], e3⟩))) ?_
 rintro _ u33 ⟨rfl, hb34⟩
 replace hB := hB.go hb34
 replace hT := hT.go hb34
 replace hs18 := hs18.go hb34
 replace hP := hP.go hb34
 replace hs27 := hs27.go hb34
 replace hs32 := hs32.go hb34
 refine Zbl 38 #[.int .u8 98] 5 1 (fun _ => by kernel_rfl) (fun _ => by kernel_rfl) ?_
 intro w35 g36 hn37
 obtain ⟨w38, hr39, hb40, hs41⟩ := Zj4 (x := 98) (by omega) hn37 (K := fun b => True) (fun _ _ => trivial)
 refine rw_v 39 (.slice (some ⟨g36, 0, none⟩) 1 1) (fun _ => by kernel_rfl) (fun _ => hr39 _ _ _ rfl (by kernel_rfl)) ?_
 replace hB := hB.go hb40
 replace hT := hT.go hb40
 replace hs18 := hs18.go hb40
 replace hP := hP.go hb40
 replace hs27 := hs27.go hb40
 replace hs32 := hs32.go hb40
 refine rp 40 (.slice aP 1 cP) <| Zao 41 17 #[.agg (B8 ds), .slice (some ⟨g36, 0, none⟩) 1 1, .slice aP 1 cP] (fun _ => by kernel_rfl) (fun _ => by kernel_rfl) (R := fun u w' => (∃ a c, u = .tuple #[.slice a 0 c, .bool false, .int .i64 0] /\ Sk (fun _ => True) w' a 0 c []) /\ Bl (w38) w') (((Zfi hdl hdb hs41 hP hcP (fun b hb => by simp at hb; rw [hb]; decide)).mono (fun e w' ⟨u, e1, ⟨a, n, c, e2, e3⟩, e4⟩ => by rw [hvb] at e2 e3; have hl : (0 : Nat) = n := e3.len; subst hl; exact ⟨u, e1, ⟨a, c, e2, e3.mono (fun _ _ => trivial)⟩, e4⟩))) ?_
 rintro _ u42 ⟨⟨av44, cv45, rfl, hs46⟩, hb43⟩
 replace hB := hB.go hb43
 replace hT := hT.go hb43
 replace hs18 := hs18.go hb43
 replace hP := hP.go hb43
 replace hs27 := hs27.go hb43
 replace hs32 := hs32.go hb43
 replace hs41 := hs41.go hb43
 refine rp 35 (.tuple #[.slice av44 0 cv45, .bool false, .int .i64 0]) <| rp 42 (.slice av44 0 cv45) <| rp 43 (.bool false) <| rp 44 (.int .i64 0) <| rp 7 (.slice av44 0 cv45) <| rp 8 (.bool false) <| rp 9 (.int .i64 0) <| Zad <| Zab <| Zac <| Zaa <| rp 45 (.int .i64 0) ?_
 refine rp 46 (.bool true) <| rp 47 (.bool true) <| rp 48 (.slice aP 1 cP) <| rp 49 (.int .i64 1) <| rp 50 (.bool true) <| rp 51 (.bool true) <| rp 52 (.bool true) <| rp 53 (.int .i64 0) <| rp 54 (.bool true) <| rp 55 (.bool true) <| rp 56 (.bool true) <| rp 57 (.bool true) ?_
 refine rp 58 (.bool true) <| rp 59 (.bool true) <| rp 60 (.slice av30 1 cv31) <| rv 61 (.string (strOfNums ([1]))) (fun _ => hs32.run_str _ _ _ rfl (by kernel_rfl)) <| rp 62 (.bool true) <| rp 63 (.bool true) <| rp 64 (.bool true) <| rp 65 (.int .i64 0) <| rp 66 (.bool true) <| rp 67 (.bool true) <| rp 68 (.bool true) <| rp 69 (.bool false) ?_
 refine rp 70 (.bool true) <| rp 71 (.bool true) <| rp 0 (.bool true) <| Zad <| Zab <| Zam ?_
 exact Zae (.bool true) (fun _ => by kernel_rfl) ⟨_, rfl, rfl, hB⟩
theorem Zyy : ∀ (kp : List Int) (t : Tr) (pre : List Int), ∀ b ∈ wyN kp t pre, b ∈ nmd t := by
 intro kp t
 have h1 : ∀ {pre : List Int} {t : Tr} {b : List Int}, b ∈ wy1 kp pre t -> b ∈ nm1 (encT t) := fun {pre t b} h => by
  unfold wy1 at h
  split at h
  ·rename_i hc
   unfold nm1; rw [if_neg (by omega)]; exact h
  ·cases h
 induction t with
 | no => intro pre b h; cases h
 | leaf _ _ => intro pre b h; cases h
 | ext q c ih =>
  intro pre b h
  rw [wyN, List.mem_append] at h
  simp only [nmd, List.mem_append]
  exact h.imp (ih _ b) h1
 | br k x ih =>
  intro pre b h
  simp only [wyN, List.mem_flatMap, List.mem_range] at h
  obtain ⟨i, hi, h⟩ := h
  simp only [nmd, List.mem_flatMap, List.mem_range]
  refine ⟨i, hi, ?_⟩
  split at h
  ·cases h
  ·rename_i hno
   rw [if_neg hno, List.mem_append]
   rw [List.mem_append] at h
   exact h.imp (ih i _ b) h1
theorem Zqi {t : Tr} (hO : t = no \/ Tr.Ok 64 t) (hV : Vb t) (k : List Int) : (∀ b ∈ prvP t k, b.length <= 65540) /\ (prvP t k).length <= 65 := by
 rcases hO with rfl | hO
 ·exact ⟨fun b hb => by simp [prvP, Tr.isNo] at hb, by simp [prvP, Tr.isNo]⟩
 ·unfold prvP
  rw [if_neg (fun h => hO.ne (isNo_iff.1 h))]
  refine ⟨fun b hb => ?_, by have := Zvc t hO (Ni.nib k) []; simp; omega⟩
  rw [List.mem_reverse, List.mem_append] at hb
  refine Zqw t hO (Nat.le_refl _) hV b (List.mem_append.2 ?_)
  rcases hb with hb | hb
  ·exact .inl (Zyy _ _ _ b hb)
  ·exact .inr hb
theorem Zqj {K K1 : Nat -> Prop} {w : World} {g : Nat} {t : Tr} {L : PList} (hT : Tri K w g t) (hRel : Rel t L) (hLn : L.length <= 2932031007390) {a : Option Addr} {n c : Nat} {k : List Int} (hk : Sk K1 w a n c k) (hn : n <= 32) :
  Calls Tryz.prog 11 #[.pointer (some ⟨g, 0, none⟩), .slice a n c] w fun e w' => ∃ u, e = .returned u /\ (∃ v base, u = .tuple #[v, .int .i64 0] /\ w.heap.size <= base /\ OwnS w' base v (prvP t k)) /\ Bl w w' := by
 rcases hRel.ok with h | h
 ·exact Ztz hT hRel hLn hk hn h
 ·exact Zku hT hRel hLn hk hn h (by obtain ⟨⟨v, _, h2⟩, _⟩ := hT; exact h2.vb) (by have := Zvc t h (Ni.nib k) []; omega)
theorem dr_one : ¬ dref [194, 32, 5] = dref [128] := fun h => absurd (congrArg (fun l : List Int => l.getD 0 0) h) (by decide +kernel)
theorem op_pre {r : PR} {M z M' : List (List Int)} {n : PN} (h : opP r M = some (n, M')) : opP r (M ++ z) = some (n, M' ++ z) := by
 unfold opP at h ⊢
 by_cases h2 : r.k = 2
 ·rw [if_pos h2] at h ⊢
  cases M with
  | nil => cases h
  | cons b l =>
   simp only [List.cons_append] at h ⊢
   by_cases hd : dref b = r.d
   ·rw [if_pos hd] at h ⊢
    cases hn : ND b with
    | none => rw [hn] at h; cases h
    | some m => rw [hn] at h; simp only [Option.map_some, Option.some.injEq, Prod.mk.injEq] at h ⊢; exact ⟨h.1, by rw [h.2]⟩
   ·rw [if_neg hd] at h; cases h
 ·rw [if_neg h2] at h ⊢
  cases hn : ND r.i with
  | none => rw [hn] at h; cases h
  | some m => rw [hn] at h; simp only [Option.map_some, Option.some.injEq, Prod.mk.injEq] at h ⊢; exact ⟨h.1, by rw [h.2]⟩
theorem ve_pre {z : List (List Int)} (hz : z ≠ []) : ∀ (f : Nat) {r : PR} {p : List Int} {M : List (List Int)} {ex : Bool} {v : List Int}, veP f r p M ex = some v -> veP f r p (M ++ z) ex = none := by
 intro f
 induction f with
 | zero => intro r p M ex v h; rfl
 | succ f ih =>
  intro r p M ex v h
  unfold veP at h ⊢
  cases ho : opP r M with
  | none => rw [ho] at h; cases h
  | some q =>
   obtain ⟨n, M'⟩ := q
   rw [ho] at h
   rw [op_pre ho]
   simp only at h ⊢
   by_cases hx : ex = true /\ n.k ≠ 3
   ·rw [if_pos hx]
   ·rw [if_neg hx] at h ⊢
    cases hf : foP n p with
    | none =>
     simp only
     rw [if_neg (fun e => hz (List.append_eq_nil_iff.1 e).2)]
    | some q =>
     rw [hf] at h
     exact ih h
theorem vf_more {t : Tr} (hO : t = no \/ Tr.Ok 64 t) (hV : Vb t) {k : List Int} (hk : isB k) (hl : k.length <= 32) : vfP (rootP t) k (prvP t k ++ [[194, 32, 5]]) = (90, []) := by
 have hb := Zwe hO hV hk hl
 unfold vfP at hb ⊢
 rw [if_neg (by omega)] at hb ⊢
 rw [if_neg (fun e => by have := congrArg List.length e.1; simp at this)]
 rcases hO with rfl | hO
 ·rw [show prvP no k = [] from rfl, show rootP no = dref [128] from rfl, List.nil_append, show 2 * k.length + 1 = (2 * k.length) + 1 from rfl]
  unfold veP opP
  rw [if_pos rfl]
  simp only
  rw [if_neg dr_one]
 ·rw [if_neg (fun e => by have := e.1; unfold prvP at this; rw [if_neg (fun h => hO.ne (isNo_iff.1 h))] at this; simp at this)] at hb
  cases hv : veP (2 * k.length + 1) ⟨2, rootP t, []⟩ (Ni.nib k) (prvP t k) false with
  | none => rw [hv] at hb; cases hb
  | some v => rw [ve_pre (by simp) _ hv]
theorem vf_less {t : Tr} (hO : t = no \/ Tr.Ok 64 t) (hV : Vb t) {k : List Int} (hk : isB k) (hl : k.length <= 32) (hr : ¬ rootP t = dref [128]) {m : Nat} (hm : m < (prvP t k).length) : vfP (rootP t) k ((prvP t k).take m) = (90, []) := by
 have hb := Zwe hO hV hk hl
 unfold vfP at hb ⊢
 rw [if_neg (by omega), if_neg (fun e => hr e.2)] at hb ⊢
 cases hv : veP (2 * k.length + 1) ⟨2, rootP t, []⟩ (Ni.nib k) ((prvP t k).take m) false with
 | none => rfl
 | some v =>
  have := ve_pre (z := (prvP t k).drop m) (fun e => by have := congrArg List.length e; rw [List.length_drop] at this; simp at this; omega) _ hv
  rw [List.take_append_drop] at this
  rw [this] at hb; cases hb
end Go.Proofs.YtefhepcplempkaaGreat
