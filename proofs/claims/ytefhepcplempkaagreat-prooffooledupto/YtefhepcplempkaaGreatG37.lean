/- The statement ProofFooled: whatever a proof is made of, by a trie's root it says what the trie tells, or nothing; or two unlike texts have one digest. -/
import Derived.Test.YtefhepcplempkaaGreatG36
import Derived.Test.YtefhepcplempkaaGreatG00
import Derived.ProofKit
import Derived.OpenShut
import Derived.ShutString
import Derived.ChangeOld
import Derived.SizedLaws
import Derived.Test.YtefhepcplempkaaGreatG23
import Derived.Test.YtefhepcplempkaaGreatG24
import Derived.Test.YtefhepcplempkaaGreatRows
import Derived.JoinedCond
set_option linter.unusedVariables false
set_option maxRecDepth 100000
namespace Go.Proofs.YtefhepcplempkaaGreat
open Go.RowKit
open Tr
open Di (dref)
theorem Zs6 (d k : List Int) (M : List (List Int)) : (vfP d k M = (70, []) /\ 32 < k.length) \/ vfP d k M = (90, []) \/ ∃ v, vfP d k M = (0, v) /\ k.length <= 32 := by
 unfold vfP
 by_cases h : 32 < k.length
 ·exact .inl ⟨by rw [if_pos h], h⟩
 ·rw [if_neg h]
  by_cases h2 : M = [] /\ d = dref [128]
  ·exact .inr (.inr ⟨[], by rw [if_pos h2], by omega⟩)
  ·rw [if_neg h2]
   cases veP (2 * k.length + 1) ⟨2, d, []⟩ (Ni.nib k) M false with
   | none => exact .inr (.inl rfl)
   | some v => exact .inr (.inr ⟨v, rfl, by omega⟩)
theorem Znl (b : List Int) : ∀ l : List (List Int), (insB b l).length <= l.length + 1
 | [] => by simp [insB]
 | e :: r => by
  have := Znl b r
  unfold insB
  split
  ·simp
  ·split
   ·simp
   ·simp; omega
theorem Zik : ∀ (M l : List (List Int)), (insAll l M).length <= l.length + M.length
 | [], l => by simp [insAll]
 | b :: r, l => by
  have := Zik r (insB b l)
  have := Znl b l
  simp only [insAll, List.foldl_cons, List.length_cons] at this ⊢
  unfold insAll at *
  omega
theorem Zol (t : Tr) : (nodesP t).length <= (nmd t).length + 1 := by
 unfold nodesP
 split
 ·simp
 ·have := Zik (nmd t ++ [encT t]) []
  simpa using this
theorem Zqs : ∀ (t : Tr) {B : Nat}, Tr.Ok B t -> B <= 64 -> Vb t -> ∀ b ∈ nmd t ++ [encT t], b.length <= 65540 := by
 intro t
 have top : ∀ (t : Tr) {B : Nat}, Tr.Ok B t -> B <= 64 -> Vb t -> (encT t).length <= 65540 := fun t B h1 h2 h3 => by rw [Zbj h1.ne]; exact (Zh7 t h1 h2 h3).isB.2.2
 have hm1 : ∀ {b c : List Int}, b ∈ nm1 c -> b = c := fun {b c} h => by
  unfold nm1 at h
  split at h
  ·cases h
  ·simpa using h
 induction t with
 | no => intro B h; exact h.elim
 | leaf q x =>
  intro B h1 h2 h3 b hb
  simp only [nmd, List.nil_append, List.mem_singleton] at hb
  rw [hb]; exact top _ h1 h2 h3
 | ext q c ih =>
  intro B h1 h2 h3 b hb
  rcases List.mem_append.1 hb with hb | hb
  ·simp only [nmd, List.mem_append] at hb
   refine ih h1.2.2.2.2 (by omega) h3.2 b (List.mem_append.2 ?_)
   rcases hb with hb | hb
   ·exact .inl hb
   ·exact .inr (by rw [hm1 hb]; simp)
  ·rw [List.mem_singleton] at hb; rw [hb]; exact top _ h1 h2 h3
 | br k x ih =>
  intro B h1 h2 h3 b hb
  rcases List.mem_append.1 hb with hb | hb
  ·simp only [nmd, List.mem_flatMap, List.mem_range] at hb
   obtain ⟨i, hi, hb⟩ := hb
   cases hno : (k i).isNo with
   | true => rw [hno, if_pos rfl] at hb; cases hb
   | false =>
    rw [hno, if_neg (by simp)] at hb
    obtain ⟨_, o2, o3⟩ := (h1.1 i).resolve_left (fun e => by rw [e] at hno; cases hno)
    refine ih i o3 (by omega) (h3.2 i hi) b (List.mem_append.2 ?_)
    rcases List.mem_append.1 hb with hb | hb
    ·exact .inl hb
    ·exact .inr (by rw [hm1 hb]; simp)
  ·rw [List.mem_singleton] at hb; rw [hb]; exact top _ h1 h2 h3
theorem Zku {t : Tr} (hO : t = no \/ Tr.Ok 64 t) (hV : Vb t) : ∀ b ∈ nodesP t, b.length <= 65540 := fun b hb => by
 rcases hO with rfl | hO
 ·simp [nodesP, Tr.isNo] at hb
 ·unfold nodesP at hb
  split at hb
  ·cases hb
  ·rw [(Zdh (nmd t ++ [encT t]) [] (by simp [SrtB])).2] at hb
   rcases hb with hb | hb
   ·cases hb
   ·exact Zqs t hO (Nat.le_refl _) hV b hb
theorem appTn {w : World} {base : Nat} {v : Value} {M : List (List Int)} (hown : OwnS w base v M) {K : Nat -> Prop} {a : Option Addr} {m c : Nat} {M' : List (List Int)} (h : Bt K w a m M') (hnil : a = none -> c = 0) (hK : ∀ b, K b -> v.ownBlock ≠ some b) (hlen : M.length + m <= 5000000000000) (hbase : base <= w.heap.size) :
  ∃ v' w', (∀ ty, (Builtin.append_ #[28, 28] ty #[v, .slice a m c]).run Tryz.prog w = .ok v' w') /\ OwnS w' base v' (M ++ M') /\ Below base w w' := by
 cases a with
 | some ad => exact appT hown h hK hlen hbase
 | none =>
  have h0 : m = 0 := by
   rcases Nat.eq_zero_or_pos m with q | q
   ·exact q
   ·obtain ⟨_, _, _, _, _, e, _⟩ := h.row 0 q; cases e
  subst h0
  have hc := hnil rfl
  subst hc
  have hM : M' = [] := List.eq_nil_of_length_eq_zero h.len
  subst hM
  obtain ⟨i, hi, hz, hsz, hby⟩ := Zt9
  obtain ⟨us, h1, h2, h4⟩ := id hown
  exact ⟨v, w, fun ty => run_append_owned_none w base 28 ty 23 i 1 Tryz.underlying28 hi v _ _ h2, by rw [List.append_nil]; exact hown, Below.refl _ _⟩
theorem Bt.old {K : Nat -> Prop} {w : World} {a : Option Addr} {n : Nat} {M : List (List Int)} (h : Bt K w a n M) : Bt (fun b => b < w.heap.size) w a n M := ⟨h.len, fun j hj => by
 obtain ⟨g, off, a', n', c', h1, h2, h3⟩ := h.row j hj
 exact ⟨g, off, a', n', c', h1, h2, ⟨h3.ag, fun x hx hn => h3.old hx hn⟩⟩⟩
theorem Ztj {K K' : Nat -> Prop} {w : World} {a : Option Addr} {n c : Nat} {vs : List (Value × Value)} {l : PList} (hl : PAt K w a n c vs l) {t : Tr} (hR : Rel t l) {ak : Option Addr} {nk ck : Nat} {k : List Int} (hk : Sk K' w ak nk ck k) (hb : n <= 2932031007390) (hn : nk <= 32) :
  Calls Tryz.prog 19 #[.slice a n c, .slice ak nk ck] w fun e w' => ∃ u, e = .returned u /\ ((∃ a2 n2 c2, u = .tuple #[.slice a2 n2 c2, .bool (decide (0 < n2)), .int .i64 0] /\ Sk (fun _ => True) w' a2 n2 c2 (Tr.get t (Ni.nib k))) /\ Bl w w') := by
 have lk := hk.len
 have hat := hR.isAt (k := k) hk.ag.b (by omega)
 cases ha : isAt k l with
 | true =>
  refine (Zwt hl hk hb hR.k32 hn ha).mono fun e w' ⟨u, e1, ⟨a2, n2, c2, e2, x, e3, e4⟩, e5⟩ => ⟨u, e1, ⟨a2, n2, c2, ?_, ?_⟩, e5⟩
  ·have hx := ((hR.m k x).1 (List.mem_of_getElem? e3)).2.2.1
   have := e4.len
   have := List.length_pos_iff.2 hx
   rw [e2, decide_eq_true (by omega)]
  ·rw [((hR.m k x).1 (List.mem_of_getElem? e3)).2.2.2]; exact e4.mono (fun _ _ => trivial)
 | false =>
  refine (Ztk hl hk hb hR.k32 hn ha).mono fun e w' ⟨u, e1, e2, e5⟩ => ⟨u, e1, ⟨none, 0, 0, e2, ?_⟩, e5⟩
  rw [ha] at hat
  have h0 : Tr.get t (Ni.nib k) = [] := Classical.byContradiction fun h => by
   have := of_decide_eq_false hat.symm
   exact this h
  rw [h0]; exact Sk.nil _ _
set_option maxHeartbeats 8000000 in
theorem Zoy {K K1 K2 : Nat -> Prop} (a : Option Addr) (n c : Nat) (vs : List (Value × Value)) (l : PList) (ak : Option Addr) (nk ck : Nat) (k : List Int) (al : Option Addr) (nl cl : Nat) (M : List (List Int)) (w : World) (hl : PAt K w a n c vs l) (hn : n <= 1048576) (hk : Sk K1 w ak nk ck k) (hL : Bt K2 w al nl M) (hnc : nl <= cl) (hnil : al = none -> cl = 0) (hnl : nl <= 1048576) (hM : ∀ b ∈ M, b.length <= 1048576) :
  Calls Tryz.prog 6 #[.slice a n c, .slice ak nk ck, .slice al nl cl] w fun e w' => e = .returned (.bool true) /\ Bl w w' := by
 have hB := Bl.refl w
 have lk := hk.len
 have hL0 := hL
 have hkB : isB k := hk.ag.b
 refine Zal Tryz.func6 rfl 81 rfl ?_
 show CW _ _ _ _ _ _ _ [(0, .slice a n c), (1, .slice ak nk ck), (2, .slice al nl cl)] _
 refine Zac <| Zaa <| rp 6 (.bool false) <| Zad <| Zab <| Zac <| Zac <| Zaa <| Zap 16 9 #[] (fun _ => by kernel_rfl) (fun _ => by kernel_rfl) (R := fun u w' => u = .bool true /\ Bl w w') (Zsp) ?_
 rintro _ u1 ⟨rfl, hb1⟩
 replace hB := hB.go hb1
 replace hl := hl.go hb1
 replace hk := hk.go hb1
 replace hL := hL.go hb1
 refine rp 17 (.bool false) <| Zad <| Zab <| Zaf (fun _ => by kernel_rfl) <| Zan <| Zab <| Zac <| Zaa <| rp 19 (.slice a n c) <| Zap 20 10 #[.slice a n c] (fun _ => by kernel_rfl) (fun _ => by kernel_rfl) (R := StR u1 n) (Zoa hl (by omega)) ?_
 rintro _ u2 ⟨⟨g, aS, mS, cS, vsS, t, L, rfl, hgT, hT, hP, hRel, hLn, hsz⟩, hb2⟩
 replace hB := hB.go hb2
 replace hl := hl.go hb2
 replace hk := hk.go hb2
 replace hL := hL.go hb2
 have hMn : (nmd t).length + 1 <= 7600000000000 := by have := Zvq t; omega
 have hdl := Zod t
 have hdb := Zp5 t
 have hmS := hP.ll
 have hOk := hRel.ok
 have hVb : Vb t := by obtain ⟨⟨v, _, h2⟩, _⟩ := hT; exact h2.vb
 refine rp 18 (.tuple #[.pointer (some ⟨g, 0, none⟩), .slice aS mS cS]) <| rp 21 (.pointer (some ⟨g, 0, none⟩)) <| rp 22 (.slice aS mS cS) <| rp 7 (.pointer (some ⟨g, 0, none⟩)) <| rp 8 (.slice aS mS cS) <| Zad <| Zab <| Zac <| Zaa <| rp 24 (.pointer (some ⟨g, 0, none⟩)) <| Zap 25 14 #[.pointer (some ⟨g, 0, none⟩)] (fun _ => by kernel_rfl) (fun _ => by kernel_rfl) (R := fun u w' => u = .agg (B8 (rootP t)) /\ Bl (u2) w') ((Zi2 hT (by omega))) ?_
 rintro _ u3 ⟨rfl, hb3⟩
 replace hB := hB.go hb3
 replace hl := hl.go hb3
 replace hk := hk.go hb3
 replace hL := hL.go hb3
 replace hT := hT.go hb3
 replace hP := hP.go hb3
 refine rp 26 (.slice ak nk ck) <| rp 27 (.slice al nl cl) <| Zap 28 17 #[.agg (B8 (rootP t)), .slice ak nk ck, .slice al nl cl] (fun _ => by kernel_rfl) (fun _ => by kernel_rfl) (R := VfR u3 (vfP (rootP t) k M)) (Zfd hdl hdb hk hL hnc (fun b hb => by have := hM b hb; omega)) ?_
 rintro _ u4 ⟨⟨a9, n9, c9, rfl, hs9⟩, hb4⟩
 replace hB := hB.go hb4
 replace hl := hl.go hb4
 replace hk := hk.go hb4
 replace hL := hL.go hb4
 replace hT := hT.go hb4
 replace hP := hP.go hb4
 refine rp 23 (.tuple #[.slice a9 n9 c9, .bool (decide (0 < n9)), .int .i64 (vfP (rootP t) k M).1]) <| rp 29 (.slice a9 n9 c9) <| rp 30 (.bool (decide (0 < n9))) <| rp 31 (.int .i64 (vfP (rootP t) k M).1) <| rp 9 (.slice a9 n9 c9) <| rp 10 (.bool (decide (0 < n9))) <| rp 11 (.int .i64 (vfP (rootP t) k M).1) <| Zad <| Zab <| Zac <| Zac ?_
 rcases Zs6 (rootP t) k M with ⟨hvf, hk32⟩ | hvf | ⟨v, hvf, hk32⟩
 ·skip
  rw [hvf] at hs9
  rw [hvf]
  obtain rfl : 0 = n9 := hs9.len
  refine Zbq [(11, .int .i64 70), (10, .bool false), (9, .slice a9 0 c9), (31, .int .i64 70), (30, .bool false), (29, .slice a9 0 c9), (23, .tuple #[.slice a9 0 c9, .bool false, .int .i64 70]), (28, .tuple #[.slice a9 0 c9, .bool false, .int .i64 70]), (27, .slice al nl cl), (26, .slice ak nk ck), (25, .agg (B8 (rootP t))), (24, .pointer (some ⟨g, 0, none⟩)), (8, .slice aS mS cS), (7, .pointer (some ⟨g, 0, none⟩)), (22, .slice aS mS cS), (21, .pointer (some ⟨g, 0, none⟩)), (18, .tuple #[.pointer (some ⟨g, 0, none⟩), .slice aS mS cS]), (20, .tuple #[.pointer (some ⟨g, 0, none⟩), .slice aS mS cS]), (19, .slice a n c), (17, .bool false), (16, .bool true), (6, .bool false), (0, .slice a n c), (1, .slice ak nk ck), (2, .slice al nl cl)] (by exact ⟨fun _ => by kernel_rfl, ⟨fun _ => by kernel_rfl, ⟨fun _ => by kernel_rfl, ⟨fun _ => by kernel_rfl, ⟨fun _ => by kernel_rfl, ⟨fun _ => by kernel_rfl, ⟨fun _ => by kernel_rfl, ⟨fun _ => by kernel_rfl, ⟨fun _ => by kernel_rfl, ⟨fun _ => by kernel_rfl, ⟨fun _ => by kernel_rfl, ⟨fun _ => by kernel_rfl, ⟨fun _ => by kernel_rfl, ⟨fun _ => by kernel_rfl, ⟨fun _ => by kernel_rfl, ⟨fun _ => by kernel_rfl, ⟨fun _ => by kernel_rfl, ⟨fun _ => by kernel_rfl, ⟨fun _ => by kernel_rfl, ⟨fun _ => by kernel_rfl, ⟨fun _ => by kernel_rfl, ⟨fun _ => by kernel_rfl, ⟨fun _ => by kernel_rfl, ⟨fun _ => by kernel_rfl, ⟨fun _ => by kernel_rfl, trivial⟩⟩⟩⟩⟩⟩⟩⟩⟩⟩⟩⟩⟩⟩⟩⟩⟩⟩⟩⟩⟩⟩⟩⟩⟩) <| Zaa <| rp 32 (.int .i64 70) <| rp 33 (.bool true) <| Zad <| Zab <| Zak (fun _ => by kernel_rfl) <| Zac <| Zaa <| rp 34 (.slice a9 0 c9) <| rp 35 (.int .i64 0) <| rp 36 (.bool true) ?_
  refine rp 37 (.bool true) <| rp 38 (.bool false) <| rp 39 (.bool true) <| rp 40 (.bool true) <| rp 41 (.bool true) <| rp 42 (.int .i64 70) <| rp 43 (.bool false) <| rp 44 (.bool false) <| rp 45 (.int .i64 70) <| rp 46 (.bool true) <| rp 47 (.bool true) <| rp 48 (.slice ak nk ck) ?_
  refine rp 49 (.int .i64 nk) <| rv 50 (.bool true) (fun _ => Zaj (v := .bool (decide ((nk : Int) > (32 : Int)))) (by kernel_rfl) (congrArg Value.bool (decide_eq_true (by omega)))) <| rp 51 (.bool true) <| rp 52 (.bool true) <| rp 53 (.bool true) <| rp 6 (.bool true) <| Zad <| Zab <| Zam <| Zah ?_
  exact Zae (.bool true) (fun _ => by kernel_rfl) ⟨rfl, hB⟩
 ·skip
  rw [hvf] at hs9
  rw [hvf]
  obtain rfl : 0 = n9 := hs9.len
  refine Zbq [(11, .int .i64 90), (10, .bool false), (9, .slice a9 0 c9), (31, .int .i64 90), (30, .bool false), (29, .slice a9 0 c9), (23, .tuple #[.slice a9 0 c9, .bool false, .int .i64 90]), (28, .tuple #[.slice a9 0 c9, .bool false, .int .i64 90]), (27, .slice al nl cl), (26, .slice ak nk ck), (25, .agg (B8 (rootP t))), (24, .pointer (some ⟨g, 0, none⟩)), (8, .slice aS mS cS), (7, .pointer (some ⟨g, 0, none⟩)), (22, .slice aS mS cS), (21, .pointer (some ⟨g, 0, none⟩)), (18, .tuple #[.pointer (some ⟨g, 0, none⟩), .slice aS mS cS]), (20, .tuple #[.pointer (some ⟨g, 0, none⟩), .slice aS mS cS]), (19, .slice a n c), (17, .bool false), (16, .bool true), (6, .bool false), (0, .slice a n c), (1, .slice ak nk ck), (2, .slice al nl cl)] (by exact ⟨fun _ => by kernel_rfl, ⟨fun _ => by kernel_rfl, ⟨fun _ => by kernel_rfl, ⟨fun _ => by kernel_rfl, ⟨fun _ => by kernel_rfl, ⟨fun _ => by kernel_rfl, ⟨fun _ => by kernel_rfl, ⟨fun _ => by kernel_rfl, ⟨fun _ => by kernel_rfl, ⟨fun _ => by kernel_rfl, ⟨fun _ => by kernel_rfl, ⟨fun _ => by kernel_rfl, ⟨fun _ => by kernel_rfl, ⟨fun _ => by kernel_rfl, ⟨fun _ => by kernel_rfl, ⟨fun _ => by kernel_rfl, ⟨fun _ => by kernel_rfl, ⟨fun _ => by kernel_rfl, ⟨fun _ => by kernel_rfl, ⟨fun _ => by kernel_rfl, ⟨fun _ => by kernel_rfl, ⟨fun _ => by kernel_rfl, ⟨fun _ => by kernel_rfl, ⟨fun _ => by kernel_rfl, ⟨fun _ => by kernel_rfl, trivial⟩⟩⟩⟩⟩⟩⟩⟩⟩⟩⟩⟩⟩⟩⟩⟩⟩⟩⟩⟩⟩⟩⟩⟩⟩) <| Zaa <| rp 32 (.int .i64 90) <| rp 33 (.bool true) <| Zad <| Zab <| Zak (fun _ => by kernel_rfl) <| Zac <| Zaa <| rp 34 (.slice a9 0 c9) <| rp 35 (.int .i64 0) <| rp 36 (.bool true) ?_
  refine rp 37 (.bool true) <| rp 38 (.bool false) <| rp 39 (.bool true) <| rp 40 (.bool true) <| rp 41 (.bool true) <| rp 42 (.int .i64 90) <| rp 43 (.bool true) <| rp 44 (.bool true) <| Zaw 45 (fun _ => by kernel_rfl) <| Zaw 46 (fun _ => by kernel_rfl) <| Zaw 47 (fun _ => by kernel_rfl) <| Zaw 48 (fun _ => by kernel_rfl) ?_
  refine Zaw 49 (fun _ => by kernel_rfl) <| Zaw 50 (fun _ => by kernel_rfl) <| Zaw 51 (fun _ => by kernel_rfl) <| rp 52 (.bool true) <| rp 53 (.bool true) <| rp 6 (.bool true) <| Zad <| Zab <| Zam <| Zah ?_
  exact Zae (.bool true) (fun _ => by kernel_rfl) ⟨rfl, hB⟩
 ·skip
  rw [hvf] at hs9
  rw [hvf]
  replace hs9 : Sk _ _ a9 n9 c9 v := hs9
  have l9 := hs9.len
  refine Zbq [(11, .int .i64 0), (10, .bool (decide (0 < n9))), (9, .slice a9 n9 c9), (31, .int .i64 0), (30, .bool (decide (0 < n9))), (29, .slice a9 n9 c9), (23, .tuple #[.slice a9 n9 c9, .bool (decide (0 < n9)), .int .i64 0]), (28, .tuple #[.slice a9 n9 c9, .bool (decide (0 < n9)), .int .i64 0]), (27, .slice al nl cl), (26, .slice ak nk ck), (25, .agg (B8 (rootP t))), (24, .pointer (some ⟨g, 0, none⟩)), (8, .slice aS mS cS), (7, .pointer (some ⟨g, 0, none⟩)), (22, .slice aS mS cS), (21, .pointer (some ⟨g, 0, none⟩)), (18, .tuple #[.pointer (some ⟨g, 0, none⟩), .slice aS mS cS]), (20, .tuple #[.pointer (some ⟨g, 0, none⟩), .slice aS mS cS]), (19, .slice a n c), (17, .bool false), (16, .bool true), (6, .bool false), (0, .slice a n c), (1, .slice ak nk ck), (2, .slice al nl cl)] (by exact ⟨fun _ => by kernel_rfl, ⟨fun _ => by kernel_rfl, ⟨fun _ => by kernel_rfl, ⟨fun _ => by kernel_rfl, ⟨fun _ => by kernel_rfl, ⟨fun _ => by kernel_rfl, ⟨fun _ => by kernel_rfl, ⟨fun _ => by kernel_rfl, ⟨fun _ => by kernel_rfl, ⟨fun _ => by kernel_rfl, ⟨fun _ => by kernel_rfl, ⟨fun _ => by kernel_rfl, ⟨fun _ => by kernel_rfl, ⟨fun _ => by kernel_rfl, ⟨fun _ => by kernel_rfl, ⟨fun _ => by kernel_rfl, ⟨fun _ => by kernel_rfl, ⟨fun _ => by kernel_rfl, ⟨fun _ => by kernel_rfl, ⟨fun _ => by kernel_rfl, ⟨fun _ => by kernel_rfl, ⟨fun _ => by kernel_rfl, ⟨fun _ => by kernel_rfl, ⟨fun _ => by kernel_rfl, ⟨fun _ => by kernel_rfl, trivial⟩⟩⟩⟩⟩⟩⟩⟩⟩⟩⟩⟩⟩⟩⟩⟩⟩⟩⟩⟩⟩⟩⟩⟩⟩) <| Zaa <| rp 32 (.int .i64 0) <| rp 33 (.bool false) <| Zad <| Zab <| Zaf (fun _ => by kernel_rfl) <| Zan <| Zab <| Zac <| Zaa <| rp 55 (.slice aS mS cS) ?_
  refine rp 56 (.slice ak nk ck) <| Zap 57 19 #[.slice aS mS cS, .slice ak nk ck] (fun _ => by kernel_rfl) (fun _ => by kernel_rfl) (R := fun u w' => (∃ a2 n2 c2, u = .tuple #[.slice a2 n2 c2, .bool (decide (0 < n2)), .int .i64 0] /\ Sk (fun _ => True) w' a2 n2 c2 (Tr.get t (Ni.nib k))) /\ Bl (u4) w') (Ztj hP hRel hk (by omega) (by omega)) ?_
  rintro _ u5 ⟨⟨a2, n2, c2, rfl, hs2⟩, hb5⟩
  replace hB := hB.go hb5
  replace hl := hl.go hb5
  replace hk := hk.go hb5
  replace hL := hL.go hb5
  replace hT := hT.go hb5
  replace hP := hP.go hb5
  replace hs9 := hs9.go hb5
  have l2 := hs2.len
  refine rp 54 (.tuple #[.slice a2 n2 c2, .bool (decide (0 < n2)), .int .i64 0]) <| rp 58 (.slice a2 n2 c2) <| rp 59 (.bool (decide (0 < n2))) <| rp 60 (.int .i64 0) <| rp 12 (.slice a2 n2 c2) <| rp 13 (.bool (decide (0 < n2))) <| rp 14 (.int .i64 0) <| Zad <| Zab <| Zac <| Zac ?_
  refine Zvy (fun E z => ∃ bb, E = [(70, .bool bb), (7, .pointer (some ⟨g, 0, none⟩)), (2, .slice al nl cl)] /\ u5 = z /\ (bb = false -> v ≠ Tr.get t (Ni.nib k))) ?_ ?_
  ·skip
   by_cases hve : v = Tr.get t (Ni.nib k)
   ·skip
    obtain rfl : n9 = n2 := by rw [<- l9, <- l2, hve]
    cases hb9 : decide (0 < n9) with
    | true =>
     refine Zbq [(14, .int .i64 0), (13, .bool true), (12, .slice a2 n9 c2), (60, .int .i64 0), (59, .bool true), (58, .slice a2 n9 c2), (54, .tuple #[.slice a2 n9 c2, .bool true, .int .i64 0]), (57, .tuple #[.slice a2 n9 c2, .bool true, .int .i64 0]), (56, .slice ak nk ck), (55, .slice aS mS cS), (33, .bool false), (32, .int .i64 0), (11, .int .i64 0), (10, .bool true), (9, .slice a9 n9 c9), (31, .int .i64 0), (30, .bool true), (29, .slice a9 n9 c9), (23, .tuple #[.slice a9 n9 c9, .bool true, .int .i64 0]), (28, .tuple #[.slice a9 n9 c9, .bool true, .int .i64 0]), (27, .slice al nl cl), (26, .slice ak nk ck), (25, .agg (B8 (rootP t))), (24, .pointer (some ⟨g, 0, none⟩)), (8, .slice aS mS cS), (7, .pointer (some ⟨g, 0, none⟩)), (22, .slice aS mS cS), (21, .pointer (some ⟨g, 0, none⟩)), (18, .tuple #[.pointer (some ⟨g, 0, none⟩), .slice aS mS cS]), (20, .tuple #[.pointer (some ⟨g, 0, none⟩), .slice aS mS cS]), (19, .slice a n c), (17, .bool false), (16, .bool true), (6, .bool false), (0, .slice a n c), (1, .slice ak nk ck), (2, .slice al nl cl)] (by exact ⟨fun _ => by kernel_rfl, ⟨fun _ => by kernel_rfl, ⟨fun _ => by kernel_rfl, ⟨fun _ => by kernel_rfl, ⟨fun _ => by kernel_rfl, ⟨fun _ => by kernel_rfl, ⟨fun _ => by kernel_rfl, ⟨fun _ => by kernel_rfl, ⟨fun _ => by kernel_rfl, ⟨fun _ => by kernel_rfl, ⟨fun _ => by kernel_rfl, ⟨fun _ => by kernel_rfl, ⟨fun _ => by kernel_rfl, ⟨fun _ => by kernel_rfl, ⟨fun _ => by kernel_rfl, ⟨fun _ => by kernel_rfl, ⟨fun _ => by kernel_rfl, ⟨fun _ => by kernel_rfl, ⟨fun _ => by kernel_rfl, ⟨fun _ => by kernel_rfl, ⟨fun _ => by kernel_rfl, ⟨fun _ => by kernel_rfl, ⟨fun _ => by kernel_rfl, ⟨fun _ => by kernel_rfl, ⟨fun _ => by kernel_rfl, ⟨fun _ => by kernel_rfl, ⟨fun _ => by kernel_rfl, ⟨fun _ => by kernel_rfl, ⟨fun _ => by kernel_rfl, ⟨fun _ => by kernel_rfl, ⟨fun _ => by kernel_rfl, ⟨fun _ => by kernel_rfl, ⟨fun _ => by kernel_rfl, ⟨fun _ => by kernel_rfl, ⟨fun _ => by kernel_rfl, ⟨fun _ => by kernel_rfl, ⟨fun _ => by kernel_rfl, trivial⟩⟩⟩⟩⟩⟩⟩⟩⟩⟩⟩⟩⟩⟩⟩⟩⟩⟩⟩⟩⟩⟩⟩⟩⟩⟩⟩⟩⟩⟩⟩⟩⟩⟩⟩⟩⟩) <| Zaa <| rp 61 (.bool true) <| rp 62 (.bool true) <| rp 63 (.bool true) <| rp 64 (.bool true) <| rp 65 (.slice a9 n9 c9) <| rv 66 (.string (strOfNums v)) (fun _ => hs9.run_str _ _ _ rfl (by kernel_rfl)) <| rp 67 (.slice a2 n9 c2) <| rv 68 (.string (strOfNums (Tr.get t (Ni.nib k)))) (fun _ => hs2.run_str _ _ _ rfl (by kernel_rfl)) <| rv 69 (.bool true) (fun _ => Zii 9 _ _ _ (strOfNums v) (strOfNums (Tr.get t (Ni.nib k))) rfl (by kernel_rfl) (by kernel_rfl) (by rw [Zee hs9.ag.b hs2.ag.b]; simp [hve])) <| rp 70 (.bool true) ?_
     refine Zad ?_
     exact Zfu [(70, .bool true), (7, .pointer (some ⟨g, 0, none⟩)), (2, .slice al nl cl)] (by exact ⟨fun _ => by kernel_rfl, ⟨fun _ => by kernel_rfl, ⟨fun _ => by kernel_rfl, trivial⟩⟩⟩) ⟨true, rfl, rfl, fun h => (by cases h)⟩
    | false =>
     refine Zbq [(14, .int .i64 0), (13, .bool false), (12, .slice a2 n9 c2), (60, .int .i64 0), (59, .bool false), (58, .slice a2 n9 c2), (54, .tuple #[.slice a2 n9 c2, .bool false, .int .i64 0]), (57, .tuple #[.slice a2 n9 c2, .bool false, .int .i64 0]), (56, .slice ak nk ck), (55, .slice aS mS cS), (33, .bool false), (32, .int .i64 0), (11, .int .i64 0), (10, .bool false), (9, .slice a9 n9 c9), (31, .int .i64 0), (30, .bool false), (29, .slice a9 n9 c9), (23, .tuple #[.slice a9 n9 c9, .bool false, .int .i64 0]), (28, .tuple #[.slice a9 n9 c9, .bool false, .int .i64 0]), (27, .slice al nl cl), (26, .slice ak nk ck), (25, .agg (B8 (rootP t))), (24, .pointer (some ⟨g, 0, none⟩)), (8, .slice aS mS cS), (7, .pointer (some ⟨g, 0, none⟩)), (22, .slice aS mS cS), (21, .pointer (some ⟨g, 0, none⟩)), (18, .tuple #[.pointer (some ⟨g, 0, none⟩), .slice aS mS cS]), (20, .tuple #[.pointer (some ⟨g, 0, none⟩), .slice aS mS cS]), (19, .slice a n c), (17, .bool false), (16, .bool true), (6, .bool false), (0, .slice a n c), (1, .slice ak nk ck), (2, .slice al nl cl)] (by exact ⟨fun _ => by kernel_rfl, ⟨fun _ => by kernel_rfl, ⟨fun _ => by kernel_rfl, ⟨fun _ => by kernel_rfl, ⟨fun _ => by kernel_rfl, ⟨fun _ => by kernel_rfl, ⟨fun _ => by kernel_rfl, ⟨fun _ => by kernel_rfl, ⟨fun _ => by kernel_rfl, ⟨fun _ => by kernel_rfl, ⟨fun _ => by kernel_rfl, ⟨fun _ => by kernel_rfl, ⟨fun _ => by kernel_rfl, ⟨fun _ => by kernel_rfl, ⟨fun _ => by kernel_rfl, ⟨fun _ => by kernel_rfl, ⟨fun _ => by kernel_rfl, ⟨fun _ => by kernel_rfl, ⟨fun _ => by kernel_rfl, ⟨fun _ => by kernel_rfl, ⟨fun _ => by kernel_rfl, ⟨fun _ => by kernel_rfl, ⟨fun _ => by kernel_rfl, ⟨fun _ => by kernel_rfl, ⟨fun _ => by kernel_rfl, ⟨fun _ => by kernel_rfl, ⟨fun _ => by kernel_rfl, ⟨fun _ => by kernel_rfl, ⟨fun _ => by kernel_rfl, ⟨fun _ => by kernel_rfl, ⟨fun _ => by kernel_rfl, ⟨fun _ => by kernel_rfl, ⟨fun _ => by kernel_rfl, ⟨fun _ => by kernel_rfl, ⟨fun _ => by kernel_rfl, ⟨fun _ => by kernel_rfl, ⟨fun _ => by kernel_rfl, trivial⟩⟩⟩⟩⟩⟩⟩⟩⟩⟩⟩⟩⟩⟩⟩⟩⟩⟩⟩⟩⟩⟩⟩⟩⟩⟩⟩⟩⟩⟩⟩⟩⟩⟩⟩⟩⟩) <| Zaa <| rp 61 (.bool false) <| rp 62 (.bool false) <| rp 63 (.bool true) <| rp 64 (.bool true) <| rp 65 (.slice a9 n9 c9) <| rv 66 (.string (strOfNums v)) (fun _ => hs9.run_str _ _ _ rfl (by kernel_rfl)) <| rp 67 (.slice a2 n9 c2) <| rv 68 (.string (strOfNums (Tr.get t (Ni.nib k)))) (fun _ => hs2.run_str _ _ _ rfl (by kernel_rfl)) <| rv 69 (.bool true) (fun _ => Zii 9 _ _ _ (strOfNums v) (strOfNums (Tr.get t (Ni.nib k))) rfl (by kernel_rfl) (by kernel_rfl) (by rw [Zee hs9.ag.b hs2.ag.b]; simp [hve])) <| rp 70 (.bool true) ?_
     refine Zad ?_
     exact Zfu [(70, .bool true), (7, .pointer (some ⟨g, 0, none⟩)), (2, .slice al nl cl)] (by exact ⟨fun _ => by kernel_rfl, ⟨fun _ => by kernel_rfl, ⟨fun _ => by kernel_rfl, trivial⟩⟩⟩) ⟨true, rfl, rfl, fun h => (by cases h)⟩
   ·skip
    cases hb9 : decide (0 < n9) with
    | true =>
     cases hb2_ : decide (0 < n2) with
     | true =>
      refine Zbq [(14, .int .i64 0), (13, .bool true), (12, .slice a2 n2 c2), (60, .int .i64 0), (59, .bool true), (58, .slice a2 n2 c2), (54, .tuple #[.slice a2 n2 c2, .bool true, .int .i64 0]), (57, .tuple #[.slice a2 n2 c2, .bool true, .int .i64 0]), (56, .slice ak nk ck), (55, .slice aS mS cS), (33, .bool false), (32, .int .i64 0), (11, .int .i64 0), (10, .bool true), (9, .slice a9 n9 c9), (31, .int .i64 0), (30, .bool true), (29, .slice a9 n9 c9), (23, .tuple #[.slice a9 n9 c9, .bool true, .int .i64 0]), (28, .tuple #[.slice a9 n9 c9, .bool true, .int .i64 0]), (27, .slice al nl cl), (26, .slice ak nk ck), (25, .agg (B8 (rootP t))), (24, .pointer (some ⟨g, 0, none⟩)), (8, .slice aS mS cS), (7, .pointer (some ⟨g, 0, none⟩)), (22, .slice aS mS cS), (21, .pointer (some ⟨g, 0, none⟩)), (18, .tuple #[.pointer (some ⟨g, 0, none⟩), .slice aS mS cS]), (20, .tuple #[.pointer (some ⟨g, 0, none⟩), .slice aS mS cS]), (19, .slice a n c), (17, .bool false), (16, .bool true), (6, .bool false), (0, .slice a n c), (1, .slice ak nk ck), (2, .slice al nl cl)] (by exact ⟨fun _ => by kernel_rfl, ⟨fun _ => by kernel_rfl, ⟨fun _ => by kernel_rfl, ⟨fun _ => by kernel_rfl, ⟨fun _ => by kernel_rfl, ⟨fun _ => by kernel_rfl, ⟨fun _ => by kernel_rfl, ⟨fun _ => by kernel_rfl, ⟨fun _ => by kernel_rfl, ⟨fun _ => by kernel_rfl, ⟨fun _ => by kernel_rfl, ⟨fun _ => by kernel_rfl, ⟨fun _ => by kernel_rfl, ⟨fun _ => by kernel_rfl, ⟨fun _ => by kernel_rfl, ⟨fun _ => by kernel_rfl, ⟨fun _ => by kernel_rfl, ⟨fun _ => by kernel_rfl, ⟨fun _ => by kernel_rfl, ⟨fun _ => by kernel_rfl, ⟨fun _ => by kernel_rfl, ⟨fun _ => by kernel_rfl, ⟨fun _ => by kernel_rfl, ⟨fun _ => by kernel_rfl, ⟨fun _ => by kernel_rfl, ⟨fun _ => by kernel_rfl, ⟨fun _ => by kernel_rfl, ⟨fun _ => by kernel_rfl, ⟨fun _ => by kernel_rfl, ⟨fun _ => by kernel_rfl, ⟨fun _ => by kernel_rfl, ⟨fun _ => by kernel_rfl, ⟨fun _ => by kernel_rfl, ⟨fun _ => by kernel_rfl, ⟨fun _ => by kernel_rfl, ⟨fun _ => by kernel_rfl, ⟨fun _ => by kernel_rfl, trivial⟩⟩⟩⟩⟩⟩⟩⟩⟩⟩⟩⟩⟩⟩⟩⟩⟩⟩⟩⟩⟩⟩⟩⟩⟩⟩⟩⟩⟩⟩⟩⟩⟩⟩⟩⟩⟩) <| Zaa <| rp 61 (.bool true) <| rp 62 (.bool true) <| rp 63 (.bool true) <| rp 64 (.bool true) <| rp 65 (.slice a9 n9 c9) <| rv 66 (.string (strOfNums v)) (fun _ => hs9.run_str _ _ _ rfl (by kernel_rfl)) <| rp 67 (.slice a2 n2 c2) <| rv 68 (.string (strOfNums (Tr.get t (Ni.nib k)))) (fun _ => hs2.run_str _ _ _ rfl (by kernel_rfl)) <| rv 69 (.bool false) (fun _ => Zii 9 _ _ _ (strOfNums v) (strOfNums (Tr.get t (Ni.nib k))) rfl (by kernel_rfl) (by kernel_rfl) (by rw [Zee hs9.ag.b hs2.ag.b]; simp [hve])) <| rp 70 (.bool false) ?_
      refine Zad ?_
      exact Zfu [(70, .bool false), (7, .pointer (some ⟨g, 0, none⟩)), (2, .slice al nl cl)] (by exact ⟨fun _ => by kernel_rfl, ⟨fun _ => by kernel_rfl, ⟨fun _ => by kernel_rfl, trivial⟩⟩⟩) ⟨false, rfl, rfl, fun _ e => hve e⟩
     | false =>
      refine Zbq [(14, .int .i64 0), (13, .bool false), (12, .slice a2 n2 c2), (60, .int .i64 0), (59, .bool false), (58, .slice a2 n2 c2), (54, .tuple #[.slice a2 n2 c2, .bool false, .int .i64 0]), (57, .tuple #[.slice a2 n2 c2, .bool false, .int .i64 0]), (56, .slice ak nk ck), (55, .slice aS mS cS), (33, .bool false), (32, .int .i64 0), (11, .int .i64 0), (10, .bool true), (9, .slice a9 n9 c9), (31, .int .i64 0), (30, .bool true), (29, .slice a9 n9 c9), (23, .tuple #[.slice a9 n9 c9, .bool true, .int .i64 0]), (28, .tuple #[.slice a9 n9 c9, .bool true, .int .i64 0]), (27, .slice al nl cl), (26, .slice ak nk ck), (25, .agg (B8 (rootP t))), (24, .pointer (some ⟨g, 0, none⟩)), (8, .slice aS mS cS), (7, .pointer (some ⟨g, 0, none⟩)), (22, .slice aS mS cS), (21, .pointer (some ⟨g, 0, none⟩)), (18, .tuple #[.pointer (some ⟨g, 0, none⟩), .slice aS mS cS]), (20, .tuple #[.pointer (some ⟨g, 0, none⟩), .slice aS mS cS]), (19, .slice a n c), (17, .bool false), (16, .bool true), (6, .bool false), (0, .slice a n c), (1, .slice ak nk ck), (2, .slice al nl cl)] (by exact ⟨fun _ => by kernel_rfl, ⟨fun _ => by kernel_rfl, ⟨fun _ => by kernel_rfl, ⟨fun _ => by kernel_rfl, ⟨fun _ => by kernel_rfl, ⟨fun _ => by kernel_rfl, ⟨fun _ => by kernel_rfl, ⟨fun _ => by kernel_rfl, ⟨fun _ => by kernel_rfl, ⟨fun _ => by kernel_rfl, ⟨fun _ => by kernel_rfl, ⟨fun _ => by kernel_rfl, ⟨fun _ => by kernel_rfl, ⟨fun _ => by kernel_rfl, ⟨fun _ => by kernel_rfl, ⟨fun _ => by kernel_rfl, ⟨fun _ => by kernel_rfl, ⟨fun _ => by kernel_rfl, ⟨fun _ => by kernel_rfl, ⟨fun _ => by kernel_rfl, ⟨fun _ => by kernel_rfl, ⟨fun _ => by kernel_rfl, ⟨fun _ => by kernel_rfl, ⟨fun _ => by kernel_rfl, ⟨fun _ => by kernel_rfl, ⟨fun _ => by kernel_rfl, ⟨fun _ => by kernel_rfl, ⟨fun _ => by kernel_rfl, ⟨fun _ => by kernel_rfl, ⟨fun _ => by kernel_rfl, ⟨fun _ => by kernel_rfl, ⟨fun _ => by kernel_rfl, ⟨fun _ => by kernel_rfl, ⟨fun _ => by kernel_rfl, ⟨fun _ => by kernel_rfl, ⟨fun _ => by kernel_rfl, ⟨fun _ => by kernel_rfl, trivial⟩⟩⟩⟩⟩⟩⟩⟩⟩⟩⟩⟩⟩⟩⟩⟩⟩⟩⟩⟩⟩⟩⟩⟩⟩⟩⟩⟩⟩⟩⟩⟩⟩⟩⟩⟩⟩) <| Zaa <| rp 61 (.bool true) <| rp 62 (.bool false) <| rp 63 (.bool false) <| rp 64 (.bool false) <| Zaw 65 (fun _ => by kernel_rfl) <| Zaw 66 (fun _ => by kernel_rfl) <| Zaw 67 (fun _ => by kernel_rfl) <| Zaw 68 (fun _ => by kernel_rfl) <| Zaw 69 (fun _ => by kernel_rfl) <| rp 70 (.bool false) ?_
      refine Zad ?_
      exact Zfu [(70, .bool false), (7, .pointer (some ⟨g, 0, none⟩)), (2, .slice al nl cl)] (by exact ⟨fun _ => by kernel_rfl, ⟨fun _ => by kernel_rfl, ⟨fun _ => by kernel_rfl, trivial⟩⟩⟩) ⟨false, rfl, rfl, fun _ e => hve e⟩
    | false =>
     cases hb2_ : decide (0 < n2) with
     | true =>
      refine Zbq [(14, .int .i64 0), (13, .bool true), (12, .slice a2 n2 c2), (60, .int .i64 0), (59, .bool true), (58, .slice a2 n2 c2), (54, .tuple #[.slice a2 n2 c2, .bool true, .int .i64 0]), (57, .tuple #[.slice a2 n2 c2, .bool true, .int .i64 0]), (56, .slice ak nk ck), (55, .slice aS mS cS), (33, .bool false), (32, .int .i64 0), (11, .int .i64 0), (10, .bool false), (9, .slice a9 n9 c9), (31, .int .i64 0), (30, .bool false), (29, .slice a9 n9 c9), (23, .tuple #[.slice a9 n9 c9, .bool false, .int .i64 0]), (28, .tuple #[.slice a9 n9 c9, .bool false, .int .i64 0]), (27, .slice al nl cl), (26, .slice ak nk ck), (25, .agg (B8 (rootP t))), (24, .pointer (some ⟨g, 0, none⟩)), (8, .slice aS mS cS), (7, .pointer (some ⟨g, 0, none⟩)), (22, .slice aS mS cS), (21, .pointer (some ⟨g, 0, none⟩)), (18, .tuple #[.pointer (some ⟨g, 0, none⟩), .slice aS mS cS]), (20, .tuple #[.pointer (some ⟨g, 0, none⟩), .slice aS mS cS]), (19, .slice a n c), (17, .bool false), (16, .bool true), (6, .bool false), (0, .slice a n c), (1, .slice ak nk ck), (2, .slice al nl cl)] (by exact ⟨fun _ => by kernel_rfl, ⟨fun _ => by kernel_rfl, ⟨fun _ => by kernel_rfl, ⟨fun _ => by kernel_rfl, ⟨fun _ => by kernel_rfl, ⟨fun _ => by kernel_rfl, ⟨fun _ => by kernel_rfl, ⟨fun _ => by kernel_rfl, ⟨fun _ => by kernel_rfl, ⟨fun _ => by kernel_rfl, ⟨fun _ => by kernel_rfl, ⟨fun _ => by kernel_rfl, ⟨fun _ => by kernel_rfl, ⟨fun _ => by kernel_rfl, ⟨fun _ => by kernel_rfl, ⟨fun _ => by kernel_rfl, ⟨fun _ => by kernel_rfl, ⟨fun _ => by kernel_rfl, ⟨fun _ => by kernel_rfl, ⟨fun _ => by kernel_rfl, ⟨fun _ => by kernel_rfl, ⟨fun _ => by kernel_rfl, ⟨fun _ => by kernel_rfl, ⟨fun _ => by kernel_rfl, ⟨fun _ => by kernel_rfl, ⟨fun _ => by kernel_rfl, ⟨fun _ => by kernel_rfl, ⟨fun _ => by kernel_rfl, ⟨fun _ => by kernel_rfl, ⟨fun _ => by kernel_rfl, ⟨fun _ => by kernel_rfl, ⟨fun _ => by kernel_rfl, ⟨fun _ => by kernel_rfl, ⟨fun _ => by kernel_rfl, ⟨fun _ => by kernel_rfl, ⟨fun _ => by kernel_rfl, ⟨fun _ => by kernel_rfl, trivial⟩⟩⟩⟩⟩⟩⟩⟩⟩⟩⟩⟩⟩⟩⟩⟩⟩⟩⟩⟩⟩⟩⟩⟩⟩⟩⟩⟩⟩⟩⟩⟩⟩⟩⟩⟩⟩) <| Zaa <| rp 61 (.bool false) <| rp 62 (.bool true) <| rp 63 (.bool false) <| rp 64 (.bool false) <| Zaw 65 (fun _ => by kernel_rfl) <| Zaw 66 (fun _ => by kernel_rfl) <| Zaw 67 (fun _ => by kernel_rfl) <| Zaw 68 (fun _ => by kernel_rfl) <| Zaw 69 (fun _ => by kernel_rfl) <| rp 70 (.bool false) ?_
      refine Zad ?_
      exact Zfu [(70, .bool false), (7, .pointer (some ⟨g, 0, none⟩)), (2, .slice al nl cl)] (by exact ⟨fun _ => by kernel_rfl, ⟨fun _ => by kernel_rfl, ⟨fun _ => by kernel_rfl, trivial⟩⟩⟩) ⟨false, rfl, rfl, fun _ e => hve e⟩
     | false =>
      refine Zbq [(14, .int .i64 0), (13, .bool false), (12, .slice a2 n2 c2), (60, .int .i64 0), (59, .bool false), (58, .slice a2 n2 c2), (54, .tuple #[.slice a2 n2 c2, .bool false, .int .i64 0]), (57, .tuple #[.slice a2 n2 c2, .bool false, .int .i64 0]), (56, .slice ak nk ck), (55, .slice aS mS cS), (33, .bool false), (32, .int .i64 0), (11, .int .i64 0), (10, .bool false), (9, .slice a9 n9 c9), (31, .int .i64 0), (30, .bool false), (29, .slice a9 n9 c9), (23, .tuple #[.slice a9 n9 c9, .bool false, .int .i64 0]), (28, .tuple #[.slice a9 n9 c9, .bool false, .int .i64 0]), (27, .slice al nl cl), (26, .slice ak nk ck), (25, .agg (B8 (rootP t))), (24, .pointer (some ⟨g, 0, none⟩)), (8, .slice aS mS cS), (7, .pointer (some ⟨g, 0, none⟩)), (22, .slice aS mS cS), (21, .pointer (some ⟨g, 0, none⟩)), (18, .tuple #[.pointer (some ⟨g, 0, none⟩), .slice aS mS cS]), (20, .tuple #[.pointer (some ⟨g, 0, none⟩), .slice aS mS cS]), (19, .slice a n c), (17, .bool false), (16, .bool true), (6, .bool false), (0, .slice a n c), (1, .slice ak nk ck), (2, .slice al nl cl)] (by exact ⟨fun _ => by kernel_rfl, ⟨fun _ => by kernel_rfl, ⟨fun _ => by kernel_rfl, ⟨fun _ => by kernel_rfl, ⟨fun _ => by kernel_rfl, ⟨fun _ => by kernel_rfl, ⟨fun _ => by kernel_rfl, ⟨fun _ => by kernel_rfl, ⟨fun _ => by kernel_rfl, ⟨fun _ => by kernel_rfl, ⟨fun _ => by kernel_rfl, ⟨fun _ => by kernel_rfl, ⟨fun _ => by kernel_rfl, ⟨fun _ => by kernel_rfl, ⟨fun _ => by kernel_rfl, ⟨fun _ => by kernel_rfl, ⟨fun _ => by kernel_rfl, ⟨fun _ => by kernel_rfl, ⟨fun _ => by kernel_rfl, ⟨fun _ => by kernel_rfl, ⟨fun _ => by kernel_rfl, ⟨fun _ => by kernel_rfl, ⟨fun _ => by kernel_rfl, ⟨fun _ => by kernel_rfl, ⟨fun _ => by kernel_rfl, ⟨fun _ => by kernel_rfl, ⟨fun _ => by kernel_rfl, ⟨fun _ => by kernel_rfl, ⟨fun _ => by kernel_rfl, ⟨fun _ => by kernel_rfl, ⟨fun _ => by kernel_rfl, ⟨fun _ => by kernel_rfl, ⟨fun _ => by kernel_rfl, ⟨fun _ => by kernel_rfl, ⟨fun _ => by kernel_rfl, ⟨fun _ => by kernel_rfl, ⟨fun _ => by kernel_rfl, trivial⟩⟩⟩⟩⟩⟩⟩⟩⟩⟩⟩⟩⟩⟩⟩⟩⟩⟩⟩⟩⟩⟩⟩⟩⟩⟩⟩⟩⟩⟩⟩⟩⟩⟩⟩⟩⟩) <| Zaa <| rp 61 (.bool false) <| rp 62 (.bool false) <| rp 63 (.bool true) <| rp 64 (.bool true) <| rp 65 (.slice a9 n9 c9) <| rv 66 (.string (strOfNums v)) (fun _ => hs9.run_str _ _ _ rfl (by kernel_rfl)) <| rp 67 (.slice a2 n2 c2) <| rv 68 (.string (strOfNums (Tr.get t (Ni.nib k)))) (fun _ => hs2.run_str _ _ _ rfl (by kernel_rfl)) <| rv 69 (.bool false) (fun _ => Zii 9 _ _ _ (strOfNums v) (strOfNums (Tr.get t (Ni.nib k))) rfl (by kernel_rfl) (by kernel_rfl) (by rw [Zee hs9.ag.b hs2.ag.b]; simp [hve])) <| rp 70 (.bool false) ?_
      refine Zad ?_
      exact Zfu [(70, .bool false), (7, .pointer (some ⟨g, 0, none⟩)), (2, .slice al nl cl)] (by exact ⟨fun _ => by kernel_rfl, ⟨fun _ => by kernel_rfl, ⟨fun _ => by kernel_rfl, trivial⟩⟩⟩) ⟨false, rfl, rfl, fun _ e => hve e⟩
  rintro _ _ ⟨bb, rfl, rfl, hbb⟩
  refine Zab ?_
  cases bb with
  | true =>
   refine Zak (fun _ => by kernel_rfl) <| Zac <| Zaa <| rp 6 (.bool true) <| Zad <| Zab <| Zam <| Zah ?_
   exact Zae (.bool true) (fun _ => by kernel_rfl) ⟨rfl, hB⟩
  | false =>
   replace hbb := hbb rfl
   refine Zaf (fun _ => by kernel_rfl) <| Zan <| Zab <| Zac ?_
   have hB0 := hB
   refine Zaa <| rp 71 (.pointer (some ⟨g, 0, none⟩)) <| Zap 72 20 #[.pointer (some ⟨g, 0, none⟩)] (fun _ => by kernel_rfl) (fun _ => by kernel_rfl) (R := RNo (u5) t) (Zqr hT hMn) ?_
   rintro _ u6 ⟨⟨aN, nN, cN, rfl, hN, _, _⟩, hb6⟩
   replace hB := hB.go hb6
   replace hl := hl.go hb6
   replace hk := hk.go hb6
   replace hL := hL.go hb6
   replace hT := hT.go hb6
   replace hP := hP.go hb6
   replace hs9 := hs9.go hb6
   replace hs2 := hs2.go hb6
   have hz6 := hB.size
   have hNl := hN.len
   have hNz : nN <= 4000000 := by have := Zol t; have := Zvq t; omega
   have hNs := Zku hOk hVb
   refine Zap 73 16 #[.slice aN nN cN] (fun _ => by kernel_rfl) (fun _ => by kernel_rfl) (R := fun u w' => OwnS w' u6.heap.size u (nodesP t) /\ Bl u6 w') (Zo5 hN (fun b hb => by have := hNs b hb; omega) (by omega)) ?_
   rintro vC u7 ⟨hO, hb7⟩
   have hz7 := hb7.size
   replace hB := hB.go hb7
   replace hl := hl.go hb7
   replace hk := hk.go hb7
   replace hL := hL.go hb7
   replace hT := hT.go hb7
   replace hP := hP.go hb7
   replace hs9 := hs9.go hb7
   replace hs2 := hs2.go hb7
   refine Zbe 74 #[.int .u8 128] 5 1 (fun _ => by kernel_rfl) (fun _ => by kernel_rfl) ?_
   intro w8 g8 hn8
   have h128 : Sk (fun b => vC.ownBlock ≠ some b) w8 (some ⟨g8, 0, none⟩) 1 1 [128] := Zm8 (by omega) hn8 (fun b hb e => by have := (hO.own b e).2; omega)
   replace hB := hB.go hn8.below
   replace hl := hl.go hn8.below
   replace hk := hk.go hn8.below
   replace hL := hL.go hn8.below
   replace hT := hT.go hn8.below
   replace hP := hP.go hn8.below
   replace hs9 := hs9.go hn8.below
   replace hs2 := hs2.go hn8.below
   replace hO := hO.far hn8.below
   refine Zbe 75 #[.slice (some ⟨g8, 0, none⟩) 1 1] 23 1 (fun _ => by kernel_rfl) (fun _ => by kernel_rfl) ?_
   intro w9 g9 hn9
   have hB9 := Bt.one hn9 h128
   replace hB := hB.go hn9.below
   replace hl := hl.go hn9.below
   replace hk := hk.go hn9.below
   replace hL := hL.go hn9.below
   replace hT := hT.go hn9.below
   replace hP := hP.go hn9.below
   replace hs9 := hs9.go hn9.below
   replace hs2 := hs2.go hn9.below
   replace hO := hO.far hn9.below
   obtain ⟨vP, wA, hrA, hO2, hbA⟩ := appT (c := 1) hO hB9 (fun b hb => hb) (by omega) (by have := hn8.below.size; have := hn9.below.size; omega)
   refine rw_v 76 vP (fun _ => by kernel_rfl) (fun _ => Zde hrA _ _ rfl (by kernel_rfl) (by kernel_rfl)) ?_
   have hBA : Bl w wA := Below.trans hB (hbA.mono (Nat.le_trans hz6 (Nat.le_refl _)))
   refine rp 15 (vP) <| Zad <| Zab <| Zac <| Zaa <| rp 77 (vP) <| rp 78 (.slice al nl cl) ?_
   have hLA := (hL0.old.go hBA)
   obtain ⟨vQ, wD, hrD, hO3, hbD⟩ := appTn hO2 hLA hnil (fun b hb e => by have := (hO2.own b e).1; have : b < w.heap.size := hb; omega) (by rw [List.length_append, List.length_singleton]; omega) (by have := hbA.size; have := hn8.below.size; have := hn9.below.size; omega)
   refine rw_v 79 vQ (fun _ => by kernel_rfl) (fun _ => Zde hrD _ _ rfl (by kernel_rfl) (by kernel_rfl)) ?_
   have hBD : Bl w wD := Below.trans hBA (hbD.mono hz6)
   obtain ⟨aQ, cQ, rfl, hBt, hcQ⟩ := hO3.bt
   have hnoc : ¬ NoC (nodesP t ++ [[128]] ++ M) := fun hA => hbb (Zv4 hA hOk hVb hkB (fun b hb => by simp [hb]) (by simp) (fun b hb => by simp [hb]) hk32 hvf)
   have hAl : ∀ b ∈ nodesP t ++ [[128]] ++ M, b.length <= 140737488351232 := fun b hb => by
    simp only [List.mem_append, List.mem_singleton] at hb
    rcases hb with (hb | hb) | hb
    ·have := hNs b hb; omega
    ·rw [hb]; decide
    ·have := hM b hb; omega
   have hll := hL0.len
   refine Zap 80 21 #[.slice aQ (nodesP t ++ [[128]] ++ M).length cQ] (fun _ => by kernel_rfl) (fun _ => by kernel_rfl) (R := fun u w' => u = .bool true /\ Bl wD w') (Zr6 hBt hAl (by rw [List.length_append, List.length_append, List.length_singleton]; omega) (Zz3 hnoc)) ?_
   rintro _ uE ⟨rfl, hbE⟩
   have hB := hBD.go hbE
   refine rp 6 (.bool true) <| Zad <| Zab <| Zam ?_
   exact Zae (.bool true) (fun _ => by kernel_rfl) ⟨rfl, hB⟩
end Go.Proofs.YtefhepcplempkaaGreat
namespace Go.Proofs.YtefhepcplempkaaGreat
open Go.ChangeShapes Go.WideShapes Go.ChangeAt Go.RowKit
open Go.ChangeMaps (open_string shut_string)
theorem own : ownKnob Tryz.prog.godebug = none := by kernel_rfl
theorem Zl5 : laidOutB Tryz.prog = true := by kernel_rfl
theorem Zz5 : Tryz.prog.cellsOf 5 = 1 := by kernel_rfl
end Go.Proofs.YtefhepcplempkaaGreat
namespace Go.Proofs.YtefhepcplempkaaGreat
open Go.ChangeShapes Go.WideShapes Go.ChangeAt Go.RowKit
theorem Zr8 : Tryz.prog.cellsOf 51 = 2 := by kernel_rfl
theorem Zr9 : Tryz.prog.cellsOf 23 = 1 := by kernel_rfl
theorem Zut {H : Type} (d : DataW H) : 1 <= Rows.uptoBulk d := by
 cases d with
 | lit l => cases l <;> simp [Rows.uptoBulk]
 | _ => simp [Rows.uptoBulk]
theorem Zgk {H : Type} : ∀ ds : List (DataW H), ds.length <= Rows.uptoBulkAll ds
 | [] => by simp [Rows.uptoBulkAll]
 | d :: r => by
  have := Zgk r
  have := Zut d
  simp only [Rows.uptoBulkAll, List.length_cons]
  omega
theorem Zjy {H : Type} : ∀ {ds : List (DataW H)} {d : DataW H}, d ∈ ds -> Rows.uptoBulk d <= Rows.uptoBulkAll ds
 | [], d, h => by cases h
 | e :: r, d, h => by
  simp only [Rows.uptoBulkAll]
  rcases List.mem_cons.1 h with rfl | h
  ·omega
  ·have := Zjy h
   omega
structure Pax where
 ka : Option Addr
 kn : Nat
 kc : Nat
 va : Option Addr
 vn : Nat
 vc : Nat
 k : List Int
 x : List Int
def Pax.pv (y : Pax) : Value × Value := (.slice y.ka y.kn y.kc, .slice y.va y.vn y.vc)
section
variable {H : Type} {enc : TypeId × Value → H} {w : World} {held : Bool}
theorem Zgg {fuel : Nat} {cs : List Value} {x : DataW H × List MemPlace} (hf : DataW.trod enc Tryz.prog w 0 (fun _ => true) held fuel 23 cs = some x)
  (hbk : Rows.uptoBulk x.1 <= 1048576) : ∃ a len cap bs, cs = [.slice a len cap] /\ Ag w a len cap bs /\ len <= 1048576 := by
 rcases open_ints Tryz.underlying23 Tryz.underlying5 Zz5 hf with ⟨hcs, _⟩ | ⟨p, len, cap, zs, hcs, _, hl, hm, hz, hx, hcell, hwz⟩
 ·exact ⟨none, 0, 0, [], hcs, ⟨.inl ⟨rfl, rfl⟩, fun _ => ⟨rfl, rfl⟩, rfl, fun x hx => by cases hx⟩, by omega⟩
 ·have hz2 : zs.length = cap := by simpa using hz
  have hsz2 := hbk
  rw [hx] at hsz2
  simp only [Rows.uptoBulk] at hsz2
  have hb1 := Zgk (H := H) (lits .u8 (zs.take len))
  simp only [lits, List.length_map, List.length_take] at hb1 hsz2
  have hlen : (zs.take len).length = len := by rw [List.length_take]; omega
  have hbd : ∀ n ∈ zs.take len, 0 <= n /\ n < 256 := fun n hn => by
   have := bounds_u8 (hwz n (List.mem_of_mem_take hn))
   omega
  refine ⟨some p, len, cap, zs.take len, hcs, ⟨?_, (fun h => by cases h), hlen, hbd⟩, by omega⟩
  by_cases h0 : len = 0
  ·subst h0
   exact .inl ⟨rfl, by simp⟩
  ·obtain ⟨b, off, spot⟩ := p
   have hc := hcell 0 (by omega)
   have hspot : spot = none := by simpa [Addr.add] using World.cell?_spot hc
   subst hspot
   refine .inr ⟨b, off, rfl, hlen, by omega, hl, hm, fun j hj => ?_⟩
   rw [hlen] at hj
   have := hcell j (by omega)
   rw [Zay] at this
   rw [this, List.getD, List.getD, List.getElem?_take_of_lt hj]
theorem Zwo {cs : List Value} (h : cs.length = 2) : cs = (cs.drop 0).take 1 ++ (cs.drop 1).take 1 := by
 match cs, h with
 | [a, b], _ => rfl
theorem Zoj {fuel : Nat} {cs : List Value} {x : DataW H × List MemPlace} (hf : DataW.trod enc Tryz.prog w 0 (fun _ => true) held fuel 51 cs = some x)
  (hbk : Rows.uptoBulk x.1 <= 1048576) : ∃ y : Pax, cs = [y.pv.1, y.pv.2] /\ Ag w y.ka y.kn y.kc y.k /\ Ag w y.va y.vn y.vc y.x := by
 obtain ⟨xs, n, hfu, hx, hcl, hxl, hel⟩ := DataW.trod_struct Tryz.underlying51 hf
 rw [Zr8] at hcl
 have e1 := hel 0 _ rfl
 have e2 := hel 1 _ rfl
 have hxl3 : xs.length = 2 := hxl
 obtain ⟨x1, x2, rfl⟩ : ∃ x1 x2, xs = [x1, x2] := by
  match xs, hxl3 with
  | [a, b], _ => exact ⟨a, b, rfl⟩
 subst hx
 have f1 : DataW.trod enc Tryz.prog w 0 (fun _ => true) held n 23 ((cs.drop 0).take (Tryz.prog.cellsOf 23)) = some x1 := e1
 have f2 : DataW.trod enc Tryz.prog w 0 (fun _ => true) held n 23 ((cs.drop 1).take (Tryz.prog.cellsOf 23)) = some x2 := e2
 rw [Zr9] at f1
 rw [Zr9] at f2
 obtain ⟨a1, m1, c1, b1, hb1, hag1, hl1⟩ := Zgg f1 (by have := hbk; simp only [List.map, Rows.uptoBulk, Rows.uptoBulkAll] at this; omega)
 obtain ⟨a2, m2, c2, b2, hb2, hag2, hl2⟩ := Zgg f2 (by have := hbk; simp only [List.map, Rows.uptoBulk, Rows.uptoBulkAll] at this; omega)
 refine ⟨⟨a1, m1, c1, a2, m2, c2, b1, b2⟩, ?_, hag1, hag2⟩
 rw [Zwo (cs := cs) hcl, hb1, hb2]
 rfl
theorem Zly {fuel : Nat} {cs : List Value} {x : DataW H × List MemPlace} (hf : DataW.trod enc Tryz.prog w 0 (fun _ => true) held fuel 22 cs = some x)
  (hbk : Rows.uptoBulk x.1 <= 1048576) : ∃ a m c vs l, cs = [.slice a m c] /\ PAt (fun _ => True) w a m c vs l /\ m <= 1048576 := by
 rcases DataW.trod_slice Tryz.underlying22 hf with ⟨hcs, _⟩ | ⟨p, len, cap, elems, rest, n, hfu, hcs, hx, _, hl, hm, hlen, hel, _, _⟩
 ·exact ⟨none, 0, 0, [], [], hcs, PAt.empty _ _, by omega⟩
 ·subst hx
  have hbk2 : Rows.uptoBulkAll (elems.map (·.1)) + Rows.uptoBulkAll (rest.map (·.1)) + 1 <= 1048576 := by have := hbk; simp only [Rows.uptoBulk] at this; exact this
  have hlb := Zgk (elems.map (·.1))
  rw [List.length_map] at hlb
  have hthing : ∀ i, i < len -> ∃ y : Pax, (∀ k, k < 2 -> w.cell? ((p.add (i * 2)).add k) = [y.pv.1, y.pv.2][k]?) /\ Ag w y.ka y.kn y.kc y.k /\ Ag w y.va y.vn y.vc y.x := by
   intro i hi
   have he := hel i hi
   rw [Zr8, List.getElem?_eq_getElem (by omega), Option.bind_eq_some_iff] at he
   obtain ⟨cs', hc1, hc2⟩ := he
   obtain ⟨_, hc3, hc4⟩ := World.cells?_some hc1
   obtain ⟨y, hcs', hr⟩ := Zoj hc2 (by have := Zjy (List.mem_map_of_mem (f := (·.1)) (List.getElem_mem (l := elems) (by omega : i < elems.length))); omega)
   refine ⟨y, ?_, hr⟩
   rw [hcs'] at hc4
   exact hc4
  have hspot : 0 < len -> p.spot = none := by
   intro h
   obtain ⟨y, hc, hr⟩ := hthing 0 h
   have c0 := hc 0 (by omega)
   rw [show [y.pv.1, y.pv.2][0]? = some y.pv.1 from rfl] at c0
   simpa [Addr.add] using World.cell?_spot c0
  have hall : ∀ d k, k + d = len -> ∃ ks : List Pax, ks.length = d /\ (∀ j u, (flatP (ks.map Pax.pv))[j]? = some u -> ∃ g off, (some p : Option Addr) = some ⟨g, off, none⟩ /\ w.cell? ⟨g, off + k * 2 + j, none⟩ = some u) /\ ∀ y ∈ ks, Ag w y.ka y.kn y.kc y.k /\ Ag w y.va y.vn y.vc y.x := by
   intro d
   induction d with
   | zero => intro k _; exact ⟨[], rfl, (fun j r hr => by simp [flatP] at hr), fun x hx => by cases hx⟩
   | succ d ihd =>
    intro k hk
    obtain ⟨ks, h1, h2, h3⟩ := ihd (k + 1) (by omega)
    obtain ⟨y, hc, hr⟩ := hthing k (by omega)
    refine ⟨y :: ks, by rw [List.length_cons, h1], fun j u hu => ?_, fun x hx => ?_⟩
    ·obtain ⟨g, off, spot⟩ := p
     have hsp : spot = none := hspot (by omega)
     subst hsp
     refine ⟨g, off, rfl, ?_⟩
     have hu2 : ([y.pv.1, y.pv.2] ++ flatP (ks.map Pax.pv))[j]? = some u := hu
     match j, hu2 with
     | 0, hu2 =>
      have := hc 0 (by omega)
      rw [Zay, Zay] at this
      exact this.trans hu2
     | 1, hu2 =>
      have := hc 1 (by omega)
      rw [Zay, Zay] at this
      exact this.trans hu2
     | j + 2, hu2 =>
      obtain ⟨g', off', e, h4⟩ := h2 j u (by simpa using hu2)
      cases e
      rw [show off + k * 2 + (j + 2) = off + (k + 1) * 2 + j from by omega]
      exact h4
    ·rcases List.mem_cons.1 hx with rfl | hx
     ·exact hr
     ·exact h3 x hx
  obtain ⟨ks, h1, h2, h3⟩ := hall len 0 (by omega)
  refine ⟨some p, len, cap, ks.map Pax.pv, ks.map (fun y => (y.k, y.x)), hcs, ⟨by rw [List.length_map, h1], by rw [List.length_map, h1], hl, (fun e => by cases e), fun j u hu => ?_, fun j q e hq he => ?_, fun _ _ _ => trivial⟩, by omega⟩
  ·obtain ⟨g, off, e, h4⟩ := h2 j u hu
   exact ⟨g, off, e, by rw [show off + j = off + 0 * 2 + j from by omega]; exact h4⟩
  ·rw [List.getElem?_map] at hq he
   obtain ⟨y, hy, rfl⟩ := Option.map_eq_some_iff.1 hq
   rw [hy] at he
   cases he
   have hm := h3 y (List.mem_of_getElem? hy)
   exact ⟨_, _, _, _, _, _, rfl, rfl, ⟨hm.1, fun _ _ _ => trivial⟩, ⟨hm.2, fun _ _ _ => trivial⟩⟩
end
theorem Zlz {H : Type} {enc : TypeId × Value -> H} {w : World} {b0 : Nat} {r : Reach} {held : Bool} {v : Value} {d : DataW H} {p : List MemPlace}
  (hv : Value.okWide Tryz.prog w r b0 22 v) (h : DataW.Trod enc Tryz.prog w 0 (fun _ => true) held 22 v d p)
  (hbk : Rows.uptoBulk d <= 1048576) : ∃ a m c vs l, v = .slice a m c /\ PAt (fun _ => True) w a m c vs l /\ m <= 1048576 := by
 obtain ⟨a, len, cap, rfl⟩ := okWide_slice Tryz.underlying22 hv
 obtain ⟨fuel, hf⟩ := h
 obtain ⟨a', m, c, vs, l, hcs, hx⟩ := Zly hf hbk
 simp [Value.cells] at hcs
 obtain ⟨rfl, rfl, rfl⟩ := hcs
 exact ⟨_, _, _, vs, l, rfl, hx⟩
theorem Zts {H : Type} {enc : TypeId × Value -> H} {w : World} {b0 : Nat} {r : Reach} {held : Bool} {v : Value} {d : DataW H} {p : List MemPlace}
  (hv : Value.okWide Tryz.prog w r b0 28 v) (h : DataW.Trod enc Tryz.prog w 0 (fun _ => true) held 28 v d p)
  (hbk : Rows.uptoBulk d <= 1048576) : ∃ a m c M, v = .slice a m c /\ Bt (fun _ => True) w a m M /\ m <= c /\ (a = none -> c = 0) /\ m <= 1048576 /\ ∀ b ∈ M, b.length <= 1048576 := by
 obtain ⟨a0, len0, cap0, rfl⟩ := okWide_slice Tryz.underlying28 hv
 obtain ⟨fuel, hf⟩ := h
 rcases DataW.trod_slice Tryz.underlying28 hf with ⟨hcs, _⟩ | ⟨p, len, cap, elems, rest, n, hfu, hcs, hx, _, hl, hm, hlen, hel, hrl, _⟩
 ·simp [Value.cells] at hcs
  obtain ⟨rfl, rfl, rfl⟩ := hcs
  exact ⟨none, 0, 0, [], rfl, ⟨rfl, fun j hj => by omega⟩, by omega, fun _ => rfl, by omega, fun b hb => by cases hb⟩
 ·simp [Value.cells] at hcs
  obtain ⟨rfl, rfl, rfl⟩ := hcs
  have hd : d = DataW.slice (elems.map (·.1)) (rest.map (·.1)) := congrArg Prod.fst hx
  rw [hd] at hbk
  simp only [Rows.uptoBulk] at hbk
  have hlb := Zgk (elems.map (·.1))
  rw [List.length_map] at hlb
  have hthing : ∀ i, i < len0 -> ∃ a' n' c' bs, w.cell? ((p.add (i * 1)).add 0) = some (.slice a' n' c') /\ Ag w a' n' c' bs /\ n' <= 1048576 := by
   intro i hi
   have he := hel i hi
   rw [Zr9, List.getElem?_eq_getElem (by omega), Option.bind_eq_some_iff] at he
   obtain ⟨cs', hc1, hc2⟩ := he
   obtain ⟨_, hc3, hc4⟩ := World.cells?_some hc1
   obtain ⟨a', n', c', bs, hs, hag⟩ := Zgg hc2 (by have := Zjy (List.mem_map_of_mem (f := (·.1)) (List.getElem_mem (l := elems) (by omega : i < elems.length))); omega)
   refine ⟨a', n', c', bs, ?_, hag⟩
   have := hc4 0 (by omega)
   rw [hs] at this
   exact this
  have hall : ∀ d k, k + d = len0 -> ∃ M : List (List Int), M.length = d /\ ∀ j, j < d -> ∃ a' n' c', w.cell? ((p.add ((k + j) * 1)).add 0) = some (.slice a' n' c') /\ Ag w a' n' c' (M.getD j []) /\ n' <= 1048576 := by
   intro d
   induction d with
   | zero => intro k _; exact ⟨[], rfl, fun j hj => by omega⟩
   | succ d ihd =>
    intro k hk
    obtain ⟨M, h1, h2⟩ := ihd (k + 1) (by omega)
    obtain ⟨a', n', c', bs, h3, h4⟩ := hthing k (by omega)
    refine ⟨bs :: M, by simp [h1], fun j hj => ?_⟩
    cases j with
    | zero => exact ⟨a', n', c', h3, by simpa using h4⟩
    | succ j =>
     obtain ⟨a2, n2, c2, h5, h6⟩ := h2 j (by omega)
     rw [show k + 1 + j = k + (j + 1) from by omega] at h5
     exact ⟨a2, n2, c2, h5, by simpa using h6⟩
  obtain ⟨M, h1, h2⟩ := hall len0 0 (by omega)
  have hMl : ∀ b ∈ M, b.length <= 1048576 := fun b hb => by
   obtain ⟨j, hj, rfl⟩ := List.getElem_of_mem hb
   obtain ⟨_, n', _, _, h6, h7⟩ := h2 j (by omega)
   have h8 := h6.l
   rw [show M.getD j [] = M[j] from by simp [List.getD, hj]] at h8
   omega
  refine ⟨some p, len0, cap0, M, rfl, ⟨h1, fun j hj => ?_⟩, hl, (fun e => by cases e), by omega, hMl⟩
  obtain ⟨a', n', c', h5, h6⟩ := h2 j hj
  rw [Nat.zero_add] at h5
  have hsp0 : p.spot = none := by
   obtain ⟨_, _, _, _, h7, _⟩ := hthing 0 (by omega)
   simpa [Addr.add] using World.cell?_spot h7
  obtain ⟨g, off, spot⟩ := p
  have hsp : spot = none := hsp0
  subst hsp
  rw [Zay, Zay] at h5
  exact ⟨g, off, a', n', c', rfl, h5, ⟨h6.1, fun _ _ _ => trivial⟩⟩
theorem Ztu {H : Type} {enc : TypeId × Value -> H} {w : World} {b0 : Nat} {r : Reach} {held : Bool} {v : Value} {d : DataW H} {p : List MemPlace}
  (hv : Value.okWide Tryz.prog w r b0 23 v) (h : DataW.Trod enc Tryz.prog w 0 (fun _ => true) held 23 v d p) (hbk : Rows.uptoBulk d <= 1048576) : ∃ a m c bs, v = .slice a m c /\ Ag w a m c bs /\ m <= 1048576 := by
 obtain ⟨a, len, cap, rfl⟩ := okWide_slice Tryz.underlying23 hv
 obtain ⟨fuel, hf⟩ := h
 obtain ⟨a', m, c, bs, hcs, hx⟩ := Zgg hf hbk
 simp [Value.cells] at hcs
 obtain ⟨rfl, rfl, rfl⟩ := hcs
 exact ⟨_, _, _, bs, rfl, hx⟩
end Go.Proofs.YtefhepcplempkaaGreat
