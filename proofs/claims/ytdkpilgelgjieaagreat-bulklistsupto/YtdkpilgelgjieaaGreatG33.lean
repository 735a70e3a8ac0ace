/- A builder in memory: a key more. -/
import Derived.Test.YtdkpilgelgjieaaGreatG32
import Derived.Test.YtdkpilgelgjieaaGreatG00
import Derived.Test.YtdkpilgelgjieaaGreatG15
import Derived.Test.YtdkpilgelgjieaaGreatG18
import Derived.Test.YtdkpilgelgjieaaGreatG23
import Derived.Test.YtdkpilgelgjieaaGreatG17
set_option linter.unusedVariables false
set_option maxRecDepth 100000
namespace Go.Proofs.YtdkpilgelgjieaaGreat
open Go.RowKit
open Tr
open Di (dref)
structure Af (gB : Nat) (w w' : World) (v v' : Value) : Prop where
 os : w'.os = w.os
 tape : w'.tape = w.tape
 output : w'.output = w.output
 size : w.heap.size <= w'.heap.size
 block : ∀ k, k < w.heap.size -> k ≠ gB -> KF v k -> w'.heap[k]? = w.heap[k]?
 own : v'.ownBlock = v.ownBlock \/ ∀ k, v'.ownBlock = some k -> w.heap.size <= k
theorem Af.of_fg {gB : Nat} {w w' : World} {v v' : Value} (h : Fg w w' v v') : Af gB w w' v v' := ⟨h.os, h.tape, h.output, h.size, fun k hk _ hv => h.block k hk hv, h.own⟩
theorem Af.of_bl {gB : Nat} {w w' : World} {v : Value} (h : Bl w w') : Af gB w w' v v := Af.of_fg (Fg.of_below h)
theorem Af.trans {gB : Nat} {w u z : World} {a b c : Value} (h : Af gB w u a b) (k : Af gB u z b c) : Af gB w z a c := by
 have hk : ∀ i, i < w.heap.size -> KF a i -> KF b i := fun i hi ha => by
  rcases h.own with e | e
  ·unfold KF; rw [e]; exact ha
  ·intro q; have := e i q; omega
 refine ⟨k.os.trans h.os, k.tape.trans h.tape, k.output.trans h.output, Nat.le_trans h.size k.size, fun i hi hg ha => (k.block i (Nat.lt_of_lt_of_le hi h.size) hg (hk i hi ha)).trans (h.block i hi hg ha), ?_⟩
 rcases k.own with e | e
 ·rcases h.own with e2 | e2
  ·exact .inl (e.trans e2)
  ·exact .inr (fun k hk => e2 k (e ▸ hk))
 ·exact .inr (fun k hk => Nat.le_trans h.size (e k hk))
theorem Af.of_set {gB o : Nat} {w w' : World} {v u : Value} (h : Set1 w w' gB o u) : Af gB w w' v v := ⟨h.touch.os, h.touch.tape, h.touch.output, h.touch.size, fun k _ hk _ => h.other hk, .inl rfl⟩
theorem Af.keep {Y : Nat -> Prop} {gB : Nat} {w w' : World} {v v' : Value} (h : Af gB w w' v v') : Keep (fun b => KF v b /\ b ≠ gB /\ Y b) (fun b => KF v' b /\ b ≠ gB /\ Y b) w w' := fun b hb hl => ⟨h.block b hl hb.2.1 hb.1, by
 rcases h.own with e | e
 ·unfold KF; rw [e]; exact hb.1
 ·intro q; have := e b q; omega, hb.2⟩
theorem Af.keep8 {gB : Nat} {w w' : World} {v v' : Value} (h : Af gB w w' v v') : Keep (fun b => KF v b /\ b ≠ gB) (fun b => KF v' b /\ b ≠ gB) w w' := fun b hb hl => ⟨h.block b hl hb.2 hb.1, by
 refine ⟨?_, hb.2⟩
 rcases h.own with e | e
 ·unfold KF; rw [e]; exact hb.1
 ·exact fun q => by have := e b q; omega⟩
structure BuC (Y : Nat -> Prop) (w : World) (base gB m : Nat) (pV vW : Value) (rs : List FV) (fs : List Fk) : Prop where
 row : Rw gB w #[pV, vW, .int .i64 ((m : Nat) : Int)] 54
 wv : WayV (fun b => b ≠ gB /\ Y b) w base vW rs fs
 kg : KF vW gB
 sm : rs.length <= 65
def BuP (Y : Nat -> Prop) (w : World) (gB m : Nat) (t : Tr) (lk : Option (List Int)) (pV vW : Value) (rs : List FV) (fs : List Fk) : Prop := (m = 0 /\ t = no /\ lk = none /\ rs = [] /\ fs = [] /\ pV = .slice none 0 0 /\ vW = .slice none 0 0) ∨
 ∃ a n c k v r, pV = .slice a n c /\ Sk (fun b => KF vW b /\ b ≠ gB /\ Y b) w a n c (Ni.nib k) /\ fs = ⟨(Ni.nib k).length, nk, v⟩ :: r /\ Bd (Ni.nib k) r v t /\ isB k /\ k.length <= 32 /\ lk = some k /\ 0 < m
def Bu (Y : Nat -> Prop) (w : World) (base gB m : Nat) (t : Tr) (lk : Option (List Int)) (vW : Value) : Prop := ∃ pV rs fs, BuC Y w base gB m pV vW rs fs /\ BuP Y w gB m t lk pV vW rs fs
theorem WayV.go {X : Nat -> Prop} {w w' : World} {base : Nat} {v : Value} {rs : List FV} {fs : List Fk} (h : WayV X w base v rs fs) (hb : Bl w w') : WayV X w' base v rs fs := by
 rcases h with q | ⟨g, cap, e, hg, hw⟩
 ·exact .inl q
 ·exact .inr ⟨g, cap, e, hg, hw.go hb⟩
theorem WayV.lo {X : Nat -> Prop} {w : World} {base : Nat} {v : Value} {rs : List FV} {fs : List Fk} (h : WayV X w base v rs fs) : ∀ k, v.ownBlock = some k -> base <= k /\ k < w.heap.size := by
 rcases h with ⟨rfl, _⟩ | ⟨g, cap, rfl, hg, hw⟩
 ·intro k hk; cases hk
 ·intro k hk
  have e : g = k := by simpa [Value.ownBlock] using hk
  subst e
  exact ⟨hg, hw.lt⟩
theorem BuC.go {Y : Nat -> Prop} {w w' : World} {base gB m : Nat} {pV vW : Value} {rs : List FV} {fs : List Fk} (h : BuC Y w base gB m pV vW rs fs) (hb : Bl w w') : BuC Y w' base gB m pV vW rs fs := ⟨h.row.go hb, h.wv.go hb, h.kg, h.sm⟩
theorem BuC.drew {Y : Nat -> Prop} {w : World} {base gB m : Nat} {pV vW : Value} {rs : List FV} {fs : List Fk} (h : BuC Y w base gB m pV vW rs fs) : BuC Y w.drew base gB m pV vW rs fs := h.go (Below.refl _ _).drew
theorem Bu.go {Y : Nat -> Prop} {w w' : World} {base gB m : Nat} {t : Tr} {lk : Option (List Int)} {vW : Value} (h : Bu Y w base gB m t lk vW) (hb : Bl w w') : Bu Y w' base gB m t lk vW := by
 obtain ⟨pV, rs, fs, h1, h2⟩ := h
 refine ⟨pV, rs, fs, h1.go hb, ?_⟩
 rcases h2 with q | ⟨a, n, c, k, v, r, e1, e2, e3⟩
 ·exact .inl q
 ·exact .inr ⟨a, n, c, k, v, r, e1, e2.go hb, e3⟩
theorem WayV.len {X : Nat -> Prop} {w : World} {base : Nat} {v : Value} {rs : List FV} {fs : List Fk} (h : WayV X w base v rs fs) : rs.length = fs.length := by
 rcases h with ⟨_, rfl, rfl⟩ | ⟨g, cap, _, _, hw⟩
 ·rfl
 ·exact hw.at'.len
theorem Way.setB {Y : Nat -> Prop} {gB : Nat} {w w' : World} {g cap o : Nat} {u : Value} {rs : List FV} {fs : List Fk} (h : Way (fun b => b ≠ gB /\ Y b) w g cap rs fs) (hs : Set1 w w' gB o u) (hne : gB ≠ g) : Way (fun b => b ≠ gB /\ Y b) w' g cap rs fs := by
 obtain ⟨cur, h1, h2⟩ := h.row
 have e := hs.other (k := g) (fun e => hne e.symm)
 exact ⟨⟨cur, e.trans h1, h2⟩, h.nc, h.cm, h.y.same e, h.at'.keep (fun b hb _ => ⟨hs.other hb.2.1, hb⟩)⟩
theorem WayV.setB {Y : Nat -> Prop} {gB o base : Nat} {w w' : World} {u v : Value} {rs : List FV} {fs : List Fk} (h : WayV (fun b => b ≠ gB /\ Y b) w base v rs fs) (hs : Set1 w w' gB o u) (hk : KF v gB) : WayV (fun b => b ≠ gB /\ Y b) w' base v rs fs := by
 rcases h with q | ⟨g, cap, rfl, hg, hw⟩
 ·exact .inl q
 ·exact .inr ⟨g, cap, rfl, hg, hw.setB hs (Zfx hk)⟩
theorem BuC.setP {Y : Nat -> Prop} {w w' : World} {base gB m : Nat} {pV vW q : Value} {rs : List FV} {fs : List Fk} (h : BuC Y w base gB m pV vW rs fs) (hs : Set1 w w' gB 0 q) : BuC Y w' base gB m q vW rs fs := ⟨h.row.set hs rfl, h.wv.setB hs h.kg, h.kg, h.sm⟩
theorem BuC.setM {Y : Nat -> Prop} {w w' : World} {base gB m m' : Nat} {pV vW : Value} {rs : List FV} {fs : List Fk} (h : BuC Y w base gB m pV vW rs fs) (hs : Set1 w w' gB 2 (.int .i64 ((m' : Nat) : Int))) : BuC Y w' base gB m' pV vW rs fs := ⟨h.row.set hs rfl, h.wv.setB hs h.kg, h.kg, h.sm⟩
def addE (lk : Option (List Int)) (k x : List Int) : Int := if k.length <= 32 then (if 0 < x.length /\ x.length <= 256 then (match lk with | none => 0 | some k0 => if Ni.lessP k0 k then 0 else 80) else 71) else 70
def RAd (Y : Nat -> Prop) (w : World) (base gB m : Nat) (t : Tr) (lk : Option (List Int)) (vW : Value) (k x : List Int) : Value -> World -> Prop := fun u w' => u = .int .i64 (addE lk k x) /\ ∃ vW', Bu Y w' base gB (if addE lk k x = 0 then m + 1 else m) (if addE lk k x = 0 then putT t k x else t) (if addE lk k x = 0 then some k else lk) vW' /\ Af gB w w' vW vW'
theorem RAd.same {Y : Nat -> Prop} {w w' : World} {base gB m : Nat} {t : Tr} {lk : Option (List Int)} {vW : Value} {k x : List Int} {z : Int} (h : Bu Y w' base gB m t lk vW) (hz : addE lk k x = z) (h0 : z ≠ 0) (hb : Bl w w') : RAd Y w base gB m t lk vW k x (.int .i64 z) w' := ⟨by rw [hz], vW, by rw [hz, if_neg h0, if_neg h0, if_neg h0]; exact h, Af.of_bl hb⟩
theorem Zj7 : ∀ (r : List Fk) (d : Nat), Dw d r -> r.length <= d
 | [], _, _ => Nat.zero_le _
 | g :: r, d, h => by have := Zj7 r g.d h.2; have := h.1; rw [List.length_cons]; omega
def fkv (d : Nat) (a : Option Addr) (n c : Nat) : FV := ⟨d, fun _ => rz, a, n, c⟩
theorem Ztw : (fun (d : Int) (a : Option Addr) (n c : Nat) => Tryz.prog.built 63 [(0, .int .i64 d), (2, .slice a n c)]) = fun d a n c => some (Array.mk (.int .i64 d :: (kc (fun _ => rz) 16 ++ [.slice a n c]))) := by kernel_rfl
theorem Zpk (d : Int) (a : Option Addr) (n c : Nat) : Tryz.prog.built 63 [(0, .int .i64 d), (2, .slice a n c)] = some (Array.mk (.int .i64 d :: (kc (fun _ => rz) 16 ++ [.slice a n c]))) := congrFun (congrFun (congrFun (congrFun Ztw d) a) n) c
theorem Zs6 {K : Nat -> Prop} {w : World} {d : Nat} {a : Option Addr} {n c : Nat} {x : List Int} (h : Sk K w a n c x) (hn : n <= 256) : FkAt K w (fkv d a n c) ⟨d, nk, x⟩ := ⟨rfl, fun _ => rfl, fun i _ => by rw [show rP nk i = r0 from rfl]; exact Zh7 K w, h, hn⟩
theorem Zu5 {Y : Nat -> Prop} {w w' : World} {g : Nat} (h : New w w' g #[.slice none 0 0, .slice none 0 0, .int .i64 0] 54) (base : Nat) : Bu Y w' base g 0 no none (.slice none 0 0) := ⟨_, [], [], ⟨h.row, .inl ⟨rfl, rfl, rfl⟩, (by simp [KF, Value.ownBlock]), by simp⟩, .inl ⟨rfl, rfl, rfl, rfl, rfl, rfl, rfl⟩⟩
set_option maxHeartbeats 8000000 in
theorem Zpo {Y : Nat -> Prop} {w : World} {base gB m : Nat} {t : Tr} {lk : Option (List Int)} {vW : Value} (hU : Bu Y w base gB m t lk vW) (hY : ∀ b, w.heap.size <= b -> Y b) (hbase : base <= w.heap.size) (hm : m <= 4000000000000) {a : Option Addr} {n c : Nat} {k : List Int} {K1 : Nat -> Prop} (hk : Sk K1 w a n c k) {a' : Option Addr} {n' c' : Nat} {x : List Int} (hx : Sk (fun b => KF vW b /\ b ≠ gB) w a' n' c' x) :
  Calls Tryz.prog 12 #[.pointer (some ⟨gB, 0, none⟩), .slice a n c, .slice a' n' c'] w fun e w' => ∃ u, e = .returned u /\ RAd Y w base gB m t lk vW k x u w' := by
 have hB := Bl.refl w
 have lk1 := hk.len
 have lx := hx.len
 have hBu := hU
 obtain ⟨pV, rs, fs, hC, hP⟩ := hU
 have hxne : 0 < n' -> x ≠ [] := fun h e => by rw [e] at lx; simp at lx; omega
 refine Za3 Tryz.func12 rfl 78 rfl ?_
 show CW _ _ _ _ _ _ _ [(0, .pointer (some ⟨gB, 0, none⟩)), (1, .slice a n c), (2, .slice a' n' c')] _
 refine Zac <| Zaa <| rp 6 (.int .i64 0) <| Zad <| Zab <| Zac <| Zay <| Zac ?_
 by_cases h32 : n <= 32
 ·skip
  rcases Nat.eq_zero_or_pos n' with hx0 | hx0
  ·skip
   refine Zaa <| rp 9 (.slice a n c) <| rp 10 (.int .i64 n) <| rv 11 (.bool false) (fun _ => Zai (v := .bool (decide ((n : Int) > (32 : Int)))) (by kernel_rfl) (congrArg Value.bool (decide_eq_false (by omega)))) <| rp 8 (.bool false) <| Zad <| Zab <| Zao (fun _ => by kernel_rfl) <| Zac <| Zaa <| rp 13 (.slice a' n' c') <| rp 14 (.int .i64 n') ?_
   refine rv 15 (.bool true) (fun _ => Zai (v := .bool ((n' : Int) == (0 : Int))) (by kernel_rfl) (congrArg Value.bool (beq_iff_eq.2 (by omega)))) <| rp 16 (.bool true) <| Za9 17 (fun _ => by kernel_rfl) <| Za9 18 (fun _ => by kernel_rfl) <| Za9 19 (fun _ => by kernel_rfl) <| rp 20 (.bool true) <| rp 12 (.bool true) <| Zad <| Zab <| Zan (fun _ => by kernel_rfl) <| Zac <| Zaa ?_
   refine rp 6 (.int .i64 71) <| Zad <| Zab <| Za5 <| Zbc <| Zap ?_
   exact Zaf (.int .i64 71) (fun _ => by kernel_rfl) ⟨_, rfl, RAd.same (hBu.go (Bl.refl _)) (by unfold addE; rw [if_pos (by omega), if_neg (by omega)]) (by decide) (Bl.refl _)⟩
  ·skip
   by_cases h256 : n' <= 256
   ·skip
    refine Zaa <| rp 9 (.slice a n c) <| rp 10 (.int .i64 n) <| rv 11 (.bool false) (fun _ => Zai (v := .bool (decide ((n : Int) > (32 : Int)))) (by kernel_rfl) (congrArg Value.bool (decide_eq_false (by omega)))) <| rp 8 (.bool false) <| Zad <| Zab <| Zao (fun _ => by kernel_rfl) <| Zac <| Zaa <| rp 13 (.slice a' n' c') <| rp 14 (.int .i64 n') ?_
    refine rv 15 (.bool false) (fun _ => Zai (v := .bool ((n' : Int) == (0 : Int))) (by kernel_rfl) (congrArg Value.bool (beq_eq_false_iff_ne.2 (by omega)))) <| rp 16 (.bool false) <| rp 17 (.slice a' n' c') <| rp 18 (.int .i64 n') <| rv 19 (.bool false) (fun _ => Zai (v := .bool (decide ((n' : Int) > (256 : Int)))) (by kernel_rfl) (congrArg Value.bool (decide_eq_false (by omega)))) <| rp 20 (.bool false) <| rp 12 (.bool false) <| Zad <| Zab <| Zao (fun _ => by kernel_rfl) <| Zaz <| Zbb ?_
    refine Zab <| Zac <| Zaa <| rp 21 (.slice a n c) <| Za1 22 26 #[.slice a n c] (fun _ => by kernel_rfl) (fun _ => by kernel_rfl) (R := fun u w' => (∃ a', u = .slice a' (2 * n) (2 * n) /\ Ni.Cut w' w.heap.size a' (2 * n) (Ni.nib k)) /\ Bl w w') (((Ni.of_any _ _ _ k _ hk.ag (by omega)).mono (fun e w' h => by obtain ⟨⟨a', e1, h1⟩, h2⟩ := h; exact ⟨_, e1, ⟨a', rfl, h1⟩, h2⟩))) ?_
    rintro _ u1 ⟨⟨aq, rfl, hcut⟩, hb1⟩
    have hQ := Z0g (K := fun b => w.heap.size <= b) hcut (fun b hb => hb)
    have hC1 := hC.go hb1
    have hnb : Nb (Ni.nib k) := Zwl hk.ag.b
    have hql : (Ni.nib k).length = 2 * n := by rw [Ni.nib_len, lk1]
    replace hB : Bl w u1 := hb1
    have hz1 := hb1.size
    have hlo := hC.wv.lo
    refine rp 7 (.slice aq (2 * n) (2 * n)) <| Zad <| Zab <| Zac <| Zac <| Zaa <| rp 23 (.pointer (some ⟨gB, 0, none⟩)) <| rp 24 (.pointer (some ⟨gB, 0, none⟩)) <| rp 25 (.pointer (some ⟨gB, 2, none⟩)) <| rv 26 (.int .i64 ((m : Nat) : Int)) (fun _ => Zam 3 _ ⟨gB, 2, none⟩ _ _ rfl (by kernel_rfl) (by rw [cell_of_row _ _ _ _ _ _ (hC1.row)]; rfl) Tryz.underlying3 rfl) <| rp 27 (.bool (decide (((m : Nat) : Int) > (0 : Int)))) <| Zad ?_
    refine Zab ?_
    refine Zpf (fun E v3 => ∃ pV2 vW2 rs2 fs2, E = [(0, .pointer (some ⟨gB, 0, none⟩)), (2, .slice a' n' c'), (7, .slice aq (2 * n) (2 * n))] /\ BuC Y v3 base gB m pV2 vW2 rs2 fs2 /\ Sk (fun b => KF vW2 b /\ b ≠ gB /\ Y b) v3 aq (2 * n) (2 * n) (Ni.nib k) /\ Af gB w v3 vW vW2 /\ Bd (Ni.nib k) fs2 x (put t (Ni.nib k) x) /\ addE lk k x = 0) ?_ ?_
    ·skip
     rcases hP with ⟨hm0, rfl, rfl, rfl, rfl, rfl, rfl⟩ | ⟨ap, np, cp, k0, v0, r, rfl, hsp, rfl, hBd, hk0, hk32, rfl, hmp⟩
     ·skip
      rw [show decide (((m : Nat) : Int) > (0 : Int)) = false from decide_eq_false (by omega)]
      refine Zao (fun _ => by kernel_rfl) <| Zaz ?_
      exact Ze0 [(0, .pointer (some ⟨gB, 0, none⟩)), (2, .slice a' n' c'), (7, .slice aq (2 * n) (2 * n))] (by exact ⟨fun _ => by kernel_rfl, ⟨fun _ => by kernel_rfl, ⟨fun _ => by kernel_rfl, trivial⟩⟩⟩) ⟨_, _, [], [], rfl, hC1, hQ.mono (fun b hb => ⟨by simp [KF, Value.ownBlock], by have := lt_of_get hC.row; omega, hY b hb⟩), Af.of_bl hb1, Bd.first hnb (by omega) (hxne hx0), by unfold addE; rw [if_pos (by omega), if_pos (by omega)]⟩
     ·skip
      rw [show decide (((m : Nat) : Int) > (0 : Int)) = true from decide_eq_true (by omega)]
      refine Zan (fun _ => by kernel_rfl) ?_
      have hsp1 := hsp.go hb1
      have hpl := hsp.len
      rw [Ni.nib_len] at hpl
      refine Zac <| Zac <| Zaa <| rp 28 (.pointer (some ⟨gB, 0, none⟩)) <| rp 29 (.pointer (some ⟨gB, 0, none⟩)) <| rp 30 (.pointer (some ⟨gB, 0, none⟩)) <| rv 31 (.slice ap np cp) (fun _ => Zam 32 _ ⟨gB, 0, none⟩ _ _ rfl (by kernel_rfl) (by rw [cell_of_row _ _ _ _ _ _ (hC1.row)]; rfl) Tryz.underlying32 rfl) <| rp 32 (.slice aq (2 * n) (2 * n)) <| Za1 33 27 #[.slice ap np cp, .slice aq (2 * n) (2 * n)] (fun _ => by kernel_rfl) (fun _ => by kernel_rfl) (R := fun u w' => u = .bool (Ni.lessP k0 k) /\ Bl u1 w') (((Zsn hsp1 hQ (by omega) (by omega)).mono (fun e w' ⟨u, e1, e2, e3⟩ => ⟨u, e1, by rw [e2, Ni.less_nib], e3⟩))) ?_
      rintro _ u2 ⟨rfl, hb2⟩
      have hB2 : Bl w u2 := hB.go hb2
      have hC2 := hC.go hB2
      have hz2 := hb2.size
      refine rp 34 (.bool (!(Ni.lessP k0 k))) <| Zad <| Zab ?_
      cases hls : Ni.lessP k0 k with
      | false =>
       show CW _ _ _ _ _ _ _ [(34, .bool true), (33, .bool false), (32, .slice aq (2 * n) (2 * n)), (31, .slice ap np cp), (30, .pointer (some ⟨gB, 0, none⟩)), (29, .pointer (some ⟨gB, 0, none⟩)), (28, .pointer (some ⟨gB, 0, none⟩)), (27, .bool true), (26, .int .i64 ((m : Nat) : Int)), (25, .pointer (some ⟨gB, 2, none⟩)), (24, .pointer (some ⟨gB, 0, none⟩)), (23, .pointer (some ⟨gB, 0, none⟩)), (7, .slice aq (2 * n) (2 * n)), (22, .slice aq (2 * n) (2 * n)), (21, .slice a n c), (12, .bool false), (20, .bool false), (19, .bool false), (18, .int .i64 n'), (17, .slice a' n' c'), (16, .bool false), (15, .bool false), (14, .int .i64 n'), (13, .slice a' n' c'), (8, .bool false), (11, .bool false), (10, .int .i64 n), (9, .slice a n c), (6, .int .i64 0), (0, .pointer (some ⟨gB, 0, none⟩)), (1, .slice a n c), (2, .slice a' n' c')] _
       refine Zan (fun _ => by kernel_rfl) <| Zac <| Zaa <| rp 6 (.int .i64 80) <| Zad <| Zab <| Za5 <| Zap <| Zap <| Zap ?_
       exact Zaf (.int .i64 80) (fun _ => by kernel_rfl) ⟨_, rfl, RAd.same (hBu.go hB2) (by unfold addE; rw [if_pos (by omega), if_pos (by omega)]; simp [hls]) (by decide) hB2⟩
      | true =>
       show CW _ _ _ _ _ _ _ [(34, .bool false), (33, .bool true), (32, .slice aq (2 * n) (2 * n)), (31, .slice ap np cp), (30, .pointer (some ⟨gB, 0, none⟩)), (29, .pointer (some ⟨gB, 0, none⟩)), (28, .pointer (some ⟨gB, 0, none⟩)), (27, .bool true), (26, .int .i64 ((m : Nat) : Int)), (25, .pointer (some ⟨gB, 2, none⟩)), (24, .pointer (some ⟨gB, 0, none⟩)), (23, .pointer (some ⟨gB, 0, none⟩)), (7, .slice aq (2 * n) (2 * n)), (22, .slice aq (2 * n) (2 * n)), (21, .slice a n c), (12, .bool false), (20, .bool false), (19, .bool false), (18, .int .i64 n'), (17, .slice a' n' c'), (16, .bool false), (15, .bool false), (14, .int .i64 n'), (13, .slice a' n' c'), (8, .bool false), (11, .bool false), (10, .int .i64 n), (9, .slice a n c), (6, .int .i64 0), (0, .pointer (some ⟨gB, 0, none⟩)), (1, .slice a n c), (2, .slice a' n' c')] _
       refine Zao (fun _ => by kernel_rfl) <| Zaz <| Zab ?_
       rcases hC2.wv with ⟨_, _, hf⟩ | ⟨g, cap, rfl, hbg, hWy⟩
       ·cases hf
       obtain ⟨x0, xs0, rfl⟩ : ∃ x0 xs0, rs = x0 :: xs0 := by cases rs with | nil => exact hWy.at'.elim | cons x0 xs0 => exact ⟨x0, xs0, rfl⟩
       obtain ⟨nW, hnW⟩ : ∃ q, (x0 :: xs0).length = q := ⟨_, rfl⟩
       have hV := Bl.refl u2
       have hsmm := hC2.sm
       obtain ⟨cm, hcm⟩ : ∃ q, Ni.com (Ni.nib k0) (Ni.nib k) = q := ⟨_, rfl⟩
       have hcml := Ni.com_le (Ni.nib k0) (Ni.nib k)
       rw [hcm] at hcml
       have hdw := hBd.dw
       have hnbp := hBd.nb
       have hgne : gB ≠ g := Zfx hC2.kg
       skip
       refine Zcb (fun u => ∃ y, Rw gB u #[.slice ap np cp, y, .int .i64 ((m : Nat) : Int)] 54) (by kernel_rfl) (⟨_, hC2.row.go (Below.refl _ _).drew⟩) ?_
       replace hV := hV.drew
       refine dt 0 35 (.pointer (some ⟨gB, 0, none⟩)) (fun v hv _ => by kernel_rfl) ⟨_, hC2.row.go hV⟩ <| dt 1 36 (.pointer (some ⟨gB, 0, none⟩)) (fun v hv _ => by kernel_rfl) ⟨_, hC2.row.go hV⟩ <| dt 2 37 (.pointer (some ⟨gB, 0, none⟩)) (fun v hv => (fun _ => by kernel_rfl)) ⟨_, hC2.row.go hV⟩ <| dt 3 38 (.pointer (some ⟨gB, 1, none⟩)) (fun v hv _ => by kernel_rfl) ⟨_, hC2.row.go hV⟩ <| dt 5 40 (.pointer (some ⟨gB, 0, none⟩)) (fun v hv _ => by kernel_rfl) ⟨_, hC2.row.go hV⟩ <| dt 6 41 (.pointer (some ⟨gB, 0, none⟩)) (fun v hv => (fun _ => by kernel_rfl)) ⟨_, hC2.row.go hV⟩ <| dt 7 42 (.pointer (some ⟨gB, 0, none⟩)) (fun v hv _ => by kernel_rfl) ⟨_, hC2.row.go hV⟩ <| dt 8 43 (.slice ap np cp) (fun v hv _ => Zam 32 _ ⟨gB, 0, none⟩ _ _ rfl (by kernel_rfl) (by obtain ⟨y, hy⟩ := hv; rw [cell_of_row _ _ _ _ _ _ hy]; rfl) Tryz.underlying32 rfl) ⟨_, hC2.row.go hV⟩ <| dt 9 44 (.pointer (some ⟨gB, 0, none⟩)) (fun v hv _ => by kernel_rfl) ⟨_, hC2.row.go hV⟩ <| dt 10 45 (.pointer (some ⟨gB, 0, none⟩)) (fun v hv => (fun _ => by kernel_rfl)) ⟨_, hC2.row.go hV⟩ <| dt 11 46 (.pointer (some ⟨gB, 0, none⟩)) (fun v hv _ => by kernel_rfl) ⟨_, hC2.row.go hV⟩ <| dt 12 47 (.slice ap np cp) (fun v hv _ => Zam 32 _ ⟨gB, 0, none⟩ _ _ rfl (by kernel_rfl) (by obtain ⟨y, hy⟩ := hv; rw [cell_of_row _ _ _ _ _ _ hy]; rfl) Tryz.underlying32 rfl) ⟨_, hC2.row.go hV⟩ ?_
       refine dt 13 48 (.slice aq (2 * n) (2 * n)) (fun v hv _ => by kernel_rfl) ⟨_, hC2.row.go hV⟩ <| Zah [4, 14] (by kernel_rfl) (by simp) ?_
       refine ar_v 4 39 (.slice (some ⟨g, 0, none⟩) (x0 :: xs0).length cap) rfl (fun _ => by kernel_rfl) (fun _ => Zam 52 _ ⟨gB, 1, none⟩ _ _ rfl (by kernel_rfl) (by rw [cell_of_row _ _ _ _ _ _ ((hC2.row.go hV))]; rfl) Tryz.underlying52 rfl) (⟨_, (hC2.row.go hV)⟩) ?_ ?_
       ·skip
        refine Zah [14] (by kernel_rfl) (by simp) ?_
        refine Zba 14 49 29 #[.slice ap np cp, .slice aq (2 * n) (2 * n)] rfl (fun _ => by kernel_rfl) (fun _ => by kernel_rfl) (R := fun u w' => u = .int .i64 ((cm : Nat) : Int) /\ Bl u2.drew w') ((Ni.common_any ap aq np cp (2 * n) (2 * n) (Ni.nib k0) (Ni.nib k) u2.drew ((hsp1.go hb2).go hV).ag ((hQ.go hb2).go hV).ag (by omega) (by omega)).mono (fun e w' h => ⟨_, by rw [h.1, hcm], rfl, h.2⟩)) (fun u w' h => ⟨_, hC2.row.go (hV.go h.2)⟩) ?_ Zar
        rintro _ u3 ⟨rfl, hb3⟩
        replace hV := hV.go hb3
        refine Zah [15] (by kernel_rfl) (by simp) ?_
        have hz3 := hV.size
        have hlw := hWy.lt
        have hV0 := hV
        have hCg : Cg (fun b => b ≠ gB /\ Y b) u3 base (.slice (some ⟨g, 0, none⟩) (x0 :: xs0).length cap) (Ni.nib k0) cm (clo (Ni.nib k0) cm ⟨(Ni.nib k0).length, nk, v0⟩ r) ap np cp g cap (x0 :: xs0).length x0 xs0 ⟨(Ni.nib k0).length, nk, v0⟩ r u3 := ⟨hWy.go hV, rfl, by omega, hbg, by omega, Fg.of_below (Bl.refl _), ((hsp1.go hb2).go hV).mono (fun b hb => hb.1), hdw, hcml.1, Nat.le_refl _, rfl⟩
        refine Zba 15 50 28 #[.slice (some ⟨g, 0, none⟩) (x0 :: xs0).length cap, .slice ap np cp, .int .i64 ((cm : Nat) : Int)] rfl (fun _ => by kernel_rfl) (fun _ => by kernel_rfl) (R := RCl (fun b => b ≠ gB /\ Y b) u3 base (.slice (some ⟨g, 0, none⟩) (x0 :: xs0).length cap) (clo (Ni.nib k0) cm ⟨(Ni.nib k0).length, nk, v0⟩ r)) (Zgk (X := fun b => b ≠ gB /\ Y b) (fun b hb => ⟨by have := lt_of_get hC2.row; omega, hY b (by omega)⟩) hnbp hBd.len hCg) (fun u w' ⟨_, _, _, _, _, _, _, hG⟩ => ⟨_, ((hC2.row.go hV).fg hG (Zez hgne)).1⟩) ?_ Zar
        rintro _ u4 ⟨g4, cap4, rs4, rfl, hW4, hbg4, hl4, hG4⟩
        have hR4 := (hC2.row.go hV).fg hG4 (Zez hgne)
        refine dt 16 51 (.pointer (some ⟨gB, 0, none⟩)) (fun v hv => (fun _ => by kernel_rfl)) ⟨_, hR4.1⟩ <| dt 17 52 (.pointer (some ⟨gB, 1, none⟩)) (fun v hv _ => by kernel_rfl) ⟨_, hR4.1⟩ <| Zah [18] (by kernel_rfl) (by simp) ?_
        refine Zd6 18 gB 1 (.slice (some ⟨g4, 0, none⟩) rs4.length cap4) rfl (fun _ => by kernel_rfl) (fun _ => Zcp 52 _ _ gB 1 _ 54 _ hR4.1 rfl (by kernel_rfl) (by kernel_rfl) (by show 1 < 3; omega) rfl rfl (by kernel_rfl)) (fun w' h => ⟨_, hR4.1.set h rfl⟩) ?_ Zar
        intro w5 hs5
        have hR5 : Rw gB w5 #[.slice ap np cp, .slice (some ⟨g4, 0, none⟩) rs4.length cap4, .int .i64 ((m : Nat) : Int)] 54 := hR4.1.set hs5 rfl
        have hA5 : Af gB w w5 (.slice (some ⟨g, 0, none⟩) (x0 :: xs0).length cap) (.slice (some ⟨g4, 0, none⟩) rs4.length cap4) := ((Af.of_bl (hB2.go hV)).trans (Af.of_fg hG4)).trans (Af.of_set hs5)
        refine Zbn (by kernel_rfl) ?_
        have hW5 := hW4.setB hs5 (Zfx hR4.2)
        have hBd2 := hBd.add hnb (by omega) (hxne hx0) (by rw [Ni.less_nib]; exact hls)
        rw [hcm] at hBd2
        have hf5 := hBd2.dw
        have hlen5 := Zj7 _ _ hf5
        have hll := hW5.at'.len
        have hQ5 := (((hQ.go hb2).go hV0).mono (K' := fun b => KF (.slice (some ⟨g, 0, none⟩) (x0 :: xs0).length cap) b /\ b ≠ gB /\ Y b) (fun b hb => ⟨fun e => by have := (hlo b e).2; omega, by have := lt_of_get hC.row; omega, hY b hb⟩)).keep (Af.keep ((Af.of_fg (gB := gB) hG4).trans (Af.of_set hs5)))
        exact Ze0 [(0, .pointer (some ⟨gB, 0, none⟩)), (2, .slice a' n' c'), (7, .slice aq (2 * n) (2 * n))] (by exact ⟨fun _ => by kernel_rfl, ⟨fun _ => by kernel_rfl, ⟨fun _ => by kernel_rfl, trivial⟩⟩⟩) ⟨_, _, rs4, _, rfl, ⟨hR5, .inr ⟨g4, cap4, rfl, hbg4, hW5⟩, hR4.2, by rw [hll]; omega⟩, hQ5, hA5, hBd2, by unfold addE; rw [if_pos (by omega), if_pos (by omega)]; simp only [hls, if_true]⟩
       refine Zba 14 49 29 #[.slice ap np cp, .slice aq (2 * n) (2 * n)] rfl (fun _ => by kernel_rfl) (fun _ => by kernel_rfl) (R := fun u w' => u = .int .i64 ((cm : Nat) : Int) /\ Bl u2.drew w') ((Ni.common_any ap aq np cp (2 * n) (2 * n) (Ni.nib k0) (Ni.nib k) u2.drew ((hsp1.go hb2).go hV).ag ((hQ.go hb2).go hV).ag (by omega) (by omega)).mono (fun e w' h => ⟨_, by rw [h.1, hcm], rfl, h.2⟩)) (fun u w' h => ⟨_, hC2.row.go (hV.go h.2)⟩) ?_ Zar
       rintro _ u3 ⟨rfl, hb3⟩
       replace hV := hV.go hb3
       refine Zah [4] (by kernel_rfl) (by simp) ?_
       refine ar_v 4 39 (.slice (some ⟨g, 0, none⟩) (x0 :: xs0).length cap) rfl (fun _ => by kernel_rfl) (fun _ => Zam 52 _ ⟨gB, 1, none⟩ _ _ rfl (by kernel_rfl) (by rw [cell_of_row _ _ _ _ _ _ ((hC2.row.go hV))]; rfl) Tryz.underlying52 rfl) (⟨_, (hC2.row.go hV)⟩) ?_ Zar
       refine Zah [15] (by kernel_rfl) (by simp) ?_
       have hz3 := hV.size
       have hlw := hWy.lt
       have hV0 := hV
       have hCg : Cg (fun b => b ≠ gB /\ Y b) u3 base (.slice (some ⟨g, 0, none⟩) (x0 :: xs0).length cap) (Ni.nib k0) cm (clo (Ni.nib k0) cm ⟨(Ni.nib k0).length, nk, v0⟩ r) ap np cp g cap (x0 :: xs0).length x0 xs0 ⟨(Ni.nib k0).length, nk, v0⟩ r u3 := ⟨hWy.go hV, rfl, by omega, hbg, by omega, Fg.of_below (Bl.refl _), ((hsp1.go hb2).go hV).mono (fun b hb => hb.1), hdw, hcml.1, Nat.le_refl _, rfl⟩
       refine Zba 15 50 28 #[.slice (some ⟨g, 0, none⟩) (x0 :: xs0).length cap, .slice ap np cp, .int .i64 ((cm : Nat) : Int)] rfl (fun _ => by kernel_rfl) (fun _ => by kernel_rfl) (R := RCl (fun b => b ≠ gB /\ Y b) u3 base (.slice (some ⟨g, 0, none⟩) (x0 :: xs0).length cap) (clo (Ni.nib k0) cm ⟨(Ni.nib k0).length, nk, v0⟩ r)) (Zgk (X := fun b => b ≠ gB /\ Y b) (fun b hb => ⟨by have := lt_of_get hC2.row; omega, hY b (by omega)⟩) hnbp hBd.len hCg) (fun u w' ⟨_, _, _, _, _, _, _, hG⟩ => ⟨_, ((hC2.row.go hV).fg hG (Zez hgne)).1⟩) ?_ Zar
       rintro _ u4 ⟨g4, cap4, rs4, rfl, hW4, hbg4, hl4, hG4⟩
       have hR4 := (hC2.row.go hV).fg hG4 (Zez hgne)
       refine dt 16 51 (.pointer (some ⟨gB, 0, none⟩)) (fun v hv => (fun _ => by kernel_rfl)) ⟨_, hR4.1⟩ <| dt 17 52 (.pointer (some ⟨gB, 1, none⟩)) (fun v hv _ => by kernel_rfl) ⟨_, hR4.1⟩ <| Zah [18] (by kernel_rfl) (by simp) ?_
       refine Zd6 18 gB 1 (.slice (some ⟨g4, 0, none⟩) rs4.length cap4) rfl (fun _ => by kernel_rfl) (fun _ => Zcp 52 _ _ gB 1 _ 54 _ hR4.1 rfl (by kernel_rfl) (by kernel_rfl) (by show 1 < 3; omega) rfl rfl (by kernel_rfl)) (fun w' h => ⟨_, hR4.1.set h rfl⟩) ?_ Zar
       intro w5 hs5
       have hR5 : Rw gB w5 #[.slice ap np cp, .slice (some ⟨g4, 0, none⟩) rs4.length cap4, .int .i64 ((m : Nat) : Int)] 54 := hR4.1.set hs5 rfl
       have hA5 : Af gB w w5 (.slice (some ⟨g, 0, none⟩) (x0 :: xs0).length cap) (.slice (some ⟨g4, 0, none⟩) rs4.length cap4) := ((Af.of_bl (hB2.go hV)).trans (Af.of_fg hG4)).trans (Af.of_set hs5)
       refine Zbn (by kernel_rfl) ?_
       have hW5 := hW4.setB hs5 (Zfx hR4.2)
       have hBd2 := hBd.add hnb (by omega) (hxne hx0) (by rw [Ni.less_nib]; exact hls)
       rw [hcm] at hBd2
       have hf5 := hBd2.dw
       have hlen5 := Zj7 _ _ hf5
       have hll := hW5.at'.len
       have hQ5 := (((hQ.go hb2).go hV0).mono (K' := fun b => KF (.slice (some ⟨g, 0, none⟩) (x0 :: xs0).length cap) b /\ b ≠ gB /\ Y b) (fun b hb => ⟨fun e => by have := (hlo b e).2; omega, by have := lt_of_get hC.row; omega, hY b hb⟩)).keep (Af.keep ((Af.of_fg (gB := gB) hG4).trans (Af.of_set hs5)))
       exact Ze0 [(0, .pointer (some ⟨gB, 0, none⟩)), (2, .slice a' n' c'), (7, .slice aq (2 * n) (2 * n))] (by exact ⟨fun _ => by kernel_rfl, ⟨fun _ => by kernel_rfl, ⟨fun _ => by kernel_rfl, trivial⟩⟩⟩) ⟨_, _, rs4, _, rfl, ⟨hR5, .inr ⟨g4, cap4, rfl, hbg4, hW5⟩, hR4.2, by rw [hll]; omega⟩, hQ5, hA5, hBd2, by unfold addE; rw [if_pos (by omega), if_pos (by omega)]; simp only [hls, if_true]⟩
    rintro _ v3 ⟨pV2, vW2, rs2, fs2, rfl, hC3, hQ3, hA3, hBd3, hadd⟩
    refine Zab <| Zac <| Zaa <| rp 53 (.pointer (some ⟨gB, 0, none⟩)) <| rp 54 (.slice aq (2 * n) (2 * n)) <| rp 55 (.pointer (some ⟨gB, 0, none⟩)) <| rp 56 (.pointer (some ⟨gB, 0, none⟩)) <| Zko gB 0 (.slice aq (2 * n) (2 * n)) (fun _ => by kernel_rfl) (fun _ => Zcp 32 _ _ gB 0 _ 54 _ hC3.row rfl (by kernel_rfl) (by kernel_rfl) (by show 0 < 3; omega) rfl rfl (by kernel_rfl)) ?_
    intro w6 hs6
    have hC6 := hC3.setP hs6
    have hA6 := hA3.trans (Af.of_set (v := vW2) hs6)
    have hQ6 := hQ3.keep (Af.keep (Af.of_set (v := vW2) hs6))
    have hz6 := hA6.size
    refine Zad <| Zab <| Zac ?_
    have hV := Bl.refl w6
    refine Zpf (fun E wB => E = [(0, .pointer (some ⟨gB, 0, none⟩))] /\ ∃ g9 cap9 av, Af gB w wB vW (.slice (some ⟨g9, 0, none⟩) (rs2.length + 1) cap9) /\ Sk (fun b => KF (.slice (some ⟨g9, 0, none⟩) (rs2.length + 1) cap9) b /\ b ≠ gB /\ Y b) wB aq (2 * n) (2 * n) (Ni.nib k) /\ BuC Y wB base gB m (.slice aq (2 * n) (2 * n)) (.slice (some ⟨g9, 0, none⟩) (rs2.length + 1) cap9) ((fkv (2 * n) av n' n') :: rs2) (⟨2 * n, nk, x⟩ :: fs2)) ?_ ?_
    ·skip
     refine Zcb (fun u => ∃ y, Rw gB u #[.slice aq (2 * n) (2 * n), y, .int .i64 ((m : Nat) : Int)] 54) (by kernel_rfl) (⟨_, hC6.row.go (Below.refl _ _).drew⟩) ?_
     replace hV := hV.drew
     refine dt 0 57 (.pointer (some ⟨gB, 0, none⟩)) (fun v hv _ => by kernel_rfl) ⟨_, hC6.row.go hV⟩ <| dt 1 58 (.pointer (some ⟨gB, 0, none⟩)) (fun v hv _ => by kernel_rfl) ⟨_, hC6.row.go hV⟩ <| dt 2 59 (.pointer (some ⟨gB, 0, none⟩)) (fun v hv => (fun _ => by kernel_rfl)) ⟨_, hC6.row.go hV⟩ <| dt 3 60 (.pointer (some ⟨gB, 1, none⟩)) (fun v hv _ => by kernel_rfl) ⟨_, hC6.row.go hV⟩ <| dt 5 62 (.slice aq (2 * n) (2 * n)) (fun v hv _ => by kernel_rfl) ⟨_, hC6.row.go hV⟩ <| dt 6 63 (.int .i64 ((2 * n : Nat) : Int)) (fun v hv _ => by kernel_rfl) ⟨_, hC6.row.go hV⟩ <| dt 7 64 (.slice a' n' c') (fun v hv _ => by kernel_rfl) ⟨_, hC6.row.go hV⟩ <| Zah [4, 8] (by kernel_rfl) (by simp) ?_
     refine ar_v 4 61 (vW2) rfl (fun _ => by kernel_rfl) (fun _ => Zam 52 _ ⟨gB, 1, none⟩ _ _ rfl (by kernel_rfl) (by rw [cell_of_row _ _ _ _ _ _ ((hC6.row.go hV))]; rfl) Tryz.underlying52 rfl) (⟨_, (hC6.row.go hV)⟩) ?_ ?_
     ·skip
      refine Zah [8] (by kernel_rfl) (by simp) ?_
      refine Zba 8 65 30 #[.slice a' n' c'] rfl (fun _ => by kernel_rfl) (fun _ => by kernel_rfl) (R := fun u w' => (∃ a1, u = .slice a1 n' n' /\ Sk (fun b => (w6.drew).heap.size <= b) w' a1 n' n' x) /\ Bl w6.drew w') (Zpm ((hx.keep hA6.keep8).go hV) (by omega)) (fun u w' h => ⟨_, hC6.row.go (hV.go h.2)⟩) ?_ Zar
      rintro _ u7 ⟨⟨av, rfl, hsv⟩, hb7⟩
      have hz7 := hV.size
      replace hV := hV.go hb7
      refine dt 9 66 (.agg (fkv (2 * n) av n' n').cells.toArray) (fun v hv _ => Zcr 63 _ [(0, .int .i64 ((2 * n : Nat) : Int)), (2, .slice av n' n')] _ rfl (by kernel_rfl) (Zpk _ _ _ _)) ⟨_, hC6.row.go hV⟩ <| Zah [10] (by kernel_rfl) (by simp) ?_
      refine Zgm 10 67 (fkv (2 * n) av n' n').cells.toArray 63 1 rfl (fun _ => by kernel_rfl) (fun _ => Zop (fun _ => rfl) rfl (by kernel_rfl)) (fun w' g h => ⟨_, hC6.row.go (hV.go h.below)⟩) ?_ Zar
      intro w8 gP hnP
      have hsv8 := hsv.go hnP.below
      replace hV := hV.go hnP.below
      refine Zah [11] (by kernel_rfl) (by simp) ?_
      have hC8 := hC6.go hV
      have hz8 := hV.size
      have hlen2 : rs2.length <= 64 := by rw [hC3.wv.len]; have := Zj7 _ _ hBd3.dw; omega
      have hlo8 := hC8.wv.lo
      have hsm8 := hC8.sm
      obtain ⟨g9, cap9, w9, hr9, hW9, hbg9, hG9⟩ := appW hC8.wv (Zdg hnP.row) (Zs6 (K := fun b => KF vW2 b /\ b ≠ gB /\ Y b) (d := 2 * n) (hsv8.mono (fun b hb => ⟨fun e => by have := (hC6.wv.lo b e).2; omega, by have := lt_of_get hC6.row; omega, hY b (by omega)⟩)) (by omega)) (by omega) (by omega)
      refine ar_v 11 68 (.slice (some ⟨g9, 0, none⟩) (rs2.length + 1) cap9) rfl (fun _ => by kernel_rfl) (fun _ => Zik hr9 _ _ rfl (by kernel_rfl) (by kernel_rfl)) (⟨_, (hC8.row.fg hG9 hC8.kg).1⟩) ?_ Zar
      have hR9 := hC8.row.fg hG9 hC8.kg
      refine dt 12 69 (.pointer (some ⟨gB, 0, none⟩)) (fun v hv => (fun _ => by kernel_rfl)) ⟨_, hR9.1⟩ <| dt 13 70 (.pointer (some ⟨gB, 1, none⟩)) (fun v hv _ => by kernel_rfl) ⟨_, hR9.1⟩ <| Zah [14] (by kernel_rfl) (by simp) ?_
      refine Zd6 14 gB 1 (.slice (some ⟨g9, 0, none⟩) (rs2.length + 1) cap9) rfl (fun _ => by kernel_rfl) (fun _ => Zcp 52 _ _ gB 1 _ 54 _ hR9.1 rfl (by kernel_rfl) (by kernel_rfl) (by show 1 < 3; omega) rfl rfl (by kernel_rfl)) (fun w' h => ⟨_, hR9.1.set h rfl⟩) ?_ Zar
      intro wB hsB
      have hA9 : Af gB w wB vW (.slice (some ⟨g9, 0, none⟩) (rs2.length + 1) cap9) := ((hA6.trans (Af.of_bl hV)).trans (Af.of_fg hG9)).trans (Af.of_set hsB)
      have hA69 : Af gB w6 wB vW2 (.slice (some ⟨g9, 0, none⟩) (rs2.length + 1) cap9) := ((Af.of_bl hV).trans (Af.of_fg hG9)).trans (Af.of_set hsB)
      have hQ9 := hQ6.keep hA69.keep
      have hC9 : BuC Y wB base gB m (.slice aq (2 * n) (2 * n)) (.slice (some ⟨g9, 0, none⟩) (rs2.length + 1) cap9) ((fkv (2 * n) av n' n') :: rs2) (⟨2 * n, nk, x⟩ :: fs2) := ⟨hR9.1.set hsB rfl, .inr ⟨g9, cap9, rfl, hbg9, hW9.setB hsB (Zfx hR9.2)⟩, hR9.2, by rw [List.length_cons]; omega⟩
      refine Zbn (by kernel_rfl) ?_
      exact Ze0 [(0, .pointer (some ⟨gB, 0, none⟩))] (by exact ⟨fun _ => by kernel_rfl, trivial⟩) ⟨rfl, g9, cap9, av, hA9, hQ9, hC9⟩
     refine Zba 8 65 30 #[.slice a' n' c'] rfl (fun _ => by kernel_rfl) (fun _ => by kernel_rfl) (R := fun u w' => (∃ a1, u = .slice a1 n' n' /\ Sk (fun b => (w6.drew).heap.size <= b) w' a1 n' n' x) /\ Bl w6.drew w') (Zpm ((hx.keep hA6.keep8).go hV) (by omega)) (fun u w' h => ⟨_, hC6.row.go (hV.go h.2)⟩) ?_ Zar
     rintro _ u7 ⟨⟨av, rfl, hsv⟩, hb7⟩
     have hz7 := hV.size
     replace hV := hV.go hb7
     refine dt 9 66 (.agg (fkv (2 * n) av n' n').cells.toArray) (fun v hv _ => Zcr 63 _ [(0, .int .i64 ((2 * n : Nat) : Int)), (2, .slice av n' n')] _ rfl (by kernel_rfl) (Zpk _ _ _ _)) ⟨_, hC6.row.go hV⟩ <| Zah [4, 10] (by kernel_rfl) (by simp) ?_
     refine ar_v 4 61 (vW2) rfl (fun _ => by kernel_rfl) (fun _ => Zam 52 _ ⟨gB, 1, none⟩ _ _ rfl (by kernel_rfl) (by rw [cell_of_row _ _ _ _ _ _ ((hC6.row.go hV))]; rfl) Tryz.underlying52 rfl) (⟨_, (hC6.row.go hV)⟩) ?_ ?_
     ·skip
      refine Zah [10] (by kernel_rfl) (by simp) ?_
      refine Zgm 10 67 (fkv (2 * n) av n' n').cells.toArray 63 1 rfl (fun _ => by kernel_rfl) (fun _ => Zop (fun _ => rfl) rfl (by kernel_rfl)) (fun w' g h => ⟨_, hC6.row.go (hV.go h.below)⟩) ?_ Zar
      intro w8 gP hnP
      have hsv8 := hsv.go hnP.below
      replace hV := hV.go hnP.below
      refine Zah [11] (by kernel_rfl) (by simp) ?_
      have hC8 := hC6.go hV
      have hz8 := hV.size
      have hlen2 : rs2.length <= 64 := by rw [hC3.wv.len]; have := Zj7 _ _ hBd3.dw; omega
      have hlo8 := hC8.wv.lo
      have hsm8 := hC8.sm
      obtain ⟨g9, cap9, w9, hr9, hW9, hbg9, hG9⟩ := appW hC8.wv (Zdg hnP.row) (Zs6 (K := fun b => KF vW2 b /\ b ≠ gB /\ Y b) (d := 2 * n) (hsv8.mono (fun b hb => ⟨fun e => by have := (hC6.wv.lo b e).2; omega, by have := lt_of_get hC6.row; omega, hY b (by omega)⟩)) (by omega)) (by omega) (by omega)
      refine ar_v 11 68 (.slice (some ⟨g9, 0, none⟩) (rs2.length + 1) cap9) rfl (fun _ => by kernel_rfl) (fun _ => Zik hr9 _ _ rfl (by kernel_rfl) (by kernel_rfl)) (⟨_, (hC8.row.fg hG9 hC8.kg).1⟩) ?_ Zar
      have hR9 := hC8.row.fg hG9 hC8.kg
      refine dt 12 69 (.pointer (some ⟨gB, 0, none⟩)) (fun v hv => (fun _ => by kernel_rfl)) ⟨_, hR9.1⟩ <| dt 13 70 (.pointer (some ⟨gB, 1, none⟩)) (fun v hv _ => by kernel_rfl) ⟨_, hR9.1⟩ <| Zah [14] (by kernel_rfl) (by simp) ?_
      refine Zd6 14 gB 1 (.slice (some ⟨g9, 0, none⟩) (rs2.length + 1) cap9) rfl (fun _ => by kernel_rfl) (fun _ => Zcp 52 _ _ gB 1 _ 54 _ hR9.1 rfl (by kernel_rfl) (by kernel_rfl) (by show 1 < 3; omega) rfl rfl (by kernel_rfl)) (fun w' h => ⟨_, hR9.1.set h rfl⟩) ?_ Zar
      intro wB hsB
      have hA9 : Af gB w wB vW (.slice (some ⟨g9, 0, none⟩) (rs2.length + 1) cap9) := ((hA6.trans (Af.of_bl hV)).trans (Af.of_fg hG9)).trans (Af.of_set hsB)
      have hA69 : Af gB w6 wB vW2 (.slice (some ⟨g9, 0, none⟩) (rs2.length + 1) cap9) := ((Af.of_bl hV).trans (Af.of_fg hG9)).trans (Af.of_set hsB)
      have hQ9 := hQ6.keep hA69.keep
      have hC9 : BuC Y wB base gB m (.slice aq (2 * n) (2 * n)) (.slice (some ⟨g9, 0, none⟩) (rs2.length + 1) cap9) ((fkv (2 * n) av n' n') :: rs2) (⟨2 * n, nk, x⟩ :: fs2) := ⟨hR9.1.set hsB rfl, .inr ⟨g9, cap9, rfl, hbg9, hW9.setB hsB (Zfx hR9.2)⟩, hR9.2, by rw [List.length_cons]; omega⟩
      refine Zbn (by kernel_rfl) ?_
      exact Ze0 [(0, .pointer (some ⟨gB, 0, none⟩))] (by exact ⟨fun _ => by kernel_rfl, trivial⟩) ⟨rfl, g9, cap9, av, hA9, hQ9, hC9⟩
     refine Zgm 10 67 (fkv (2 * n) av n' n').cells.toArray 63 1 rfl (fun _ => by kernel_rfl) (fun _ => Zop (fun _ => rfl) rfl (by kernel_rfl)) (fun w' g h => ⟨_, hC6.row.go (hV.go h.below)⟩) ?_ Zar
     intro w8 gP hnP
     have hsv8 := hsv.go hnP.below
     replace hV := hV.go hnP.below
     refine Zah [4] (by kernel_rfl) (by simp) ?_
     refine ar_v 4 61 (vW2) rfl (fun _ => by kernel_rfl) (fun _ => Zam 52 _ ⟨gB, 1, none⟩ _ _ rfl (by kernel_rfl) (by rw [cell_of_row _ _ _ _ _ _ ((hC6.row.go hV))]; rfl) Tryz.underlying52 rfl) (⟨_, (hC6.row.go hV)⟩) ?_ Zar
     refine Zah [11] (by kernel_rfl) (by simp) ?_
     have hC8 := hC6.go hV
     have hz8 := hV.size
     have hlen2 : rs2.length <= 64 := by rw [hC3.wv.len]; have := Zj7 _ _ hBd3.dw; omega
     have hlo8 := hC8.wv.lo
     have hsm8 := hC8.sm
     obtain ⟨g9, cap9, w9, hr9, hW9, hbg9, hG9⟩ := appW hC8.wv (Zdg hnP.row) (Zs6 (K := fun b => KF vW2 b /\ b ≠ gB /\ Y b) (d := 2 * n) (hsv8.mono (fun b hb => ⟨fun e => by have := (hC6.wv.lo b e).2; omega, by have := lt_of_get hC6.row; omega, hY b (by omega)⟩)) (by omega)) (by omega) (by omega)
     refine ar_v 11 68 (.slice (some ⟨g9, 0, none⟩) (rs2.length + 1) cap9) rfl (fun _ => by kernel_rfl) (fun _ => Zik hr9 _ _ rfl (by kernel_rfl) (by kernel_rfl)) (⟨_, (hC8.row.fg hG9 hC8.kg).1⟩) ?_ Zar
     have hR9 := hC8.row.fg hG9 hC8.kg
     refine dt 12 69 (.pointer (some ⟨gB, 0, none⟩)) (fun v hv => (fun _ => by kernel_rfl)) ⟨_, hR9.1⟩ <| dt 13 70 (.pointer (some ⟨gB, 1, none⟩)) (fun v hv _ => by kernel_rfl) ⟨_, hR9.1⟩ <| Zah [14] (by kernel_rfl) (by simp) ?_
     refine Zd6 14 gB 1 (.slice (some ⟨g9, 0, none⟩) (rs2.length + 1) cap9) rfl (fun _ => by kernel_rfl) (fun _ => Zcp 52 _ _ gB 1 _ 54 _ hR9.1 rfl (by kernel_rfl) (by kernel_rfl) (by show 1 < 3; omega) rfl rfl (by kernel_rfl)) (fun w' h => ⟨_, hR9.1.set h rfl⟩) ?_ Zar
     intro wB hsB
     have hA9 : Af gB w wB vW (.slice (some ⟨g9, 0, none⟩) (rs2.length + 1) cap9) := ((hA6.trans (Af.of_bl hV)).trans (Af.of_fg hG9)).trans (Af.of_set hsB)
     have hA69 : Af gB w6 wB vW2 (.slice (some ⟨g9, 0, none⟩) (rs2.length + 1) cap9) := ((Af.of_bl hV).trans (Af.of_fg hG9)).trans (Af.of_set hsB)
     have hQ9 := hQ6.keep hA69.keep
     have hC9 : BuC Y wB base gB m (.slice aq (2 * n) (2 * n)) (.slice (some ⟨g9, 0, none⟩) (rs2.length + 1) cap9) ((fkv (2 * n) av n' n') :: rs2) (⟨2 * n, nk, x⟩ :: fs2) := ⟨hR9.1.set hsB rfl, .inr ⟨g9, cap9, rfl, hbg9, hW9.setB hsB (Zfx hR9.2)⟩, hR9.2, by rw [List.length_cons]; omega⟩
     refine Zbn (by kernel_rfl) ?_
     exact Ze0 [(0, .pointer (some ⟨gB, 0, none⟩))] (by exact ⟨fun _ => by kernel_rfl, trivial⟩) ⟨rfl, g9, cap9, av, hA9, hQ9, hC9⟩
    rintro _ wB ⟨rfl, g9, cap9, av, hA9, hQ9, hC9⟩
    refine Zab <| Zac <| Zaa <| rp 71 (.pointer (some ⟨gB, 0, none⟩)) <| rp 72 (.pointer (some ⟨gB, 0, none⟩)) <| rp 73 (.pointer (some ⟨gB, 2, none⟩)) <| rv 74 (.int .i64 ((m : Nat) : Int)) (fun _ => Zam 3 _ ⟨gB, 2, none⟩ _ _ rfl (by kernel_rfl) (by rw [cell_of_row _ _ _ _ _ _ (hC9.row)]; rfl) Tryz.underlying3 rfl) <| rv 75 (.int .i64 ((m + 1 : Nat) : Int)) (fun _ => Zai (v := .int .i64 (IntKind.i64.wrap (((m : Nat) : Int) + 1))) (by kernel_rfl) (congrArg (Value.int .i64) (by rw [Zb6 (by omega) (by omega)]; omega))) <| rp 76 (.pointer (some ⟨gB, 0, none⟩)) <| rp 77 (.pointer (some ⟨gB, 2, none⟩)) <| Zko gB 2 (.int .i64 ((m + 1 : Nat) : Int)) (fun _ => by kernel_rfl) (fun _ => Zcp 3 _ _ gB 2 _ 54 _ hC9.row rfl (by kernel_rfl) (by kernel_rfl) (by show 2 < 3; omega) rfl rfl (by kernel_rfl)) ?_
    intro wA hsA
    have hCA := hC9.setM hsA
    have hAN := hA9.trans (Af.of_set (v := .slice (some ⟨g9, 0, none⟩) (rs2.length + 1) cap9) hsA)
    have hBuN : Bu Y wA base gB (m + 1) (putT t k x) (some k) (.slice (some ⟨g9, 0, none⟩) (rs2.length + 1) cap9) := ⟨_, _, _, hCA, .inr ⟨aq, 2 * n, 2 * n, k, x, fs2, rfl, hQ9.keep (Af.keep (Af.of_set (v := .slice (some ⟨g9, 0, none⟩) (rs2.length + 1) cap9) hsA)), by rw [hql], by unfold putT; rw [if_pos (by omega)]; exact hBd3, hk.ag.b, by omega, rfl, by omega⟩⟩
    refine Zad <| Zab <| Zac <| Zaa <| rp 6 (.int .i64 0) <| Zad <| Zab <| Za5 ?_
    exact Zaf (.int .i64 0) (fun _ => by kernel_rfl) ⟨_, rfl, by rw [hadd], _, by rw [hadd, if_pos rfl, if_pos rfl, if_pos rfl]; exact hBuN, hAN⟩
   ·skip
    refine Zaa <| rp 9 (.slice a n c) <| rp 10 (.int .i64 n) <| rv 11 (.bool false) (fun _ => Zai (v := .bool (decide ((n : Int) > (32 : Int)))) (by kernel_rfl) (congrArg Value.bool (decide_eq_false (by omega)))) <| rp 8 (.bool false) <| Zad <| Zab <| Zao (fun _ => by kernel_rfl) <| Zac <| Zaa <| rp 13 (.slice a' n' c') <| rp 14 (.int .i64 n') ?_
    refine rv 15 (.bool false) (fun _ => Zai (v := .bool ((n' : Int) == (0 : Int))) (by kernel_rfl) (congrArg Value.bool (beq_eq_false_iff_ne.2 (by omega)))) <| rp 16 (.bool false) <| rp 17 (.slice a' n' c') <| rp 18 (.int .i64 n') <| rv 19 (.bool true) (fun _ => Zai (v := .bool (decide ((n' : Int) > (256 : Int)))) (by kernel_rfl) (congrArg Value.bool (decide_eq_true (by omega)))) <| rp 20 (.bool true) <| rp 12 (.bool true) <| Zad <| Zab <| Zan (fun _ => by kernel_rfl) <| Zac <| Zaa ?_
    refine rp 6 (.int .i64 71) <| Zad <| Zab <| Za5 <| Zbc <| Zap ?_
    exact Zaf (.int .i64 71) (fun _ => by kernel_rfl) ⟨_, rfl, RAd.same (hBu.go (Bl.refl _)) (by unfold addE; rw [if_pos (by omega), if_neg (by omega)]) (by decide) (Bl.refl _)⟩
 ·skip
  refine Zaa <| rp 9 (.slice a n c) <| rp 10 (.int .i64 n) <| rv 11 (.bool true) (fun _ => Zai (v := .bool (decide ((n : Int) > (32 : Int)))) (by kernel_rfl) (congrArg Value.bool (decide_eq_true (by omega)))) <| rp 8 (.bool true) <| Zad <| Zab <| Zan (fun _ => by kernel_rfl) <| Zac <| Zaa <| rp 6 (.int .i64 70) <| Zad ?_
  refine Zab <| Za5 <| Zbc <| Zap ?_
  exact Zaf (.int .i64 70) (fun _ => by kernel_rfl) ⟨_, rfl, RAd.same (hBu.go (Bl.refl _)) (by unfold addE; rw [if_neg (by omega)]) (by decide) (Bl.refl _)⟩
theorem Zyw {K : Nat -> Prop} {w : World} {g : Nat} (xs : List FV) : ∀ (x : FV) (r : List Fk) (f : Fk), WyR w g (x :: xs) -> FksAt K w (x :: xs) (f :: r) -> w.cell? ⟨g, 0 + 0 * 546, none⟩ = some (.int .i64 ((bot f r : Nat) : Int)) := by
 induction xs with
 | nil =>
  intro x r f h ha
  cases r with
  | cons _ _ => exact ha.2.elim
  | nil =>
   have h1 : w.rangeAt g (0 * 546) x.cells := h.1
   have := Zta h1
   rw [ha.1.d] at this
   rw [Nat.zero_add]
   exact this
 | cons y xs ih =>
  intro x r f h ha
  cases r with
  | nil => exact ha.2.elim
  | cons g' r => exact ih y r g' h.2 ha.2
theorem Fg.blw {w u w' : World} {v v' : Value} (h : Fg u w' v v') (hb : Bl w u) (ho : ∀ k, v.ownBlock = some k -> w.heap.size <= k) : Bl w w' := ⟨h.os.trans (Below.os hb), h.tape.trans (Below.tape hb), h.output.trans (Below.output hb), Nat.le_trans hb.size h.size, fun k hk => (h.block k (Nat.lt_of_lt_of_le hk hb.size) (fun e => by have := ho k e; omega)).trans (Below.block hb k hk)⟩
theorem Way.any {X : Nat -> Prop} {w : World} {g cap : Nat} {rs : List FV} {fs : List Fk} (h : Way X w g cap rs fs) : Way (fun _ => True) w g cap rs fs := ⟨h.row, h.nc, h.cm, h.y, h.at'.keep (fun b hb _ => ⟨rfl, hb.1, trivial⟩)⟩
theorem Zcn {w w' : World} {g off : Nat} {cs : List Value} (h : w.rangeAt g off cs) (hb : Bl w w') : w'.rangeAt g off cs := fun j v hj => (hb.cell (p := ⟨g, off + j, none⟩) (block_lt_of_cell (h j v hj))).trans (h j v hj)
set_option maxHeartbeats 2000000 in
theorem Zvo {Y : Nat -> Prop} {w : World} {base gB m : Nat} {pV vW : Value} {rs : List FV} {fs : List Fk} (hC : BuC Y w base gB m pV vW rs fs) (hm0 : m = 0) :
  Calls Tryz.prog 15 #[.pointer (some ⟨gB, 0, none⟩)] w fun e w' => ∃ u, e = .returned u /\ (fun u w' => u = .agg (B8 (dref [128])) /\ Bl w w') u w' := by
 have hB := Bl.refl w
 have hdl := dref_len [128]
 obtain ⟨ds, hds⟩ : ∃ ds, dref [128] = ds := ⟨_, rfl⟩
 rw [hds] at hdl ⊢
 refine Za3 Tryz.func15 rfl 40 rfl ?_
 show CW _ _ _ _ _ _ _ [(0, .pointer (some ⟨gB, 0, none⟩))] _
 refine Zac <| Zaa <| Zb7 2 (B8 z32) 24 (fun _ => by kernel_rfl) (fun _ => by kernel_rfl) ?_
 intro w1 gd hnd
 replace hB := hB.go hnd.below
 have hrd : Rw gd w1 (B8 z32) 24 := hnd.row
 have hgd := hnd.hg
 have hC1 := hC.go hnd.below
 have hz1 := hnd.size
 refine Zad <| Zab <| Zac <| Zac <| Zaa <| rp 5 (.pointer (some ⟨gB, 0, none⟩)) <| rp 6 (.pointer (some ⟨gB, 0, none⟩)) <| rp 7 (.pointer (some ⟨gB, 2, none⟩)) <| rv 8 (.int .i64 ((m : Nat) : Int)) (fun _ => Zam 3 _ ⟨gB, 2, none⟩ _ _ rfl (by kernel_rfl) (by rw [cell_of_row _ _ _ _ _ _ (hC1.row)]; rfl) Tryz.underlying3 rfl) <| rv 9 (.bool true) (fun _ => Zai (v := .bool (((m : Nat) : Int) == (0 : Int))) (by kernel_rfl) (congrArg Value.bool (beq_iff_eq.2 (by omega)))) <| Zad <| Zab ?_
 refine Zan (fun _ => by kernel_rfl) <| Zac <| Zaa <| Za1 10 32 #[] (fun _ => by kernel_rfl) (fun _ => by kernel_rfl) (R := fun u w' => u = .agg (B8 ds) /\ Bl (w1) w') ((Zla (w1)).mono (fun e w' h => ⟨_, by rw [h.1, hds], rfl, h.2⟩)) ?_
 rintro _ u1 ⟨rfl, hb2⟩
 replace hB := hB.go hb2
 replace hrd := hrd.go hb2
 replace hC1 := hC1.go hb2
 refine Zcx gd (B8 ds) (fun _ => by kernel_rfl) (fun _ => Zbf 24 _ _ _ _ _ _ rfl (by kernel_rfl) (by kernel_rfl) hrd (Zce hdl) (Zcv hdl) (B8_one _)) ?_
 intro uE hpE
 replace hB : Bl w uE := hpE.below hB (by omega) hB.size
 have hrE : Rw gd uE (B8 ds) 24 := hpE.row hrd
 refine Zad <| Zab <| Za5 <| Zap ?_
 exact Zaf (.agg (B8 ds)) (fun _ => Zfl Tryz.results15 _ gd ds hdl (by kernel_rfl) hrE) ⟨_, rfl, rfl, hB⟩
set_option maxHeartbeats 8000000 in
theorem Ztx {Y : Nat → Prop} (hY : True) {w : World} {base gB m : Nat} {ap : Option Addr} {np cp g cap : Nat} {x0 : FV} {xs0 : List FV} {k v : List Int} {r : List Fk} {t : Tr} (hC : BuC Y w base gB m (.slice ap np cp) (.slice (some ⟨g, 0, none⟩) (x0 :: xs0).length cap) (x0 :: xs0) (⟨(Ni.nib k).length, nk, v⟩ :: r)) (hWy : Way (fun b => b ≠ gB ∧ Y b) w g cap (x0 :: xs0) (⟨(Ni.nib k).length, nk, v⟩ :: r)) (hsp : Sk (fun b => KF (.slice (some ⟨g, 0, none⟩) (x0 :: xs0).length cap) b ∧ b ≠ gB ∧ Y b) w ap np cp (Ni.nib k)) (hspo : Sk (fun b => b < w.heap.size) w ap np cp (Ni.nib k)) (hBd : Bd (Ni.nib k) r v t) (hmp : 0 < m) :
    Calls Tryz.prog 15 #[.pointer (some ⟨gB, 0, none⟩)] w fun e w' => ∃ u, e = .returned u ∧ (fun u w' => u = .agg (B8 (dref (encT t))) ∧ Bl w w') u w' := by
  have hB := Bl.refl w
  have hdl := dref_len (encT t)
  obtain ⟨ds, hds⟩ : ∃ ds, dref (encT t) = ds := ⟨_, rfl⟩
  rw [hds] at hdl ⊢
  refine Za3 Tryz.func15 rfl 40 rfl ?_
  show CW _ _ _ _ _ _ _ [(0, .pointer (some ⟨gB, 0, none⟩))] _
  refine Zac ?_
  refine Zaa ?_
  refine Zb7 2 (B8 z32) 24 (fun _ => by kernel_rfl) (fun _ => by kernel_rfl) ?_
  intro w1 gd hnd
  replace hB := hB.go hnd.below
  have hrd : Rw gd w1 (B8 z32) 24 := hnd.row
  have hgd := hnd.hg
  have hC1 := hC.go hnd.below
  have hz1 := hnd.size
  refine Zad ?_
  refine Zab ?_
  refine Zac ?_
  refine Zac ?_
  refine Zaa ?_
  refine rp 5 (.pointer (some ⟨gB, 0, none⟩)) ?_
  refine rp 6 (.pointer (some ⟨gB, 0, none⟩)) ?_
  refine rp 7 (.pointer (some ⟨gB, 2, none⟩)) ?_
  refine rv 8 (.int .i64 ((m : Nat) : Int)) (fun _ => Zam 3 _ ⟨gB, 2, none⟩ _ _ rfl (by kernel_rfl) (by rw [cell_of_row _ _ _ _ _ _ (hC1.row)]; rfl) Tryz.underlying3 rfl) ?_
  refine rv 9 (.bool false) (fun _ => Zai (v := .bool (((m : Nat) : Int) == (0 : Int))) (by kernel_rfl) (congrArg Value.bool (beq_eq_false_iff_ne.2 (by omega)))) ?_
  refine Zad ?_
  refine Zab ?_
  refine Zao (fun _ => by kernel_rfl) ?_
  refine Zaz ?_
  refine Zab ?_
  refine Zac ?_
  obtain ⟨tp, htpe⟩ : ∃ q, bot ⟨(Ni.nib k).length, nk, v⟩ r = q := ⟨_, rfl⟩
  have htp := Zyw _ _ _ _ (hWy.go hB).y (hWy.go hB).at'
  rw [htpe] at htp
  have hbl := Zty r ⟨(Ni.nib k).length, nk, v⟩ hBd.dw
  rw [htpe] at hbl
  simp only at hbl
  have hpl := hsp.len
  have hk64 := hBd.len
  have hsmm := hC.sm
  have hlw := hWy.lt
  have hgB := lt_of_get hC.row
  refine Zaa ?_
  refine rp 11 (.pointer (some ⟨gB, 0, none⟩)) ?_
  refine rp 12 (.pointer (some ⟨gB, 0, none⟩)) ?_
  refine rp 13 (.pointer (some ⟨gB, 1, none⟩)) ?_
  refine rv 14 (.slice (some ⟨g, 0, none⟩) (x0 :: xs0).length cap) (fun _ => Zam 52 _ ⟨gB, 1, none⟩ _ _ rfl (by kernel_rfl) (by rw [cell_of_row _ _ _ _ _ _ (hC1.row)]; rfl) Tryz.underlying52 rfl) ?_
  refine rv 15 (.pointer (some ⟨g, 0 + 0 * 546, none⟩)) (fun _ => Zas 52 _ _ g 0 0 (x0 :: xs0).length cap 546 63 rfl (by kernel_rfl) (by kernel_rfl) (by simp) Tryz.underlying52 (by kernel_rfl)) ?_
  refine rp 16 (.pointer (some ⟨g, 0 + 0 * 546, none⟩)) ?_
  refine rv 17 (.int .i64 ((tp : Nat) : Int)) (fun _ => Zam 3 _ _ _ _ rfl (by kernel_rfl) htp Tryz.underlying3 rfl) ?_
  refine rp 3 (.int .i64 ((tp : Nat) : Int)) ?_
  refine Zad ?_
  refine Zab ?_
  refine Zac ?_
  refine Zcb (fun u => Rw gB u #[.slice ap np cp, .slice (some ⟨g, 0, none⟩) (x0 :: xs0).length cap, .int .i64 ((m : Nat) : Int)] 54) (by kernel_rfl) (hC1.row.go (Below.refl _ _).drew) ?_
  replace hB := hB.drew
  replace hrd := hrd.drew
  replace hC1 := hC1.drew
  refine dt 0 18 (.pointer (some ⟨gB, 0, none⟩)) (fun v hv _ => by kernel_rfl) hC1.row ?_
  refine dt 1 19 (.pointer (some ⟨gB, 0, none⟩)) (fun v hv => (fun _ => by kernel_rfl)) hC1.row ?_
  refine dt 2 20 (.pointer (some ⟨gB, 1, none⟩)) (fun v hv _ => by kernel_rfl) hC1.row ?_
  refine dt 3 21 (.slice (some ⟨g, 0, none⟩) (x0 :: xs0).length cap) (fun v hv _ => Zam 52 _ ⟨gB, 1, none⟩ _ _ rfl (by kernel_rfl) (by rw [cell_of_row _ _ _ _ _ _ (hv)]; rfl) Tryz.underlying52 rfl) hC1.row ?_
  refine dt 5 23 (.pointer (some ⟨gB, 0, none⟩)) (fun v hv _ => by kernel_rfl) hC1.row ?_
  refine dt 6 24 (.pointer (some ⟨gB, 0, none⟩)) (fun v hv => (fun _ => by kernel_rfl)) hC1.row ?_
  refine dt 7 25 (.pointer (some ⟨gB, 0, none⟩)) (fun v hv _ => by kernel_rfl) hC1.row ?_
  refine dt 8 26 (.slice ap np cp) (fun v hv _ => Zam 32 _ ⟨gB, 0, none⟩ _ _ rfl (by kernel_rfl) (by rw [cell_of_row _ _ _ _ _ _ (hv)]; rfl) Tryz.underlying32 rfl) hC1.row ?_
  refine dt 9 27 (.int .i64 ((tp : Nat) : Int)) (fun v hv _ => by kernel_rfl) hC1.row ?_
  refine Zah [4] (by kernel_rfl) (by simp) ?_
  have hzd : (w1.drew).heap.size = gd + 1 := hz1
  refine Zba 4 22 33 #[.slice (some ⟨g, 0, none⟩) (x0 :: xs0).length cap] rfl (fun _ => by kernel_rfl) (fun _ => by kernel_rfl) (R := fun u w' => (∃ g' cap', u = .slice (some ⟨g', 0, none⟩) (x0 :: xs0).length cap' ∧ Way (fun b => b ≠ gB ∧ Y b) w' g' cap' (x0 :: xs0) (⟨(Ni.nib k).length, nk, v⟩ :: r) ∧ (w1.drew).heap.size ≤ g') ∧ Bl (w1.drew) w') (Zqs (hWy.go hB) rfl (by simp) (by omega)) (fun u w' h => hC1.row.go h.2) ?_ Zar
  rintro _ u3 ⟨⟨g3, cap3, rfl, hW3, hg3⟩, hb3⟩
  have hz0 := hB.size
  replace hB := hB.go hb3
  replace hrd := hrd.go hb3
  replace hC1 := hC1.go hb3
  refine Zah [10] (by kernel_rfl) (by simp) ?_
  have hz3 := hB.size
  have hl3 := hW3.lt
  have hCg : Cg (fun _ => True) u3 w.heap.size (.slice (some ⟨g3, 0, none⟩) (x0 :: xs0).length cap3) (Ni.nib k) tp (clo (Ni.nib k) tp ⟨(Ni.nib k).length, nk, v⟩ r) ap np cp g3 cap3 (x0 :: xs0).length x0 xs0 ⟨(Ni.nib k).length, nk, v⟩ r u3 := ⟨hW3.any, rfl, by omega, by omega, hz3, Fg.of_below (Bl.refl _), (hspo.go hB).mono (fun b hb => Zez (by omega)), hBd.dw, hbl, Nat.le_refl _, rfl⟩
  refine Zba 10 28 28 #[.slice (some ⟨g3, 0, none⟩) (x0 :: xs0).length cap3, .slice ap np cp, .int .i64 ((tp : Nat) : Int)] rfl (fun _ => by kernel_rfl) (fun _ => by kernel_rfl) (R := RCl (fun _ => True) u3 w.heap.size (.slice (some ⟨g3, 0, none⟩) (x0 :: xs0).length cap3) (clo (Ni.nib k) tp ⟨(Ni.nib k).length, nk, v⟩ r)) (Zgk (X := fun _ => True) (fun _ _ => trivial) hBd.nb hBd.len hCg) (fun u w' ⟨_, _, _, _, _, _, _, hG⟩ => (hC1.row.fg hG (Zez (by omega))).1) ?_ Zar
  rintro _ u4 ⟨g4, cap4, rs4, rfl, hW4, hbg4, hl4, hG4⟩
  have hB4 : Bl w u4 := hG4.blw hB (fun k hk => by have e : g3 = k := by simpa [Value.ownBlock] using hk
                                                   omega)
  have hzb3 := hb3.size
  have hgd4 := Zfx (hrd.fg hG4 (Zez (by omega))).2
  have hrd4 := (hrd.fg hG4 (Zez (by omega))).1
  have hR4 := (hC1.row.fg hG4 (Zez (by omega))).1
  have hrt := hBd.root
  rw [htpe] at hrt
  have hfs := hrt.1
  obtain ⟨x4, hrs4⟩ : ∃ x4, rs4 = [x4] := by
    have hq := hW4.at'
    rw [hfs] at hq
    rcases FksAt.cases hq with ⟨_, e⟩ | ⟨x4, y4, xs4, r4, e1, e2⟩
    · cases e
    · cases e2; rw [e1] at hq; rcases FksAt.cases hq.2 with ⟨e, _⟩ | ⟨_, _, _, _, _, e⟩
      · exact ⟨x4, by rw [e1, e]⟩
      · cases e
  subst hrs4
  have hx4 : u4.rangeAt g4 (0 + 0 * 546) x4.cells := by have := hW4.y.1; simpa using this
  have hk4 := hW4.at'.1
  have hx4l := hk4.l
  clear hC1 hrd hB
  have hB := hB4
  have hrd := hrd4
  refine dt 11 4 (.slice (some ⟨g4, 0, none⟩) [x4].length cap4) (fun v hv _ => by kernel_rfl) hR4 ?_
  refine Zbn (by kernel_rfl) ?_
  refine Zab ?_
  refine Zac ?_
  obtain ⟨a5, n5, c5, hr5, hs5⟩ := (hspo.go hB).cutTo tp (by omega)
  have hl5 := hs5.len
  rw [List.length_take] at hl5
  have hV := Bl.refl u4
  refine Zcb (fun u => Rw gB u #[.slice ap np cp, .slice (some ⟨g, 0, none⟩) (x0 :: xs0).length cap, .int .i64 ((m : Nat) : Int)] 54 ∧ u.rangeAt g4 (0 + 0 * 546) x4.cells) (by kernel_rfl) (⟨hR4.go (Bl.drew (Bl.refl u4)), Zcn hx4 (Bl.drew (Bl.refl u4))⟩) ?_
  replace hV := hV.drew
  replace hB := hB.drew
  replace hrd := hrd.drew
  refine dt 0 29 (.slice (some ⟨g4, 0, none⟩) [x4].length cap4) (fun v hv _ => by kernel_rfl) ⟨hR4.go (hV), Zcn hx4 (hV)⟩ ?_
  refine dt 1 30 (.pointer (some ⟨g4, 0 + 0 * 546, none⟩)) (fun v hv _ => Zas 52 _ _ g4 0 0 [x4].length cap4 546 63 rfl (by kernel_rfl) (by kernel_rfl) (by simp) Tryz.underlying52 (by kernel_rfl)) ⟨hR4.go (hV), Zcn hx4 (hV)⟩ ?_
  refine dt 2 31 (.agg x4.cells.toArray) (fun v hv _ => Zl7 63 _ g4 (0 + 0 * 546) x4.cells _ rfl (by kernel_rfl) hv.2 Tryz.underlying63 rfl (by rw [Zsx, FV.len hx4l])) ⟨hR4.go (hV), Zcn hx4 (hV)⟩ ?_
  refine dt 3 32 (.pointer (some ⟨gB, 0, none⟩)) (fun v hv _ => by kernel_rfl) ⟨hR4.go (hV), Zcn hx4 (hV)⟩ ?_
  refine dt 4 33 (.pointer (some ⟨gB, 0, none⟩)) (fun v hv => (fun _ => by kernel_rfl)) ⟨hR4.go (hV), Zcn hx4 (hV)⟩ ?_
  refine dt 5 34 (.pointer (some ⟨gB, 0, none⟩)) (fun v hv _ => by kernel_rfl) ⟨hR4.go (hV), Zcn hx4 (hV)⟩ ?_
  refine dt 6 35 (.slice ap np cp) (fun v hv _ => Zam 32 _ ⟨gB, 0, none⟩ _ _ rfl (by kernel_rfl) (by rw [cell_of_row _ _ _ _ _ _ (hv.1)]; rfl) Tryz.underlying32 rfl) ⟨hR4.go (hV), Zcn hx4 (hV)⟩ ?_
  refine dt 7 36 (.int .i64 ((tp : Nat) : Int)) (fun v hv _ => by kernel_rfl) ⟨hR4.go (hV), Zcn hx4 (hV)⟩ ?_
  refine dt 8 37 (.slice a5 n5 c5) (fun v hv _ => hr5 _ _ _ _ _ _ rfl (by kernel_rfl) (by kernel_rfl) rfl) ⟨hR4.go (hV), Zcn hx4 (hV)⟩ ?_
  refine Zah [9] (by kernel_rfl) (by simp) ?_
  refine Zba 9 38 35 #[.agg x4.cells.toArray, .slice a5 n5 c5] rfl (fun _ => by kernel_rfl) (fun _ => by kernel_rfl) (R := fun u w' => (∃ a m c, u = .slice a m c ∧ m ≤ 65540 ∧ Sk (fun b => (u4.drew).heap.size ≤ b) w' a m c (encT t)) ∧ Bl (u4.drew) w') (((Zg1 (hk4.keep (Zcj hV)) (hs5.go hV) (by omega)).mono (fun e w' ⟨u, e1, ⟨a, m, c, e2, e3, e4⟩, e5⟩ => ⟨u, e1, ⟨a, m, c, e2, e3, by rw [hrt.2] at e4; exact e4⟩, e5⟩))) (fun u w' h => ⟨hR4.go (hV.go h.2), Zcn hx4 (hV.go h.2)⟩) ?_ Zar
  rintro _ u6 ⟨⟨a6, n6, c6, rfl, hm6, hs6⟩, hb6⟩
  replace hV := hV.go hb6
  replace hB := hB.go hb6
  replace hrd := hrd.go hb6
  refine Zah [10] (by kernel_rfl) (by simp) ?_
  refine Zba 10 39 34 #[.slice a6 n6 c6] rfl (fun _ => by kernel_rfl) (fun _ => by kernel_rfl) (R := fun u w' => u = .agg (B8 ds) ∧ Bl u6 w') ((Znt a6 n6 c6 (encT t) u6 hs6.ag (by omega)).mono (fun e w' h => ⟨_, by rw [h.1, hds], rfl, h.2⟩)) (fun u w' h => ⟨hR4.go (hV.go h.2), Zcn hx4 (hV.go h.2)⟩) ?_ Zar
  rintro _ u7 ⟨rfl, hb7⟩
  replace hV := hV.go hb7
  replace hB := hB.go hb7
  replace hrd := hrd.go hb7
  refine Zah [11] (by kernel_rfl) (by simp) ?_
  have hl4g := hW4.lt
  refine Zt3 11 gd (B8 ds) rfl (fun _ => by kernel_rfl) (fun _ => Zbf 24 _ _ _ _ _ _ rfl (by kernel_rfl) (by kernel_rfl) hrd (Zce hdl) (Zcv hdl) (B8_one _)) (fun w' h => ⟨(h.other (by omega)).trans (hR4.go hV), fun j u hj => (World.cell?_of_block (h.other (k := g4) (fun e => hgd4 e.symm))).trans (Zcn hx4 hV j u hj)⟩) ?_ Zar
  intro w1 hp2
  replace hB : Bl w w1 := hp2.below hB (by omega) hB.size
  have hrE : Rw gd w1 (B8 ds) 24 := hp2.row hrd
  refine Zbn (by kernel_rfl) ?_
  refine Zab ?_
  refine Za5 ?_
  exact Zaf (.agg (B8 ds)) (fun _ => Zfl Tryz.results15 _ gd ds hdl (by kernel_rfl) hrE) ⟨_, rfl, rfl, hB⟩
theorem Zmu {Y : Nat -> Prop} {w : World} {base gB m : Nat} {t : Tr} {lk : Option (List Int)} {vW : Value} (hU : Bu Y w base gB m t lk vW) :
  Calls Tryz.prog 15 #[.pointer (some ⟨gB, 0, none⟩)] w fun e w' => ∃ u, e = .returned u /\ u = .agg (B8 (rootP t)) /\ Bl w w' := by
 obtain ⟨pV, rs, fs, hC, hP⟩ := hU
 rcases hP with ⟨hm0, rfl, rfl, rfl, rfl, rfl, rfl⟩ | ⟨ap, np, cp, k, v, r, rfl, hsp, rfl, hBd, hk0, hk32, rfl, hmp⟩
 ·exact Zvo hC hm0
 ·rcases hC.wv with ⟨_, _, hf⟩ | ⟨g, cap, rfl, hbg, hWy⟩
  ·cases hf
  obtain ⟨x0, xs0, rfl⟩ : ∃ x0 xs0, rs = x0 :: xs0 := by cases rs with | nil => exact hWy.at'.elim | cons x0 xs0 => exact ⟨x0, xs0, rfl⟩
  have hne := hBd.trOk.ne
  rw [show rootP t = dref (encT t) from by unfold rootP; rw [if_neg (fun e => hne (isNo_iff.1 e))]]
  exact Ztx trivial hC hWy hsp ⟨hsp.ag, fun x hx hn => hsp.old hx hn⟩ hBd hmp
set_option maxHeartbeats 1000000 in
theorem Zvr {Y : Nat -> Prop} {w : World} {base gB m : Nat} {t : Tr} {lk : Option (List Int)} {vW : Value} (hU : Bu Y w base gB m t lk vW) :
  Calls Tryz.prog 14 #[.pointer (some ⟨gB, 0, none⟩)] w fun e w' => ∃ u, e = .returned u /\ (fun u w' => u = .int .i64 ((m : Nat) : Int) /\ Bl w w') u w' := by
 have hB := Bl.refl w
 obtain ⟨pV, rs, fs, hC, hP⟩ := hU
 refine Za3 Tryz.func14 rfl 7 rfl ?_
 show CW _ _ _ _ _ _ _ [(0, .pointer (some ⟨gB, 0, none⟩))] _
 refine Zac <| Zaa <| rp 2 (.int .i64 0) <| Zad <| Zab <| Zac <| Zaa <| rp 3 (.pointer (some ⟨gB, 0, none⟩)) <| rp 4 (.pointer (some ⟨gB, 0, none⟩)) <| rp 5 (.pointer (some ⟨gB, 2, none⟩)) <| rv 6 (.int .i64 ((m : Nat) : Int)) (fun _ => Zam 3 _ ⟨gB, 2, none⟩ _ _ rfl (by kernel_rfl) (by rw [cell_of_row _ _ _ _ _ _ hC.row]; rfl) Tryz.underlying3 rfl) <| rp 2 (.int .i64 ((m : Nat) : Int)) ?_
 refine Zad <| Zab <| Za5 ?_
 exact Zaf (.int .i64 ((m : Nat) : Int)) (fun _ => by kernel_rfl) ⟨_, rfl, rfl, hB⟩
set_option maxHeartbeats 1000000 in
theorem Zpl {Y : Nat -> Prop} {w : World} (base : Nat) :
  Calls Tryz.prog 11 #[] w fun e w' => ∃ u, e = .returned u /\ (fun u w' => (∃ gB, u = .pointer (some ⟨gB, 0, none⟩) /\ Bu Y w' base gB 0 no none (.slice none 0 0) /\ w.heap.size <= gB) /\ Bl w w') u w' := by
 have hB := Bl.refl w
 refine Za3 Tryz.func11 rfl 3 rfl ?_
 show CW _ _ _ _ _ _ _ [] _
 refine Zac <| Zaa <| rp 0 (.pointer none) <| Zad <| Zab <| Zac <| Zaa <| rp 1 (.agg #[.slice none 0 0, .slice none 0 0, .int .i64 0]) <| Zb7 2 #[.slice none 0 0, .slice none 0 0, .int .i64 0] 54 (fun _ => by kernel_rfl) (fun _ => by kernel_rfl) ?_
 intro w1 gB hnB
 replace hB := hB.go hnB.below
 refine rp 0 (.pointer (some ⟨gB, 0, none⟩)) <| Zad <| Zab <| Za5 ?_
 exact Zaf (.pointer (some ⟨gB, 0, none⟩)) (fun _ => by kernel_rfl) ⟨_, rfl, ⟨gB, rfl, Zu5 hnB base, by rw [hnB.hg]; exact Nat.le_refl _⟩, hB⟩
def runE : Option (List Int) -> PList -> Int
 | _, [] => 0
 | lk, (k, x) :: r => if addE lk k x = 0 then runE (some k) r else addE lk k x
def runT : Tr -> PList -> Tr
 | t, [] => t
 | t, (k, x) :: r => runT (putT t k x) r
theorem Zep {fn : Func} {p q : Tmp} {f : Nat -> Value} (h : fn.results = #[.cell p 24, .tmp q]) (w : World) (g : Nat) (ds : List Int) (hl : ds.length = 32) (hp : f p = .pointer (some ⟨g, 0, none⟩)) {v : Value} (hq : f q = v) (hg : Rw g w (B8 ds) 24) : (resF f fn.results).run Tryz.prog w = .ok (.tuple #[.agg (B8 ds), v]) w := by
 have := run_loadVar_row (P := Tryz.prog) w g 24 24 _ _ _ hg Tryz.underlying24 rfl (Zce hl)
 unfold resF
 rw [h]
 simp [hp, hq, this, asAddr]
theorem Bu.lo {Y : Nat -> Prop} {w : World} {base gB m : Nat} {t : Tr} {lk : Option (List Int)} {vW : Value} (h : Bu Y w base gB m t lk vW) : (∀ k, vW.ownBlock = some k -> base <= k /\ k < w.heap.size) /\ gB < w.heap.size := by
 obtain ⟨pV, rs, fs, h1, h2⟩ := h
 exact ⟨h1.wv.lo, lt_of_get h1.row⟩
theorem Bu.rebase {Y : Nat -> Prop} {w : World} {base gB : Nat} {t : Tr} {lk : Option (List Int)} {vW : Value} (h : Bu Y w base gB 0 t lk vW) (b' : Nat) : Bu Y w b' gB 0 no none (.slice none 0 0) /\ vW = .slice none 0 0 := by
 obtain ⟨pV, rs, fs, h1, h2⟩ := h
 rcases h2 with ⟨_, rfl, rfl, rfl, rfl, rfl, rfl⟩ | ⟨_, _, _, _, _, _, _, _, _, _, _, _, _, hm⟩
 ·exact ⟨⟨_, [], [], ⟨h1.row, .inl ⟨rfl, rfl, rfl⟩, h1.kg, h1.sm⟩, .inl ⟨rfl, rfl, rfl, rfl, rfl, rfl, rfl⟩⟩, rfl⟩
 ·omega
theorem Af.blw {gB : Nat} {w u w' : World} {v v' : Value} (h : Af gB u w' v v') (hb : Bl w u) (hg : w.heap.size <= gB) (ho : ∀ k, v.ownBlock = some k -> w.heap.size <= k) : Bl w w' := ⟨h.os.trans (Below.os hb), h.tape.trans (Below.tape hb), h.output.trans (Below.output hb), Nat.le_trans hb.size h.size, fun k hk => (h.block k (Nat.lt_of_lt_of_le hk hb.size) (by omega) (fun e => by have := ho k e; omega)).trans (Below.block hb k hk)⟩
theorem rng2 {w : World} {g o : Nat} {u v : Value} (h1 : w.cell? ⟨g, o, none⟩ = some u) (h2 : w.cell? ⟨g, o + 1, none⟩ = some v) : w.rangeAt g o [u, v] := fun m x hm => by
 match m, hm with
 | 0, hm => simp at hm; subst hm; exact h1
 | 1, hm => simp at hm; subst hm; exact h2
 | m + 2, hm => simp at hm
theorem Zdl (t : Tr) : (rootP t).length = 32 := by unfold rootP; split <;> exact dref_len _
theorem Zi5 : addE none [97] [1] = 0 := by simp [addE]
theorem Zqx : putT no [97] [1] = leaf [6, 1] [1] := by simp [putT, put, Ni.nib]
theorem Zt5 : encT (leaf [6, 1] [1]) = [196, 130, 32, 97, 1] := by kernel_rfl
theorem Zkd : rootP (putT no [97] [1]) = dref [196, 130, 32, 97, 1] := by rw [Zqx, <- Zt5]; rfl
set_option maxHeartbeats 4000000 in
theorem Zg2 {K : Nat -> Prop} {w : World} {a : Option Addr} {n c : Nat} {vs : List (Value × Value)} {l : PList} (hl : PAt K w a n c vs l) (hn : n <= 2932031007400) :
  Calls Tryz.prog 8 #[.slice a n c] w fun e w' => ∃ u, e = .returned u /\ (fun u w' => u = .tuple #[.agg (B8 (if runE none l = 0 then rootP (runT no l) else z32)), .int .i64 (runE none l)] /\ Bl w w') u w' := by
 have hB := Bl.refl w
 have hlo := hl.old
 have hll := hl.ll
 refine Za3 Tryz.func8 rfl 28 rfl ?_
 show CW _ _ _ _ _ _ _ [(0, .slice a n c)] _
 refine Zac <| Zaa <| Zb7 2 (B8 z32) 24 (fun _ => by kernel_rfl) (fun _ => by kernel_rfl) ?_
 intro w1 gd hnd
 replace hB := hB.go hnd.below
 have hrd : Rw gd w1 (B8 z32) 24 := hnd.row
 have hgd := hnd.hg
 have hz1 := hnd.size
 refine rp 3 (.int .i64 0) <| Zad <| Zab <| Zac <| Zaa <| Za1 8 11 #[] (fun _ => by kernel_rfl) (fun _ => by kernel_rfl) (R := fun u w' => (∃ gB, u = .pointer (some ⟨gB, 0, none⟩) /\ Bu (fun _ => True) w' w1.heap.size gB 0 no none (.slice none 0 0) /\ w1.heap.size <= gB) /\ Bl w1 w') (Zpl (Y := fun _ => True) w1.heap.size) ?_
 rintro _ u1 ⟨⟨gB, rfl, hU, hgB⟩, hb1⟩
 replace hB := hB.go hb1
 replace hrd := hrd.go hb1
 refine rp 4 (.pointer (some ⟨gB, 0, none⟩)) <| Zad <| Zab <| Zac <| Zac <| Zaa <| rp 9 (.slice a n c) <| rp 10 (.int .i64 n) <| rp 11 (.int .i64 0) <| Zad <| Zab <| Zay ?_
 refine Zdj (X := Nat × Tr × Option (List Int) × Value) (fun q => [(11, .int .i64 ((q.1 : Nat) : Int)), (9, .slice a n c), (10, .int .i64 n), (4, .pointer (some ⟨gB, 0, none⟩)), (2, .pointer (some ⟨gd, 0, none⟩))]) (fun q v => Bl w v /\ Rw gd v (B8 z32) 24 /\ Bu (fun _ => True) v w1.heap.size gB q.1 q.2.1 q.2.2.1 q.2.2.2 /\ q.1 <= n /\ runE none l = runE q.2.2.1 (l.drop q.1) /\ runT no l = runT q.2.1 (l.drop q.1)) (fun q => n - q.1) (0, no, none, .slice none 0 0) (by exact ⟨fun _ => by kernel_rfl, ⟨fun _ => by kernel_rfl, ⟨fun _ => by kernel_rfl, ⟨fun _ => by kernel_rfl, ⟨fun _ => by kernel_rfl, trivial⟩⟩⟩⟩⟩) ⟨hB, hrd, hU, Nat.zero_le _, rfl, rfl⟩ ?_
 clear hB hrd hU
 rintro ⟨j, t, lk, vW⟩ v ⟨hB, hrd, hU, hj, hE, hT⟩
 simp only at hB hrd hU hj hE hT
 show CW _ _ _ _ _ _ _ [(11, .int .i64 ((j : Nat) : Int)), (9, .slice a n c), (10, .int .i64 n), (4, .pointer (some ⟨gB, 0, none⟩)), (2, .pointer (some ⟨gd, 0, none⟩))] _
 by_cases hlt : j < n
 ·skip
  obtain ⟨gE, oE, a1, n1, c1, a2, n2, c2, k, x, ea, hej, hc1, hc2, hs1, hs2⟩ := (hlo.go hB).at hlt
  subst ea
  have hjl : l.drop j = (k, x) :: l.drop (j + 1) := by rw [List.drop_eq_getElem_cons (by omega)]; congr 1; exact (List.getElem?_eq_some_iff.1 hej).2
  rw [hjl] at hE hT
  refine Zac <| Zaa <| rv 12 (.bool true) (fun _ => Zai (v := .bool (decide (((j : Nat) : Int) < (n : Int)))) (by kernel_rfl) (congrArg Value.bool (decide_eq_true (by omega)))) <| Zad <| Zab <| Zac <| Zan (fun _ => by kernel_rfl) <| Zaz <| Zab <| Zac <| Zay <| Zac ?_
  refine Zaa <| rv 13 (.pointer (some ⟨gE, oE + j * 2, none⟩)) (fun _ => Zas 22 _ _ gE oE j n c 2 34 rfl (by kernel_rfl) (by kernel_rfl) hlt Tryz.underlying22 (by kernel_rfl)) <| rv 14 (.agg #[.slice a1 n1 c1, .slice a2 n2 c2]) (fun _ => Zl7 34 _ gE (oE + j * 2) [.slice a1 n1 c1, .slice a2 n2 c2] _ rfl (by kernel_rfl) (rng2 hc1 hc2) Tryz.underlying34 rfl (by kernel_rfl)) <| Zb7 6 #[.slice none 0 0, .slice none 0 0] 34 (fun _ => by kernel_rfl) (fun _ => by kernel_rfl) ?_
  intro wA gA hnA
  refine Zcx gA #[.slice a1 n1 c1, .slice a2 n2 c2] (fun _ => by kernel_rfl) (fun _ => Zbf 34 _ _ _ _ _ _ rfl (by kernel_rfl) (by kernel_rfl) hnA.row (by kernel_rfl) rfl (by kernel_rfl)) ?_
  intro wC hpC
  have hnC := hnA.put hpC
  have hgA := hnC.hg
  replace hB := hB.go hnC.below
  replace hrd := hrd.go hnC.below
  replace hU := hU.go hnC.below
  replace hs1 := hs1.go hnC.below
  replace hs2 := hs2.go hnC.below
  have hrA : Rw gA wC #[.slice a1 n1 c1, .slice a2 n2 c2] 34 := hnC.row
  refine Zad <| Zab <| Zac <| Zaa <| rp 15 (.pointer (some ⟨gB, 0, none⟩)) <| rp 16 (.pointer (some ⟨gA, 0, none⟩)) <| rv 17 (.slice a1 n1 c1) (fun _ => Zam 32 _ ⟨gA, 0, none⟩ _ _ rfl (by kernel_rfl) (by rw [cell_of_row _ _ _ _ _ _ hrA]; rfl) Tryz.underlying32 rfl) <| rp 18 (.pointer (some ⟨gA, 1, none⟩)) <| rv 19 (.slice a2 n2 c2) (fun _ => Zam 32 _ ⟨gA, 1, none⟩ _ _ rfl (by kernel_rfl) (by rw [cell_of_row _ _ _ _ _ _ hrA]; rfl) Tryz.underlying32 rfl) ?_
  have hUl := hU.lo
  refine Za1 20 12 #[.pointer (some ⟨gB, 0, none⟩), .slice a1 n1 c1, .slice a2 n2 c2] (fun _ => by kernel_rfl) (fun _ => by kernel_rfl) (R := RAd (fun _ => True) (wC) w1.heap.size gB j t lk vW k x) (Zpo hU (fun _ _ => trivial) (by have := hB.size; omega) (by omega) hs1 (hs2.mono (fun b hb => ⟨fun e => by have := (hUl.1 b e).1; have := hb.2; omega, by have := hb.2; omega⟩))) ?_
  rintro _ u2 ⟨rfl, vW2, hU2, hA2⟩
  have hgdl := lt_of_get hrd
  replace hrd : Rw gd u2 (B8 z32) 24 := (hA2.block gd hgdl (by omega) (fun e => by have := (hUl.1 gd e).1; omega)).trans hrd
  replace hB : Bl w u2 := hA2.blw hB (by omega) (fun k hk => by have := (hUl.1 k hk).1; omega)
  refine rp 7 (.int .i64 (addE lk k x)) <| Zad <| Zab <| Zac <| Zaa <| rp 21 (.int .i64 (addE lk k x)) <| rp 22 (.bool (!((addE lk k x : Int) == (0 : Int)))) <| Zad <| Zab ?_
  by_cases he : addE lk k x = 0
  ·skip
   rw [show (!((addE lk k x : Int) == (0 : Int))) = false from by simp [he]]
   have hU := hU2
   rw [if_pos he, if_pos he, if_pos he] at hU
   refine Zao (fun _ => by kernel_rfl) <| Zaz <| Zbb <| Zab <| Zaa <| rv 25 (.int .i64 (((j : Nat) : Int) + 1)) (fun _ => Zai (v := .int .i64 (IntKind.i64.wrap (((j : Nat) : Int) + 1))) (by kernel_rfl) (congrArg (Value.int .i64) (Zb6 (by omega) (by omega)))) <| rp 11 (.int .i64 (((j : Nat) : Int) + 1)) <| Zad ?_
   exact Zbi (E := fun q => [(11, .int .i64 ((q.1 : Nat) : Int)), (9, .slice (some ⟨gE, oE, none⟩) n c), (10, .int .i64 n), (4, .pointer (some ⟨gB, 0, none⟩)), (2, .pointer (some ⟨gd, 0, none⟩))]) (R := fun q v => Bl w v /\ Rw gd v (B8 z32) 24 /\ Bu (fun _ => True) v w1.heap.size gB q.1 q.2.1 q.2.2.1 q.2.2.2 /\ q.1 <= n /\ runE none l = runE q.2.2.1 (l.drop q.1) /\ runT no l = runT q.2.1 (l.drop q.1)) (μ := fun q => n - q.1) (x := (j, t, lk, vW)) (j + 1, putT t k x, some k, vW2) (by exact ⟨fun _ => by kernel_rfl, ⟨fun _ => by kernel_rfl, ⟨fun _ => by kernel_rfl, ⟨fun _ => by kernel_rfl, ⟨fun _ => by kernel_rfl, trivial⟩⟩⟩⟩⟩) ⟨hB, hrd, hU, by simp only; omega, by simp only [runE] at hE; rw [if_pos he] at hE; exact hE, hT⟩ (by show n - (j + 1) < n - j; omega)
  ·skip
   rw [show (!((addE lk k x : Int) == (0 : Int))) = true from by simp [he]]
   have hre : runE none l = addE lk k x := by rw [hE]; simp only [runE]; rw [if_neg he]
   refine Zan (fun _ => by kernel_rfl) <| Zac <| Zaa <| rp 23 (.agg (B8 z32)) <| rp 24 (.int .i64 (addE lk k x)) <| Zcx gd (B8 z32) (fun _ => by kernel_rfl) (fun _ => Zbf 24 _ _ _ _ _ _ rfl (by kernel_rfl) (by kernel_rfl) hrd (Zce (show z32.length = 32 from rfl)) (Zcv (show z32.length = 32 from rfl)) (B8_one _)) ?_
   intro uE hpE
   replace hB : Bl w uE := hpE.below hB (by omega) hB.size
   have hrE : Rw gd uE (B8 z32) 24 := hpE.row hrd
   refine rp 3 (.int .i64 (addE lk k x)) <| Zad <| Zab <| Za5 <| Zbc <| Zap <| Zap <| Zbc <| Zap ?_
   exact Zaf (.tuple #[.agg (B8 z32), .int .i64 (addE lk k x)]) (fun _ => Zep Tryz.results8 _ gd z32 rfl (by kernel_rfl) (by kernel_rfl) hrE) ⟨_, rfl, by rw [hre, if_neg he], hB⟩
 obtain rfl : j = n := by omega
 show CW _ _ _ _ _ _ _ [(11, .int .i64 ((j : Nat) : Int)), (9, .slice a j c), (10, .int .i64 ((j : Nat) : Int)), (4, .pointer (some ⟨gB, 0, none⟩)), (2, .pointer (some ⟨gd, 0, none⟩))] _
 rw [List.drop_of_length_le (by omega)] at hE hT
 simp only [runE, runT] at hE hT
 refine Zac <| Zaa <| rv 12 (.bool false) (fun _ => Zai (v := .bool (decide (((j : Nat) : Int) < ((j : Nat) : Int)))) (by kernel_rfl) (congrArg Value.bool (decide_eq_false (by omega)))) <| Zad <| Zab <| Zac <| Zao (fun _ => by kernel_rfl) <| Zd5 <| Zat <| Zat <| Zbj <| Zab ?_
 refine Zac <| Zaa <| rp 26 (.pointer (some ⟨gB, 0, none⟩)) <| Za1 27 15 #[.pointer (some ⟨gB, 0, none⟩)] (fun _ => by kernel_rfl) (fun _ => by kernel_rfl) (R := fun u w' => u = .agg (B8 (rootP t)) /\ Bl (v) w') (Zmu hU) ?_
 rintro _ u5 ⟨rfl, hb5⟩
 replace hB := hB.go hb5
 replace hrd := hrd.go hb5
 replace hU := hU.go hb5
 refine Zcx gd (B8 (rootP t)) (fun _ => by kernel_rfl) (fun _ => Zbf 24 _ _ _ _ _ _ rfl (by kernel_rfl) (by kernel_rfl) hrd (Zce (Zdl t)) (Zcv (Zdl t)) (B8_one _)) ?_
 intro uE hpE
 replace hB : Bl w uE := hpE.below hB (by omega) hB.size
 have hrE : Rw gd uE (B8 (rootP t)) 24 := hpE.row hrd
 refine rp 3 (.int .i64 0) <| Zad <| Zab <| Za5 ?_
 exact Zaf (.tuple #[.agg (B8 (rootP t)), .int .i64 0]) (fun _ => Zep Tryz.results8 _ gd (rootP t) (Zdl t) (by kernel_rfl) (by kernel_rfl) hrE) ⟨_, rfl, by rw [hE, if_pos rfl, hT], hB⟩
set_option maxHeartbeats 4000000 in
theorem Zt6 {w : World} :
  Calls Tryz.prog 10 #[] w fun e w' => ∃ u, e = .returned u /\ (fun u w' => u = .bool true /\ Bl w w') u w' := by
 have hB := Bl.refl w
 have hdl := dref_len [196, 130, 32, 97, 1]
 obtain ⟨ds, hds⟩ : ∃ ds, dref [196, 130, 32, 97, 1] = ds := ⟨_, rfl⟩
 rw [hds] at hdl
 refine Za3 Tryz.func10 rfl 45 rfl ?_
 show CW _ _ _ _ _ _ _ [] _
 refine Zac <| Zaa <| rp 0 (.bool false) <| Zad <| Zab <| Zac <| Zaa <| Zdf 6 #[.int .u8 97] 5 1 (fun _ => by kernel_rfl) (fun _ => by kernel_rfl) ?_
 intro w1 g2 hn3
 obtain ⟨w4, hr5, hb6, hs7⟩ := Ztk (x := 97) (by omega) hn3 (K := fun b => True) (fun _ _ => trivial)
 refine rw_v 7 (.slice (some ⟨g2, 0, none⟩) 1 1) (fun _ => by kernel_rfl) (fun _ => hr5 _ _ _ rfl (by kernel_rfl)) ?_
 replace hB := hB.go hb6
 refine Zdf 8 #[.int .u8 1] 5 1 (fun _ => by kernel_rfl) (fun _ => by kernel_rfl) ?_
 intro w8 g9 hn10
 have hs11 : Sk (fun b => True) w8 (some ⟨g9, 0, none⟩) 1 1 [1] := Zwi (by omega) hn10 (fun _ _ => trivial)
 replace hB := hB.go hn10.below
 replace hs7 := hs7.go hn10.below
 refine rp 9 (.agg #[.slice (some ⟨g2, 0, none⟩) 1 1, .slice (some ⟨g9, 0, none⟩) 1 1]) <| Zdf 10 #[.slice (some ⟨g2, 0, none⟩) 1 1, .slice (some ⟨g9, 0, none⟩) 1 1] 34 1 (fun _ => by kernel_rfl) (fun _ => by kernel_rfl) ?_
 intro wP gP hnP
 have hP := PAt.one hnP hs7 hs11 trivial
 replace hB := hB.go hnP.below
 replace hs7 := hs7.go hnP.below
 replace hs11 := hs11.go hnP.below
 refine Za1 11 8 #[.slice (some ⟨gP, 0, none⟩) 1 1] (fun _ => by kernel_rfl) (fun _ => by kernel_rfl) (R := fun u w' => u = .tuple #[.agg (B8 ds), .int .i64 0] /\ Bl wP w') (((Zg2 hP (by omega)).mono (fun e w' ⟨u, e1, e2, e3⟩ => ⟨u, e1, by rw [e2, show runE none [([97], [1])] = 0 from by simp [runE, Zi5], if_pos rfl, show rootP (runT no [([97], [1])]) = ds from by rw [<- hds, <- Zkd]; rfl], e3⟩))) ?_
 rintro _ u1 ⟨rfl, hb1⟩
 replace hB := hB.go hb1
 replace hs7 := hs7.go hb1
 replace hs11 := hs11.go hb1
 refine rp 5 (.tuple #[.agg (B8 ds), .int .i64 0]) <| rp 12 (.agg (B8 ds)) <| rp 13 (.int .i64 0) ?_
 have hz0 := hB.size
 refine Zb7 1 (B8 z32) 24 (fun _ => by kernel_rfl) (fun _ => by kernel_rfl) ?_
 intro w2 gd hnd
 replace hB := hB.go hnd.below
 replace hs7 := hs7.go hnd.below
 replace hs11 := hs11.go hnd.below
 have hrd : Rw gd w2 (B8 z32) 24 := hnd.row
 have hgd := hnd.hg
 refine Zcx gd (B8 ds) (fun _ => by kernel_rfl) (fun _ => Zbf 24 _ _ _ _ _ _ rfl (by kernel_rfl) (by kernel_rfl) hrd (Zce hdl) (Zcv hdl) (B8_one _)) ?_
 intro w3 hpE
 replace hB : Bl w w3 := hpE.below hB (by omega) hB.size
 replace hrd : Rw gd w3 (B8 ds) 24 := hpE.row hrd
 refine rp 2 (.int .i64 0) <| Zad <| Zab <| Zac <| Zaa ?_
 have hz3 := hB.size
 have hgd3 := lt_of_get hrd
 refine Za1 14 11 #[] (fun _ => by kernel_rfl) (fun _ => by kernel_rfl) (R := fun u w' => (∃ gB, u = .pointer (some ⟨gB, 0, none⟩) /\ Bu (fun _ => True) w' (w3.heap.size + 2) gB 0 no none (.slice none 0 0) /\ w3.heap.size <= gB) /\ Bl w3 w') (Zpl (Y := fun _ => True) _) ?_
 rintro _ u4 ⟨⟨gB, rfl, hU, hgB⟩, hb4⟩
 replace hB := hB.go hb4
 replace hrd := hrd.go hb4
 refine rp 3 (.pointer (some ⟨gB, 0, none⟩)) <| Zad <| Zab <| Zac <| Zac <| Zaa <| rp 15 (.pointer (some ⟨gB, 0, none⟩)) <| rp 16 (.bool false) <| Zad <| Zab <| Zao (fun _ => by kernel_rfl) <| Zaz ?_
 refine Zab <| Zac <| Zaa <| rp 17 (.pointer (some ⟨gB, 0, none⟩)) ?_
 have hglhn14 := hU.lo.2
 refine Zdf 18 #[.int .u8 97] 5 1 (fun _ => by kernel_rfl) (fun _ => by kernel_rfl) ?_
 intro w12 g13 hn14
 obtain ⟨w15, hr16, hb17, hs18⟩ := Ztk (x := 97) (by omega) hn14 (K := fun b => gB < b) (fun _ _ => by omega)
 refine rw_v 19 (.slice (some ⟨g13, 0, none⟩) 1 1) (fun _ => by kernel_rfl) (fun _ => hr16 _ _ _ rfl (by kernel_rfl)) ?_
 replace hB := hB.go hb17
 replace hrd := hrd.go hb17
 replace hU := hU.go hb17
 have hglhn21 := hU.lo.2
 refine Zdf 20 #[.int .u8 1] 5 1 (fun _ => by kernel_rfl) (fun _ => by kernel_rfl) ?_
 intro w19 g20 hn21
 have hs22 : Sk (fun b => gB < b) w19 (some ⟨g20, 0, none⟩) 1 1 [1] := Zwi (by omega) hn21 (fun _ _ => by omega)
 replace hB := hB.go hn21.below
 replace hrd := hrd.go hn21.below
 replace hU := hU.go hn21.below
 replace hs18 := hs18.go hn21.below
 have hU5 := (hU.rebase (w19).heap.size).1
 refine Za1 21 12 #[.pointer (some ⟨gB, 0, none⟩), .slice (some ⟨g13, 0, none⟩) 1 1, .slice (some ⟨g20, 0, none⟩) 1 1] (fun _ => by kernel_rfl) (fun _ => by kernel_rfl) (R := fun u w' => u = .int .i64 0 /\ ∃ vW, Bu (fun _ => True) w' (w19).heap.size gB 1 (putT no [97] [1]) (some [97]) vW /\ Af gB (w19) w' (.slice none 0 0) vW) (((Zpo hU5 (fun _ _ => trivial) (Nat.le_refl _) (by omega) hs18 (hs22.mono (K' := fun b => KF (.slice none 0 0) b /\ b ≠ gB) (fun b hb => ⟨by simp [KF, Value.ownBlock], by have : gB < b := hb; omega⟩))).mono (fun e w' ⟨u, e1, e2, vW, e3, e4⟩ => ⟨u, e1, by rw [e2, Zi5], vW, by rw [Zi5, if_pos rfl, if_pos rfl, if_pos rfl] at e3; exact e3, e4⟩))) ?_
 rintro _ u6 ⟨rfl, vW, hU6, hA6⟩
 have hgdl := lt_of_get hrd
 have hrd6 : Rw gd u6 (B8 ds) 24 := (hA6.block gd hgdl (by omega) (by simp [KF, Value.ownBlock])).trans hrd
 have hB6 : Bl w u6 := hA6.blw hB (by omega) (fun k hk => by cases hk)
 clear hB hrd hU
 have hB := hB6
 have hrd := hrd6
 have hU := hU6
 refine rp 4 (.int .i64 0) <| Zad <| Zab <| Zac <| Zcb (fun v => Rw gd v (B8 ds) 24) (by kernel_rfl) (hrd.go (Below.refl _ _).drew) ?_
 replace hB := hB.drew
 replace hrd := hrd.go (Below.refl _ _).drew
 replace hU := hU.go (Below.refl _ _).drew
 refine dt 0 22 (.int .i64 0) (fun v hv _ => by kernel_rfl) hrd <| dt 1 23 (.bool true) (fun v hv _ => by kernel_rfl) hrd <| dt 2 24 (.bool true) (fun v hv _ => by kernel_rfl) hrd <| dt 3 25 (.int .i64 0) (fun v hv _ => by kernel_rfl) hrd <| dt 4 26 (.bool true) (fun v hv _ => by kernel_rfl) hrd <| dt 5 27 (.bool true) (fun v hv _ => by kernel_rfl) hrd <| dt 6 28 (.bool true) (fun v hv _ => by kernel_rfl) hrd <| dt 7 29 (.agg (B8 ds)) (fun v hv _ => Zed 24 _ _ _ _ _ _ rfl (by kernel_rfl) hv Tryz.underlying24 rfl (Zce hdl)) hrd <| Zah [8] (by kernel_rfl) (by simp) ?_
 refine Zgm 8 30 #[.int .u8 196, .int .u8 130, .int .u8 32, .int .u8 97, .int .u8 1] 5 5 rfl (fun _ => by kernel_rfl) (fun _ => by kernel_rfl) (fun w' g h => hrd.go h.below) ?_ Zar
 intro w7 g7 hn7
 have hag : Ag w7 (some ⟨g7, 0, none⟩) 5 5 [196, 130, 32, 97, 1] := Ni.row_ag (show Ni.Row g7 w7 [196, 130, 32, 97, 1] from hn7.row) rfl (fun x hx => by simp at hx; omega) (show (5 : Nat) <= 9223372036854775807 by decide)
 replace hB := hB.go hn7.below
 replace hrd := hrd.go hn7.below
 replace hU := hU.go hn7.below
 refine Zah [9] (by kernel_rfl) (by simp) ?_
 refine Zba 9 31 25 #[.slice (some ⟨g7, 0, none⟩) 5 5] rfl (fun _ => by kernel_rfl) (fun _ => by kernel_rfl) (R := fun u w' => u = .agg (B8 ds) /\ Bl (w7) w') ((Zhe (some ⟨g7, 0, none⟩) 5 5 _ (w7) hag (by omega)).mono (fun e w' h => ⟨_, by rw [h.1, hds], rfl, h.2⟩)) (fun u w' h => hrd.go h.2) ?_ Zar
 rintro _ u8 ⟨rfl, hbu8⟩
 replace hB := hB.go hbu8
 replace hrd := hrd.go hbu8
 replace hU := hU.go hbu8
 refine dt 10 32 (.bool true) (fun v hv _ => Zr8 rfl (by kernel_rfl) (by kernel_rfl) hdl) hrd <| dt 11 33 (.bool true) (fun v hv _ => by kernel_rfl) hrd <| dt 12 34 (.bool true) (fun v hv _ => by kernel_rfl) hrd <| dt 13 35 (.pointer (some ⟨gB, 0, none⟩)) (fun v hv _ => by kernel_rfl) hrd <| dt 15 37 (.agg (B8 ds)) (fun v hv _ => Zed 24 _ _ _ _ _ _ rfl (by kernel_rfl) hv Tryz.underlying24 rfl (Zce hdl)) hrd <| Zah [14] (by kernel_rfl) (by simp) ?_
 refine Zba 14 36 15 #[.pointer (some ⟨gB, 0, none⟩)] rfl (fun _ => by kernel_rfl) (fun _ => by kernel_rfl) (R := fun u w' => u = .agg (B8 ds) /\ Bl (u8) w') ((Zmu hU).mono (fun e w' ⟨u, e1, e2, e3⟩ => ⟨u, e1, by rw [e2, Zkd, hds], e3⟩)) (fun u w' h => hrd.go h.2) ?_ Zar
 rintro _ u9 ⟨rfl, hbu9⟩
 replace hB := hB.go hbu9
 replace hrd := hrd.go hbu9
 replace hU := hU.go hbu9
 refine dt 16 38 (.bool true) (fun v hv _ => Zr8 rfl (by kernel_rfl) (by kernel_rfl) hdl) hrd <| dt 17 39 (.bool true) (fun v hv _ => by kernel_rfl) hrd <| dt 18 40 (.bool true) (fun v hv _ => by kernel_rfl) hrd <| dt 19 41 (.pointer (some ⟨gB, 0, none⟩)) (fun v hv _ => by kernel_rfl) hrd <| Zah [20] (by kernel_rfl) (by simp) ?_
 refine Zba 20 42 14 #[.pointer (some ⟨gB, 0, none⟩)] rfl (fun _ => by kernel_rfl) (fun _ => by kernel_rfl) (R := fun u w' => u = .int .i64 1 /\ Bl (u9) w') ((Zvr hU).mono (fun e w' ⟨u, e1, e2, e3⟩ => ⟨u, e1, e2, e3⟩)) (fun u w' h => hrd.go h.2) ?_ Zar
 rintro _ u10 ⟨rfl, hbu10⟩
 replace hB := hB.go hbu10
 replace hrd := hrd.go hbu10
 replace hU := hU.go hbu10
 refine dt 21 43 (.bool true) (fun v hv _ => by kernel_rfl) hrd <| dt 22 44 (.bool true) (fun v hv _ => by kernel_rfl) hrd <| dt 23 0 (.bool true) (fun v hv _ => by kernel_rfl) hrd <| Zbn (by kernel_rfl) <| Zab <| Za5 ?_
 exact Zaf (.bool true) (fun _ => by kernel_rfl) ⟨_, rfl, rfl, hB⟩
end Go.Proofs.YtdkpilgelgjieaaGreat
namespace Go.Proofs.YtdkpilgelgjieaaGreat
namespace Tr
def sz : Tr -> Nat
 | no => 0
 | leaf _ _ => 1
 | ext _ c => sz c + 1
 | br k _ => ((List.range 16).map fun i => sz (k i)).sum + 1
end Tr
open Tr
end Go.Proofs.YtdkpilgelgjieaaGreat
namespace Go.Proofs.YtdkpilgelgjieaaGreat
open Go.RowKit
open Tr
open Di (dref)
theorem Zok {k x : List Int} : ∀ {l : PList}, (∀ e ∈ l, Ni.lessP e.1 k = true) -> putR k x l = l ++ [(k, x)]
 | [], _ => rfl
 | e :: r, h => by rw [putR, if_pos (h e (by simp)), Zok (fun q hq => h q (List.mem_cons_of_mem _ hq))]; rfl
def Lst : Option (List Int) -> PList -> Prop
 | none, l => l = []
 | some k, l => ∀ e ∈ l, e.1 = k \/ Ni.lessP e.1 k = true
theorem addE0 {lk : Option (List Int)} {k x : List Int} (h : addE lk k x = 0) : k.length <= 32 /\ (0 < x.length /\ x.length <= 256) /\ ∀ k0, lk = some k0 -> Ni.lessP k0 k = true := by
 unfold addE at h
 by_cases h1 : k.length <= 32
 ·rw [if_pos h1] at h
  by_cases h2 : 0 < x.length /\ x.length <= 256
  ·rw [if_pos h2] at h
   refine ⟨h1, h2, fun k0 e => ?_⟩
   subst e
   simp only at h
   cases hq : Ni.lessP k0 k with
   | true => rfl
   | false => rw [hq] at h; simp at h
  ·rw [if_neg h2] at h; cases h
 ·rw [if_neg h1] at h; cases h
theorem Lst.step {lk : Option (List Int)} {l : PList} {k x : List Int} (h : Lst lk l) (hz : addE lk k x = 0) : putL l k x = l ++ [(k, x)] /\ Lst (some k) (putL l k x) := by
 obtain ⟨h1, h2, h3⟩ := addE0 hz
 have hall : ∀ e ∈ l, Ni.lessP e.1 k = true := by
  intro e he
  cases lk with
  | none => rw [show l = [] from h] at he; simp at he
  | some k0 =>
   rcases h e he with q | q
   ·rw [q]; exact h3 k0 rfl
   ·exact Zds _ _ _ q (h3 k0 rfl)
 have hp : putL l k x = l ++ [(k, x)] := by unfold putL; rw [if_pos ⟨h1, h2⟩, Zok hall]
 refine ⟨hp, ?_⟩
 rw [hp]
 intro e he
 rcases List.mem_append.1 he with q | q
 ·exact .inr (hall e q)
 ·rw [List.mem_singleton.1 q]; exact .inl rfl
end Go.Proofs.YtdkpilgelgjieaaGreat
