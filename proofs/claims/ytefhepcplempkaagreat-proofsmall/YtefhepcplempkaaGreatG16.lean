/- What Key answers. -/
import Derived.Test.YtefhepcplempkaaGreatG15
import Derived.Test.YtefhepcplempkaaGreatG02
import Derived.Test.YtefhepcplempkaaGreatG01
import Derived.Test.YtefhepcplempkaaGreatG00
set_option linter.unusedVariables false
set_option maxRecDepth 100000
namespace Go.Proofs.YtefhepcplempkaaGreat.Ni
open Go.RowKit
theorem Zv5 (p : List Int) (m i : Nat) (hm : (kk p).length = m) (hi : i < m) : ((kk p).take i ++ List.replicate (m - i) (0 : Int)).set i ((kk p).getD i 0) = (kk p).take (i + 1) ++ List.replicate (m - (i + 1)) (0 : Int) := by
 rw [Zeq (by omega), List.append_assoc]
 have e : ((kk p).take i).length = i := by rw [List.length_take]; omega
 rw [List.set_append_right _ _ (by omega), e, Nat.sub_self, show m - i = (m - (i + 1)) + 1 from by omega, List.replicate_succ]
 rfl
set_option maxHeartbeats 2000000 in
theorem Zx3 (a : Option Addr) (n c : Nat) (p : List Int) (w : World) (h : Ag w a n c p) (hn : n <= 140737488355328) :
  Calls Tryz.prog 78 #[.slice a n c] w fun e w' => (∃ a' m, e = .returned (.tuple #[.slice a' m m, .bool (keyP p).2]) /\ Ag w' a' m m (keyP p).1) /\ Below w.heap.size w w' := by
 have hl := h.l
 by_cases he : n % 2 = 0
 case neg =>
  rw [Zhl (fun hh => he (by rw [<- hl]; exact hh.2))]
  simp only
  have hei : (n : Int) % 2 = 1 := by omega
  clear h hl he
  go_enter Tryz.func78, Tryz.ntmps78
  go_wp2_with fail
  go_ret2
  exact ⟨⟨none, 0, rfl, ag_nil _⟩, Below.refl _ _⟩
 have hei : (n : Int) % 2 = 0 := by omega
 have hr := right_any a n c p w h hn
 by_cases hrt : rightP p = true
 case neg =>
  rw [Zhl (fun hh => hrt hh.1)]
  simp only
  rw [show rightP p = false from by simpa using hrt] at hr
  clear h hl he hrt
  go_enter Tryz.func78, Tryz.ntmps78
  go_wp2_with fail
  refine hr.mono ?_
  rintro e w1 ⟨rfl, rfl⟩
  clear hr
  go_wp2_with fail
  go_ret2
  exact ⟨⟨none, 0, rfl, ag_nil _⟩, Below.refl _ _⟩
 rw [Zgj hrt (by omega)]
 simp only
 rw [hrt] at hr
 obtain ⟨m, hm⟩ : ∃ m, n / 2 = m := ⟨_, rfl⟩
 have hmn : n = 2 * m := by omega
 subst hmn
 clear hm he hei
 have HKL : Hid ((kk p).length = m) := Hid.mk (by rw [Zng]; omega)
 have HKB := Hid.mk (Zrj p h.b hrt)
 have HL := Hid.mk hl
 have HB := Hid.mk h.b
 have HRT := Hid.mk hrt
 have HC := Hid.mk (fun h0 => ag_head h h0)
 have hmk := run_make_row' (P := Tryz.prog) 23 5 (.int .u8 0) 1 Tryz.underlying23 info5b rfl .i64 .i64 m (by omega) (by omega)
 have hrow : Row w.heap.size (w.alloc (.cells (madeCells #[.int .u8 0] m) 5)) (List.replicate m 0) := by
  unfold Row; rw [heap_alloc_new, made_bytes]
 have hbw : Below w.heap.size w (w.alloc (.cells (madeCells #[.int .u8 0] m) 5)) := (Below.refl _ _).alloc (Nat.le_refl _) _
 have HR := Hid.mk hrow
 have HBW := Hid.mk hbw
 have hm2 : (2 * m : Nat) % 2 = 0 := by omega
 have hm3 : ((2 * m : Nat) : Int) % 2 = 0 := by omega
 have hm4 : ((2 * m : Nat) : Int) / 2 = m := by omega
 clear hrow hbw h hl hrt
 go_enter Tryz.func78, Tryz.ntmps78
 go_wp2_with fail
 refine hr.mono ?_
 rintro e w1 ⟨rfl, rfl⟩
 clear hr
 go_wp2_with fail
 go_loopw [21] (fun i v => ∃ k : Nat, k <= m /\ i = .int .i64 k /\ Row w1.heap.size v ((kk p).take k ++ List.replicate (m - k) 0) /\ Below w1.heap.size w1 v) (fun i _ => m - (intOf i).toNat)
 case atStart => exact ⟨0, by omega, rfl, by rw [List.take_zero, List.nil_append, Nat.sub_zero]; exact HR.out, HBW.out⟩
 case round =>
  clear HR HBW
  obtain ⟨k, hk, rfl, hrow, hb⟩ := hrel
  by_cases hlt : k < m
  ·have hki : (k : Int) < m := by omega
   have hlen : ((kk p).take k ++ List.replicate (m - k) (0 : Int)).length = m := by rw [List.length_append, List.length_replicate, List.length_take, HKL.out]; omega
   have hcell := hrow.cell (i := k) (by omega)
   have hfz := hrow.frozen k
   have hset := hrow.set k ((kk p).getD k 0)
   rw [Zv5 p m k HKL.out hlt] at hset
   have hget := Zrk p k (by have := HL.out; omega)
   obtain ⟨g, off, rfl, hnc, hcm, hcs⟩ := HC.out (by omega)
   unfold maxLen at hcm
   have hc1 := (hb.cell (p := ⟨g, off + (2 * k), none⟩) (block_lt_of_cell (hcs (2 * k) (by omega)))).trans (hcs (2 * k) (by omega))
   have hc2 := (hb.cell (p := ⟨g, off + (2 * k + 1), none⟩) (block_lt_of_cell (hcs (2 * k + 1) (by omega)))).trans (hcs (2 * k + 1) (by omega))
   have hx0 := (HB.out _ (getD_mem (l := p) (i := 2 * k) (by have := HL.out; omega))).1
   have hy0 := (HB.out _ (getD_mem (l := p) (i := 2 * k + 1) (by have := HL.out; omega))).1
   have hx1 := Zgb HRT.out (i := 2 * k) (by have := HL.out; omega)
   have hy1 := Zgb HRT.out (i := 2 * k + 1) (by have := HL.out; omega)
   generalize ((kk p).take k ++ List.replicate (m - k) (0 : Int)).getD k 0 = z at hcell
   generalize p.getD (2 * k) 0 = x at *
   generalize p.getD (2 * k + 1) 0 = y at *
   rw [hget] at hset
   have hor := or16 hx0 hx1 hy0 hy1
   have hkm : 2 * k + 1 < 2 * m := by omega
   have hk1 : (2 * (k : Int)) < ((2 * m : Nat) : Int) := by omega
   have hk2 : (2 * (k : Int) + 1) < ((2 * m : Nat) : Int) := by omega
   have ht1 : (2 * (k : Int)).toNat = 2 * k := by omega
   have ht2 : (2 * (k : Int) + 1).toNat = 2 * k + 1 := by omega
   have HS := Hid.mk hset
   have HBB := Hid.mk hb
   clear hset hb hrow hlen hget hcs
   go_wp2_with fail
   go_region
   all_goals
    go_wp2_with fail
    exact ⟨⟨k + 1, by omega, by simp, HS.out, (HBB.out.setCell (Nat.le_refl _) _).drew⟩, by simp [intOf]; omega⟩
  ·have hki : ¬ (k : Int) < m := by omega
   have e : k = m := by omega
   subst e
   rw [Nat.sub_self, List.replicate_zero, List.append_nil, List.take_of_length_le (by rw [HKL.out]; exact Nat.le_refl _)] at hrow
   have HS := Hid.mk hrow
   have HBB := Hid.mk hb
   clear hrow hb
   go_wp2_with fail
   go_ret2
   exact ⟨⟨_, _, rfl, row_ag HS.out HKL.out HKB.out (by omega)⟩, HBB.out⟩
end Go.Proofs.YtefhepcplempkaaGreat.Ni
namespace Go.Proofs.YtefhepcplempkaaGreat.Ni
open Go.RowKit
set_option maxHeartbeats 1000000 in
theorem key_new (a : Option Addr) (n c : Nat) (p : List Int) (w : World) (h : Ag w a n c p) (hn : n <= 140737488355328) :
  Calls Tryz.prog 78 #[.slice a n c] w fun e w' => (∃ a' m, e = .returned (.tuple #[.slice a' m m, .bool (keyP p).2]) /\ Ag w' a' m m (keyP p).1 /\ ∀ x, a' = some x -> x.block = w.heap.size /\ Row w.heap.size w' (keyP p).1) /\ Below w.heap.size w w' := by
 have hl := h.l
 by_cases he : n % 2 = 0
 case neg =>
  rw [Zhl (fun hh => he (by rw [<- hl]; exact hh.2))]
  simp only
  have hei : (n : Int) % 2 = 1 := by omega
  clear h hl he
  go_enter Tryz.func78, Tryz.ntmps78
  go_wp2_with fail
  go_ret2
  exact ⟨⟨none, 0, rfl, ag_nil _, fun x hx => by cases hx⟩, Below.refl _ _⟩
 have hei : (n : Int) % 2 = 0 := by omega
 have hr := right_any a n c p w h hn
 by_cases hrt : rightP p = true
 case neg =>
  rw [Zhl (fun hh => hrt hh.1)]
  simp only
  rw [show rightP p = false from by simpa using hrt] at hr
  clear h hl he hrt
  go_enter Tryz.func78, Tryz.ntmps78
  go_wp2_with fail
  refine hr.mono ?_
  rintro e w1 ⟨rfl, rfl⟩
  clear hr
  go_wp2_with fail
  go_ret2
  exact ⟨⟨none, 0, rfl, ag_nil _, fun x hx => by cases hx⟩, Below.refl _ _⟩
 rw [Zgj hrt (by omega)]
 simp only
 rw [hrt] at hr
 obtain ⟨m, hm⟩ : ∃ m, n / 2 = m := ⟨_, rfl⟩
 have hmn : n = 2 * m := by omega
 subst hmn
 clear hm he hei
 have HKL : Hid ((kk p).length = m) := Hid.mk (by rw [Zng]; omega)
 have HKB := Hid.mk (Zrj p h.b hrt)
 have HL := Hid.mk hl
 have HB := Hid.mk h.b
 have HRT := Hid.mk hrt
 have HC := Hid.mk (fun h0 => ag_head h h0)
 have hmk := run_make_row' (P := Tryz.prog) 23 5 (.int .u8 0) 1 Tryz.underlying23 info5b rfl .i64 .i64 m (by omega) (by omega)
 have hrow : Row w.heap.size (w.alloc (.cells (madeCells #[.int .u8 0] m) 5)) (List.replicate m 0) := by
  unfold Row; rw [heap_alloc_new, made_bytes]
 have hbw : Below w.heap.size w (w.alloc (.cells (madeCells #[.int .u8 0] m) 5)) := (Below.refl _ _).alloc (Nat.le_refl _) _
 have HR := Hid.mk hrow
 have HBW := Hid.mk hbw
 have hm2 : (2 * m : Nat) % 2 = 0 := by omega
 have hm3 : ((2 * m : Nat) : Int) % 2 = 0 := by omega
 have hm4 : ((2 * m : Nat) : Int) / 2 = m := by omega
 clear hrow hbw h hl hrt
 go_enter Tryz.func78, Tryz.ntmps78
 go_wp2_with fail
 refine hr.mono ?_
 rintro e w1 ⟨rfl, rfl⟩
 clear hr
 go_wp2_with fail
 go_loopw [21] (fun i v => ∃ k : Nat, k <= m /\ i = .int .i64 k /\ Row w1.heap.size v ((kk p).take k ++ List.replicate (m - k) 0) /\ Below w1.heap.size w1 v) (fun i _ => m - (intOf i).toNat)
 case atStart => exact ⟨0, by omega, rfl, by rw [List.take_zero, List.nil_append, Nat.sub_zero]; exact HR.out, HBW.out⟩
 case round =>
  clear HR HBW
  obtain ⟨k, hk, rfl, hrow, hb⟩ := hrel
  by_cases hlt : k < m
  ·have hki : (k : Int) < m := by omega
   have hlen : ((kk p).take k ++ List.replicate (m - k) (0 : Int)).length = m := by rw [List.length_append, List.length_replicate, List.length_take, HKL.out]; omega
   have hcell := hrow.cell (i := k) (by omega)
   have hfz := hrow.frozen k
   have hset := hrow.set k ((kk p).getD k 0)
   rw [Zv5 p m k HKL.out hlt] at hset
   have hget := Zrk p k (by have := HL.out; omega)
   obtain ⟨g, off, rfl, hnc, hcm, hcs⟩ := HC.out (by omega)
   unfold maxLen at hcm
   have hc1 := (hb.cell (p := ⟨g, off + (2 * k), none⟩) (block_lt_of_cell (hcs (2 * k) (by omega)))).trans (hcs (2 * k) (by omega))
   have hc2 := (hb.cell (p := ⟨g, off + (2 * k + 1), none⟩) (block_lt_of_cell (hcs (2 * k + 1) (by omega)))).trans (hcs (2 * k + 1) (by omega))
   have hx0 := (HB.out _ (getD_mem (l := p) (i := 2 * k) (by have := HL.out; omega))).1
   have hy0 := (HB.out _ (getD_mem (l := p) (i := 2 * k + 1) (by have := HL.out; omega))).1
   have hx1 := Zgb HRT.out (i := 2 * k) (by have := HL.out; omega)
   have hy1 := Zgb HRT.out (i := 2 * k + 1) (by have := HL.out; omega)
   generalize ((kk p).take k ++ List.replicate (m - k) (0 : Int)).getD k 0 = z at hcell
   generalize p.getD (2 * k) 0 = x at *
   generalize p.getD (2 * k + 1) 0 = y at *
   rw [hget] at hset
   have hor := or16 hx0 hx1 hy0 hy1
   have hkm : 2 * k + 1 < 2 * m := by omega
   have hk1 : (2 * (k : Int)) < ((2 * m : Nat) : Int) := by omega
   have hk2 : (2 * (k : Int) + 1) < ((2 * m : Nat) : Int) := by omega
   have ht1 : (2 * (k : Int)).toNat = 2 * k := by omega
   have ht2 : (2 * (k : Int) + 1).toNat = 2 * k + 1 := by omega
   have HS := Hid.mk hset
   have HBB := Hid.mk hb
   clear hset hb hrow hlen hget hcs
   go_wp2_with fail
   go_region
   all_goals
    go_wp2_with fail
    exact ⟨⟨k + 1, by omega, by simp, HS.out, (HBB.out.setCell (Nat.le_refl _) _).drew⟩, by simp [intOf]; omega⟩
  ·have hki : ¬ (k : Int) < m := by omega
   have e : k = m := by omega
   subst e
   rw [Nat.sub_self, List.replicate_zero, List.append_nil, List.take_of_length_le (by rw [HKL.out]; exact Nat.le_refl _)] at hrow
   have HS := Hid.mk hrow
   have HBB := Hid.mk hb
   clear hrow hb
   go_wp2_with fail
   go_ret2
   exact ⟨⟨_, _, rfl, row_ag HS.out HKL.out HKB.out (by omega), fun x hx => by cases hx; exact ⟨rfl, HS.out⟩⟩, HBB.out⟩
end Go.Proofs.YtefhepcplempkaaGreat.Ni
namespace Go.Proofs.YtefhepcplempkaaGreat
open Go.RowKit
open Tr
theorem Zfb {w : World} {a : Addr} {v : Value} (h : w.cell? a = some v) : ∃ cs T fr, w.heap[a.block]? = some (.cells cs T fr) /\ cs[a.off]? = some v := by
 unfold World.cell? at h
 split at h
 ·rename_i cs T fr e
  split at h
  ·cases h
  ·exact ⟨cs, T, fr, e, h⟩
 ·cases h
def Pr (cs : Array Value) : Prop := ∃ (j : Nat) (v : Value), cs[j]? = some v /\ ∀ a n c, v ≠ .slice a n c
structure KpU (U : Nat -> Prop) (M : Nat) (A B : World) : Prop where
 size : A.heap.size <= B.heap.size
 keep : ∀ k cs T fr, k < M -> ¬ U k -> Pr cs -> A.heap[k]? = some (.cells cs T fr) -> B.heap[k]? = some (.cells cs T fr)
theorem KpU.trans {U : Nat -> Prop} {M M' : Nat} {A B C : World} (h : KpU U M A B) (g : KpU U M' B C) (hM : M <= M') : KpU U M A C := ⟨Nat.le_trans h.size g.size, fun k cs T fr hk hU hP hh => g.keep k cs T fr (Nat.lt_of_lt_of_le hk hM) hU hP (h.keep k cs T fr hk hU hP hh)⟩
theorem KpU.of_below {U : Nat -> Prop} {A B : World} (M : Nat) (h : Below A.heap.size A B) : KpU U M A B := ⟨h.size, fun k cs T fr _ _ _ hh => (h.block k (lt_of_get hh)).trans hh⟩
theorem Rw.kp {U : Nat -> Prop} {M : Nat} {A B : World} {g : Nat} {cells : Array Value} {T : TypeId} (h : Rw g A cells T) (hk : KpU U M A B) (hg : g < M) (hU : ¬ U g) (hP : Pr cells) : Rw g B cells T := hk.keep g cells T (0, 0) hg hU hP h
theorem Sk.kp {U K : Nat -> Prop} {M : Nat} {A B : World} {a : Option Addr} {n c : Nat} {bs : List Int} (h : Sk K A a n c bs) (hk : KpU U M A B) (hM : A.heap.size <= M) (hK : ∀ b, K b -> ¬ U b) : Sk K B a n c bs := by
 refine ⟨⟨?_, h.ag.nil, h.ag.l, h.ag.b⟩, h.k⟩
 rcases h.ag.i with h1 | ⟨gb, off, h1, h2, h3, h4, h5, h7⟩
 ·exact .inl h1
 ·refine .inr ⟨gb, off, h1, h2, h3, h4, h5, fun j hj => ?_⟩
  obtain ⟨cs, T, fr, e, e'⟩ := Zfb (h7 j hj)
  have := hk.keep gb cs T fr (Nat.lt_of_lt_of_le (lt_of_get e) hM) (hK _ (h.k _ h1 h3)) ⟨_, _, e', fun _ _ _ => by simp⟩ e
  rw [<- h7 j hj]
  exact World.cell?_of_block (this.trans e.symm)
theorem TA.kp {U K : Nat -> Prop} {M : Nat} {A B : World} (hk : KpU U M A B) (hM : A.heap.size <= M) (hK : ∀ b, K b -> ¬ U b) : ∀ {t : Tr} {v : Value}, TA K A t v -> TA K B t v := by
 intro t
 induction t with
 | no => intro v h; exact h
 | leaf p x => rintro v ⟨a, n, c, a', n', c', h1, h2, h3, h4⟩; exact ⟨a, n, c, a', n', c', h1, h2.kp hk hM hK, h3.kp hk hM hK, h4⟩
 | ext p t ih => rintro v ⟨a, n, c, u, h1, h2, h3⟩; exact ⟨a, n, c, u, h1, h2.kp hk hM hK, ih h3⟩
 | br k x ih => rintro v ⟨vs, a, n, c, h1, h2, h3, h4⟩; exact ⟨vs, a, n, c, h1, fun i hi => ih i (h2 i hi), h3.kp hk hM hK, h4⟩
abbrev PList := List (List Int × List Int)
structure Vis (l B0 : Nat) (Z : PList) (U : Nat -> Prop) (J : PList -> World -> Prop) (Jx : World -> Prop) : Prop where
 go : ∀ {pre : PList} {W W' : World}, J pre W -> Below W.heap.size W W' -> J pre W'
 gx : ∀ {W W' : World}, Jx W -> Below W.heap.size W W' -> Jx W'
 lo : ∀ b, U b -> b < B0
 y : ∀ {pre : PList} {W : World} {M : Nat} {a a' : Option Addr} {n c n' c' : Nat} {k x : List Int}, J pre W -> (pre ++ [(k, x)]) <+: Z -> B0 <= M -> M <= W.heap.size -> Sk (fun b => M <= b) W a n c k -> Sk (fun b => M <= b) W a' n' c' x →
  YieldAt Fence.wide 0 Tryz.prog l #[.slice a n c, .slice a' n' c'] W fun e W' => (e = .returned (.bool true) /\ J (pre ++ [(k, x)]) W' /\ KpU U M W W') \/ (e = .returned (.bool false) /\ Jx W')
def RE (U : Nat -> Prop) (J : PList -> World -> Prop) (Jx : World -> Prop) (w : World) (L : PList) : Value -> World -> Prop := fun u w' => (u = .bool true /\ J L w' /\ KpU U w.heap.size w w') \/ (u = .bool false /\ Jx w')
def entsF (p : List Int) : Tr -> PList
 | no => []
 | leaf q x => [((Ni.keyP (p ++ q)).1, x)]
 | ext q c => entsF (p ++ q) c
 | br k x => (if x = [] then [] else [((Ni.keyP p).1, x)]) ++ (List.range 16).flatMap fun i => if (k i).isNo then [] else entsF (p ++ [((i : Nat) : Int)]) (k i)
def fvE (gY : Nat) : Value := .func (.func 77) #[] #[.pointer (some ⟨gY, 0, none⟩)]
set_option maxHeartbeats 2000000 in
theorem Z0t {l B0 : Nat} {Z : PList} {U : Nat -> Prop} {J : PList -> World -> Prop} {Jx : World -> Prop} (V : Vis l B0 Z U J Jx) {K K' : Nat -> Prop} {w : World} {a a' : Option Addr} {n c n' c' : Nat} {p x : List Int} (hp : Sk K w a n c p) (hx : Sk K' w a' n' c' x) (hn : n <= 1000) (hn' : n' <= 1000) {gY : Nat} (hY : Rw gY w #[.func (.yield l) #[] #[]] 71) {pre : PList} (hJ : J pre w) (hN : (pre ++ [((Ni.keyP p).1, x)]) <+: Z) (hB0 : B0 <= w.heap.size) :
  Calls Tryz.prog 77 #[.slice a n c, .slice a' n' c', .pointer (some ⟨gY, 0, none⟩)] w fun e w' => ∃ u, e = .returned u /\ RE U J Jx w (pre ++ [((Ni.keyP p).1, x)]) u w' := by
 have hB := Bl.refl w
 refine Zaj Tryz.func77 rfl 18 rfl ?_
 show CW _ _ _ _ _ _ _ [(0, .slice a n c), (1, .slice a' n' c'), (2, .pointer (some ⟨gY, 0, none⟩))] _
 refine Zac <| Zaa <| rp 5 (.bool false) <| Zad <| Zab <| Zac <| Zaa <| rp 9 (.slice a n c) <| Zao 10 78 #[.slice a n c] (fun _ => by kernel_rfl) (fun _ => by kernel_rfl) (R := fun u w' => (∃ a2 m2, u = .tuple #[.slice a2 m2 m2, .bool (Ni.keyP p).2] /\ Sk (fun b => (w).heap.size <= b) w' a2 m2 m2 (Ni.keyP p).1) /\ Bl (w) w') ((Ni.key_new a n c p _ hp.ag (by omega)).mono (fun e w' ⟨⟨a2, m2, e1, e2, e3⟩, e4⟩ => ⟨_, e1, ⟨a2, m2, rfl, e2, fun x hx _ => by rw [(e3 x hx).1]; exact Nat.le_refl _⟩, e4⟩)) ?_
 rintro _ u1 ⟨⟨a2, m2, rfl, hk2⟩, hb1⟩
 replace hB := hB.go hb1
 replace hp := hp.go hb1
 replace hx := hx.go hb1
 replace hY := hY.go hb1
 replace hJ := V.go hJ hb1
 refine rp 8 (.tuple #[.slice a2 m2 m2, .bool (Ni.keyP p).2]) <| rp 11 (.slice a2 m2 m2) <| rp 12 (.bool (Ni.keyP p).2) <| rp 6 (.slice a2 m2 m2) <| rp 7 (.bool (Ni.keyP p).2) <| Zad <| Zab <| Zac <| Zyl (by kernel_rfl) ?_
 replace hB := hB.drew
 replace hp := hp.drew
 replace hx := hx.drew
 replace hY := hY.drew
 replace hJ := V.go hJ (Below.refl _ _).drew
 replace hk2 := hk2.drew
 refine Zsc 1 14 (.slice a2 m2 m2) rfl (by kernel_rfl) (fun _ _ _ h => h) (fun _ => by kernel_rfl) (fun _ _ => by kernel_rfl) (fun _ _ => rfl) <| Zsc 2 15 (.slice a' n' c') rfl (by kernel_rfl) (fun _ _ _ h => h) (fun _ => by kernel_rfl) (fun _ _ => by kernel_rfl) (fun _ _ => rfl) <| Zcd [0, 3] (by kernel_rfl) (by simp) ?_
 refine ai_v 0 13 (.func (.yield l) #[] #[]) rfl (fun _ => by kernel_rfl) (fun _ => Zah 71 _ ⟨gY, 0, none⟩ _ _ rfl (by kernel_rfl) (by rw [cell_of_row _ _ _ _ _ _ hY]; rfl) Tryz.underlying71 rfl) ?_ ?_
 ·skip
  refine Zcd [3] (by kernel_rfl) (by simp) ?_
  refine Zs2 3 16 52 #[.slice a' n' c'] rfl (fun _ => by kernel_rfl) (fun _ => by kernel_rfl) (R := fun u w' => ∃ a3 n3 c3, u = .slice a3 n3 c3 /\ Sk (fun b => (u1.drew).heap.size <= b) w' a3 n3 c3 x /\ Bl (u1.drew) w') (Zdy hx (by omega)) ?_ Zfd
  rintro _ u2 ⟨a3, n3, c3, rfl, hs3, hb2⟩
  have hsB := hB.size
  replace hB := hB.go hb2
  replace hp := hp.go hb2
  replace hx := hx.go hb2
  replace hY := hY.go hb2
  replace hJ := V.go hJ hb2
  replace hk2 := hk2.go hb2
  refine Zcd [4] (by kernel_rfl) (by simp) ?_
  refine Zn2 4 17 l #[.slice a2 m2 m2, .slice a3 n3 c3] rfl (fun _ => by kernel_rfl) (fun _ => by kernel_rfl) (V.y (M := w.heap.size) hJ hN hB0 hB.size (hk2.mono (fun b hb => hb)) (hs3.mono (fun b hb => Nat.le_trans hsB hb))) ?_ Zfd
  rintro e w' (⟨rfl, hJ', hkp⟩ | ⟨rfl, hjx⟩)
  ·refine ⟨_, rfl, ?_⟩
   refine Zcd [5] (by kernel_rfl) (by simp) ?_
   refine ai_v (w' := w') 5 5 (.bool true) rfl (fun _ => by kernel_rfl) (fun _ => by kernel_rfl) ?_ Zfd
   refine Zjr (by kernel_rfl) <| Zab <| Zap ?_
   exact Zae (.bool true) (fun _ => by kernel_rfl) ⟨_, rfl, .inl ⟨rfl, hJ', (KpU.of_below _ hB).trans hkp (Nat.le_refl _)⟩⟩
  ·refine ⟨_, rfl, ?_⟩
   refine Zcd [5] (by kernel_rfl) (by simp) ?_
   refine ai_v (w' := w') 5 5 (.bool false) rfl (fun _ => by kernel_rfl) (fun _ => by kernel_rfl) ?_ Zfd
   refine Zjr (by kernel_rfl) <| Zab <| Zap ?_
   exact Zae (.bool false) (fun _ => by kernel_rfl) ⟨_, rfl, .inr ⟨rfl, hjx⟩⟩
 refine Zs2 3 16 52 #[.slice a' n' c'] rfl (fun _ => by kernel_rfl) (fun _ => by kernel_rfl) (R := fun u w' => ∃ a3 n3 c3, u = .slice a3 n3 c3 /\ Sk (fun b => (u1.drew).heap.size <= b) w' a3 n3 c3 x /\ Bl (u1.drew) w') (Zdy hx (by omega)) ?_ Zfd
 rintro _ u2 ⟨a3, n3, c3, rfl, hs3, hb2⟩
 have hsB := hB.size
 replace hB := hB.go hb2
 replace hp := hp.go hb2
 replace hx := hx.go hb2
 replace hY := hY.go hb2
 replace hJ := V.go hJ hb2
 replace hk2 := hk2.go hb2
 refine Zcd [0] (by kernel_rfl) (by simp) ?_
 refine ai_v 0 13 (.func (.yield l) #[] #[]) rfl (fun _ => by kernel_rfl) (fun _ => Zah 71 _ ⟨gY, 0, none⟩ _ _ rfl (by kernel_rfl) (by rw [cell_of_row _ _ _ _ _ _ hY]; rfl) Tryz.underlying71 rfl) ?_ Zfd
 refine Zcd [4] (by kernel_rfl) (by simp) ?_
 refine Zn2 4 17 l #[.slice a2 m2 m2, .slice a3 n3 c3] rfl (fun _ => by kernel_rfl) (fun _ => by kernel_rfl) (V.y (M := w.heap.size) hJ hN hB0 hB.size (hk2.mono (fun b hb => hb)) (hs3.mono (fun b hb => Nat.le_trans hsB hb))) ?_ Zfd
 rintro e w' (⟨rfl, hJ', hkp⟩ | ⟨rfl, hjx⟩)
 ·refine ⟨_, rfl, ?_⟩
  refine Zcd [5] (by kernel_rfl) (by simp) ?_
  refine ai_v (w' := w') 5 5 (.bool true) rfl (fun _ => by kernel_rfl) (fun _ => by kernel_rfl) ?_ Zfd
  refine Zjr (by kernel_rfl) <| Zab <| Zap ?_
  exact Zae (.bool true) (fun _ => by kernel_rfl) ⟨_, rfl, .inl ⟨rfl, hJ', (KpU.of_below _ hB).trans hkp (Nat.le_refl _)⟩⟩
 ·refine ⟨_, rfl, ?_⟩
  refine Zcd [5] (by kernel_rfl) (by simp) ?_
  refine ai_v (w' := w') 5 5 (.bool false) rfl (fun _ => by kernel_rfl) (fun _ => by kernel_rfl) ?_ Zfd
  refine Zjr (by kernel_rfl) <| Zab <| Zap ?_
  exact Zae (.bool false) (fun _ => by kernel_rfl) ⟨_, rfl, .inr ⟨rfl, hjx⟩⟩
def RB (U : Nat -> Prop) (J : PList -> World -> Prop) (Jx : World -> Prop) (w : World) (L : PList) : Value -> World -> Prop := fun u w' => ∃ b, u = .bool b /\ (b = true -> J L w' /\ KpU U w.heap.size w w') /\ (b = false -> Jx w')
theorem RE.rb {U : Nat -> Prop} {J : PList -> World -> Prop} {Jx : World -> Prop} {w : World} {L : PList} {u : Value} {w' : World} (h : RE U J Jx w L u w') : RB U J Jx w L u w' := by
 rcases h with ⟨rfl, h1, h2⟩ | ⟨rfl, h⟩
 ·exact ⟨true, rfl, fun _ => ⟨h1, h2⟩, fun e => by cases e⟩
 ·exact ⟨false, rfl, (fun e => by cases e), fun _ => h⟩
theorem Zht {l B0 : Nat} {Z : PList} {U : Nat -> Prop} {J : PList -> World -> Prop} {Jx : World -> Prop} (V : Vis l B0 Z U J Jx) {K K' : Nat -> Prop} {w : World} {a a' : Option Addr} {n c n' c' : Nat} {p x : List Int} (hp : Sk K w a n c p) (hx : Sk K' w a' n' c' x) (hn : n <= 1000) (hn' : n' <= 1000) {gY : Nat} (hY : Rw gY w #[.func (.yield l) #[] #[]] 71) {pre : PList} (hJ : J pre w) (hN : (pre ++ [((Ni.keyP p).1, x)]) <+: Z) (hB0 : B0 <= w.heap.size) :
  Calls Tryz.prog 77 #[.slice a n c, .slice a' n' c', .pointer (some ⟨gY, 0, none⟩)] w fun e w' => ∃ u, e = .returned u /\ RB U J Jx w (pre ++ [((Ni.keyP p).1, x)]) u w' :=
 (Z0t V hp hx hn hn' hY hJ hN hB0).mono (fun e w' ⟨u, e1, e2⟩ => ⟨u, e1, e2.rb⟩)
def EC (l B0 : Nat) (Z : PList) (U : Nat -> Prop) (J : PList -> World -> Prop) (Jx : World -> Prop) (t : Tr) : Prop := ∀ {K K' : Nat -> Prop} {w : World} {v : Value} {a : Option Addr} {n c B gY : Nat} {q : List Int} {pre : PList}, Tr.Ok B t -> n + B <= 64 -> TA K w t v -> (∀ b, K b -> ¬ U b) -> Sk K' w a n c q -> (∀ b, K' b -> ¬ U b) -> Rw gY w #[.func (.yield l) #[] #[]] 71 -> ¬ U gY -> J pre w -> (pre ++ entsF q t) <+: Z -> B0 <= w.heap.size →
 MC "pergola/trie.each" v #[.slice a n c, .func (.func 77) #[] #[.pointer (some ⟨gY, 0, none⟩)]] w (RB U J Jx w (pre ++ entsF q t))
theorem Zrq (x : Value) : Iv "pergola/trie.each" (.iface 131 x) 177 x := Zf7 fun w vs => by kernel_rfl
theorem Zrr (x : Value) : Iv "pergola/trie.each" (.iface 226 x) 195 x := Zf7 fun w vs => by kernel_rfl
theorem Zrs (x : Value) : Iv "pergola/trie.each" (.iface 221 x) 188 x := Zf7 fun w vs => by kernel_rfl
theorem Zqr {K : Nat -> Prop} {w0 w : World} {t : Tr} {v : Value} (h : TA K w0 t v) (hne : t ≠ no) {ρ : Operand -> Value} {o : Oper} (i : Nat) (ho : o.op = .nilCheck (.tmp i)) (hx : ρ (.tmp i) = .func (.method "pergola/trie.each") #[v] #[]) : (execOp ρ o).run Tryz.prog w = .ok (.value (.func (.method "pergola/trie.each") #[v] #[])) w := by
 unfold execOp
 rw [ho]
 simp only [hx]
 cases t with
 | no => exact absurd rfl hne
 | leaf p x => obtain ⟨_, _, _, _, _, _, rfl, _⟩ := h; kernel_rfl
 | ext p t => obtain ⟨_, _, _, _, rfl, _⟩ := h; kernel_rfl
 | br k x => obtain ⟨_, _, _, _, rfl, _⟩ := h; kernel_rfl
def flK (q : List Int) (k : Nat -> Tr) (j : Nat) : PList := (List.range j).flatMap fun i => if (k i).isNo then [] else entsF (q ++ [((i : Nat) : Int)]) (k i)
theorem Zv9 {q : List Int} {k : Nat -> Tr} {j : Nat} (h : k j = no) : flK q k (j + 1) = flK q k j := by simp [flK, List.range_succ, List.flatMap_append, h, isNo]
theorem Zjk {q : List Int} {k : Nat -> Tr} {j : Nat} (h : k j ≠ no) : flK q k (j + 1) = flK q k j ++ entsF (q ++ [((j : Nat) : Int)]) (k j) := by
 have : (k j).isNo = false := by cases hk : k j <;> simp_all [isNo]
 simp [flK, List.range_succ, List.flatMap_append, this]
theorem Zwa (q : List Int) (k : Nat -> Tr) {j m : Nat} (h : j <= m) : flK q k j <+: flK q k m := by
 induction m with
 | zero =>
  obtain rfl : j = 0 := by omega
  exact List.prefix_rfl
 | succ m ih =>
  by_cases e : j = m + 1
  ·rw [e]; exact List.prefix_rfl
  ·refine (ih (by omega)).trans ?_
   simp only [flK, List.range_succ, List.flatMap_append]
   exact List.prefix_append _ _
theorem TA.ns {K : Nat -> Prop} {w : World} {t : Tr} {v : Value} (h : TA K w t v) : ∀ a n c, v ≠ .slice a n c := by
 cases t with
 | no => rw [show v = .nilIface from h]; simp
 | leaf p x => obtain ⟨_, _, _, _, _, _, rfl, _⟩ := h; simp
 | ext p t => obtain ⟨_, _, _, _, rfl, _⟩ := h; simp
 | br k x => obtain ⟨_, _, _, _, rfl, _⟩ := h; simp
theorem TK.pr {K : Nat -> Prop} {w : World} {k : Nat -> Tr} {vs : Nat -> Value} (h : TK K w k vs) (s : Value) : Pr (brc vs s) := ⟨0, vs 0, rfl, (h 0 (by omega)).ns⟩
theorem TK.kp {U K : Nat -> Prop} {A B : World} {k : Nat -> Tr} {vs : Nat -> Value} (h : TK K A k vs) (hk : KpU U A.heap.size A B) (hK : ∀ b, K b -> ¬ U b) : TK K B k vs := fun i hi => (h i hi).kp hk (Nat.le_refl _) hK
set_option maxHeartbeats 2000000 in
theorem Zrh {l B0 : Nat} {Z : PList} {U : Nat -> Prop} {J : PList -> World -> Prop} {Jx : World -> Prop} (V : Vis l B0 Z U J Jx) {K K' : Nat -> Prop} {w : World} {a a' : Option Addr} {n c n' c' : Nat} {p x : List Int} (hp : Sk K w a n c p) (hx : Sk K w a' n' c' x) (hn2 : n' <= 256) {aq : Option Addr} {nq cq : Nat} {q : List Int} (hq : Sk K' w aq nq cq q) {gY : Nat} (hY : Rw gY w #[.func (.yield l) #[] #[]] 71) {pre : PList} (hJ : J pre w) (hN : (pre ++ [((Ni.keyP (q ++ p)).1, x)]) <+: Z) (hB0 : B0 <= w.heap.size) (h64 : nq + n <= 64) :
  Calls Tryz.prog 177 #[.agg #[.slice a n c, .slice a' n' c'], .slice aq nq cq, .func (.func 77) #[] #[.pointer (some ⟨gY, 0, none⟩)]] w fun e w' => ∃ u, e = .returned u /\ RB U J Jx w (pre ++ entsF q (leaf p x)) u w' := by
 have hB := Bl.refl w
 have lp := hp.len
 have lq := hq.len
 refine Zaj Tryz.func177 rfl 16 rfl ?_
 show CW _ _ _ _ _ _ _ [(0, .agg #[.slice a n c, .slice a' n' c']), (1, .slice aq nq cq), (2, .func (.func 77) #[] #[.pointer (some ⟨gY, 0, none⟩)])] _
 refine Zac <| Zaa <| Zax 3 (#[.slice a n c, .slice a' n' c']) 131 (fun _ => by kernel_rfl) (fun _ => by kernel_rfl) ?_
 intro w1 g2 hn3
 replace hB := hB.go hn3.below
 replace hp := hp.go hn3.below
 replace hx := hx.go hn3.below
 replace hq := hq.go hn3.below
 replace hY := hY.go hn3.below
 replace hJ := V.go hJ hn3.below
 have hr4 : Rw g2 w1 (#[.slice a n c, .slice a' n' c']) 131 := hn3.row
 refine rp 6 (.bool false) <| Zad <| Zab <| Zac <| Zaz (fun _ => True) (by kernel_rfl) (trivial) ?_
 replace hB := hB.drew
 replace hp := hp.drew
 replace hx := hx.drew
 replace hq := hq.drew
 replace hY := hY.drew
 replace hJ := V.go hJ (Below.refl _ _).drew
 replace hr4 := hr4.drew
 refine dt 0 7 (.func (.func 77) #[] #[.pointer (some ⟨gY, 0, none⟩)]) (fun v hv _ => by kernel_rfl) trivial <| dt 1 8 (.slice aq nq cq) (fun v hv _ => by kernel_rfl) trivial <| dt 2 9 (.pointer (some ⟨g2, 0, none⟩)) (fun v hv _ => by kernel_rfl) trivial <| dt 6 13 (.pointer (some ⟨g2, 1, none⟩)) (fun v hv _ => by kernel_rfl) trivial <| Zaf [3, 7] (by kernel_rfl) (by simp) ?_
 refine ar_v 3 10 (.slice a n c) rfl (fun _ => by kernel_rfl) (fun _ => Zah 23 _ ⟨g2, 0, none⟩ _ _ rfl (by kernel_rfl) (by rw [cell_of_row _ _ _ _ _ _ hr4]; rfl) Tryz.underlying23 rfl) trivial ?_ ?_
 ·skip
  refine Zaf [4, 7] (by kernel_rfl) (by simp) ?_
  refine Zbz 4 11 #[.slice aq nq cq, .slice a n c] 23 2 rfl (fun _ => by kernel_rfl) (fun _ => by kernel_rfl) (fun w' g h => trivial) ?_ ?_
  ·skip
   intro w5 g6 hn7
   replace hB := hB.go hn7.below
   replace hp := hp.go hn7.below
   replace hx := hx.go hn7.below
   replace hq := hq.go hn7.below
   replace hY := hY.go hn7.below
   replace hJ := V.go hJ hn7.below
   replace hr4 := hr4.go hn7.below
   have hL : Rw g6 w5 #[.slice aq nq cq, .slice a n c] 23 := hn7.row
   refine Zaf [5, 7] (by kernel_rfl) (by simp) ?_
   refine Zat 5 12 183 #[.slice (some ⟨g6, 0, none⟩) 2 2] rfl (fun _ => by kernel_rfl) (fun _ => by kernel_rfl) (R := fun u w' => ∃ a2 n2 c2, u = .slice a2 n2 c2 /\ Sk (fun b => (w5).heap.size <= b) w' a2 n2 c2 (q ++ p) /\ Bl (w5) w') (Zbf hq hp hL (by omega) (by omega)) (fun u w' h => trivial) ?_ ?_
   ·skip
    rintro _ u8 ⟨a3, n3, c3, rfl, hs3, hb9⟩
    have hsB := hB.size
    replace hB := hB.go hb9
    replace hp := hp.go hb9
    replace hx := hx.go hb9
    replace hq := hq.go hb9
    replace hY := hY.go hb9
    replace hJ := V.go hJ hb9
    replace hr4 := hr4.go hb9
    replace hL := hL.go hb9
    refine Zaf [7] (by kernel_rfl) (by simp) ?_
    refine ar_v 7 14 (.slice a' n' c') rfl (fun _ => by kernel_rfl) (fun _ => Zah 23 _ ⟨g2, 1, none⟩ _ _ rfl (by kernel_rfl) (by rw [cell_of_row _ _ _ _ _ _ hr4]; rfl) Tryz.underlying23 rfl) trivial ?_ Zam
    refine Zaf [8] (by kernel_rfl) (by simp) ?_
    have l3 := hs3.len
    rw [List.length_append] at l3
    refine Zat 8 15 77 #[.slice a3 n3 c3, .slice a' n' c', .pointer (some ⟨gY, 0, none⟩)] rfl (fun _ => by kernel_rfl) (fun _ => by kernel_rfl) (R := RB U J Jx (u8) (pre ++ [((Ni.keyP (q ++ p)).1, x)])) (Zht V hs3 hx (by omega) (by omega) hY hJ hN (Nat.le_trans hB0 hB.size)) (fun u w' h => trivial) ?_ Zam
    rintro _ u8 ⟨b8, rfl, hR8, hX8⟩
    have hBk := hB
    refine dt 9 6 (.bool b8) (fun v hv _ => by kernel_rfl) trivial <| Zas (by kernel_rfl) <| Zab <| Zap ?_
    exact Zae (.bool b8) (fun _ => by kernel_rfl) ⟨_, rfl, b8, rfl, fun e => ⟨(hR8 e).1, (KpU.of_below _ hBk).trans (hR8 e).2 hBk.size⟩, hX8⟩
   refine ar_v 7 14 (.slice a' n' c') rfl (fun _ => by kernel_rfl) (fun _ => Zah 23 _ ⟨g2, 1, none⟩ _ _ rfl (by kernel_rfl) (by rw [cell_of_row _ _ _ _ _ _ hr4]; rfl) Tryz.underlying23 rfl) trivial ?_ Zam
   refine Zaf [5] (by kernel_rfl) (by simp) ?_
   refine Zat 5 12 183 #[.slice (some ⟨g6, 0, none⟩) 2 2] rfl (fun _ => by kernel_rfl) (fun _ => by kernel_rfl) (R := fun u w' => ∃ a2 n2 c2, u = .slice a2 n2 c2 /\ Sk (fun b => (w5).heap.size <= b) w' a2 n2 c2 (q ++ p) /\ Bl (w5) w') (Zbf hq hp hL (by omega) (by omega)) (fun u w' h => trivial) ?_ Zam
   rintro _ u10 ⟨a3, n3, c3, rfl, hs3, hb11⟩
   have hsB := hB.size
   replace hB := hB.go hb11
   replace hp := hp.go hb11
   replace hx := hx.go hb11
   replace hq := hq.go hb11
   replace hY := hY.go hb11
   replace hJ := V.go hJ hb11
   replace hr4 := hr4.go hb11
   replace hL := hL.go hb11
   refine Zaf [8] (by kernel_rfl) (by simp) ?_
   have l3 := hs3.len
   rw [List.length_append] at l3
   refine Zat 8 15 77 #[.slice a3 n3 c3, .slice a' n' c', .pointer (some ⟨gY, 0, none⟩)] rfl (fun _ => by kernel_rfl) (fun _ => by kernel_rfl) (R := RB U J Jx (u10) (pre ++ [((Ni.keyP (q ++ p)).1, x)])) (Zht V hs3 hx (by omega) (by omega) hY hJ hN (Nat.le_trans hB0 hB.size)) (fun u w' h => trivial) ?_ Zam
   rintro _ u8 ⟨b8, rfl, hR8, hX8⟩
   have hBk := hB
   refine dt 9 6 (.bool b8) (fun v hv _ => by kernel_rfl) trivial <| Zas (by kernel_rfl) <| Zab <| Zap ?_
   exact Zae (.bool b8) (fun _ => by kernel_rfl) ⟨_, rfl, b8, rfl, fun e => ⟨(hR8 e).1, (KpU.of_below _ hBk).trans (hR8 e).2 hBk.size⟩, hX8⟩
  refine ar_v 7 14 (.slice a' n' c') rfl (fun _ => by kernel_rfl) (fun _ => Zah 23 _ ⟨g2, 1, none⟩ _ _ rfl (by kernel_rfl) (by rw [cell_of_row _ _ _ _ _ _ hr4]; rfl) Tryz.underlying23 rfl) trivial ?_ Zam
  refine Zaf [4] (by kernel_rfl) (by simp) ?_
  refine Zbz 4 11 #[.slice aq nq cq, .slice a n c] 23 2 rfl (fun _ => by kernel_rfl) (fun _ => by kernel_rfl) (fun w' g h => trivial) ?_ Zam
  intro w12 g13 hn14
  replace hB := hB.go hn14.below
  replace hp := hp.go hn14.below
  replace hx := hx.go hn14.below
  replace hq := hq.go hn14.below
  replace hY := hY.go hn14.below
  replace hJ := V.go hJ hn14.below
  replace hr4 := hr4.go hn14.below
  have hL : Rw g13 w12 #[.slice aq nq cq, .slice a n c] 23 := hn14.row
  refine Zaf [5] (by kernel_rfl) (by simp) ?_
  refine Zat 5 12 183 #[.slice (some ⟨g13, 0, none⟩) 2 2] rfl (fun _ => by kernel_rfl) (fun _ => by kernel_rfl) (R := fun u w' => ∃ a2 n2 c2, u = .slice a2 n2 c2 /\ Sk (fun b => (w12).heap.size <= b) w' a2 n2 c2 (q ++ p) /\ Bl (w12) w') (Zbf hq hp hL (by omega) (by omega)) (fun u w' h => trivial) ?_ Zam
  rintro _ u15 ⟨a3, n3, c3, rfl, hs3, hb16⟩
  have hsB := hB.size
  replace hB := hB.go hb16
  replace hp := hp.go hb16
  replace hx := hx.go hb16
  replace hq := hq.go hb16
  replace hY := hY.go hb16
  replace hJ := V.go hJ hb16
  replace hr4 := hr4.go hb16
  replace hL := hL.go hb16
  refine Zaf [8] (by kernel_rfl) (by simp) ?_
  have l3 := hs3.len
  rw [List.length_append] at l3
  refine Zat 8 15 77 #[.slice a3 n3 c3, .slice a' n' c', .pointer (some ⟨gY, 0, none⟩)] rfl (fun _ => by kernel_rfl) (fun _ => by kernel_rfl) (R := RB U J Jx (u15) (pre ++ [((Ni.keyP (q ++ p)).1, x)])) (Zht V hs3 hx (by omega) (by omega) hY hJ hN (Nat.le_trans hB0 hB.size)) (fun u w' h => trivial) ?_ Zam
  rintro _ u8 ⟨b8, rfl, hR8, hX8⟩
  have hBk := hB
  refine dt 9 6 (.bool b8) (fun v hv _ => by kernel_rfl) trivial <| Zas (by kernel_rfl) <| Zab <| Zap ?_
  exact Zae (.bool b8) (fun _ => by kernel_rfl) ⟨_, rfl, b8, rfl, fun e => ⟨(hR8 e).1, (KpU.of_below _ hBk).trans (hR8 e).2 hBk.size⟩, hX8⟩
 refine ar_v 7 14 (.slice a' n' c') rfl (fun _ => by kernel_rfl) (fun _ => Zah 23 _ ⟨g2, 1, none⟩ _ _ rfl (by kernel_rfl) (by rw [cell_of_row _ _ _ _ _ _ hr4]; rfl) Tryz.underlying23 rfl) trivial ?_ Zam
 refine Zaf [3] (by kernel_rfl) (by simp) ?_
 refine ar_v 3 10 (.slice a n c) rfl (fun _ => by kernel_rfl) (fun _ => Zah 23 _ ⟨g2, 0, none⟩ _ _ rfl (by kernel_rfl) (by rw [cell_of_row _ _ _ _ _ _ hr4]; rfl) Tryz.underlying23 rfl) trivial ?_ Zam
 refine Zaf [4] (by kernel_rfl) (by simp) ?_
 refine Zbz 4 11 #[.slice aq nq cq, .slice a n c] 23 2 rfl (fun _ => by kernel_rfl) (fun _ => by kernel_rfl) (fun w' g h => trivial) ?_ Zam
 intro w17 g18 hn19
 replace hB := hB.go hn19.below
 replace hp := hp.go hn19.below
 replace hx := hx.go hn19.below
 replace hq := hq.go hn19.below
 replace hY := hY.go hn19.below
 replace hJ := V.go hJ hn19.below
 replace hr4 := hr4.go hn19.below
 have hL : Rw g18 w17 #[.slice aq nq cq, .slice a n c] 23 := hn19.row
 refine Zaf [5] (by kernel_rfl) (by simp) ?_
 refine Zat 5 12 183 #[.slice (some ⟨g18, 0, none⟩) 2 2] rfl (fun _ => by kernel_rfl) (fun _ => by kernel_rfl) (R := fun u w' => ∃ a2 n2 c2, u = .slice a2 n2 c2 /\ Sk (fun b => (w17).heap.size <= b) w' a2 n2 c2 (q ++ p) /\ Bl (w17) w') (Zbf hq hp hL (by omega) (by omega)) (fun u w' h => trivial) ?_ Zam
 rintro _ u20 ⟨a3, n3, c3, rfl, hs3, hb21⟩
 have hsB := hB.size
 replace hB := hB.go hb21
 replace hp := hp.go hb21
 replace hx := hx.go hb21
 replace hq := hq.go hb21
 replace hY := hY.go hb21
 replace hJ := V.go hJ hb21
 replace hr4 := hr4.go hb21
 replace hL := hL.go hb21
 refine Zaf [8] (by kernel_rfl) (by simp) ?_
 have l3 := hs3.len
 rw [List.length_append] at l3
 refine Zat 8 15 77 #[.slice a3 n3 c3, .slice a' n' c', .pointer (some ⟨gY, 0, none⟩)] rfl (fun _ => by kernel_rfl) (fun _ => by kernel_rfl) (R := RB U J Jx (u20) (pre ++ [((Ni.keyP (q ++ p)).1, x)])) (Zht V hs3 hx (by omega) (by omega) hY hJ hN (Nat.le_trans hB0 hB.size)) (fun u w' h => trivial) ?_ Zam
 rintro _ u8 ⟨b8, rfl, hR8, hX8⟩
 have hBk := hB
 refine dt 9 6 (.bool b8) (fun v hv _ => by kernel_rfl) trivial <| Zas (by kernel_rfl) <| Zab <| Zap ?_
 exact Zae (.bool b8) (fun _ => by kernel_rfl) ⟨_, rfl, b8, rfl, fun e => ⟨(hR8 e).1, (KpU.of_below _ hBk).trans (hR8 e).2 hBk.size⟩, hX8⟩
set_option maxHeartbeats 2000000 in
theorem Zsa {l B0 : Nat} {Z : PList} {U : Nat -> Prop} {J : PList -> World -> Prop} {Jx : World -> Prop} (V : Vis l B0 Z U J Jx) {K K' : Nat -> Prop} {w : World} {a : Option Addr} {n c B : Nat} {p : List Int} {t : Tr} {Tu : TypeId} {xu : Value} (hp : Sk K w a n c p) (ht : TA K w t (.iface Tu xu)) (hKU : ∀ b, K b -> ¬ U b) (hF : EC l B0 Z U J Jx t) (hOc : Tr.Ok B t) {aq : Option Addr} {nq cq : Nat} {q : List Int} (hq : Sk K' w aq nq cq q) {gY : Nat} (hY : Rw gY w #[.func (.yield l) #[] #[]] 71) {pre : PList} (hJ : J pre w) (hN : (pre ++ entsF q (ext p t)) <+: Z) (hB0 : B0 <= w.heap.size) (hUY : ¬ U gY) (h64 : nq + n + B <= 64) :
  Calls Tryz.prog 195 #[.agg #[.slice a n c, .iface Tu xu], .slice aq nq cq, .func (.func 77) #[] #[.pointer (some ⟨gY, 0, none⟩)]] w fun e w' => ∃ u, e = .returned u /\ RB U J Jx w (pre ++ entsF q (ext p t)) u w' := by
 have hB := Bl.refl w
 have lp := hp.len
 have lq := hq.len
 refine Zaj Tryz.func195 rfl 18 rfl ?_
 show CW _ _ _ _ _ _ _ [(0, .agg #[.slice a n c, .iface Tu xu]), (1, .slice aq nq cq), (2, .func (.func 77) #[] #[.pointer (some ⟨gY, 0, none⟩)])] _
 refine Zac <| Zaa <| Zax 3 (#[.slice a n c, .iface Tu xu]) 226 (fun _ => by kernel_rfl) (fun _ => by kernel_rfl) ?_
 intro w1 g2 hn3
 replace hB := hB.go hn3.below
 replace hp := hp.go hn3.below
 replace hq := hq.go hn3.below
 replace hY := hY.go hn3.below
 replace ht := ht.go hn3.below
 replace hJ := V.go hJ hn3.below
 have hr4 : Rw g2 w1 (#[.slice a n c, .iface Tu xu]) 226 := hn3.row
 refine rp 6 (.bool false) <| Zad <| Zab <| Zac <| Zaz (fun _ => True) (by kernel_rfl) (trivial) ?_
 replace hB := hB.drew
 replace hp := hp.drew
 replace hq := hq.drew
 replace hY := hY.drew
 replace ht := ht.drew
 replace hJ := V.go hJ (Below.refl _ _).drew
 replace hr4 := hr4.drew
 refine dt 0 7 (.pointer (some ⟨g2, 1, none⟩)) (fun v hv _ => by kernel_rfl) trivial <| dt 2 9 (.slice aq nq cq) (fun v hv _ => by kernel_rfl) trivial <| dt 3 10 (.pointer (some ⟨g2, 0, none⟩)) (fun v hv _ => by kernel_rfl) trivial <| dt 7 14 (.func (.func 77) #[] #[.pointer (some ⟨gY, 0, none⟩)]) (fun v hv _ => by kernel_rfl) trivial <| Zaf [1, 4] (by kernel_rfl) (by simp) ?_
 refine ar_v 1 8 (.iface Tu xu) rfl (fun _ => by kernel_rfl) (fun _ => Zah 74 _ ⟨g2, 1, none⟩ _ _ rfl (by kernel_rfl) (by rw [cell_of_row _ _ _ _ _ _ hr4]; rfl) Tryz.underlying74 rfl) trivial ?_ ?_
 ·skip
  refine dt 8 15 (.iface Tu xu) (fun v hv => (fun _ => by kernel_rfl)) trivial <| dt 9 16 (.iface Tu xu) (fun v hv _ => by kernel_rfl) trivial <| Zaf [4] (by kernel_rfl) (by simp) ?_
  refine ar_v 4 11 (.slice a n c) rfl (fun _ => by kernel_rfl) (fun _ => Zah 23 _ ⟨g2, 0, none⟩ _ _ rfl (by kernel_rfl) (by rw [cell_of_row _ _ _ _ _ _ hr4]; rfl) Tryz.underlying23 rfl) trivial ?_ Zam
  refine Zaf [5] (by kernel_rfl) (by simp) ?_
  refine Zbz 5 12 #[.slice aq nq cq, .slice a n c] 23 2 rfl (fun _ => by kernel_rfl) (fun _ => by kernel_rfl) (fun w' g h => trivial) ?_ Zam
  intro w5 g6 hn7
  replace hB := hB.go hn7.below
  replace hp := hp.go hn7.below
  replace hq := hq.go hn7.below
  replace hY := hY.go hn7.below
  replace ht := ht.go hn7.below
  replace hJ := V.go hJ hn7.below
  replace hr4 := hr4.go hn7.below
  have hL : Rw g6 w5 #[.slice aq nq cq, .slice a n c] 23 := hn7.row
  refine Zaf [6] (by kernel_rfl) (by simp) ?_
  refine Zat 6 13 183 #[.slice (some ⟨g6, 0, none⟩) 2 2] rfl (fun _ => by kernel_rfl) (fun _ => by kernel_rfl) (R := fun u w' => ∃ a2 n2 c2, u = .slice a2 n2 c2 /\ Sk (fun b => (w5).heap.size <= b) w' a2 n2 c2 (q ++ p) /\ Bl (w5) w') (Zbf hq hp hL (by omega) (by omega)) (fun u w' h => trivial) ?_ Zam
  rintro _ u8 ⟨a3, n3, c3, rfl, hs3, hb9⟩
  have hsB := hB.size
  replace hB := hB.go hb9
  replace hp := hp.go hb9
  replace hq := hq.go hb9
  replace hY := hY.go hb9
  replace ht := ht.go hb9
  replace hJ := V.go hJ hb9
  replace hr4 := hr4.go hb9
  replace hL := hL.go hb9
  refine Zaf [10] (by kernel_rfl) (by simp) ?_
  have l3 := hs3.len
  rw [List.length_append] at l3
  obtain ⟨T12, x13, f14, he15, hi10, hc11⟩ := (hF hOc (by omega) ht hKU hs3 (fun b hb hu => by have := V.lo b hu; have := hB.size; omega) hY hUY hJ hN (Nat.le_trans hB0 hB.size))
  refine Zat 10 17 f14 (#[x13] ++ #[.slice a3 n3 c3, .func (.func 77) #[] #[.pointer (some ⟨gY, 0, none⟩)]]) rfl (fun _ => by kernel_rfl) (fun _ => hi10 _ _ _ _ _ _ _ rfl (by kernel_rfl) (by kernel_rfl)) (R := RB U J Jx (u8) (pre ++ entsF (q ++ p) t)) ?_ (fun u w' h => trivial) ?_ Zam
  ·exact hc11
  rintro _ u8 ⟨b8, rfl, hR8, hX8⟩
  have hBk := hB
  refine dt 11 6 (.bool b8) (fun v hv _ => by kernel_rfl) trivial <| Zas (by kernel_rfl) <| Zab <| Zap ?_
  exact Zae (.bool b8) (fun _ => by kernel_rfl) ⟨_, rfl, b8, rfl, fun e => ⟨(hR8 e).1, (KpU.of_below _ hBk).trans (hR8 e).2 hBk.size⟩, hX8⟩
 refine ar_v 4 11 (.slice a n c) rfl (fun _ => by kernel_rfl) (fun _ => Zah 23 _ ⟨g2, 0, none⟩ _ _ rfl (by kernel_rfl) (by rw [cell_of_row _ _ _ _ _ _ hr4]; rfl) Tryz.underlying23 rfl) trivial ?_ Zam
 refine Zaf [1, 5] (by kernel_rfl) (by simp) ?_
 refine ar_v 1 8 (.iface Tu xu) rfl (fun _ => by kernel_rfl) (fun _ => Zah 74 _ ⟨g2, 1, none⟩ _ _ rfl (by kernel_rfl) (by rw [cell_of_row _ _ _ _ _ _ hr4]; rfl) Tryz.underlying74 rfl) trivial ?_ ?_
 ·skip
  refine dt 8 15 (.iface Tu xu) (fun v hv => (fun _ => by kernel_rfl)) trivial <| dt 9 16 (.iface Tu xu) (fun v hv _ => by kernel_rfl) trivial <| Zaf [5] (by kernel_rfl) (by simp) ?_
  refine Zbz 5 12 #[.slice aq nq cq, .slice a n c] 23 2 rfl (fun _ => by kernel_rfl) (fun _ => by kernel_rfl) (fun w' g h => trivial) ?_ Zam
  intro w16 g17 hn18
  replace hB := hB.go hn18.below
  replace hp := hp.go hn18.below
  replace hq := hq.go hn18.below
  replace hY := hY.go hn18.below
  replace ht := ht.go hn18.below
  replace hJ := V.go hJ hn18.below
  replace hr4 := hr4.go hn18.below
  have hL : Rw g17 w16 #[.slice aq nq cq, .slice a n c] 23 := hn18.row
  refine Zaf [6] (by kernel_rfl) (by simp) ?_
  refine Zat 6 13 183 #[.slice (some ⟨g17, 0, none⟩) 2 2] rfl (fun _ => by kernel_rfl) (fun _ => by kernel_rfl) (R := fun u w' => ∃ a2 n2 c2, u = .slice a2 n2 c2 /\ Sk (fun b => (w16).heap.size <= b) w' a2 n2 c2 (q ++ p) /\ Bl (w16) w') (Zbf hq hp hL (by omega) (by omega)) (fun u w' h => trivial) ?_ Zam
  rintro _ u19 ⟨a3, n3, c3, rfl, hs3, hb20⟩
  have hsB := hB.size
  replace hB := hB.go hb20
  replace hp := hp.go hb20
  replace hq := hq.go hb20
  replace hY := hY.go hb20
  replace ht := ht.go hb20
  replace hJ := V.go hJ hb20
  replace hr4 := hr4.go hb20
  replace hL := hL.go hb20
  refine Zaf [10] (by kernel_rfl) (by simp) ?_
  have l3 := hs3.len
  rw [List.length_append] at l3
  obtain ⟨T23, x24, f25, he26, hi21, hc22⟩ := (hF hOc (by omega) ht hKU hs3 (fun b hb hu => by have := V.lo b hu; have := hB.size; omega) hY hUY hJ hN (Nat.le_trans hB0 hB.size))
  refine Zat 10 17 f25 (#[x24] ++ #[.slice a3 n3 c3, .func (.func 77) #[] #[.pointer (some ⟨gY, 0, none⟩)]]) rfl (fun _ => by kernel_rfl) (fun _ => hi21 _ _ _ _ _ _ _ rfl (by kernel_rfl) (by kernel_rfl)) (R := RB U J Jx (u19) (pre ++ entsF (q ++ p) t)) ?_ (fun u w' h => trivial) ?_ Zam
  ·exact hc22
  rintro _ u8 ⟨b8, rfl, hR8, hX8⟩
  have hBk := hB
  refine dt 11 6 (.bool b8) (fun v hv _ => by kernel_rfl) trivial <| Zas (by kernel_rfl) <| Zab <| Zap ?_
  exact Zae (.bool b8) (fun _ => by kernel_rfl) ⟨_, rfl, b8, rfl, fun e => ⟨(hR8 e).1, (KpU.of_below _ hBk).trans (hR8 e).2 hBk.size⟩, hX8⟩
 refine Zbz 5 12 #[.slice aq nq cq, .slice a n c] 23 2 rfl (fun _ => by kernel_rfl) (fun _ => by kernel_rfl) (fun w' g h => trivial) ?_ Zam
 intro w27 g28 hn29
 replace hB := hB.go hn29.below
 replace hp := hp.go hn29.below
 replace hq := hq.go hn29.below
 replace hY := hY.go hn29.below
 replace ht := ht.go hn29.below
 replace hJ := V.go hJ hn29.below
 replace hr4 := hr4.go hn29.below
 have hL : Rw g28 w27 #[.slice aq nq cq, .slice a n c] 23 := hn29.row
 refine Zaf [1, 6] (by kernel_rfl) (by simp) ?_
 refine ar_v 1 8 (.iface Tu xu) rfl (fun _ => by kernel_rfl) (fun _ => Zah 74 _ ⟨g2, 1, none⟩ _ _ rfl (by kernel_rfl) (by rw [cell_of_row _ _ _ _ _ _ hr4]; rfl) Tryz.underlying74 rfl) trivial ?_ ?_
 ·skip
  refine dt 8 15 (.iface Tu xu) (fun v hv => (fun _ => by kernel_rfl)) trivial <| dt 9 16 (.iface Tu xu) (fun v hv _ => by kernel_rfl) trivial <| Zaf [6] (by kernel_rfl) (by simp) ?_
  refine Zat 6 13 183 #[.slice (some ⟨g28, 0, none⟩) 2 2] rfl (fun _ => by kernel_rfl) (fun _ => by kernel_rfl) (R := fun u w' => ∃ a2 n2 c2, u = .slice a2 n2 c2 /\ Sk (fun b => (w27).heap.size <= b) w' a2 n2 c2 (q ++ p) /\ Bl (w27) w') (Zbf hq hp hL (by omega) (by omega)) (fun u w' h => trivial) ?_ Zam
  rintro _ u30 ⟨a3, n3, c3, rfl, hs3, hb31⟩
  have hsB := hB.size
  replace hB := hB.go hb31
  replace hp := hp.go hb31
  replace hq := hq.go hb31
  replace hY := hY.go hb31
  replace ht := ht.go hb31
  replace hJ := V.go hJ hb31
  replace hr4 := hr4.go hb31
  replace hL := hL.go hb31
  refine Zaf [10] (by kernel_rfl) (by simp) ?_
  have l3 := hs3.len
  rw [List.length_append] at l3
  obtain ⟨T34, x35, f36, he37, hi32, hc33⟩ := (hF hOc (by omega) ht hKU hs3 (fun b hb hu => by have := V.lo b hu; have := hB.size; omega) hY hUY hJ hN (Nat.le_trans hB0 hB.size))
  refine Zat 10 17 f36 (#[x35] ++ #[.slice a3 n3 c3, .func (.func 77) #[] #[.pointer (some ⟨gY, 0, none⟩)]]) rfl (fun _ => by kernel_rfl) (fun _ => hi32 _ _ _ _ _ _ _ rfl (by kernel_rfl) (by kernel_rfl)) (R := RB U J Jx (u30) (pre ++ entsF (q ++ p) t)) ?_ (fun u w' h => trivial) ?_ Zam
  ·exact hc33
  rintro _ u8 ⟨b8, rfl, hR8, hX8⟩
  have hBk := hB
  refine dt 11 6 (.bool b8) (fun v hv _ => by kernel_rfl) trivial <| Zas (by kernel_rfl) <| Zab <| Zap ?_
  exact Zae (.bool b8) (fun _ => by kernel_rfl) ⟨_, rfl, b8, rfl, fun e => ⟨(hR8 e).1, (KpU.of_below _ hBk).trans (hR8 e).2 hBk.size⟩, hX8⟩
 refine Zat 6 13 183 #[.slice (some ⟨g28, 0, none⟩) 2 2] rfl (fun _ => by kernel_rfl) (fun _ => by kernel_rfl) (R := fun u w' => ∃ a2 n2 c2, u = .slice a2 n2 c2 /\ Sk (fun b => (w27).heap.size <= b) w' a2 n2 c2 (q ++ p) /\ Bl (w27) w') (Zbf hq hp hL (by omega) (by omega)) (fun u w' h => trivial) ?_ Zam
 rintro _ u38 ⟨a3, n3, c3, rfl, hs3, hb39⟩
 have hsB := hB.size
 replace hB := hB.go hb39
 replace hp := hp.go hb39
 replace hq := hq.go hb39
 replace hY := hY.go hb39
 replace ht := ht.go hb39
 replace hJ := V.go hJ hb39
 replace hr4 := hr4.go hb39
 replace hL := hL.go hb39
 refine Zaf [1] (by kernel_rfl) (by simp) ?_
 refine ar_v 1 8 (.iface Tu xu) rfl (fun _ => by kernel_rfl) (fun _ => Zah 74 _ ⟨g2, 1, none⟩ _ _ rfl (by kernel_rfl) (by rw [cell_of_row _ _ _ _ _ _ hr4]; rfl) Tryz.underlying74 rfl) trivial ?_ Zam
 refine dt 8 15 (.iface Tu xu) (fun v hv => (fun _ => by kernel_rfl)) trivial <| dt 9 16 (.iface Tu xu) (fun v hv _ => by kernel_rfl) trivial <| Zaf [10] (by kernel_rfl) (by simp) ?_
 have l3 := hs3.len
 rw [List.length_append] at l3
 obtain ⟨T42, x43, f44, he45, hi40, hc41⟩ := (hF hOc (by omega) ht hKU hs3 (fun b hb hu => by have := V.lo b hu; have := hB.size; omega) hY hUY hJ hN (Nat.le_trans hB0 hB.size))
 refine Zat 10 17 f44 (#[x43] ++ #[.slice a3 n3 c3, .func (.func 77) #[] #[.pointer (some ⟨gY, 0, none⟩)]]) rfl (fun _ => by kernel_rfl) (fun _ => hi40 _ _ _ _ _ _ _ rfl (by kernel_rfl) (by kernel_rfl)) (R := RB U J Jx (u38) (pre ++ entsF (q ++ p) t)) ?_ (fun u w' h => trivial) ?_ Zam
 ·exact hc41
 rintro _ u8 ⟨b8, rfl, hR8, hX8⟩
 have hBk := hB
 refine dt 11 6 (.bool b8) (fun v hv _ => by kernel_rfl) trivial <| Zas (by kernel_rfl) <| Zab <| Zap ?_
 exact Zae (.bool b8) (fun _ => by kernel_rfl) ⟨_, rfl, b8, rfl, fun e => ⟨(hR8 e).1, (KpU.of_below _ hBk).trans (hR8 e).2 hBk.size⟩, hX8⟩
set_option maxHeartbeats 4000000 in
theorem Zyt {l B0 : Nat} {Z : PList} {U : Nat -> Prop} {J : PList -> World -> Prop} {Jx : World -> Prop} (V : Vis l B0 Z U J Jx) {K K' : Nat -> Prop} {w : World} {a : Option Addr} {n c B : Nat} {x : List Int} {k : Nat -> Tr} {vs : Nat -> Value} (hk0 : TK K w k vs) (hx : Sk K w a n c x) (hn2 : n <= 256) (hKU : ∀ b, K b -> ¬ U b) (hF : ∀ i, EC l B0 Z U J Jx (k i)) (hO : ∀ j, k j = no \/ (1 <= B /\ Tr.Ok (B - 1) (k j))) {aq : Option Addr} {nq cq : Nat} {q : List Int} (hq0 : Sk K' w aq nq cq q) {gY : Nat} (hY0 : Rw gY w #[.func (.yield l) #[] #[]] 71) {pre : PList} (hJ : J pre w) (hN : True) (hB0 : B0 <= w.heap.size) (hKU' : ∀ b, K' b -> ¬ U b) (hUY : ¬ U gY) (h64 : nq + B <= 64) (hnz : n = 0) {L : PList} (hL0 : L = pre ++ flK q k 16) (hLN : L <+: Z) :
  Calls Tryz.prog 188 #[.agg (brc vs (.slice a n c)), .slice aq nq cq, .func (.func 77) #[] #[.pointer (some ⟨gY, 0, none⟩)]] w fun e w' => ∃ u, e = .returned u /\ RB U J Jx w L u w' := by
 have hk := hk0
 have hq := hq0
 have hY := hY0
 have hB := Bl.refl w
 have lx := hx.len
 have lq := hq.len
 refine Zaj Tryz.func188 rfl 45 rfl ?_
 show CW _ _ _ _ _ _ _ [(0, .agg (brc vs (.slice a n c))), (1, .slice aq nq cq), (2, .func (.func 77) #[] #[.pointer (some ⟨gY, 0, none⟩)])] _
 refine Zac <| Zaa <| Zax 3 (brc vs (.slice a n c)) 221 (fun _ => by kernel_rfl) (fun _ => by kernel_rfl) ?_
 intro w1 g2 hn3
 replace hB := hB.go hn3.below
 replace hx := hx.go hn3.below
 replace hq := hq.go hn3.below
 replace hY := hY.go hn3.below
 replace hk := hk.go hn3.below
 replace hJ := V.go hJ hn3.below
 have hr4 : Rw g2 w1 (brc vs (.slice a n c)) 221 := hn3.row
 refine rp 6 (.bool false) <| Zad ?_
 have hgb := hn3.hg
 refine Zab <| Zac <| Zac <| Zaa <| rp 9 (.pointer (some ⟨g2, 16, none⟩)) <| rv 10 (.slice a n c) (fun _ => Zah 23 _ ⟨g2, 16, none⟩ _ _ rfl (by kernel_rfl) (by rw [cell_of_row _ _ _ _ _ _ hr4]; rfl) Tryz.underlying23 rfl) <| rp 11 (.int .i64 n) <| rv 12 (.bool false) (fun _ => Zag (v := .bool (decide ((n : Int) > (0 : Int)))) (by kernel_rfl) (congrArg Value.bool (decide_eq_false (by omega)))) <| rp 13 (.bool false) <| Zbb 14 (fun _ => by kernel_rfl) <| Zbb 15 (fun _ => by kernel_rfl) <| Zbb 16 (fun _ => by kernel_rfl) ?_
 refine Zbb 17 (fun _ => by kernel_rfl) <| Zbb 18 (fun _ => by kernel_rfl) <| Zbb 19 (fun _ => by kernel_rfl) <| rp 20 (.bool false) <| Zad <| Zab <| Zai (fun _ => by kernel_rfl) <| Zan <| Zab <| Zac <| Zac <| Zaa ?_
 refine rp 21 (.pointer (some ⟨g2, 0, none⟩)) <| rv 22 (.agg (bra vs)) (fun _ => Zqt hr4 _ rfl (by kernel_rfl)) <| rp 23 (.int .i64 0) <| Zad <| Zab <| Zar ?_
 have hKw : KpU U w.heap.size w w1 := KpU.of_below _ hB
 clear hk hx hq hY hB
 refine Zby (X := Nat) (fun j => [(23, .int .i64 ((j : Nat) : Int)), (22, .agg (bra vs)), (1, .slice aq nq cq), (2, .func (.func 77) #[] #[.pointer (some ⟨gY, 0, none⟩)])]) (fun j v => J (pre ++ flK q k j) v /\ KpU U w.heap.size w v /\ j <= 16) (fun j => 16 - j) 0 (by exact ⟨fun _ => by kernel_rfl, ⟨fun _ => by kernel_rfl, ⟨fun _ => by kernel_rfl, ⟨fun _ => by kernel_rfl, trivial⟩⟩⟩⟩) ⟨by rw [show flK q k 0 = [] from rfl, List.append_nil]; exact hJ, hKw, Nat.zero_le _⟩ ?_
 clear hJ hKw hr4
 rintro j v ⟨hJ, hKw, hj⟩
 have hk := hk0.kp hKw hKU
 have hq := hq0.kp hKw (Nat.le_refl _) hKU'
 have hY := hY0.kp hKw (lt_of_get hY0) hUY ⟨0, _, rfl, fun _ _ _ => by simp⟩
 by_cases hlt : j < 16
 ·skip
  have hB := Bl.refl v
  rcases hO j with hno | ⟨hB1, hOk⟩
  ·skip
   have e0 : vs j = .nilIface := by have := hk j hlt; rw [hno] at this; exact this
   refine Zac <| Zaa <| rv 24 (.bool true) (fun _ => Zag (v := .bool (decide (((j : Nat) : Int) < (16 : Int)))) (by kernel_rfl) (congrArg Value.bool (decide_eq_true (by omega)))) <| Zad <| Zab <| Zac <| Zak (fun _ => by kernel_rfl) <| Zan <| Zab <| Zac <| Zar <| Zac ?_
   refine Zaa <| rp 25 (.int .i64 ((j : Nat) : Int)) <| rv 26 (.nilIface) (fun _ => Zag (Zks _ _ vs j hlt rfl (by kernel_rfl) (by kernel_rfl)) e0) <| rp 7 (.int .i64 ((j : Nat) : Int)) <| rp 8 (.nilIface) <| Zad <| Zab <| Zac <| Zaz (fun _ => True) (by kernel_rfl) (trivial) ?_
   replace hJ := V.go hJ (Below.refl _ _).drew
   replace hk := hk.drew
   replace hq := hq.drew
   replace hY := hY.drew
   replace hB := hB.drew
   refine dt 0 27 (.nilIface) (fun v hv _ => by kernel_rfl) trivial <| dt 1 28 (.bool false) (fun v hv => (fun _ => by kernel_rfl)) trivial <| dt 2 29 (.bool false) (fun v hv _ => by kernel_rfl) trivial <| df 3 30 trivial <| df 4 31 trivial <| df 5 32 trivial <| df 6 33 trivial <| df 7 34 trivial <| df 8 35 trivial <| df 9 36 trivial <| df 10 37 trivial <| df 11 38 trivial ?_
   refine df 12 39 trivial <| df 13 40 trivial <| df 14 41 trivial <| df 15 42 trivial <| dt 16 43 (.bool false) (fun v hv _ => by kernel_rfl) trivial <| Zas (by kernel_rfl) <| Zab <| Zai (fun _ => by kernel_rfl) <| Zan <| Za0 <| Zab <| Zaa ?_
   refine rv 44 (.int .i64 (((j : Nat) : Int) + 1)) (fun _ => Zag (v := .int .i64 (IntKind.i64.wrap (((j : Nat) : Int) + 1))) (by kernel_rfl) (congrArg (Value.int .i64) (Zbc (by omega) (by omega)))) <| rp 23 (.int .i64 (((j : Nat) : Int) + 1)) <| Zad ?_
   exact Za8 (E := fun j => [(23, .int .i64 ((j : Nat) : Int)), (22, .agg (bra vs)), (1, .slice aq nq cq), (2, .func (.func 77) #[] #[.pointer (some ⟨gY, 0, none⟩)])]) (R := fun j v => J (pre ++ flK q k j) v /\ KpU U w.heap.size w v /\ j <= 16) (μ := fun j => 16 - j) (x := j) (j + 1) (by exact ⟨fun _ => by kernel_rfl, ⟨fun _ => by kernel_rfl, ⟨fun _ => by kernel_rfl, ⟨fun _ => by kernel_rfl, trivial⟩⟩⟩⟩) ⟨by rw [Zv9 hno]; exact hJ, hKw.trans (KpU.of_below w.heap.size hB) (Nat.le_refl _), by omega⟩ (by omega)
  ·skip
   obtain ⟨T0, v0, e0⟩ := (hk j hlt).iface hOk.ne
   have hti := hk j hlt
   rw [e0] at hti
   refine Zac <| Zaa <| rv 24 (.bool true) (fun _ => Zag (v := .bool (decide (((j : Nat) : Int) < (16 : Int)))) (by kernel_rfl) (congrArg Value.bool (decide_eq_true (by omega)))) <| Zad <| Zab <| Zac <| Zak (fun _ => by kernel_rfl) <| Zan <| Zab <| Zac <| Zar <| Zac ?_
   refine Zaa <| rp 25 (.int .i64 ((j : Nat) : Int)) <| rv 26 (.iface T0 v0) (fun _ => Zag (Zks _ _ vs j hlt rfl (by kernel_rfl) (by kernel_rfl)) e0) <| rp 7 (.int .i64 ((j : Nat) : Int)) <| rp 8 (.iface T0 v0) <| Zad <| Zab <| Zac <| Zaz (fun _ => True) (by kernel_rfl) (trivial) ?_
   replace hJ := V.go hJ (Below.refl _ _).drew
   replace hk := hk.drew
   replace hq := hq.drew
   replace hY := hY.drew
   replace hB := hB.drew
   replace hti := hti.drew
   refine dt 0 27 (.iface T0 v0) (fun v hv _ => by kernel_rfl) trivial <| dt 1 28 (.bool true) (fun v hv => (fun _ => by kernel_rfl)) trivial <| dt 2 29 (.bool true) (fun v hv _ => by kernel_rfl) trivial <| dt 3 30 (.iface T0 v0) (fun v hv _ => by kernel_rfl) trivial <| dt 4 31 (.slice aq nq cq) (fun v hv _ => by kernel_rfl) trivial <| dt 5 32 (.int .i64 ((j : Nat) : Int)) (fun v hv _ => by kernel_rfl) trivial <| dt 6 33 (.int .u8 ((j : Nat) : Int)) (fun v hv _ => Zag (v := .int .u8 (IntKind.u8.wrap ((j : Nat) : Int))) (by kernel_rfl) (congrArg (Value.int .u8) (Zy7 hlt))) trivial <| dt 10 37 (.func (.func 77) #[] #[.pointer (some ⟨gY, 0, none⟩)]) (fun v hv _ => by kernel_rfl) trivial <| dt 11 38 (.func (.method "pergola/trie.each") #[.iface T0 v0] #[]) (fun v hv => (fun _ => by kernel_rfl)) trivial <| dt 12 39 (.func (.method "pergola/trie.each") #[.iface T0 v0] #[]) (fun v hv _ => Zqr hti hOk.ne 38 rfl (by kernel_rfl)) trivial <| dt 13 40 (.iface T0 v0) (fun v hv _ => by kernel_rfl) trivial <| Zaf [7] (by kernel_rfl) (by simp) ?_
   refine Zbz 7 34 #[.int .u8 ((j : Nat) : Int)] 5 1 rfl (fun _ => by kernel_rfl) (fun _ => by kernel_rfl) (fun w' g h => trivial) ?_ Zam
   intro wI gI hnI
   have h1 : Sk (fun b => True) wI (some ⟨gI, 0, none⟩) 1 1 [((j : Nat) : Int)] := Zqp (by omega) hnI (fun _ _ => trivial)
   replace hJ := V.go hJ hnI.below
   replace hk := hk.go hnI.below
   replace hq := hq.go hnI.below
   replace hY := hY.go hnI.below
   replace hB := hB.go hnI.below
   replace hti := hti.go hnI.below
   refine Zaf [8] (by kernel_rfl) (by simp) ?_
   refine Zbz 8 35 #[.slice aq nq cq, .slice (some ⟨gI, 0, none⟩) 1 1] 23 2 rfl (fun _ => by kernel_rfl) (fun _ => by kernel_rfl) (fun w' g h => trivial) ?_ Zam
   intro w5 g6 hn7
   replace hJ := V.go hJ hn7.below
   replace hk := hk.go hn7.below
   replace hq := hq.go hn7.below
   replace hY := hY.go hn7.below
   replace hB := hB.go hn7.below
   replace hti := hti.go hn7.below
   replace h1 := h1.go hn7.below
   have hL : Rw g6 w5 #[.slice aq nq cq, .slice (some ⟨gI, 0, none⟩) 1 1] 23 := hn7.row
   refine Zaf [9] (by kernel_rfl) (by simp) ?_
   refine Zat 9 36 183 #[.slice (some ⟨g6, 0, none⟩) 2 2] rfl (fun _ => by kernel_rfl) (fun _ => by kernel_rfl) (R := fun u w' => ∃ a2 n2 c2, u = .slice a2 n2 c2 /\ Sk (fun b => (w5).heap.size <= b) w' a2 n2 c2 (q ++ [((j : Nat) : Int)]) /\ Bl (w5) w') (Zbf hq h1 hL (by omega) (by omega)) (fun u w' h => trivial) ?_ Zam
   rintro _ u8 ⟨a3, n3, c3, rfl, hs3, hb9⟩
   have hsB := hB.size
   replace hJ := V.go hJ hb9
   replace hk := hk.go hb9
   replace hq := hq.go hb9
   replace hY := hY.go hb9
   replace hB := hB.go hb9
   replace hti := hti.go hb9
   replace h1 := h1.go hb9
   replace hL := hL.go hb9
   refine Zaf [14] (by kernel_rfl) (by simp) ?_
   have l3 := hs3.len
   rw [List.length_append, List.length_singleton] at l3
   obtain ⟨T12, x13, f14, he15, hi10, hc11⟩ := (hF j hOk (by omega) hti hKU hs3 (fun b hb hu => by have := V.lo b hu; have := hB.size; have := hKw.size; omega) hY hUY hJ (by rw [hL0] at hLN; rw [List.append_assoc, <- Zjk hOk.ne]; exact ((List.prefix_append_right_inj _).2 (Zwa q k (show j + 1 <= 16 by omega))).trans hLN) (Nat.le_trans hB0 (Nat.le_trans hKw.size hB.size)))
   refine Zat 14 41 f14 (#[x13] ++ #[.slice a3 n3 c3, .func (.func 77) #[] #[.pointer (some ⟨gY, 0, none⟩)]]) rfl (fun _ => by kernel_rfl) (fun _ => hi10 _ _ _ _ _ _ _ rfl (by kernel_rfl) (by kernel_rfl)) (R := RB U J Jx (u8) (pre ++ flK q k j ++ entsF (q ++ [((j : Nat) : Int)]) (k j))) ?_ (fun u w' h => trivial) ?_ Zam
   ·exact hc11
   rintro _ u9 ⟨b9, rfl, hR9, hX9⟩
   have hBk9 := hB
   refine dt 15 42 (.bool (!b9)) (fun v hv _ => by kernel_rfl) trivial <| dt 16 43 (.bool (!b9)) (fun v hv _ => by kernel_rfl) trivial <| Zas (by kernel_rfl) <| Zab ?_
   cases b9 with
   | true =>
    show CW _ _ _ _ _ _ _ [(43, .bool false), (42, .bool false), (41, .bool true), (36, .slice a3 n3 c3), (35, .slice (some ⟨g6, 0, none⟩) 2 2), (34, .slice (some ⟨gI, 0, none⟩) 1 1), (40, .iface T0 v0), (39, .func (.method "pergola/trie.each") #[.iface T0 v0] #[]), (38, .func (.method "pergola/trie.each") #[.iface T0 v0] #[]), (37, .func (.func 77) #[] #[.pointer (some ⟨gY, 0, none⟩)]), (33, .int .u8 ((j : Nat) : Int)), (32, .int .i64 ((j : Nat) : Int)), (31, .slice aq nq cq), (30, .iface T0 v0), (29, .bool true), (28, .bool true), (27, .iface T0 v0), (8, .iface T0 v0), (7, .int .i64 ((j : Nat) : Int)), (26, .iface T0 v0), (25, .int .i64 ((j : Nat) : Int)), (24, .bool true), (23, .int .i64 ((j : Nat) : Int)), (22, .agg (bra vs)), (1, .slice aq nq cq), (2, .func (.func 77) #[] #[.pointer (some ⟨gY, 0, none⟩)])] _
    refine Zai (fun _ => by kernel_rfl) <| Zan <| Za0 <| Zab <| Zaa <| rv 44 (.int .i64 (((j : Nat) : Int) + 1)) (fun _ => Zag (v := .int .i64 (IntKind.i64.wrap (((j : Nat) : Int) + 1))) (by kernel_rfl) (congrArg (Value.int .i64) (Zbc (by omega) (by omega)))) <| rp 23 (.int .i64 (((j : Nat) : Int) + 1)) <| Zad ?_
    exact Za8 (E := fun j => [(23, .int .i64 ((j : Nat) : Int)), (22, .agg (bra vs)), (1, .slice aq nq cq), (2, .func (.func 77) #[] #[.pointer (some ⟨gY, 0, none⟩)])]) (R := fun j v => J (pre ++ flK q k j) v /\ KpU U w.heap.size w v /\ j <= 16) (μ := fun j => 16 - j) (x := j) (j + 1) (by exact ⟨fun _ => by kernel_rfl, ⟨fun _ => by kernel_rfl, ⟨fun _ => by kernel_rfl, ⟨fun _ => by kernel_rfl, trivial⟩⟩⟩⟩) ⟨by rw [Zjk hOk.ne, <- List.append_assoc]; exact (hR9 rfl).1, (hKw.trans (KpU.of_below w.heap.size hBk9) (Nat.le_refl _)).trans (hR9 rfl).2 (Nat.le_trans hKw.size hBk9.size), by omega⟩ (by omega)
   | false =>
    show CW _ _ _ _ _ _ _ [(43, .bool true), (42, .bool true), (41, .bool false), (36, .slice a3 n3 c3), (35, .slice (some ⟨g6, 0, none⟩) 2 2), (34, .slice (some ⟨gI, 0, none⟩) 1 1), (40, .iface T0 v0), (39, .func (.method "pergola/trie.each") #[.iface T0 v0] #[]), (38, .func (.method "pergola/trie.each") #[.iface T0 v0] #[]), (37, .func (.func 77) #[] #[.pointer (some ⟨gY, 0, none⟩)]), (33, .int .u8 ((j : Nat) : Int)), (32, .int .i64 ((j : Nat) : Int)), (31, .slice aq nq cq), (30, .iface T0 v0), (29, .bool true), (28, .bool true), (27, .iface T0 v0), (8, .iface T0 v0), (7, .int .i64 ((j : Nat) : Int)), (26, .iface T0 v0), (25, .int .i64 ((j : Nat) : Int)), (24, .bool true), (23, .int .i64 ((j : Nat) : Int)), (22, .agg (bra vs)), (1, .slice aq nq cq), (2, .func (.func 77) #[] #[.pointer (some ⟨gY, 0, none⟩)])] _
    refine Zak (fun _ => by kernel_rfl) <| Zac <| Zaa <| rp 6 (.bool false) <| Zad <| Zab <| Zap <| Za6 <| Zaq <| Zaq <| Za6 <| Zaq ?_
    exact Zae (.bool false) (fun _ => by kernel_rfl) ⟨_, rfl, false, rfl, (fun e => by cases e), fun _ => hX9 rfl⟩
 obtain rfl : j = 16 := by omega
 show CW _ _ _ _ _ _ _ [(23, .int .i64 16), (22, .agg (bra vs)), (1, .slice aq nq cq), (2, .func (.func 77) #[] #[.pointer (some ⟨gY, 0, none⟩)])] _
 refine Zac <| Zaa <| rp 24 (.bool false) <| Zad <| Zab <| Zac <| Zai (fun _ => by kernel_rfl) <| Zbl <| Zal <| Zal <| Zay <| Zab ?_
 refine Zac <| Zaa <| rp 6 (.bool true) <| Zad <| Zab <| Zap ?_
 exact Zae (.bool true) (fun _ => by kernel_rfl) ⟨_, rfl, true, rfl, (fun _ => ⟨by rw [hL0]; exact hJ, hKw⟩), fun e => by cases e⟩
set_option maxHeartbeats 4000000 in
theorem Zyu {l B0 : Nat} {Z : PList} {U : Nat -> Prop} {J : PList -> World -> Prop} {Jx : World -> Prop} (V : Vis l B0 Z U J Jx) {K K' : Nat -> Prop} {w : World} {a : Option Addr} {n c B : Nat} {x : List Int} {k : Nat -> Tr} {vs : Nat -> Value} (hk0 : TK K w k vs) (hx : Sk K w a n c x) (hn2 : n <= 256) (hKU : ∀ b, K b -> ¬ U b) (hF : ∀ i, EC l B0 Z U J Jx (k i)) (hO : ∀ j, k j = no \/ (1 <= B /\ Tr.Ok (B - 1) (k j))) {aq : Option Addr} {nq cq : Nat} {q : List Int} (hq0 : Sk K' w aq nq cq q) {gY : Nat} (hY0 : Rw gY w #[.func (.yield l) #[] #[]] 71) {pre : PList} (hJ : J pre w) (hN : True) (hB0 : B0 <= w.heap.size) (hKU' : ∀ b, K' b -> ¬ U b) (hUY : ¬ U gY) (h64 : nq + B <= 64) (hnz : 0 < n) {L : PList} (hL0 : L = pre ++ [((Ni.keyP q).1, x)] ++ flK q k 16) (hLN : L <+: Z) :
  Calls Tryz.prog 188 #[.agg (brc vs (.slice a n c)), .slice aq nq cq, .func (.func 77) #[] #[.pointer (some ⟨gY, 0, none⟩)]] w fun e w' => ∃ u, e = .returned u /\ RB U J Jx w L u w' := by
 have hk := hk0
 have hq := hq0
 have hY := hY0
 have hB := Bl.refl w
 have lx := hx.len
 have lq := hq.len
 refine Zaj Tryz.func188 rfl 45 rfl ?_
 show CW _ _ _ _ _ _ _ [(0, .agg (brc vs (.slice a n c))), (1, .slice aq nq cq), (2, .func (.func 77) #[] #[.pointer (some ⟨gY, 0, none⟩)])] _
 refine Zac <| Zaa <| Zax 3 (brc vs (.slice a n c)) 221 (fun _ => by kernel_rfl) (fun _ => by kernel_rfl) ?_
 intro w1 g2 hn3
 replace hB := hB.go hn3.below
 replace hx := hx.go hn3.below
 replace hq := hq.go hn3.below
 replace hY := hY.go hn3.below
 replace hk := hk.go hn3.below
 replace hJ := V.go hJ hn3.below
 have hr4 : Rw g2 w1 (brc vs (.slice a n c)) 221 := hn3.row
 refine rp 6 (.bool false) <| Zad ?_
 have hgb := hn3.hg
 refine Zab <| Zac <| Zac <| Zaa <| rp 9 (.pointer (some ⟨g2, 16, none⟩)) <| rv 10 (.slice a n c) (fun _ => Zah 23 _ ⟨g2, 16, none⟩ _ _ rfl (by kernel_rfl) (by rw [cell_of_row _ _ _ _ _ _ hr4]; rfl) Tryz.underlying23 rfl) <| rp 11 (.int .i64 n) <| rv 12 (.bool true) (fun _ => Zag (v := .bool (decide ((n : Int) > (0 : Int)))) (by kernel_rfl) (congrArg Value.bool (decide_eq_true (by omega)))) <| rp 13 (.bool true) <| rp 14 (.func (.func 77) #[] #[.pointer (some ⟨gY, 0, none⟩)]) <| rp 15 (.slice aq nq cq) <| rp 16 (.pointer (some ⟨g2, 16, none⟩)) ?_
 refine rv 17 (.slice a n c) (fun _ => Zah 23 _ ⟨g2, 16, none⟩ _ _ rfl (by kernel_rfl) (by rw [cell_of_row _ _ _ _ _ _ hr4]; rfl) Tryz.underlying23 rfl) <| Zao 18 77 #[.slice aq nq cq, .slice a n c, .pointer (some ⟨gY, 0, none⟩)] (fun _ => by kernel_rfl) (fun _ => by kernel_rfl) (R := RB U J Jx (w1) (pre ++ [((Ni.keyP q).1, x)])) (Zht V hq hx (by omega) (by omega) hY hJ (by rw [hL0] at hLN; exact (List.prefix_append _ _).trans hLN) (Nat.le_trans hB0 hB.size)) ?_
 rintro _ u8 ⟨b8, rfl, hR8, hX8⟩
 have hBk := hB
 refine rp 19 (.bool (!b8)) <| rp 20 (.bool (!b8)) <| Zad <| Zab ?_
 cases b8 with
 | true =>
  show CW _ _ _ _ _ _ _ [(20, .bool false), (19, .bool false), (18, .bool true), (17, .slice a n c), (16, .pointer (some ⟨g2, 16, none⟩)), (15, .slice aq nq cq), (14, .func (.func 77) #[] #[.pointer (some ⟨gY, 0, none⟩)]), (13, .bool true), (12, .bool true), (11, .int .i64 n), (10, .slice a n c), (9, .pointer (some ⟨g2, 16, none⟩)), (6, .bool false), (3, .pointer (some ⟨g2, 0, none⟩)), (0, .agg (brc vs (.slice a n c))), (1, .slice aq nq cq), (2, .func (.func 77) #[] #[.pointer (some ⟨gY, 0, none⟩)])] _
  obtain ⟨hJ8, hk8⟩ := hR8 rfl
  replace hr4 := hr4.kp hk8 (lt_of_get hr4) (fun hu => by have := V.lo _ hu; omega) (hk0.pr _)
  have hKw : KpU U w.heap.size w u8 := (KpU.of_below _ hBk).trans hk8 hBk.size
  replace hJ := hJ8
  clear hk hx hq hY hB
  refine Zai (fun _ => by kernel_rfl) <| Zan <| Zab <| Zac <| Zac <| Zaa <| rp 21 (.pointer (some ⟨g2, 0, none⟩)) <| rv 22 (.agg (bra vs)) (fun _ => Zqt hr4 _ rfl (by kernel_rfl)) <| rp 23 (.int .i64 0) <| Zad <| Zab <| Zar ?_
  refine Zby (X := Nat) (fun j => [(23, .int .i64 ((j : Nat) : Int)), (22, .agg (bra vs)), (1, .slice aq nq cq), (2, .func (.func 77) #[] #[.pointer (some ⟨gY, 0, none⟩)])]) (fun j v => J (pre ++ [((Ni.keyP q).1, x)] ++ flK q k j) v /\ KpU U w.heap.size w v /\ j <= 16) (fun j => 16 - j) 0 (by exact ⟨fun _ => by kernel_rfl, ⟨fun _ => by kernel_rfl, ⟨fun _ => by kernel_rfl, ⟨fun _ => by kernel_rfl, trivial⟩⟩⟩⟩) ⟨by rw [show flK q k 0 = [] from rfl, List.append_nil]; exact hJ, hKw, Nat.zero_le _⟩ ?_
  clear hJ hKw hr4
  rintro j v ⟨hJ, hKw, hj⟩
  have hk := hk0.kp hKw hKU
  have hq := hq0.kp hKw (Nat.le_refl _) hKU'
  have hY := hY0.kp hKw (lt_of_get hY0) hUY ⟨0, _, rfl, fun _ _ _ => by simp⟩
  by_cases hlt : j < 16
  ·skip
   have hB := Bl.refl v
   rcases hO j with hno | ⟨hB1, hOk⟩
   ·skip
    have e0 : vs j = .nilIface := by have := hk j hlt; rw [hno] at this; exact this
    refine Zac <| Zaa <| rv 24 (.bool true) (fun _ => Zag (v := .bool (decide (((j : Nat) : Int) < (16 : Int)))) (by kernel_rfl) (congrArg Value.bool (decide_eq_true (by omega)))) <| Zad <| Zab <| Zac <| Zak (fun _ => by kernel_rfl) <| Zan <| Zab <| Zac <| Zar <| Zac ?_
    refine Zaa <| rp 25 (.int .i64 ((j : Nat) : Int)) <| rv 26 (.nilIface) (fun _ => Zag (Zks _ _ vs j hlt rfl (by kernel_rfl) (by kernel_rfl)) e0) <| rp 7 (.int .i64 ((j : Nat) : Int)) <| rp 8 (.nilIface) <| Zad <| Zab <| Zac <| Zaz (fun _ => True) (by kernel_rfl) (trivial) ?_
    replace hJ := V.go hJ (Below.refl _ _).drew
    replace hk := hk.drew
    replace hq := hq.drew
    replace hY := hY.drew
    replace hB := hB.drew
    refine dt 0 27 (.nilIface) (fun v hv _ => by kernel_rfl) trivial <| dt 1 28 (.bool false) (fun v hv => (fun _ => by kernel_rfl)) trivial <| dt 2 29 (.bool false) (fun v hv _ => by kernel_rfl) trivial <| df 3 30 trivial <| df 4 31 trivial <| df 5 32 trivial <| df 6 33 trivial <| df 7 34 trivial <| df 8 35 trivial <| df 9 36 trivial <| df 10 37 trivial <| df 11 38 trivial ?_
    refine df 12 39 trivial <| df 13 40 trivial <| df 14 41 trivial <| df 15 42 trivial <| dt 16 43 (.bool false) (fun v hv _ => by kernel_rfl) trivial <| Zas (by kernel_rfl) <| Zab <| Zai (fun _ => by kernel_rfl) <| Zan <| Za0 <| Zab <| Zaa ?_
    refine rv 44 (.int .i64 (((j : Nat) : Int) + 1)) (fun _ => Zag (v := .int .i64 (IntKind.i64.wrap (((j : Nat) : Int) + 1))) (by kernel_rfl) (congrArg (Value.int .i64) (Zbc (by omega) (by omega)))) <| rp 23 (.int .i64 (((j : Nat) : Int) + 1)) <| Zad ?_
    exact Za8 (E := fun j => [(23, .int .i64 ((j : Nat) : Int)), (22, .agg (bra vs)), (1, .slice aq nq cq), (2, .func (.func 77) #[] #[.pointer (some ⟨gY, 0, none⟩)])]) (R := fun j v => J (pre ++ [((Ni.keyP q).1, x)] ++ flK q k j) v /\ KpU U w.heap.size w v /\ j <= 16) (μ := fun j => 16 - j) (x := j) (j + 1) (by exact ⟨fun _ => by kernel_rfl, ⟨fun _ => by kernel_rfl, ⟨fun _ => by kernel_rfl, ⟨fun _ => by kernel_rfl, trivial⟩⟩⟩⟩) ⟨by rw [Zv9 hno]; exact hJ, hKw.trans (KpU.of_below w.heap.size hB) (Nat.le_refl _), by omega⟩ (by omega)
   ·skip
    obtain ⟨T0, v0, e0⟩ := (hk j hlt).iface hOk.ne
    have hti := hk j hlt
    rw [e0] at hti
    refine Zac <| Zaa <| rv 24 (.bool true) (fun _ => Zag (v := .bool (decide (((j : Nat) : Int) < (16 : Int)))) (by kernel_rfl) (congrArg Value.bool (decide_eq_true (by omega)))) <| Zad <| Zab <| Zac <| Zak (fun _ => by kernel_rfl) <| Zan <| Zab <| Zac <| Zar <| Zac ?_
    refine Zaa <| rp 25 (.int .i64 ((j : Nat) : Int)) <| rv 26 (.iface T0 v0) (fun _ => Zag (Zks _ _ vs j hlt rfl (by kernel_rfl) (by kernel_rfl)) e0) <| rp 7 (.int .i64 ((j : Nat) : Int)) <| rp 8 (.iface T0 v0) <| Zad <| Zab <| Zac <| Zaz (fun _ => True) (by kernel_rfl) (trivial) ?_
    replace hJ := V.go hJ (Below.refl _ _).drew
    replace hk := hk.drew
    replace hq := hq.drew
    replace hY := hY.drew
    replace hB := hB.drew
    replace hti := hti.drew
    refine dt 0 27 (.iface T0 v0) (fun v hv _ => by kernel_rfl) trivial <| dt 1 28 (.bool true) (fun v hv => (fun _ => by kernel_rfl)) trivial <| dt 2 29 (.bool true) (fun v hv _ => by kernel_rfl) trivial <| dt 3 30 (.iface T0 v0) (fun v hv _ => by kernel_rfl) trivial <| dt 4 31 (.slice aq nq cq) (fun v hv _ => by kernel_rfl) trivial <| dt 5 32 (.int .i64 ((j : Nat) : Int)) (fun v hv _ => by kernel_rfl) trivial <| dt 6 33 (.int .u8 ((j : Nat) : Int)) (fun v hv _ => Zag (v := .int .u8 (IntKind.u8.wrap ((j : Nat) : Int))) (by kernel_rfl) (congrArg (Value.int .u8) (Zy7 hlt))) trivial <| dt 10 37 (.func (.func 77) #[] #[.pointer (some ⟨gY, 0, none⟩)]) (fun v hv _ => by kernel_rfl) trivial <| dt 11 38 (.func (.method "pergola/trie.each") #[.iface T0 v0] #[]) (fun v hv => (fun _ => by kernel_rfl)) trivial <| dt 12 39 (.func (.method "pergola/trie.each") #[.iface T0 v0] #[]) (fun v hv _ => Zqr hti hOk.ne 38 rfl (by kernel_rfl)) trivial <| dt 13 40 (.iface T0 v0) (fun v hv _ => by kernel_rfl) trivial <| Zaf [7] (by kernel_rfl) (by simp) ?_
    refine Zbz 7 34 #[.int .u8 ((j : Nat) : Int)] 5 1 rfl (fun _ => by kernel_rfl) (fun _ => by kernel_rfl) (fun w' g h => trivial) ?_ Zam
    intro wI gI hnI
    have h1 : Sk (fun b => True) wI (some ⟨gI, 0, none⟩) 1 1 [((j : Nat) : Int)] := Zqp (by omega) hnI (fun _ _ => trivial)
    replace hJ := V.go hJ hnI.below
    replace hk := hk.go hnI.below
    replace hq := hq.go hnI.below
    replace hY := hY.go hnI.below
    replace hB := hB.go hnI.below
    replace hti := hti.go hnI.below
    refine Zaf [8] (by kernel_rfl) (by simp) ?_
    refine Zbz 8 35 #[.slice aq nq cq, .slice (some ⟨gI, 0, none⟩) 1 1] 23 2 rfl (fun _ => by kernel_rfl) (fun _ => by kernel_rfl) (fun w' g h => trivial) ?_ Zam
    intro w5 g6 hn7
    replace hJ := V.go hJ hn7.below
    replace hk := hk.go hn7.below
    replace hq := hq.go hn7.below
    replace hY := hY.go hn7.below
    replace hB := hB.go hn7.below
    replace hti := hti.go hn7.below
    replace h1 := h1.go hn7.below
    have hL : Rw g6 w5 #[.slice aq nq cq, .slice (some ⟨gI, 0, none⟩) 1 1] 23 := hn7.row
    refine Zaf [9] (by kernel_rfl) (by simp) ?_
    refine Zat 9 36 183 #[.slice (some ⟨g6, 0, none⟩) 2 2] rfl (fun _ => by kernel_rfl) (fun _ => by kernel_rfl) (R := fun u w' => ∃ a2 n2 c2, u = .slice a2 n2 c2 /\ Sk (fun b => (w5).heap.size <= b) w' a2 n2 c2 (q ++ [((j : Nat) : Int)]) /\ Bl (w5) w') (Zbf hq h1 hL (by omega) (by omega)) (fun u w' h => trivial) ?_ Zam
    rintro _ u8 ⟨a3, n3, c3, rfl, hs3, hb9⟩
    have hsB := hB.size
    replace hJ := V.go hJ hb9
    replace hk := hk.go hb9
    replace hq := hq.go hb9
    replace hY := hY.go hb9
    replace hB := hB.go hb9
    replace hti := hti.go hb9
    replace h1 := h1.go hb9
    replace hL := hL.go hb9
    refine Zaf [14] (by kernel_rfl) (by simp) ?_
    have l3 := hs3.len
    rw [List.length_append, List.length_singleton] at l3
    obtain ⟨T12, x13, f14, he15, hi10, hc11⟩ := (hF j hOk (by omega) hti hKU hs3 (fun b hb hu => by have := V.lo b hu; have := hB.size; have := hKw.size; omega) hY hUY hJ (by rw [hL0] at hLN; rw [List.append_assoc, <- Zjk hOk.ne]; exact ((List.prefix_append_right_inj _).2 (Zwa q k (show j + 1 <= 16 by omega))).trans hLN) (Nat.le_trans hB0 (Nat.le_trans hKw.size hB.size)))
    refine Zat 14 41 f14 (#[x13] ++ #[.slice a3 n3 c3, .func (.func 77) #[] #[.pointer (some ⟨gY, 0, none⟩)]]) rfl (fun _ => by kernel_rfl) (fun _ => hi10 _ _ _ _ _ _ _ rfl (by kernel_rfl) (by kernel_rfl)) (R := RB U J Jx (u8) (pre ++ [((Ni.keyP q).1, x)] ++ flK q k j ++ entsF (q ++ [((j : Nat) : Int)]) (k j))) ?_ (fun u w' h => trivial) ?_ Zam
    ·exact hc11
    rintro _ u9 ⟨b9, rfl, hR9, hX9⟩
    have hBk9 := hB
    refine dt 15 42 (.bool (!b9)) (fun v hv _ => by kernel_rfl) trivial <| dt 16 43 (.bool (!b9)) (fun v hv _ => by kernel_rfl) trivial <| Zas (by kernel_rfl) <| Zab ?_
    cases b9 with
    | true =>
     show CW _ _ _ _ _ _ _ [(43, .bool false), (42, .bool false), (41, .bool true), (36, .slice a3 n3 c3), (35, .slice (some ⟨g6, 0, none⟩) 2 2), (34, .slice (some ⟨gI, 0, none⟩) 1 1), (40, .iface T0 v0), (39, .func (.method "pergola/trie.each") #[.iface T0 v0] #[]), (38, .func (.method "pergola/trie.each") #[.iface T0 v0] #[]), (37, .func (.func 77) #[] #[.pointer (some ⟨gY, 0, none⟩)]), (33, .int .u8 ((j : Nat) : Int)), (32, .int .i64 ((j : Nat) : Int)), (31, .slice aq nq cq), (30, .iface T0 v0), (29, .bool true), (28, .bool true), (27, .iface T0 v0), (8, .iface T0 v0), (7, .int .i64 ((j : Nat) : Int)), (26, .iface T0 v0), (25, .int .i64 ((j : Nat) : Int)), (24, .bool true), (23, .int .i64 ((j : Nat) : Int)), (22, .agg (bra vs)), (1, .slice aq nq cq), (2, .func (.func 77) #[] #[.pointer (some ⟨gY, 0, none⟩)])] _
     refine Zai (fun _ => by kernel_rfl) <| Zan <| Za0 <| Zab <| Zaa <| rv 44 (.int .i64 (((j : Nat) : Int) + 1)) (fun _ => Zag (v := .int .i64 (IntKind.i64.wrap (((j : Nat) : Int) + 1))) (by kernel_rfl) (congrArg (Value.int .i64) (Zbc (by omega) (by omega)))) <| rp 23 (.int .i64 (((j : Nat) : Int) + 1)) <| Zad ?_
     exact Za8 (E := fun j => [(23, .int .i64 ((j : Nat) : Int)), (22, .agg (bra vs)), (1, .slice aq nq cq), (2, .func (.func 77) #[] #[.pointer (some ⟨gY, 0, none⟩)])]) (R := fun j v => J (pre ++ [((Ni.keyP q).1, x)] ++ flK q k j) v /\ KpU U w.heap.size w v /\ j <= 16) (μ := fun j => 16 - j) (x := j) (j + 1) (by exact ⟨fun _ => by kernel_rfl, ⟨fun _ => by kernel_rfl, ⟨fun _ => by kernel_rfl, ⟨fun _ => by kernel_rfl, trivial⟩⟩⟩⟩) ⟨by rw [Zjk hOk.ne, <- List.append_assoc]; exact (hR9 rfl).1, (hKw.trans (KpU.of_below w.heap.size hBk9) (Nat.le_refl _)).trans (hR9 rfl).2 (Nat.le_trans hKw.size hBk9.size), by omega⟩ (by omega)
    | false =>
     show CW _ _ _ _ _ _ _ [(43, .bool true), (42, .bool true), (41, .bool false), (36, .slice a3 n3 c3), (35, .slice (some ⟨g6, 0, none⟩) 2 2), (34, .slice (some ⟨gI, 0, none⟩) 1 1), (40, .iface T0 v0), (39, .func (.method "pergola/trie.each") #[.iface T0 v0] #[]), (38, .func (.method "pergola/trie.each") #[.iface T0 v0] #[]), (37, .func (.func 77) #[] #[.pointer (some ⟨gY, 0, none⟩)]), (33, .int .u8 ((j : Nat) : Int)), (32, .int .i64 ((j : Nat) : Int)), (31, .slice aq nq cq), (30, .iface T0 v0), (29, .bool true), (28, .bool true), (27, .iface T0 v0), (8, .iface T0 v0), (7, .int .i64 ((j : Nat) : Int)), (26, .iface T0 v0), (25, .int .i64 ((j : Nat) : Int)), (24, .bool true), (23, .int .i64 ((j : Nat) : Int)), (22, .agg (bra vs)), (1, .slice aq nq cq), (2, .func (.func 77) #[] #[.pointer (some ⟨gY, 0, none⟩)])] _
     refine Zak (fun _ => by kernel_rfl) <| Zac <| Zaa <| rp 6 (.bool false) <| Zad <| Zab <| Zap <| Za6 <| Zaq <| Zaq <| Za6 <| Zaq ?_
     exact Zae (.bool false) (fun _ => by kernel_rfl) ⟨_, rfl, false, rfl, (fun e => by cases e), fun _ => hX9 rfl⟩
  obtain rfl : j = 16 := by omega
  show CW _ _ _ _ _ _ _ [(23, .int .i64 16), (22, .agg (bra vs)), (1, .slice aq nq cq), (2, .func (.func 77) #[] #[.pointer (some ⟨gY, 0, none⟩)])] _
  refine Zac <| Zaa <| rp 24 (.bool false) <| Zad <| Zab <| Zac <| Zai (fun _ => by kernel_rfl) <| Zbl <| Zal <| Zal <| Zay <| Zab ?_
  refine Zac <| Zaa <| rp 6 (.bool true) <| Zad <| Zab <| Zap ?_
  exact Zae (.bool true) (fun _ => by kernel_rfl) ⟨_, rfl, true, rfl, (fun _ => ⟨by rw [hL0]; exact hJ, hKw⟩), fun e => by cases e⟩
 | false =>
  show CW _ _ _ _ _ _ _ [(20, .bool true), (19, .bool true), (18, .bool false), (17, .slice a n c), (16, .pointer (some ⟨g2, 16, none⟩)), (15, .slice aq nq cq), (14, .func (.func 77) #[] #[.pointer (some ⟨gY, 0, none⟩)]), (13, .bool true), (12, .bool true), (11, .int .i64 n), (10, .slice a n c), (9, .pointer (some ⟨g2, 16, none⟩)), (6, .bool false), (3, .pointer (some ⟨g2, 0, none⟩)), (0, .agg (brc vs (.slice a n c))), (1, .slice aq nq cq), (2, .func (.func 77) #[] #[.pointer (some ⟨gY, 0, none⟩)])] _
  refine Zak (fun _ => by kernel_rfl) <| Zac <| Zaa <| rp 6 (.bool false) <| Zad <| Zab <| Zap <| Zaq ?_
  exact Zae (.bool false) (fun _ => by kernel_rfl) ⟨_, rfl, false, rfl, (fun e => by cases e), fun _ => hX8 rfl⟩
theorem Z0k {l B0 : Nat} {Z : PList} {U : Nat -> Prop} {J : PList -> World -> Prop} {Jx : World -> Prop} (V : Vis l B0 Z U J Jx) : ∀ t : Tr, EC l B0 Z U J Jx t := by
 intro t
 induction t with
 | no => intro K K' w v a n c B gY q pre hO; exact hO.elim
 | leaf p x =>
  intro K K' w v a n c B gY q pre hO h64 ht hKU hq hKU' hY hUY hJ hN hB0
  obtain ⟨a1, n1, c1, a2, n2, c2, rfl, h1, h2, h3⟩ := ht
  exact ⟨_, _, _, rfl, Zrq _, Zrh V h1 h2 h3 hq hY hJ hN hB0 (by have := h1.len; have := hO.2.1; omega)⟩
 | ext p t ih =>
  intro K K' w v a n c B gY q pre hO h64 ht hKU hq hKU' hY hUY hJ hN hB0
  obtain ⟨a1, n1, c1, u, rfl, h1, h2⟩ := ht
  obtain ⟨o1, o2, o3, o4, o5⟩ := hO
  obtain ⟨Tu, xu, rfl⟩ := h2.iface (fun e => by rw [e] at o4; simp [isBr] at o4)
  exact ⟨_, _, _, rfl, Zrr _, Zsa V h1 h2 hKU ih o5 hq hY hJ hN hB0 hUY (by have := h1.len; omega)⟩
 | br k x ih =>
  intro K K' w v a n c B gY q pre hO h64 ht hKU hq hKU' hY hUY hJ hN hB0
  obtain ⟨vs, a1, n1, c1, rfl, h1, h2, h3⟩ := ht
  refine ⟨_, _, _, rfl, Zrs _, ?_⟩
  have hO' : ∀ j, k j = no \/ (1 <= B /\ Tr.Ok (B - 1) (k j)) := fun j => by
   rcases hO.1 j with h | ⟨_, h1, h2⟩
   ·exact .inl h
   ·exact .inr ⟨h1, h2⟩
  have lx := h2.len
  rcases Nat.eq_zero_or_pos n1 with h | h
  ·have hx0 : x = [] := List.eq_nil_of_length_eq_zero (by omega)
   exact Zyt V h1 h2 h3 hKU ih hO' hq hY hJ trivial hB0 hKU' hUY h64 h (by simp [entsF, flK, hx0]) hN
  ·have hx0 : x ≠ [] := fun e => by rw [e] at lx; simp at lx; omega
   exact Zyu V h1 h2 h3 hKU ih hO' hq hY hJ trivial hB0 hKU' hUY h64 h (by simp [entsF, flK, hx0]) hN
end Go.Proofs.YtefhepcplempkaaGreat
namespace Go.Proofs.YtefhepcplempkaaGreat
open Go.RowKit
open Go.ChangeMaps (setBlock)
section
variable {r : Option Nat} {m : Nat} {P : Program} {ds : List Deferred} {n : Nat} {Q : Exit → Act → World → Prop} {env : Env} {w w' : World} {ops : Array Oper} {l : List Oper} {o : Oper}
end
end Go.Proofs.YtefhepcplempkaaGreat
