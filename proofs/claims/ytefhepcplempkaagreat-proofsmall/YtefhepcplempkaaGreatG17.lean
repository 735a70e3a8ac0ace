/- What is old; what a block that is written over leaves alone. -/
import Derived.Test.YtefhepcplempkaaGreatG15
import Derived.Test.YtefhepcplempkaaGreatG16
import Derived.Test.YtefhepcplempkaaGreatG00
import Derived.Test.YtefhepcplempkaaGreatG01
set_option linter.unusedVariables false
set_option maxRecDepth 100000
namespace Go.Proofs.YtefhepcplempkaaGreat
open Go.RowKit
open Tr
theorem TA.old {K : Nat -> Prop} {w : World} : ∀ {t : Tr} {v : Value}, TA K w t v -> TA (fun b => b < w.heap.size) w t v := by
 have hs : ∀ {a : Option Addr} {n c : Nat} {bs : List Int}, Sk K w a n c bs -> Sk (fun b => b < w.heap.size) w a n c bs := fun h => ⟨h.ag, fun x hx hn => h.old hx hn⟩
 intro t
 induction t with
 | no => intro v h; exact h
 | leaf p x => rintro v ⟨a, n, c, a', n', c', h1, h2, h3, h4⟩; exact ⟨a, n, c, a', n', c', h1, hs h2, hs h3, h4⟩
 | ext p t ih => rintro v ⟨a, n, c, u, h1, h2, h3⟩; exact ⟨a, n, c, u, h1, hs h2, ih h3⟩
 | br k x ih => rintro v ⟨vs, a, n, c, h1, h2, h3, h4⟩; exact ⟨vs, a, n, c, h1, fun i hi => ih i (h2 i hi), hs h3, h4⟩
theorem TA.mono {K K' : Nat -> Prop} {w : World} (hK : ∀ b, K b -> K' b) : ∀ {t : Tr} {v : Value}, TA K w t v -> TA K' w t v := by
 intro t
 induction t with
 | no => intro v h; exact h
 | leaf p x => rintro v ⟨a, n, c, a', n', c', h1, h2, h3, h4⟩; exact ⟨a, n, c, a', n', c', h1, h2.mono hK, h3.mono hK, h4⟩
 | ext p t ih => rintro v ⟨a, n, c, u, h1, h2, h3⟩; exact ⟨a, n, c, u, h1, h2.mono hK, ih h3⟩
 | br k x ih => rintro v ⟨vs, a, n, c, h1, h2, h3, h4⟩; exact ⟨vs, a, n, c, h1, fun i hi => ih i (h2 i hi), h3.mono hK, h4⟩
theorem Sk.tou {K : Nat -> Prop} {w w' : World} {g : Nat} {a : Option Addr} {n c : Nat} {bs : List Int} (h : Sk K w a n c bs) (t : Touch g w w') (hg : ¬ K g) : Sk K w' a n c bs := by
 refine ⟨⟨?_, h.ag.nil, h.ag.l, h.ag.b⟩, h.k⟩
 rcases h.ag.i with h1 | ⟨gb, off, h1, h2, h3, h4, h5, h7⟩
 ·exact .inl h1
 ·refine .inr ⟨gb, off, h1, h2, h3, h4, h5, fun j hj => ?_⟩
  rw [<- h7 j hj]
  have hk := h.k _ h1 h3
  exact World.cell?_of_block (t.block gb (block_lt_of_cell (h7 j hj)) (fun e => hg (e ▸ hk)))
theorem Tri.mono {K K' : Nat -> Prop} {w : World} {g : Nat} {t : Tr} (h : Tri K w g t) (hK : ∀ b, K b -> K' b) : Tri K' w g t := by
 obtain ⟨⟨v, h1, h2⟩, h3⟩ := h
 exact ⟨⟨v, h1, h2.mono hK⟩, h3⟩
theorem Tri.old {K : Nat -> Prop} {w : World} {g : Nat} {t : Tr} (h : Tri K w g t) : Tri (fun b => b < w.heap.size) w g t := by
 obtain ⟨⟨v, h1, h2⟩, h3⟩ := h
 exact ⟨⟨v, h1, h2.old⟩, h3⟩
theorem Zo1 {a b : World} (h : Below a.heap.size a b) : a.grownBy b none := ⟨h.os, h.tape, h.output, h.size, fun k hk _ => h.block k hk⟩
set_option maxHeartbeats 1000000 in
theorem Zyx {w : World} {g : Nat} :
  Calls Tryz.prog 53 #[.pointer (some ⟨g, 0, none⟩)] w fun e w' => ∃ u, e = .returned u /\ (fun u w' => (∃ gB, u = .func (.func 76) #[] #[.pointer (some ⟨gB, 0, none⟩)] /\ Rw gB w' #[.pointer (some ⟨g, 0, none⟩)] 25 /\ w.heap.size <= gB) /\ Bl w w') u w' := by
 have hB := Bl.refl w
 refine Zaj Tryz.func53 rfl 4 rfl ?_
 show CW _ _ _ _ _ _ _ [(0, .pointer (some ⟨g, 0, none⟩))] _
 refine Zac <| Zaa <| Zax 1 (#[.pointer (some ⟨g, 0, none⟩)]) 25 (fun _ => by kernel_rfl) (fun _ => by kernel_rfl) ?_
 intro w1 g2 hn3
 replace hB := hB.go hn3.below
 have hr4 : Rw g2 w1 (#[.pointer (some ⟨g, 0, none⟩)]) 25 := hn3.row
 refine rp 2 (.nilFunc) <| Zad <| Zab <| Zac <| Zaa <| rp 3 (.func (.func 76) #[] #[.pointer (some ⟨g2, 0, none⟩)]) <| rp 2 (.func (.func 76) #[] #[.pointer (some ⟨g2, 0, none⟩)]) <| Zad <| Zab <| Zap ?_
 exact Zae (.func (.func 76) #[] #[.pointer (some ⟨g2, 0, none⟩)]) (fun _ => by kernel_rfl) ⟨_, rfl, ⟨g2, rfl, hr4, by rw [hn3.hg]; exact Nat.le_refl _⟩, hB⟩
set_option maxHeartbeats 1000000 in
theorem Zyy {l B0 : Nat} {Z : PList} {U : Nat -> Prop} {J : PList -> World -> Prop} {Jx : World -> Prop} (V : Vis l B0 Z U J Jx) {w : World} {g gB : Nat} (hgB : Rw gB w #[.pointer (some ⟨g, 0, none⟩)] 25) (hr : Rw g w #[.nilIface] 76) (hJ : J [] w) (hB0 : B0 <= w.heap.size)  :
  Calls Tryz.prog 76 #[.func (.yield l) #[] #[], .pointer (some ⟨gB, 0, none⟩)] w fun e w' => ∃ u, e = .returned u /\ (fun u w' => J [] w' \/ Jx w') u w' := by
 have hB := Bl.refl w
 refine Zaj Tryz.func76 rfl 14 rfl ?_
 show CW _ _ _ _ _ _ _ [(0, .func (.yield l) #[] #[]), (1, .pointer (some ⟨gB, 0, none⟩))] _
 refine Zac <| Zaa <| Zax 2 (#[.func (.yield l) #[] #[]]) 71 (fun _ => by kernel_rfl) (fun _ => by kernel_rfl) ?_
 intro w1 g2 hn3
 replace hB := hB.go hn3.below
 replace hgB := hgB.go hn3.below
 replace hr := hr.go hn3.below
 replace hJ := V.go hJ hn3.below
 have hr4 : Rw g2 w1 (#[.func (.yield l) #[] #[]]) 71 := hn3.row
 refine Zad ?_
 have hgY := hn3.hg
 refine Zab <| Zac <| Zac <| Zaa <| rv 3 (.pointer (some ⟨g, 0, none⟩)) (fun _ => Zah 25 _ ⟨gB, 0, none⟩ _ _ rfl (by kernel_rfl) (by rw [cell_of_row _ _ _ _ _ _ hgB]; rfl) Tryz.underlying25 rfl) <| rp 4 (.pointer (some ⟨g, 0, none⟩)) <| rp 5 (.pointer (some ⟨g, 0, none⟩)) <| rv 6 (.nilIface) (fun _ => Zah 74 _ ⟨g, 0, none⟩ _ _ rfl (by kernel_rfl) (by rw [cell_of_row _ _ _ _ _ _ hr]; rfl) Tryz.underlying74 rfl) <| rp 7 (.bool true) <| Zad <| Zab <| Zak (fun _ => by kernel_rfl) ?_
 refine Zap <| Zaq ?_
 exact Zae (.tuple #[]) (fun _ => by kernel_rfl) ⟨_, rfl, .inl hJ⟩
set_option maxHeartbeats 1000000 in
theorem Zvb {l B0 : Nat} {Z : PList} {U : Nat -> Prop} {J : PList -> World -> Prop} {Jx : World -> Prop} (V : Vis l B0 Z U J Jx) {T0 : TypeId} {v0 : Value} {w : World} {g gB : Nat} (hgB : Rw gB w #[.pointer (some ⟨g, 0, none⟩)] 25) (hr : Rw g w #[.iface T0 v0] 76) (hJ : J [] w) (hB0 : B0 <= w.heap.size) {K : Nat -> Prop} {t : Tr} (ht : TA K w t (.iface T0 v0)) (hO : Tr.Ok 64 t) (hKU : ∀ b, K b -> ¬ U b) (hN : ([] ++ entsF [] t) <+: Z) :
  Calls Tryz.prog 76 #[.func (.yield l) #[] #[], .pointer (some ⟨gB, 0, none⟩)] w fun e w' => ∃ u, e = .returned u /\ (fun u w' => J (entsF [] t) w' \/ Jx w') u w' := by
 have hB := Bl.refl w
 refine Zaj Tryz.func76 rfl 14 rfl ?_
 show CW _ _ _ _ _ _ _ [(0, .func (.yield l) #[] #[]), (1, .pointer (some ⟨gB, 0, none⟩))] _
 refine Zac <| Zaa <| Zax 2 (#[.func (.yield l) #[] #[]]) 71 (fun _ => by kernel_rfl) (fun _ => by kernel_rfl) ?_
 intro w1 g2 hn3
 replace hB := hB.go hn3.below
 replace hgB := hgB.go hn3.below
 replace hr := hr.go hn3.below
 replace hJ := V.go hJ hn3.below
 replace ht := ht.go hn3.below
 have hr4 : Rw g2 w1 (#[.func (.yield l) #[] #[]]) 71 := hn3.row
 refine Zad ?_
 have hgY := hn3.hg
 refine Zab <| Zac <| Zac <| Zaa <| rv 3 (.pointer (some ⟨g, 0, none⟩)) (fun _ => Zah 25 _ ⟨gB, 0, none⟩ _ _ rfl (by kernel_rfl) (by rw [cell_of_row _ _ _ _ _ _ hgB]; rfl) Tryz.underlying25 rfl) <| rp 4 (.pointer (some ⟨g, 0, none⟩)) <| rp 5 (.pointer (some ⟨g, 0, none⟩)) <| rv 6 (.iface T0 v0) (fun _ => Zah 74 _ ⟨g, 0, none⟩ _ _ rfl (by kernel_rfl) (by rw [cell_of_row _ _ _ _ _ _ hr]; rfl) Tryz.underlying74 rfl) <| rp 7 (.bool false) <| Zad <| Zab <| Zai (fun _ => by kernel_rfl) ?_
 refine Zan <| Zab <| Zaa <| rv 8 (.pointer (some ⟨g, 0, none⟩)) (fun _ => Zah 25 _ ⟨gB, 0, none⟩ _ _ rfl (by kernel_rfl) (by rw [cell_of_row _ _ _ _ _ _ hgB]; rfl) Tryz.underlying25 rfl) <| rp 9 (.pointer (some ⟨g, 0, none⟩)) <| rp 10 (.pointer (some ⟨g, 0, none⟩)) <| rv 11 (.iface T0 v0) (fun _ => Zah 74 _ ⟨g, 0, none⟩ _ _ rfl (by kernel_rfl) (by rw [cell_of_row _ _ _ _ _ _ hr]; rfl) Tryz.underlying74 rfl) <| rp 12 (.func (.func 77) #[] #[.pointer (some ⟨g2, 0, none⟩)]) ?_
 obtain ⟨T7, x8, f9, he10, hi5, hc6⟩ := (Z0k V t hO (by omega) ht hKU (Sk.nil (fun _ => False) _) (fun b hb => hb.elim) hr4 (fun hu => by have := V.lo _ hu; omega) hJ hN (Nat.le_trans hB0 hB.size))
 refine Zao 13 f9 (#[x8] ++ #[.slice none 0 0, .func (.func 77) #[] #[.pointer (some ⟨g2, 0, none⟩)]]) (fun _ => by kernel_rfl) (fun _ => hi5 _ _ _ _ _ _ _ rfl (by kernel_rfl) (by kernel_rfl)) (R := RB U J Jx (w1) ([] ++ entsF [] t)) ?_ ?_
 ·exact hc6
 rintro _ u8 ⟨b8, rfl, hR8, hX8⟩
 refine Zad ?_
 cases b8 with
 | true => exact Zee (.tuple #[]) (fun _ => by kernel_rfl) ⟨_, rfl, .inl (hR8 rfl).1⟩
 | false => exact Zee (.tuple #[]) (fun _ => by kernel_rfl) ⟨_, rfl, .inr (hX8 rfl)⟩
theorem Zvc {l B0 : Nat} {Z : PList} {U : Nat -> Prop} {J : PList -> World -> Prop} {Jx : World -> Prop} (V : Vis l B0 Z U J Jx) {w : World} {g gB : Nat} (hgB : Rw gB w #[.pointer (some ⟨g, 0, none⟩)] 25) (hJ : J [] w) (hB0 : B0 <= w.heap.size) {K : Nat -> Prop} {t : Tr} {v : Value} (hr : Rw g w #[v] 76) (ht : TA K w t v) (hok : t = no \/ Tr.Ok 64 t) (hKU : ∀ b, K b -> ¬ U b) (hN : entsF [] t <+: Z) :
  Calls Tryz.prog 76 #[.func (.yield l) #[] #[], .pointer (some ⟨gB, 0, none⟩)] w fun e w' => ∃ u, e = .returned u /\ (J (entsF [] t) w' \/ Jx w') := by
 rcases hok with rfl | hO
 ·rw [show v = .nilIface from ht] at hr
  exact Zyy V hgB hr hJ hB0
 ·obtain ⟨T0, v0, rfl⟩ := ht.iface hO.ne
  exact Zvb V hgB hr hJ hB0 ht hO hKU hN
def KpR (U : Nat -> Prop) (A B : World) : Prop := KpU U A.heap.size A B
def Cnt (w : World) (gN : Nat) (xs : List (Value × Value)) (W : World) : Prop := Rw gN W #[.int .i64 ((xs.length : Nat) : Int)] 3 /\ Bl w W
end Go.Proofs.YtefhepcplempkaaGreat
namespace Go.Proofs.YtefhepcplempkaaGreat
namespace Tr
theorem Ok.kid {B : Nat} {k : Nat -> Tr} {x : List Int} (h : Ok B (br k x)) {i : Nat} (hi : k i ≠ no) : ∃ q, Nb (((i : Nat) : Int) :: q) /\ get (br k x) (((i : Nat) : Int) :: q) ≠ [] := by
 rcases h.1 i with h0 | ⟨h1, _, h3⟩
 ·exact absurd h0 hi
 ·obtain ⟨q, k1, _, k3⟩ := h3.some
  refine ⟨q, fun j hj => ?_, k3⟩
  rcases List.mem_cons.1 hj with rfl | hj
  ·omega
  ·exact k1 j hj
theorem Ok.spread {B : Nat} {k : Nat -> Tr} {x : List Int} (h : Ok B (br k x)) (i : Int) : ∃ q, Nb q /\ get (br k x) q ≠ [] /\ ∀ r, q ≠ i :: r := by
 rcases h.2 with ⟨a, b, hab, ha, hb⟩ | ⟨hx, _⟩
 ·by_cases e : ((a : Nat) : Int) = i
  ·obtain ⟨q, h1, h2⟩ := h.kid hb
   exact ⟨_, h1, h2, fun r er => by injection er with er _; omega⟩
  ·obtain ⟨q, h1, h2⟩ := h.kid ha
   exact ⟨_, h1, h2, fun r er => by injection er with er _; exact e er⟩
 ·exact ⟨[], (fun j hj => by cases hj), hx, (fun r er => by cases er)⟩
theorem Ok.another {B : Nat} {k : Nat -> Tr} {x : List Int} (h : Ok B (br k x)) (p : List Int) : ∃ q, Nb q /\ q ≠ p /\ get (br k x) q ≠ [] := by
 cases p with
 | nil =>
  have : ∃ i, k i ≠ no := by
   rcases h.2 with ⟨i, _, _, h, _⟩ | ⟨_, i, h⟩ <;> exact ⟨i, h⟩
  obtain ⟨i, hi⟩ := this
  obtain ⟨q, h1, h2⟩ := h.kid hi
  exact ⟨_, h1, by simp, h2⟩
 | cons i r =>
  obtain ⟨q, h1, h2, h3⟩ := h.spread i
  exact ⟨q, h1, h3 r, h2⟩
theorem Zjj {t : Tr} (h : t.isBr = true) : ∃ k x, t = br k x := by
 cases t with
 | br k x => exact ⟨k, x, rfl⟩
 | no => simp [isBr] at h
 | leaf p v => simp [isBr] at h
 | ext p c => simp [isBr] at h
theorem Znp {B C : Nat} {p p' : List Int} {k k' : Nat -> Tr} {x x' : List Int} (hp : Nb p) (hp' : Nb p') (h : Ok B (br k x)) (h' : Ok C (br k' x')) (hg : ∀ q, Nb q -> get (ext p (br k x)) q = get (ext p' (br k' x')) q) (hl : p.length <= p'.length) : p = p' := by
 have key : ∀ q, Nb q -> get (br k x) q ≠ [] -> ∃ s, p ++ q = p' ++ s := by
  intro q hq hne
  have e := hg (p ++ q) (hp.app hq)
  rw [Zdu] at e
  by_cases hs : ∃ s, p ++ q = p' ++ s
  ·exact hs
  ·rw [Zbs p' _ _ hs] at e
   exact absurd e hne
 obtain ⟨q0, h1, h2⟩ : ∃ q, Nb q /\ get (br k x) q ≠ [] := by obtain ⟨q, h1, _, h2⟩ := h.another []; exact ⟨q, h1, h2⟩
 obtain ⟨s0, e0⟩ := key q0 h1 h2
 have ep : p = p'.take p.length := by
  have := congrArg (List.take p.length) e0
  rw [List.take_left, List.take_append_of_le_length hl] at this
  exact this
 rcases Nat.lt_or_ge p.length p'.length with hlt | hge
 ·exfalso
  obtain ⟨i, r, er⟩ : ∃ i r, p'.drop p.length = i :: r := by
   cases hd : p'.drop p.length with
   | nil => have := congrArg List.length hd; simp at this; omega
   | cons i r => exact ⟨i, r, rfl⟩
  have e' : p' = p ++ (i :: r) := by
   conv => lhs; rw [<- List.take_append_drop p.length p', <- ep, er]
  obtain ⟨q, g1, g2, g3⟩ := h.spread i
  obtain ⟨s, es⟩ := key q g1 g2
  rw [e', List.append_assoc] at es
  have := List.append_cancel_left es
  exact g3 _ this
 ·rw [ep, List.take_of_length_le hge]
theorem Ok.uniq : ∀ {t s : Tr} {B C : Nat}, Ok B t -> Ok C s -> (∀ q, Nb q -> get t q = get s q) -> t = s := by
 intro t
 induction t with
 | no => intro s B C h; exact h.elim
 | leaf p v =>
  intro s B C h h' hg
  cases s with
  | no => exact h'.elim
  | leaf p' v' =>
   have e := hg p h.1
   simp only [get] at e
   by_cases hp : p = p'
   ·subst hp
    simp at e
    rw [e]
   ·rw [if_neg hp] at e
    simp at e
    exact absurd e h.2.2
  | ext p' c =>
   exfalso
   obtain ⟨k, x, rfl⟩ := Zjj h'.2.2.2.1
   obtain ⟨q, h1, h2, h3⟩ := h'.2.2.2.2.another (p.drop p'.length)
   have e := hg (p' ++ q) (h'.1.app h1)
   rw [Zdu] at e
   simp only [get] at e
   by_cases hp : p' ++ q = p
   ·exact h2 (by rw [<- hp]; simp)
   ·rw [if_neg hp] at e
    exact h3 e.symm
  | br k x =>
   exfalso
   obtain ⟨q, h1, h2, h3⟩ := Ok.another h' p
   have e := hg q h1
   simp only [get] at e
   rw [if_neg h2] at e
   exact h3 e.symm
 | ext p c ih =>
  intro s B C h h' hg
  obtain ⟨k, x, rfl⟩ := Zjj h.2.2.2.1
  cases s with
  | no => exact h'.elim
  | leaf p' v' =>
   exfalso
   obtain ⟨q, h1, h2, h3⟩ := h.2.2.2.2.another (p'.drop p.length)
   have e := hg (p ++ q) (h.1.app h1)
   rw [Zdu] at e
   simp only [get] at e
   by_cases hp : p ++ q = p'
   ·exact h2 (by rw [<- hp]; simp)
   ·rw [if_neg hp] at e
    exact h3 e
  | ext p' c' =>
   obtain ⟨k', x', rfl⟩ := Zjj h'.2.2.2.1
   have ep : p = p' := by
    rcases Nat.le_total p.length p'.length with hl | hl
    ·exact Znp h.1 h'.1 h.2.2.2.2 h'.2.2.2.2 hg hl
    ·exact (Znp h'.1 h.1 h'.2.2.2.2 h.2.2.2.2 (fun q hq => (hg q hq).symm) hl).symm
   subst ep
   congr 1
   exact ih h.2.2.2.2 h'.2.2.2.2 (fun q hq => by
    have e := hg (p ++ q) (h.1.app hq)
    rw [Zdu, Zdu] at e
    exact e)
  | br k' x' =>
   exfalso
   cases p with
   | nil => exact h.2.1 rfl
   | cons i r =>
    obtain ⟨q, h1, h2, h3⟩ := Ok.spread h' i
    have e := hg q h1
    rw [Zbs _ _ _ (fun ⟨s, es⟩ => h3 _ es)] at e
    exact h2 e.symm
 | br k x ih =>
  intro s B C h h' hg
  cases s with
  | no => exact h'.elim
  | leaf p' v' =>
   exfalso
   obtain ⟨q, h1, h2, h3⟩ := Ok.another h p'
   have e := hg q h1
   rw [show get (leaf p' v') q = [] from by simp only [get]; rw [if_neg h2]] at e
   exact h3 e
  | ext p' c' =>
   exfalso
   cases p' with
   | nil => exact h'.2.1 rfl
   | cons i r =>
    obtain ⟨q, h1, h2, h3⟩ := Ok.spread h i
    have e := hg q h1
    rw [Zbs _ _ _ (fun ⟨s, es⟩ => h3 _ es)] at e
    exact h2 e
  | br k' x' =>
   have ex : x = x' := hg [] (fun j hj => by cases hj)
   have ek : k = k' := by
    funext i
    have hgi : i < 16 -> ∀ r, Nb r -> get (k i) r = get (k' i) r := fun hi r hr => hg (((i : Nat) : Int) :: r) (fun j hj => by
     rcases List.mem_cons.1 hj with rfl | hj
     ·omega
     ·exact hr j hj)
    rcases h.1 i with h0 | ⟨h1, _, h3⟩
    ·rcases h'.1 i with g0 | ⟨g1, _, g3⟩
     ·rw [h0, g0]
     ·obtain ⟨q, q1, _, q3⟩ := g3.some
      have := hgi g1 q q1
      rw [h0] at this
      exact absurd this.symm q3
    ·rcases h'.1 i with g0 | ⟨g1, _, g3⟩
     ·obtain ⟨q, q1, _, q3⟩ := h3.some
      have := hgi h1 q q1
      rw [g0] at this
      exact absurd this q3
     ·exact ih i h3 g3 (hgi h1)
   rw [ex, ek]
end Tr
namespace Tr
end Tr
end Go.Proofs.YtefhepcplempkaaGreat
namespace Go.Proofs.YtefhepcplempkaaGreat
open Ni (lessP Zez)
theorem Zbr : ∀ a : List Int, lessP a a = false
 | [] => rfl
 | x :: r => by simp [lessP, Zbr r]
theorem Zbq : ∀ a b c : List Int, lessP a b = true -> lessP b c = true -> lessP a c = true
 | [], [], _, h, _ => by simp [lessP] at h
 | [], _ :: _, [], _, h => by simp [lessP] at h
 | [], _ :: _, _ :: _, _, _ => rfl
 | _ :: _, [], _, h, _ => by simp [lessP] at h
 | _ :: _, _ :: _, [], _, h => by simp [lessP] at h
 | x :: a, y :: b, z :: c, h, k => by
  simp only [lessP] at h k ⊢
  by_cases h1 : x = y
  ·subst h1
   rw [if_pos rfl] at h
   by_cases h2 : x = z
   ·subst h2
    rw [if_pos rfl] at k ⊢
    exact Zbq a b c h k
   ·rw [if_neg h2] at k ⊢
    exact k
  ·rw [if_neg h1] at h
   by_cases h2 : y = z
   ·subst h2
    rw [if_neg h1]
    exact h
   ·rw [if_neg h2] at k
    have h3 := of_decide_eq_true h
    have h4 := of_decide_eq_true k
    rw [if_neg (by omega)]
    exact decide_eq_true (by omega)
theorem Zey (a b : List Int) (h : a ≠ b) (k : lessP a b = false) : lessP b a = true := by
 have := Zez a b
 simpa [h, k] using this
def cmpP (a b : List Int) : Int := if a = b then 0 else if lessP a b then -1 else 1
theorem Z0s (a b : List Int) : decide (cmpP a b < 0) = lessP a b := by
 unfold cmpP
 by_cases h : a = b
 ·subst h; simp [Zbr]
 ·rw [if_neg h]
  cases lessP a b <;> simp
def SrtB (M : List (List Int)) : Prop := M.Pairwise fun a b => lessP a b = true
theorem Zj8 : ∀ A B : List (List Int), SrtB A -> SrtB B -> (∀ x, x ∈ A ↔ x ∈ B) -> A = B
 | [], [], _, _, _ => rfl
 | [], b :: B, _, _, h => by have := (h b).2 (by simp); simp at this
 | a :: A, [], _, _, h => by have := (h a).1 (by simp); simp at this
 | a :: A, b :: B, hA, hB, h => by
  obtain ⟨ha, hA'⟩ := List.pairwise_cons.1 hA
  obtain ⟨hb, hB'⟩ := List.pairwise_cons.1 hB
  have e : a = b := by
   rcases List.mem_cons.1 ((h a).1 (by simp)) with q | q
   ·exact q
   ·rcases List.mem_cons.1 ((h b).2 (by simp)) with p | p
    ·exact p.symm
    ·have := Zbq _ _ _ (ha _ p) (hb _ q)
     rw [Zbr] at this; cases this
  subst e
  congr 1
  refine Zj8 A B hA' hB' fun x => ⟨fun hx => ?_, fun hx => ?_⟩
  ·rcases List.mem_cons.1 ((h x).1 (List.mem_cons_of_mem _ hx)) with q | q
   ·subst q
    have := ha _ hx
    rw [Zbr] at this; cases this
   ·exact q
  ·rcases List.mem_cons.1 ((h x).2 (List.mem_cons_of_mem _ hx)) with q | q
   ·subst q
    have := hb _ hx
    rw [Zbr] at this; cases this
   ·exact q
def ddg (p : List Int) : List (List Int) -> List (List Int)
 | [] => []
 | y :: r => if y = p then ddg p r else y :: ddg y r
def dd : List (List Int) -> List (List Int)
 | [] => []
 | x :: r => x :: ddg x r
theorem Zjs (b a : List Int) : ∀ (M : List (List Int)) (p : List Int), ddg p (M ++ [a, b]) = ddg p (M ++ [a]) ++ (if b = a then [] else [b])
 | [], p => by
  simp only [List.nil_append, ddg]
  by_cases h : a = p
  ·subst h
   by_cases k : b = a <;> simp [k]
  ·simp only [if_neg h]
   by_cases k : b = a <;> simp [k]
 | y :: M, p => by
  simp only [List.cons_append, ddg]
  by_cases h : y = p
  ·rw [if_pos h, if_pos h]; exact Zjs b a M p
  ·rw [if_neg h, if_neg h, Zjs b a M y, List.cons_append]
theorem Zyn (M : List (List Int)) (a b : List Int) : dd (M ++ [a, b]) = dd (M ++ [a]) ++ (if b = a then [] else [b]) := by
 cases M with
 | nil => simp only [List.nil_append, dd, ddg]; by_cases h : b = a <;> simp [h]
 | cons x M => simp only [List.cons_append, dd]; rw [Zjs]
theorem Zl1 (x : List Int) : ∀ (M : List (List Int)) (p : List Int), (x = p \/ x ∈ ddg p M) ↔ (x = p \/ x ∈ M)
 | [], p => by simp [ddg]
 | y :: M, p => by
  simp only [ddg]
  by_cases h : y = p
  ·subst h
   rw [if_pos rfl, Zl1 x M y]
   constructor
   ·rintro (q | q)
    ·exact .inl q
    ·exact .inr (List.mem_cons_of_mem _ q)
   ·rintro (q | q)
    ·exact .inl q
    ·rcases List.mem_cons.1 q with q | q
     ·exact .inl q
     ·exact .inr q
  ·rw [if_neg h]
   have := Zl1 x M y
   simp only [List.mem_cons]
   constructor
   ·rintro (q | q)
    ·exact .inl q
    ·exact .inr (this.1 q)
   ·rintro (q | q)
    ·exact .inl q
    ·exact .inr (this.2 q)
theorem Zz5 (x : List Int) (M : List (List Int)) : x ∈ dd M ↔ x ∈ M := by
 cases M with
 | nil => rfl
 | cons y M =>
  simp only [dd, List.mem_cons]
  exact Zl1 x M y
theorem Zma : ∀ (M : List (List Int)) (p : List Int), (p :: M).Pairwise (fun a b => lessP b a = false) -> SrtB (p :: ddg p M)
 | [], p, _ => by simp [ddg, SrtB]
 | y :: M, p, h => by
  obtain ⟨h1, h2⟩ := List.pairwise_cons.1 h
  obtain ⟨h3, h4⟩ := List.pairwise_cons.1 h2
  simp only [ddg]
  by_cases e : y = p
  ·subst e
   rw [if_pos rfl]
   exact Zma M y h2
  ·rw [if_neg e]
   have ih := Zma M y h2
   refine List.pairwise_cons.2 ⟨fun z hz => ?_, ih⟩
   have hpy := Zey y p e (h1 y (by simp))
   rcases List.mem_cons.1 hz with q | q
   ·rw [q]; exact hpy
   ·exact Zbq _ _ _ hpy ((List.pairwise_cons.1 ih).1 z q)
theorem Z0n (M : List (List Int)) (h : M.Pairwise (fun a b => lessP b a = false)) : SrtB (dd M) := by
 cases M with
 | nil => simp [dd, SrtB]
 | cons y M => exact Zma M y h
theorem Z0q : ∀ M : List (List Int), (dd M).length <= M.length := by
 have h : ∀ (M : List (List Int)) (p : List Int), (ddg p M).length <= M.length := by
  intro M
  induction M with
  | nil => intro p; simp [ddg]
  | cons y M ih => intro p; simp only [ddg]; split <;> simp <;> (have := ih p; have := ih y; omega)
 intro M
 cases M with
 | nil => simp [dd]
 | cons x M => simp only [dd, List.length_cons]; have := h M x; omega
end Go.Proofs.YtefhepcplempkaaGreat
