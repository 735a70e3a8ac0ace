/- What is old; what a block that is written over leaves alone. -/
import Derived.Test.YtefhepcplempkaaGreatG15
import Derived.Test.YtefhepcplempkaaGreatG16
import Derived.Test.YtefhepcplempkaaGreatG00
import Derived.Test.YtefhepcplempkaaGreatG01
set_option linter.unusedVariables false
set_option maxRecDepth 100000
namespace Go.Proofs.YtefhepcplempkaaGreat
open Go.RowKit
open Tr
theorem TA.old {K : Nat -> Prop} {w : World} : ∀ {t : Tr} {v : Value}, TA K w t v -> TA (fun b => b < w.heap.size) w t v := by
 have hs : ∀ {a : Option Addr} {n c : Nat} {bs : List Int}, Sk K w a n c bs -> Sk (fun b => b < w.heap.size) w a n c bs := fun h => ⟨h.ag, fun x hx hn => h.old hx hn⟩
 intro t
 induction t with
 | no => intro v h; exact h
 | leaf p x => rintro v ⟨a, n, c, a', n', c', h1, h2, h3, h4⟩; exact ⟨a, n, c, a', n', c', h1, hs h2, hs h3, h4⟩
 | ext p t ih => rintro v ⟨a, n, c, u, h1, h2, h3⟩; exact ⟨a, n, c, u, h1, hs h2, ih h3⟩
 | br k x ih => rintro v ⟨vs, a, n, c, h1, h2, h3, h4⟩; exact ⟨vs, a, n, c, h1, fun i hi => ih i (h2 i hi), hs h3, h4⟩
theorem TA.mono {K K' : Nat -> Prop} {w : World} (hK : ∀ b, K b -> K' b) : ∀ {t : Tr} {v : Value}, TA K w t v -> TA K' w t v := by
 intro t
 induction t with
 | no => intro v h; exact h
 | leaf p x => rintro v ⟨a, n, c, a', n', c', h1, h2, h3, h4⟩; exact ⟨a, n, c, a', n', c', h1, h2.mono hK, h3.mono hK, h4⟩
 | ext p t ih => rintro v ⟨a, n, c, u, h1, h2, h3⟩; exact ⟨a, n, c, u, h1, h2.mono hK, ih h3⟩
 | br k x ih => rintro v ⟨vs, a, n, c, h1, h2, h3, h4⟩; exact ⟨vs, a, n, c, h1, fun i hi => ih i (h2 i hi), h3.mono hK, h4⟩
theorem Sk.tou {K : Nat -> Prop} {w w' : World} {g : Nat} {a : Option Addr} {n c : Nat} {bs : List Int} (h : Sk K w a n c bs) (t : Touch g w w') (hg : ¬ K g) : Sk K w' a n c bs := by
 refine ⟨⟨?_, h.ag.nil, h.ag.l, h.ag.b⟩, h.k⟩
 rcases h.ag.i with h1 | ⟨gb, off, h1, h2, h3, h4, h5, h7⟩
 ·exact .inl h1
 ·refine .inr ⟨gb, off, h1, h2, h3, h4, h5, fun j hj => ?_⟩
  rw [<- h7 j hj]
  have hk := h.k _ h1 h3
  exact World.cell?_of_block (t.block gb (block_lt_of_cell (h7 j hj)) (fun e => hg (e ▸ hk)))
theorem Tri.mono {K K' : Nat -> Prop} {w : World} {g : Nat} {t : Tr} (h : Tri K w g t) (hK : ∀ b, K b -> K' b) : Tri K' w g t := by
 obtain ⟨⟨v, h1, h2⟩, h3⟩ := h
 exact ⟨⟨v, h1, h2.mono hK⟩, h3⟩
theorem Tri.old {K : Nat -> Prop} {w : World} {g : Nat} {t : Tr} (h : Tri K w g t) : Tri (fun b => b < w.heap.size) w g t := by
 obtain ⟨⟨v, h1, h2⟩, h3⟩ := h
 exact ⟨⟨v, h1, h2.old⟩, h3⟩
theorem Zo1 {a b : World} (h : Below a.heap.size a b) : a.grownBy b none := ⟨h.os, h.tape, h.output, h.size, fun k hk _ => h.block k hk⟩
set_option maxHeartbeats 1000000 in
theorem Zys {w : World} {g : Nat} :
  Calls Tryz.prog 53 #[.pointer (some ⟨g, 0, none⟩)] w fun e w' => ∃ u, e = .returned u /\ (fun u w' => (∃ gB, u = .func (.func 76) #[] #[.pointer (some ⟨gB, 0, none⟩)] /\ Rw gB w' #[.pointer (some ⟨g, 0, none⟩)] 25 /\ w.heap.size <= gB) /\ Bl w w') u w' := by
 have hB := Bl.refl w
 refine Zal Tryz.func53 rfl 4 rfl ?_
 show CW _ _ _ _ _ _ _ [(0, .pointer (some ⟨g, 0, none⟩))] _
 refine Zac <| Zaa <| Zaz 1 (#[.pointer (some ⟨g, 0, none⟩)]) 25 (fun _ => by kernel_rfl) (fun _ => by kernel_rfl) ?_
 intro w1 g2 hn3
 replace hB := hB.go hn3.below
 have hr4 : Rw g2 w1 (#[.pointer (some ⟨g, 0, none⟩)]) 25 := hn3.row
 refine rp 2 (.nilFunc) <| Zad <| Zab <| Zac <| Zaa <| rp 3 (.func (.func 76) #[] #[.pointer (some ⟨g2, 0, none⟩)]) <| rp 2 (.func (.func 76) #[] #[.pointer (some ⟨g2, 0, none⟩)]) <| Zad <| Zab <| Zam ?_
 exact Zae (.func (.func 76) #[] #[.pointer (some ⟨g2, 0, none⟩)]) (fun _ => by kernel_rfl) ⟨_, rfl, ⟨g2, rfl, hr4, by rw [hn3.hg]; exact Nat.le_refl _⟩, hB⟩
set_option maxHeartbeats 1000000 in
theorem Zyt {l B0 : Nat} {Z : PList} {U : Nat -> Prop} {J : PList -> World -> Prop} {Jx : World -> Prop} (V : Vis l B0 Z U J Jx) {w : World} {g gB : Nat} (hgB : Rw gB w #[.pointer (some ⟨g, 0, none⟩)] 25) (hr : Rw g w #[.nilIface] 76) (hJ : J [] w) (hB0 : B0 <= w.heap.size)  :
  Calls Tryz.prog 76 #[.func (.yield l) #[] #[], .pointer (some ⟨gB, 0, none⟩)] w fun e w' => ∃ u, e = .returned u /\ (fun u w' => J [] w' \/ Jx w') u w' := by
 have hB := Bl.refl w
 refine Zal Tryz.func76 rfl 14 rfl ?_
 show CW _ _ _ _ _ _ _ [(0, .func (.yield l) #[] #[]), (1, .pointer (some ⟨gB, 0, none⟩))] _
 refine Zac <| Zaa <| Zaz 2 (#[.func (.yield l) #[] #[]]) 71 (fun _ => by kernel_rfl) (fun _ => by kernel_rfl) ?_
 intro w1 g2 hn3
 replace hB := hB.go hn3.below
 replace hgB := hgB.go hn3.below
 replace hr := hr.go hn3.below
 replace hJ := V.go hJ hn3.below
 have hr4 : Rw g2 w1 (#[.func (.yield l) #[] #[]]) 71 := hn3.row
 refine Zad ?_
 have hgY := hn3.hg
 refine Zab <| Zac <| Zac <| Zaa <| rv 3 (.pointer (some ⟨g, 0, none⟩)) (fun _ => Zag 25 _ ⟨gB, 0, none⟩ _ _ rfl (by kernel_rfl) (by rw [cell_of_row _ _ _ _ _ _ hgB]; rfl) Tryz.underlying25 rfl) <| rp 4 (.pointer (some ⟨g, 0, none⟩)) <| rp 5 (.pointer (some ⟨g, 0, none⟩)) <| rv 6 (.nilIface) (fun _ => Zag 74 _ ⟨g, 0, none⟩ _ _ rfl (by kernel_rfl) (by rw [cell_of_row _ _ _ _ _ _ hr]; rfl) Tryz.underlying74 rfl) <| rp 7 (.bool true) <| Zad <| Zab <| Zak (fun _ => by kernel_rfl) ?_
 refine Zam <| Zaj ?_
 exact Zae (.tuple #[]) (fun _ => by kernel_rfl) ⟨_, rfl, .inl hJ⟩
set_option maxHeartbeats 1000000 in
theorem Zu5 {l B0 : Nat} {Z : PList} {U : Nat -> Prop} {J : PList -> World -> Prop} {Jx : World -> Prop} (V : Vis l B0 Z U J Jx) {T0 : TypeId} {v0 : Value} {w : World} {g gB : Nat} (hgB : Rw gB w #[.pointer (some ⟨g, 0, none⟩)] 25) (hr : Rw g w #[.iface T0 v0] 76) (hJ : J [] w) (hB0 : B0 <= w.heap.size) {K : Nat -> Prop} {t : Tr} (ht : TA K w t (.iface T0 v0)) (hO : Tr.Ok 64 t) (hKU : ∀ b, K b -> ¬ U b) (hN : ([] ++ entsF [] t) <+: Z) :
  Calls Tryz.prog 76 #[.func (.yield l) #[] #[], .pointer (some ⟨gB, 0, none⟩)] w fun e w' => ∃ u, e = .returned u /\ (fun u w' => J (entsF [] t) w' \/ Jx w') u w' := by
 have hB := Bl.refl w
 refine Zal Tryz.func76 rfl 14 rfl ?_
 show CW _ _ _ _ _ _ _ [(0, .func (.yield l) #[] #[]), (1, .pointer (some ⟨gB, 0, none⟩))] _
 refine Zac <| Zaa <| Zaz 2 (#[.func (.yield l) #[] #[]]) 71 (fun _ => by kernel_rfl) (fun _ => by kernel_rfl) ?_
 intro w1 g2 hn3
 replace hB := hB.go hn3.below
 replace hgB := hgB.go hn3.below
 replace hr := hr.go hn3.below
 replace hJ := V.go hJ hn3.below
 replace ht := ht.go hn3.below
 have hr4 : Rw g2 w1 (#[.func (.yield l) #[] #[]]) 71 := hn3.row
 refine Zad ?_
 have hgY := hn3.hg
 refine Zab <| Zac <| Zac <| Zaa <| rv 3 (.pointer (some ⟨g, 0, none⟩)) (fun _ => Zag 25 _ ⟨gB, 0, none⟩ _ _ rfl (by kernel_rfl) (by rw [cell_of_row _ _ _ _ _ _ hgB]; rfl) Tryz.underlying25 rfl) <| rp 4 (.pointer (some ⟨g, 0, none⟩)) <| rp 5 (.pointer (some ⟨g, 0, none⟩)) <| rv 6 (.iface T0 v0) (fun _ => Zag 74 _ ⟨g, 0, none⟩ _ _ rfl (by kernel_rfl) (by rw [cell_of_row _ _ _ _ _ _ hr]; rfl) Tryz.underlying74 rfl) <| rp 7 (.bool false) <| Zad <| Zab <| Zah (fun _ => by kernel_rfl) ?_
 refine Zap <| Zab <| Zaa <| rv 8 (.pointer (some ⟨g, 0, none⟩)) (fun _ => Zag 25 _ ⟨gB, 0, none⟩ _ _ rfl (by kernel_rfl) (by rw [cell_of_row _ _ _ _ _ _ hgB]; rfl) Tryz.underlying25 rfl) <| rp 9 (.pointer (some ⟨g, 0, none⟩)) <| rp 10 (.pointer (some ⟨g, 0, none⟩)) <| rv 11 (.iface T0 v0) (fun _ => Zag 74 _ ⟨g, 0, none⟩ _ _ rfl (by kernel_rfl) (by rw [cell_of_row _ _ _ _ _ _ hr]; rfl) Tryz.underlying74 rfl) <| rp 12 (.func (.func 77) #[] #[.pointer (some ⟨g2, 0, none⟩)]) ?_
 obtain ⟨T7, x8, f9, he10, hi5, hc6⟩ := (Z0c V t hO (by omega) ht hKU (Sk.nil (fun _ => False) _) (fun b hb => hb.elim) hr4 (fun hu => by have := V.lo _ hu; omega) hJ hN (Nat.le_trans hB0 hB.size))
 refine Zao 13 f9 (#[x8] ++ #[.slice none 0 0, .func (.func 77) #[] #[.pointer (some ⟨g2, 0, none⟩)]]) (fun _ => by kernel_rfl) (fun _ => hi5 _ _ _ _ _ _ _ rfl (by kernel_rfl) (by kernel_rfl)) (R := RB U J Jx (w1) ([] ++ entsF [] t)) ?_ ?_
 ·exact hc6
 rintro _ u8 ⟨b8, rfl, hR8, hX8⟩
 refine Zad ?_
 cases b8 with
 | true => exact Zek (.tuple #[]) (fun _ => by kernel_rfl) ⟨_, rfl, .inl (hR8 rfl).1⟩
 | false => exact Zek (.tuple #[]) (fun _ => by kernel_rfl) ⟨_, rfl, .inr (hX8 rfl)⟩
theorem Zu6 {l B0 : Nat} {Z : PList} {U : Nat -> Prop} {J : PList -> World -> Prop} {Jx : World -> Prop} (V : Vis l B0 Z U J Jx) {w : World} {g gB : Nat} (hgB : Rw gB w #[.pointer (some ⟨g, 0, none⟩)] 25) (hJ : J [] w) (hB0 : B0 <= w.heap.size) {K : Nat -> Prop} {t : Tr} {v : Value} (hr : Rw g w #[v] 76) (ht : TA K w t v) (hok : t = no \/ Tr.Ok 64 t) (hKU : ∀ b, K b -> ¬ U b) (hN : entsF [] t <+: Z) :
  Calls Tryz.prog 76 #[.func (.yield l) #[] #[], .pointer (some ⟨gB, 0, none⟩)] w fun e w' => ∃ u, e = .returned u /\ (J (entsF [] t) w' \/ Jx w') := by
 rcases hok with rfl | hO
 ·rw [show v = .nilIface from ht] at hr
  exact Zyt V hgB hr hJ hB0
 ·obtain ⟨T0, v0, rfl⟩ := ht.iface hO.ne
  exact Zu5 V hgB hr hJ hB0 ht hO hKU hN
def KpR (U : Nat -> Prop) (A B : World) : Prop := KpU U A.heap.size A B
def Cnt (w : World) (gN : Nat) (xs : List (Value × Value)) (W : World) : Prop := Rw gN W #[.int .i64 ((xs.length : Nat) : Int)] 3 /\ Bl w W
end Go.Proofs.YtefhepcplempkaaGreat
namespace Go.Proofs.YtefhepcplempkaaGreat
namespace Tr
end Tr
namespace Tr
end Tr
end Go.Proofs.YtefhepcplempkaaGreat
namespace Go.Proofs.YtefhepcplempkaaGreat
open Ni (lessP Ze1)
theorem Zcv : ∀ a : List Int, lessP a a = false
 | [] => rfl
 | x :: r => by simp [lessP, Zcv r]
theorem Zd8 : ∀ a b c : List Int, lessP a b = true -> lessP b c = true -> lessP a c = true
 | [], [], _, h, _ => by simp [lessP] at h
 | [], _ :: _, [], _, h => by simp [lessP] at h
 | [], _ :: _, _ :: _, _, _ => rfl
 | _ :: _, [], _, h, _ => by simp [lessP] at h
 | _ :: _, _ :: _, [], _, h => by simp [lessP] at h
 | x :: a, y :: b, z :: c, h, k => by
  simp only [lessP] at h k ⊢
  by_cases h1 : x = y
  ·subst h1
   rw [if_pos rfl] at h
   by_cases h2 : x = z
   ·subst h2
    rw [if_pos rfl] at k ⊢
    exact Zd8 a b c h k
   ·rw [if_neg h2] at k ⊢
    exact k
  ·rw [if_neg h1] at h
   by_cases h2 : y = z
   ·subst h2
    rw [if_neg h1]
    exact h
   ·rw [if_neg h2] at k
    have h3 := of_decide_eq_true h
    have h4 := of_decide_eq_true k
    rw [if_neg (by omega)]
    exact decide_eq_true (by omega)
theorem Zni (a b : List Int) (h : a ≠ b) (k : lessP a b = false) : lessP b a = true := by
 have := Ze1 a b
 simpa [h, k] using this
def cmpP (a b : List Int) : Int := if a = b then 0 else if lessP a b then -1 else 1
def SrtB (M : List (List Int)) : Prop := M.Pairwise fun a b => lessP a b = true
def ddg (p : List Int) : List (List Int) -> List (List Int)
 | [] => []
 | y :: r => if y = p then ddg p r else y :: ddg y r
def dd : List (List Int) -> List (List Int)
 | [] => []
 | x :: r => x :: ddg x r
end Go.Proofs.YtefhepcplempkaaGreat
