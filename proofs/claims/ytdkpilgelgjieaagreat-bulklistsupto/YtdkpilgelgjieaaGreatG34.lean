/- What the document's Less answers. -/
import Derived.Test.YtdkpilgelgjieaaGreatG19
import Derived.Test.YtdkpilgelgjieaaGreatG30
import Derived.Test.YtdkpilgelgjieaaGreatG33
import Derived.Test.YtdkpilgelgjieaaGreatG14
import Derived.Test.YtdkpilgelgjieaaGreatG15
import Derived.Test.YtdkpilgelgjieaaGreatG00
import Derived.Test.YtdkpilgelgjieaaGreatG03
set_option linter.unusedVariables false
set_option maxRecDepth 100000
namespace Go.Proofs.YtdkpilgelgjieaaGreat.Ni
open Go.RowKit
end Go.Proofs.YtdkpilgelgjieaaGreat.Ni
namespace Go.Proofs.YtdkpilgelgjieaaGreat
open Go.RowKit
open Tr
open Di (dref)
theorem OwnL.none8 {X : Nat -> Prop} {w : World} {base : Nat} (hX : ∀ b, base <= b -> X b) : OwnL X w base (.slice none 0 0) [] := ⟨hX, [], rfl, World.ownsRow_nil w base _ 2, fun j p e q => by simp at q⟩
theorem Zk0 {w w' : World} {v u r : Value} {ρ : Operand -> Value} {o : Oper} (hr : ∀ ty, (Builtin.append_ #[22, 22] ty #[v, u]).run Tryz.prog w = .ok r w') (x y : Operand) (ho : o.op = .call { callee := .builtin .append, args := #[x, y], argTypes := #[22, 22] }) (hx : ρ x = v) (hy : ρ y = u) : (execOp ρ o).run Tryz.prog w = .ok (.value r) w' := by
 unfold execOp
 simp only [ho, resolve, invoke, builtin, Sem.run_bind, Sem.run_pure, Result.andThen_ok, List.map_toArray, List.map_cons, List.map_nil, hx, hy, hr]
def lkP (l : PList) : Option (List Int) := l.getLast?.map Prod.fst
theorem Zsm (l : PList) (k x : List Int) : lkP (l ++ [(k, x)]) = some k := by simp [lkP]
def addL (l : PList) (k x : List Int) : PList := if addE (lkP l) k x = 0 then l ++ [(k, x)] else l
set_option maxHeartbeats 1000000 in
theorem Zzh {w : World} {a : Option Addr} {c : Nat} :
  Calls Tryz.prog 16 #[.slice a 0 c] w fun e w' => ∃ u, e = .returned u /\ (fun u w' => u = .agg (B8 (dref [128])) /\ Bl w w') u w' := by
 have hB := Bl.refl w
 have hdl := dref_len [128]
 obtain ⟨ds, hds⟩ : ∃ ds, dref [128] = ds := ⟨_, rfl⟩
 rw [hds] at hdl ⊢
 refine Za3 Tryz.func16 rfl 33 rfl ?_
 show CW _ _ _ _ _ _ _ [(0, .slice a 0 c)] _
 refine Zac <| Zaa ?_
 have hz0 := hB.size
 refine Zb7 2 (B8 z32) 24 (fun _ => by kernel_rfl) (fun _ => by kernel_rfl) ?_
 intro w1 g2 hn3
 replace hB := hB.go hn3.below
 have hr4 : Rw g2 w1 (B8 z32) 24 := hn3.row
 have hgd := hn3.hg
 have hgl := lt_of_get hr4
 refine Zad <| Zab <| Zac <| Zac <| Zaa <| rp 5 (.slice a 0 c) <| rp 6 (.int .i64 0) <| rp 7 (.bool true) <| Zad <| Zab <| Zan (fun _ => by kernel_rfl) <| Zac ?_
 refine Zaa <| Za1 8 24 #[] (fun _ => by kernel_rfl) (fun _ => by kernel_rfl) (R := fun u w' => u = .agg (B8 ds) /\ Bl (w1) w') ((Zja (w1)).mono (fun e w' h => ⟨_, by rw [h.1, hds], rfl, h.2⟩)) ?_
 rintro _ u2 ⟨rfl, hb2⟩
 replace hB := hB.go hb2
 replace hr4 := hr4.go hb2
 refine Zcx g2 (B8 ds) (fun _ => by kernel_rfl) (fun _ => Zbf 24 _ _ _ _ _ _ rfl (by kernel_rfl) (by kernel_rfl) hr4 (Zce hdl) (Zcv hdl) (B8_one _)) ?_
 intro uE hpE
 replace hB : Bl w uE := hpE.below hB (by omega) hB.size
 have hrE : Rw g2 uE (B8 ds) 24 := hpE.row hr4
 refine Zad <| Zab <| Za5 <| Zap ?_
 exact Zaf (.agg (B8 ds)) (fun _ => Zfl Tryz.results16 _ g2 ds hdl (by kernel_rfl) hrE) ⟨_, rfl, rfl, hB⟩
set_option maxHeartbeats 1000000 in
theorem Zxv {K : Nat -> Prop} {w : World} {a : Option Addr} {n c : Nat} {vs : List (Value × Value)} {t : Tr} {l : PList} (hRel : Rel t l) (hOk : Tr.Ok 64 t) (hl : PAt K w a n c vs l) (hb : n <= 2932031007400) (h0 : 0 < n) (hlen : ∀ (j : Nat) k x, l[j]? = some (k, x) -> k.length <= 1000000) :
  Calls Tryz.prog 16 #[.slice a n c] w fun e w' => ∃ u, e = .returned u /\ (fun u w' => u = .agg (B8 (dref (encT t))) /\ Bl w w') u w' := by
 have hB := Bl.refl w
 have hdl := dref_len (encT t)
 obtain ⟨ds, hds⟩ : ∃ ds, dref (encT t) = ds := ⟨_, rfl⟩
 rw [hds] at hdl ⊢
 have hl0 := hl.old
 have ll := hl.ll
 refine Za3 Tryz.func16 rfl 33 rfl ?_
 show CW _ _ _ _ _ _ _ [(0, .slice a n c)] _
 refine Zac <| Zaa ?_
 have hz0 := hB.size
 refine Zb7 2 (B8 z32) 24 (fun _ => by kernel_rfl) (fun _ => by kernel_rfl) ?_
 intro w1 g2 hn3
 replace hB := hB.go hn3.below
 have hr4 : Rw g2 w1 (B8 z32) 24 := hn3.row
 have hgd := hn3.hg
 have hgl := lt_of_get hr4
 refine Zad <| Zab <| Zac <| Zac <| Zaa <| rp 5 (.slice a n c) <| rp 6 (.int .i64 n) <| rv 7 (.bool false) (fun _ => Zai (v := .bool ((n : Int) == (0 : Int))) (by kernel_rfl) (congrArg Value.bool (beq_eq_false_iff_ne.2 (by omega)))) <| Zad <| Zab <| Zao (fun _ => by kernel_rfl) <| Zaz ?_
 refine Zab <| Zac <| Zaa <| rp 3 (.slice none 0 0) <| Zad <| Zab <| Zac <| Zac <| Zaa <| rp 4 (.int .i64 0) <| Zad <| Zab ?_
 refine Zay ?_
 refine Zdj (X := Nat × Value) (fun z => [(4, .int .i64 ((z.1 : Nat) : Int)), (3, z.2), (0, .slice a n c), (2, .pointer (some ⟨g2, 0, none⟩))]) (fun z v => Bl w v /\ Rw g2 v (B8 z32) 24 /\ OwnN (fun b => K b \/ w.heap.size <= b) v (g2 + 1) z.2 ((l.take z.1).map (fun e : List Int × List Int => (Ni.nib e.1, e.2))) /\ z.1 <= n) (fun z => n - z.1) (0, .slice none 0 0) (by exact ⟨fun _ => by kernel_rfl, ⟨fun _ => by kernel_rfl, ⟨fun _ => by kernel_rfl, ⟨fun _ => by kernel_rfl, trivial⟩⟩⟩⟩) ⟨hB, hr4, by rw [List.take_zero]; exact ⟨fun b hb => .inr (by omega), [], rfl, ⟨rfl, .inl ⟨rfl, rfl⟩⟩, fun j p e h => by simp at h⟩, Nat.zero_le _⟩ ?_
 clear hB hr4
 rintro ⟨j, V⟩ v ⟨hB, hrd, hO, hj⟩
 simp only at hB hrd hO hj
 show CW _ _ _ _ _ _ _ [(4, .int .i64 ((j : Nat) : Int)), (3, V), (0, .slice a n c), (2, .pointer (some ⟨g2, 0, none⟩))] _
 by_cases hlt : j < n
 ·skip
  obtain ⟨gE, oE, a1, n1, c1, a2, n2, c2, k, x, ea, hej, hc1, hc2, hs1, hs2⟩ := hl0.at hlt
  subst ea
  have lk := hs1.len
  have hkl := hlen j k x hej
  refine Zac <| Zac <| Zaa <| rp 9 (.int .i64 ((j : Nat) : Int)) <| rp 10 (.slice (some ⟨gE, oE, none⟩) n c) <| rp 11 (.int .i64 n) <| rv 12 (.bool true) (fun _ => Zai (v := .bool (decide (((j : Nat) : Int) < (n : Int)))) (by kernel_rfl) (congrArg Value.bool (decide_eq_true (by omega)))) <| Zad <| Zab <| Zan (fun _ => by kernel_rfl) <| Zaz <| Zab ?_
  refine Zac <| Zay <| Zcb (fun v => Bl w v) (by kernel_rfl) (hB.drew) ?_
  replace hB := hB.drew
  replace hrd := hrd.drew
  replace hO := hO.far (Below.refl _ _).drew
  refine dt 0 15 (V) (fun v hv _ => by kernel_rfl) hB <| dt 1 16 (.slice (some ⟨gE, oE, none⟩) n c) (fun v hv _ => by kernel_rfl) hB <| dt 2 17 (.int .i64 ((j : Nat) : Int)) (fun v hv _ => by kernel_rfl) hB <| dt 3 18 (.pointer (some ⟨gE, oE + j * 2, none⟩)) (fun v hv _ => Zas 22 _ _ gE oE j n c 2 34 rfl (by kernel_rfl) (by kernel_rfl) hlt Tryz.underlying22 (by kernel_rfl)) hB <| dt 4 19 (.pointer (some ⟨gE, oE + j * 2, none⟩)) (fun v hv _ => by kernel_rfl) hB <| dt 5 20 (.slice a1 n1 c1) (fun v hv _ => Zam 32 _ _ _ _ rfl (by kernel_rfl) ((Below.cell hv (block_lt_of_cell hc1)).trans hc1) Tryz.underlying32 rfl) hB <| dt 7 22 (.slice (some ⟨gE, oE, none⟩) n c) (fun v hv _ => by kernel_rfl) hB <| dt 8 23 (.int .i64 ((j : Nat) : Int)) (fun v hv _ => by kernel_rfl) hB <| dt 9 24 (.pointer (some ⟨gE, oE + j * 2, none⟩)) (fun v hv _ => Zas 22 _ _ gE oE j n c 2 34 rfl (by kernel_rfl) (by kernel_rfl) hlt Tryz.underlying22 (by kernel_rfl)) hB <| dt 10 25 (.pointer (some ⟨gE, oE + j * 2 + 1, none⟩)) (fun v hv _ => by kernel_rfl) hB <| dt 11 26 (.slice a2 n2 c2) (fun v hv _ => Zam 32 _ _ _ _ rfl (by kernel_rfl) ((Below.cell hv (block_lt_of_cell hc2)).trans hc2) Tryz.underlying32 rfl) hB <| Zah [6] (by kernel_rfl) (by simp) ?_
  refine Zba 6 21 36 #[.slice a1 n1 c1] rfl (fun _ => by kernel_rfl) (fun _ => by kernel_rfl) (R := fun u w' => (∃ a' m' c', u = .slice a' m' c' /\ Sk (fun b => (v.drew).heap.size <= b) w' a' m' c' (Ni.nib k)) /\ Bl (v.drew) w') (Zxg (hs1.go hB) (by omega)) (fun u w' h => hB.go h.2) ?_ Zar
  rintro _ u5 ⟨⟨a6, n6, c6, rfl, hs6⟩, hb6⟩
  have hOw := hO.own
  have hwz := hB.size
  have hz6 := hb6.size
  replace hB := hB.go hb6
  replace hrd := hrd.go hb6
  replace hO := hO.far hb6
  replace hs6 := hs6.mono (K' := fun b => (K b /\ b < w.heap.size) \/ v.drew.heap.size <= b) (fun b hb => .inr hb)
  refine dt 12 27 (.agg #[.slice a6 n6 c6, .slice a2 n2 c2]) (fun v hv => (fun _ => by kernel_rfl)) hB <| Zah [13] (by kernel_rfl) (by simp) ?_
  refine Zgm 13 28 #[.slice a6 n6 c6, .slice a2 n2 c2] 67 1 rfl (fun _ => by kernel_rfl) (fun _ => by kernel_rfl) (fun w' g h => hB.go h.below) ?_ Zar
  intro wN gN hnN
  have hP1 := PAt.oneN hnN hs6 ((hs2.go hB).mono (K' := fun b => (K b /\ b < w.heap.size) \/ v.drew.heap.size <= b) (fun b hb => .inl hb)) (by have := hnN.hg; exact .inr (by omega))
  replace hB := hB.go hnN.below
  replace hrd := hrd.go hnN.below
  replace hO := hO.far hnN.below
  refine Zah [14] (by kernel_rfl) (by simp) ?_
  obtain ⟨V2, wQ, hrQ, hOQ, hbQ⟩ := appN hO hP1 (fun b hb => ⟨fun e => by have := hOw b e; rcases hb with h | h <;> omega, by rcases hb with h | h; exact .inl h.1; exact .inr (by omega)⟩) (by rw [List.length_map, List.length_take]; omega) (lt_of_get hrd)
  have hBQ : Bl w wQ := ⟨hbQ.os.trans hB.os, hbQ.tape.trans hB.tape, hbQ.output.trans hB.output, Nat.le_trans hB.size hbQ.size, fun q hq => (hbQ.block q (by omega)).trans (hB.block q hq)⟩
  refine ar_v 14 29 V2 rfl (fun _ => by kernel_rfl) (fun _ => Zkz hrQ _ _ rfl (by kernel_rfl) (by kernel_rfl)) hBQ ?_ Zar
  replace hrd : Rw g2 wQ (B8 z32) 24 := (hbQ.block g2 (by omega)).trans hrd
  replace hB := hBQ
  replace hO := hOQ
  refine dt 15 3 (V2) (fun v hv _ => by kernel_rfl) hB <| Zbn (by kernel_rfl) <| Zbb <| Zab <| Zaa <| rp 13 (.int .i64 ((j : Nat) : Int)) <| rv 14 (.int .i64 (((j : Nat) : Int) + 1)) (fun _ => Zai (v := .int .i64 (IntKind.i64.wrap (((j : Nat) : Int) + 1))) (by kernel_rfl) (congrArg (Value.int .i64) (Zb6 (by omega) (by omega)))) <| rp 4 (.int .i64 (((j : Nat) : Int) + 1)) <| Zad ?_
  exact Zbi (E := fun z => [(4, .int .i64 ((z.1 : Nat) : Int)), (3, z.2), (0, .slice (some ⟨gE, oE, none⟩) n c), (2, .pointer (some ⟨g2, 0, none⟩))]) (R := fun z v => Bl w v /\ Rw g2 v (B8 z32) 24 /\ OwnN (fun b => K b \/ w.heap.size <= b) v (g2 + 1) z.2 ((l.take z.1).map (fun e : List Int × List Int => (Ni.nib e.1, e.2))) /\ z.1 <= n) (μ := fun z => n - z.1) (x := (j, V)) (j + 1, V2) (by exact ⟨fun _ => by kernel_rfl, ⟨fun _ => by kernel_rfl, ⟨fun _ => by kernel_rfl, ⟨fun _ => by kernel_rfl, trivial⟩⟩⟩⟩) ⟨hB, hrd, by show OwnN _ _ _ _ ((l.take (j + 1)).map _); rw [Zfu _ l j _ hej]; exact hO, by show j + 1 <= n; omega⟩ (by show n - (j + 1) < n - j; omega)
 obtain rfl : j = n := by omega
 rw [List.take_of_length_le (by omega)] at hO
 show CW _ _ _ _ _ _ _ [(4, .int .i64 ((j : Nat) : Int)), (3, V), (0, .slice a j c), (2, .pointer (some ⟨g2, 0, none⟩))] _
 refine Zac <| Zac <| Zaa <| rp 9 (.int .i64 ((j : Nat) : Int)) <| rp 10 (.slice a j c) <| rp 11 (.int .i64 j) <| rv 12 (.bool false) (fun _ => Zai (v := .bool (decide (((j : Nat) : Int) < (j : Int)))) (by kernel_rfl) (congrArg Value.bool (decide_eq_false (by omega)))) <| Zad <| Zab <| Zao (fun _ => by kernel_rfl) <| Zd5 <| Zat ?_
 refine Zat <| Zbj <| Zab <| Zac ?_
 obtain ⟨aF, cF, vsF, eF, hF⟩ := hO.pat
 subst eF
 rw [show l.map (fun e : List Int × List Int => (Ni.nib e.1, e.2)) = entsR t from hRel.ones] at hF
 have lF := hF.ll
 have lO : (l.map (fun e : List Int × List Int => (Ni.nib e.1, e.2))).length = (entsR t).length := congrArg List.length hRel.ones
 refine Zaa <| rp 30 (.slice aF (l.map (fun e : List Int × List Int => (Ni.nib e.1, e.2))).length cF) <| Za1 31 37 #[.slice aF (l.map (fun e : List Int × List Int => (Ni.nib e.1, e.2))).length cF] (fun _ => by kernel_rfl) (fun _ => by kernel_rfl) (R := RB7 (v) t) ((by rw [lO]; exact Zsc t 64 hOk (Nat.le_refl _) hRel.small _ _ _ _ _ _ hF (by rw [<- lO, List.length_map]; omega))) ?_
 rintro _ u2 ⟨⟨a2, n2, c2, rfl, hs2, hm2⟩, hb2⟩
 replace hB := hB.go hb2
 replace hrd := hrd.go hb2
 have l2 := hs2.len
 refine Za1 32 25 #[.slice a2 n2 c2] (fun _ => by kernel_rfl) (fun _ => by kernel_rfl) (R := fun u w' => u = .agg (B8 ds) /\ Bl u2 w') ((Zhe a2 n2 c2 (encT t) u2 hs2.ag (by omega)).mono (fun e w' h => ⟨_, by rw [h.1, hds], rfl, h.2⟩)) ?_
 rintro _ u3 ⟨rfl, hb3⟩
 replace hB := hB.go hb3
 replace hrd := hrd.go hb3
 refine Zcx g2 (B8 ds) (fun _ => by kernel_rfl) (fun _ => Zbf 24 _ _ _ _ _ _ rfl (by kernel_rfl) (by kernel_rfl) hrd (Zce hdl) (Zcv hdl) (B8_one _)) ?_
 intro uE hpE
 replace hB : Bl w uE := hpE.below hB (by omega) hB.size
 have hrE : Rw g2 uE (B8 ds) 24 := hpE.row hrd
 refine Zad <| Zab <| Za5 ?_
 exact Zaf (.agg (B8 ds)) (fun _ => Zfl Tryz.results16 _ g2 ds hdl (by kernel_rfl) hrE) ⟨_, rfl, rfl, hB⟩
theorem Zxw {K : Nat -> Prop} {w : World} {a : Option Addr} {n c : Nat} {vs : List (Value × Value)} {t : Tr} {l : PList} (hRel : Rel t l) (hl : PAt K w a n c vs l) (hb : n <= 2932031007400) :
  Calls Tryz.prog 16 #[.slice a n c] w fun e w' => ∃ u, e = .returned u /\ u = .agg (B8 (rootP t)) /\ Bl w w' := by
 have ll := hl.ll
 have le : (entsR t).length = n := by rw [<- hRel.ones]; unfold onesP; rw [List.length_map]; exact ll
 rcases hRel.ok with rfl | hO
 ·have hn : n = 0 := le.symm
  subst hn
  exact Zzh
 ·have hne := hO.ne
  have h0 := List.length_pos_iff.2 (Zk8 _ hO)
  rw [show rootP t = dref (encT t) from by unfold rootP; rw [if_neg (fun e => hne (isNo_iff.1 e))]]
  exact Zxv hRel hO hl hb (by omega) (fun j k x h => by have := ((hRel.m k x).1 (List.mem_of_getElem? h)).2.1; omega)
structure Tk (t : Tr) (T : PList) : Prop where
 rel : Rel t T
 lst : Lst (lkP T) T
theorem Tk.nil : Tk no [] := ⟨Rel.nil, rfl⟩
theorem Tk.step {t : Tr} {T : PList} {k x : List Int} (h : Tk t T) (hk : Byk k) (he : addE (lkP T) k x = 0) : Tk (putT t k x) (addL T k x) /\ lkP (addL T k x) = some k /\ (addL T k x).length = T.length + 1 := by
 obtain ⟨h1, h2⟩ := h.lst.step he
 have h3 := h.rel.put (x := x) hk
 have h4 : addL T k x = T ++ [(k, x)] := if_pos he
 rw [h1] at h2 h3
 rw [h4, Zsm]
 exact ⟨⟨h3, by rw [Zsm]; exact h2⟩, rfl, by simp⟩
end Go.Proofs.YtdkpilgelgjieaaGreat
namespace Go.Proofs.YtdkpilgelgjieaaGreat
open Go.RowKit
structure Bt (K : Nat -> Prop) (w : World) (a : Option Addr) (n : Nat) (M : List (List Int)) : Prop where
 len : M.length = n
 row : ∀ j, j < n -> ∃ g off a' n' c', a = some ⟨g, off, none⟩ /\ w.cell? ⟨g, off + j * 1, none⟩ = some (.slice a' n' c') /\ Sk K w a' n' c' (M.getD j [])
theorem Bt.go {K : Nat -> Prop} {w w' : World} {a : Option Addr} {n : Nat} {M : List (List Int)} (h : Bt K w a n M) (hb : Below w.heap.size w w') : Bt K w' a n M := ⟨h.len, fun j hj => by
 obtain ⟨g, off, a', n', c', h1, h2, h3⟩ := h.row j hj
 exact ⟨g, off, a', n', c', h1, (hb.cell (p := ⟨g, off + j * 1, none⟩) (block_lt_of_cell h2)).trans h2, h3.go hb⟩⟩
theorem Bt.drew {K : Nat -> Prop} {w : World} {a : Option Addr} {n : Nat} {M : List (List Int)} (h : Bt K w a n M) : Bt K w.drew a n M := h.go (Below.refl _ _).drew
end Go.Proofs.YtdkpilgelgjieaaGreat
namespace Go.Proofs.YtdkpilgelgjieaaGreat.Wo
def nb (n : Nat) : Nat := if h : n = 0 then 0 else 1 + nb (n / 256)
decreasing_by exact Nat.div_lt_self (Nat.pos_of_ne_zero h) (by decide)
def be (n : Nat) : List Int := if h : n = 0 then [] else be (n / 256) ++ [((n % 256 : Nat) : Int)]
decreasing_by exact Nat.div_lt_self (Nat.pos_of_ne_zero h) (by decide)
theorem Zga : nb 0 = 0 := by rw [nb]; rfl
theorem Zgs {n : Nat} (h : 0 < n) : nb n = 1 + nb (n / 256) := by rw [nb, dif_neg (by omega)]
theorem Zel : be 0 = [] := by rw [be]; rfl
theorem Zem {n : Nat} (h : 0 < n) : be n = be (n / 256) ++ [((n % 256 : Nat) : Int)] := by rw [be, dif_neg (by omega)]
theorem Zup {P : List Int -> Prop} (h0 : P []) (h1 : ∀ r x, P r -> P (r ++ [x])) (l : List Int) : P l := by
 have : ∀ m : List Int, P m.reverse := by
  intro m
  induction m with
  | nil => exact h0
  | cons x r ih => rw [List.reverse_cons]; exact h1 _ _ ih
 have := this l.reverse
 rwa [List.reverse_reverse] at this
def bek : Nat -> Nat -> List Int
 | 0, _ => []
 | k + 1, n => bek k (n / 256) ++ [((n % 256 : Nat) : Int)]
theorem bek_succ (k n : Nat) : bek (k + 1) n = bek k (n / 256) ++ [((n % 256 : Nat) : Int)] := rfl
theorem bek_len : ∀ k n : Nat, (bek k n).length = k
 | 0, _ => rfl
 | k + 1, n => by rw [bek_succ, List.length_append, bek_len k]; rfl
theorem bek_bd : ∀ k n : Nat, ∀ x ∈ bek k n, 0 <= x /\ x < 256
 | 0, _, x, h => by cases h
 | k + 1, n, x, h => by
  rw [bek_succ] at h
  rcases List.mem_append.1 h with h | h
  ·exact bek_bd k _ x h
  ·have : x = ((n % 256 : Nat) : Int) := by simpa using h
   omega
theorem be_bek (n : Nat) : be n = bek (nb n) n := by
 induction n using Nat.strongRecOn with
 | _ n ih =>
  by_cases h : n = 0
  ·subst h; rw [Zel, Zga]; rfl
  ·rw [Zem (by omega), Zgs (by omega), ih _ (Nat.div_lt_self (by omega) (by decide)), Nat.add_comm, bek_succ]
theorem Zkc (n : Nat) : (be n).length = nb n := by rw [be_bek, bek_len]
theorem bek_front : ∀ k n : Nat, bek (k + 1) n = ((n / 256 ^ k % 256 : Nat) : Int) :: bek k n
 | 0, n => by rw [bek_succ]; simp [bek]
 | k + 1, n => by
  rw [bek_succ, bek_front k (n / 256), bek_succ k n, List.cons_append, Nat.div_div_eq_div_mul, Nat.pow_succ, Nat.mul_comm 256]
theorem nb_le_iff (n j : Nat) : nb n <= j ↔ n < 256 ^ j := by
 induction j generalizing n with
 | zero =>
  by_cases h : n = 0
  ·subst h; rw [Zga]; decide
  ·rw [Zgs (by omega)]; simp; omega
 | succ j ih =>
  by_cases h : n = 0
  ·subst h; rw [Zga]; exact ⟨fun _ => Nat.pow_pos (by decide), fun _ => by omega⟩
  ·rw [Zgs (by omega), show 1 + nb (n / 256) <= j + 1 ↔ nb (n / 256) <= j from by omega, ih, Nat.pow_succ]
   exact Nat.div_lt_iff_lt_mul (by decide)
theorem nb8 {n : Nat} (h : n < 18446744073709551616) : nb n <= 8 := (nb_le_iff n 8).2 h
def vl (b : List Int) : Nat := b.foldl (fun a x => a * 256 + x.toNat) 0
def dg (n : Nat) : List Int := if h : n = 0 then [] else dg (n / 10) ++ [((48 + n % 10 : Nat) : Int)]
decreasing_by exact Nat.div_lt_self (Nat.pos_of_ne_zero h) (by decide)
def pr (n : Nat) : List Int := if n = 0 then [48] else dg n
def digits (s : List Int) : Prop := ∀ x ∈ s, 48 <= x /\ x <= 57
def dvl (s : List Int) : Nat := s.foldl (fun a x => a * 10 + (x - 48).toNat) 0
def good (s : List Int) : Prop := s ≠ [] /\ digits s /\ ¬ (1 < s.length /\ s.getD 0 0 = 48)
def ps (s : List Int) : Nat × Bool := if pr (dvl s) = s /\ dvl s < 18446744073709551616 then (dvl s, true) else (0, false)
end Go.Proofs.YtdkpilgelgjieaaGreat.Wo
