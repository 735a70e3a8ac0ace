/- The document's Put, Delete on a list of keys and values. -/
import Derived.Test.YtefhepcplempkaaGreatG33
import Derived.Test.YtefhepcplempkaaGreatG03
import Derived.Test.YtefhepcplempkaaGreatG01
import Derived.Test.YtefhepcplempkaaGreatG32
set_option linter.unusedVariables false
set_option maxRecDepth 100000
namespace Go.Proofs.YtefhepcplempkaaGreat
open Go.RowKit
open Tr
theorem Zqz {w w' : World} {g base : Nat} (h : New w w' g #[] 5) (hb : base <= w.heap.size) : OwnB w' base (.slice (some ⟨g, 0, none⟩) 0 0) [] := ⟨rfl, .inr ⟨g, 0, #[], rfl, by rw [h.hg]; exact hb, h.row, Nat.le_refl _, by unfold maxLen; omega, rfl, rfl⟩⟩
end Go.Proofs.YtefhepcplempkaaGreat
namespace Go.Proofs.YtefhepcplempkaaGreat
open Go.RowKit
open Tr
open Di (dref)
def StR (w : World) (n : Nat) : Value -> World -> Prop := fun u w' => (∃ g a m c vs t l, u = .tuple #[.pointer (some ⟨g, 0, none⟩), .slice a m c] /\ w.heap.size <= g /\ Tri (fun _ => True) w' g t /\ PAt (fun _ => True) w' a m c vs l /\ Rel t l /\ l.length <= n /\ Tr.sz t <= 3 * n) /\ Bl w w'
def Ge (K : Nat -> Prop) (w : World) (u : Value) (b : List Int) : Prop := ∃ a n c, u = .slice a n c /\ Sk K w a n c b
def OwnS (w : World) (base : Nat) (v : Value) (M : List (List Int)) : Prop := ∃ us : List Value, us.length = M.length /\ w.ownsRow base 23 1 v M.length us /\ ∀ (j : Nat) (u : Value) (b : List Int), us[j]? = some u -> M[j]? = some b -> Ge (fun g => v.ownBlock ≠ some g) w u b
theorem OwnS.none (w : World) (base : Nat) : OwnS w base (.slice none 0 0) [] := ⟨[], rfl, World.ownsRow_nil w base _ 1, fun j u b q => by simp at q⟩
theorem OwnS.own {w : World} {base : Nat} {v : Value} {M : List (List Int)} (h : OwnS w base v M) : ∀ k, v.ownBlock = some k -> base <= k /\ k < w.heap.size := by
 obtain ⟨us, h1, ⟨h2, h3⟩, h4⟩ := h
 intro k hk
 rcases h3 with ⟨rfl, _⟩ | ⟨g, cap, cur, rfl, hbg, hg, _⟩
 ·simp [Value.ownBlock] at hk
 ·simp only [Value.ownBlock, Option.some.injEq] at hk
  subst hk
  exact ⟨hbg, lt_of_get hg⟩
theorem OwnS.far {w w' : World} {base : Nat} {v : Value} {M : List (List Int)} (h : OwnS w base v M) (hb : Below w.heap.size w w') : OwnS w' base v M := by
 obtain ⟨us, h1, ⟨h2, h3⟩, h4⟩ := h
 refine ⟨us, h1, ⟨h2, ?_⟩, fun j u b q1 q2 => ?_⟩
 ·rcases h3 with q | ⟨g, cap, cur, e1, e2, e3, e4⟩
  ·exact .inl q
  ·exact .inr ⟨g, cap, cur, e1, e2, (hb.block g (lt_of_get e3)).trans e3, e4⟩
 ·obtain ⟨a, n, c, e1, e2⟩ := h4 j u b q1 q2
  exact ⟨a, n, c, e1, e2.go hb⟩
theorem OwnS.bt {w : World} {base : Nat} {v : Value} {M : List (List Int)} (h : OwnS w base v M) : ∃ a c, v = .slice a M.length c /\ Bt (fun _ => True) w a M.length M /\ M.length <= c := by
 obtain ⟨us, h1, ⟨h2, h3⟩, h4⟩ := h
 rcases h3 with ⟨rfl, h5⟩ | ⟨g, cap, cur, rfl, hbg, hg, hc1, hc2, hc3, hc4⟩
 ·exact ⟨Option.none, 0, by rw [h5], ⟨rfl, fun j hj => by omega⟩, by omega⟩
 ·refine ⟨_, cap, rfl, ⟨rfl, fun j hj => ?_⟩, hc1⟩
  obtain ⟨u, hu⟩ : ∃ u, us[j]? = some u := ⟨_, List.getElem?_eq_getElem (by omega)⟩
  obtain ⟨a, n, c, e1, e2⟩ := h4 j u M[j] hu (List.getElem?_eq_getElem hj)
  refine ⟨g, 0, a, n, c, rfl, ?_, ?_⟩
  ·rw [cell_of_row _ _ _ _ _ _ hg, Nat.zero_add, Nat.mul_one, <- e1]
   rw [<- hc4, List.getElem?_take_of_lt (by omega)] at hu
   rw [<- Array.getElem?_toList]
   exact hu
  ·rw [show M.getD j [] = M[j] from by simp [List.getD, hj]]
   exact e2.mono (fun _ _ => trivial)
theorem Bt.vals {K : Nat -> Prop} {w : World} {ad : Addr} {m : Nat} {M : List (List Int)} (h : Bt K w (some ad) m M) : ∃ us : List Value, us.length = m /\ ∀ j u, us[j]? = some u -> w.cell? (ad.add j) = some u /\ ∃ b, M[j]? = some b /\ Ge K w u b := by
 refine ⟨(List.range m).map (fun j => (w.cell? (ad.add j)).getD (.slice none 0 0)), by simp, fun j u hj => ?_⟩
 simp only [List.getElem?_map] at hj
 have hjm : j < m := by
  rcases Nat.lt_or_ge j m with q | q
  ·exact q
  ·rw [List.getElem?_eq_none (by simpa using q)] at hj; simp at hj
 rw [List.getElem?_range hjm] at hj
 simp only [Option.map_some, Option.some.injEq] at hj
 obtain ⟨g, off, a', n', c', h1, h2, h3⟩ := h.row j hjm
 cases h1
 rw [Zaz] at hj ⊢
 rw [Nat.mul_one] at h2
 rw [h2] at hj ⊢
 simp only [Option.getD_some] at hj
 have hl := h.len
 refine ⟨by rw [hj], M[j], List.getElem?_eq_getElem (by omega), a', n', c', hj.symm, ?_⟩
 rw [show M.getD j [] = M[j]'(by omega) from by simp [List.getD, show j < M.length by omega]] at h3
 exact h3
theorem appT {w : World} {base : Nat} {v : Value} {M : List (List Int)} (hown : OwnS w base v M) {K : Nat -> Prop} {ad : Addr} {m c : Nat} {M' : List (List Int)} (h : Bt K w (some ad) m M') (hK : ∀ b, K b -> v.ownBlock ≠ some b) (hlen : M.length + m <= 5864062014800) (hbase : base <= w.heap.size) :
  ∃ v' w', (∀ ty, (Builtin.append_ #[28, 28] ty #[v, .slice (some ad) m c]).run Tryz.prog w = .ok v' w') /\ OwnS w' base v' (M ++ M') /\ Below base w w' := by
 obtain ⟨i, hi, hz, hsz, hby⟩ := infoB
 have hOw := hown.own
 obtain ⟨us, h1, h2, h4⟩ := id hown
 obtain ⟨us', e1, e2⟩ := h.vals
 have hl := h.len
 obtain ⟨v', w', r1, r2, r3, _, r5⟩ := run_append_own_at (P := Tryz.prog) w base 28 0 23 i _ 1 24 Tryz.underlying28 hi hz hsz hby rfl (by decide) v M.length us h2 ad m c us' (by omega) (fun j u hj => (e2 j u hj).1) (fun u hu => by
  obtain ⟨j, hj, e⟩ := List.getElem_of_mem hu
  obtain ⟨_, b, _, a', n', c', rfl, _⟩ := e2 j u (by rw [List.getElem?_eq_getElem hj, e])
  rfl) (by unfold maxLen; omega) (by omega) hbase
 have hkeep : ∀ {K' : Nat -> Prop} {u : Value} {b : List Int}, (∀ b, K' b -> v.ownBlock ≠ some b) -> Ge K' w u b -> Ge (fun g => v'.ownBlock ≠ some g) w' u b := by
  rintro K' u b hK' ⟨a, n, c, q1, hs⟩
  refine ⟨a, n, c, q1, ⟨⟨?_, hs.ag.nil, hs.ag.l, hs.ag.b⟩, fun x hx hn => ?_⟩⟩
  ·rcases hs.ag.i with q | ⟨gb, off, q1, q2, q3, q4, q5, q7⟩
   ·exact .inl q
   ·refine .inr ⟨gb, off, q1, q2, q3, q4, q5, fun j hj => ?_⟩
    rw [<- q7 j hj]
    exact World.cell?_of_block (r3.block gb (block_lt_of_cell (q7 j hj)) (fun e => hK' _ (hs.k _ q1 q3) e.symm))
  ·rcases r5 with q | q
   ·rw [q]; exact hK' _ (hs.k x hx hn)
   ·rw [q]; intro e; have := hs.old hx hn; simp at e; omega
 refine ⟨v', w', fun ty => r1, ⟨us ++ us', by simp [h1, e1, hl], ?_, fun j u b q1 q2 => ?_⟩, (Below.refl _ _).grown r3 hbase (fun k hk => (hOw k hk).1)⟩
 ·rw [List.length_append, hl]; exact r2
 ·by_cases hj : j < us.length
  ·rw [List.getElem?_append_left hj] at q1
   rw [List.getElem?_append_left (by omega)] at q2
   exact hkeep (fun b hb => hb) (h4 j u b q1 q2)
  ·rw [List.getElem?_append_right (by omega)] at q1
   rw [List.getElem?_append_right (by omega), <- h1] at q2
   obtain ⟨_, b', e3, e4⟩ := e2 _ u q1
   rw [q2] at e3
   cases e3
   exact hkeep hK e4
theorem Bt.one {K : Nat -> Prop} {w w' : World} {g : Nat} {T : TypeId} {a : Option Addr} {n c : Nat} {b : List Int} (h : New w w' g #[.slice a n c] T) (hs : Sk K w a n c b) : Bt K w' (some ⟨g, 0, none⟩) 1 [b] := ⟨rfl, fun j hj => ⟨g, 0, a, n, c, rfl, by
 rw [show j = 0 by omega, cell_of_row _ _ _ _ _ _ (show Rw g w' #[.slice a n c] T from h.row)]; rfl, by rw [show j = 0 by omega]; exact hs.go h.below⟩⟩
theorem Zon {M : List (List Int)} {j : Nat} (h : j < M.length) : M.take (j + 1) = M.take j ++ [M.getD j []] := by
 rw [List.take_add_one, List.getD, List.getElem?_eq_getElem h]; rfl
def Cla (M : List (List Int)) (i k : Nat) : Prop := M.getD i [] ≠ M.getD k [] /\ dref (M.getD i []) = dref (M.getD k [])
set_option maxHeartbeats 4000000 in
theorem Zwz {K : Nat -> Prop} {w : World} {a : Option Addr} {n c : Nat} {M : List (List Int)} (hL : Bt K w a n M) (hM : ∀ b ∈ M, b.length <= 140737488351232) (hn : n <= 5864062014700) :
  Calls Tryz.prog 16 #[.slice a n c] w fun e w' => ∃ u, e = .returned u /\ (fun u w' => OwnS w' w.heap.size u M /\ Bl w w') u w' := by
 have hB := Bl.refl w
 have hl0 := hL.len
 have hL0 := hL
 refine Zat Tryz.func16 rfl 21 rfl ?_
 show CW _ _ _ _ _ _ _ [(0, .slice a n c)] _
 refine Zac <| Zaa <| rp 2 (.slice none 0 0) <| Zad <| Zab <| Zac <| Zaa <| rp 3 (.slice none 0 0) <| Zad <| Zab <| Zac <| Zac ?_
 refine Zaa <| rp 5 (.slice a n c) <| rp 6 (.int .i64 n) <| rp 7 (.int .i64 0) <| Zad <| Zab <| Zbc <| Ze6 (X := Nat × Value) (fun q => [(7, .int .i64 ((q.1 : Nat) : Int)), (0, .slice a n c), (6, .int .i64 n), (3, q.2)]) (fun q v => Bl w v /\ OwnS v w.heap.size q.2 (M.take q.1) /\ q.1 <= n) (fun q => n - q.1) (0, .slice none 0 0) (by exact ⟨fun _ => by kernel_rfl, ⟨fun _ => by kernel_rfl, ⟨fun _ => by kernel_rfl, ⟨fun _ => by kernel_rfl, trivial⟩⟩⟩⟩) ⟨hB, by rw [List.take_zero]; exact OwnS.none _ _, Nat.zero_le _⟩ ?_
 clear hB
 rintro ⟨j, vO⟩ v ⟨hB, hO, hj⟩
 simp only at hB hO hj
 show CW _ _ _ _ _ _ _ [(7, .int .i64 ((j : Nat) : Int)), (0, .slice a n c), (6, .int .i64 n), (3, vO)] _
 by_cases hlt : j < n
 ·skip
  obtain ⟨g1, o1, a1, n1, c1, e1, hc1, hs1⟩ := hL0.row j hlt
  subst e1
  have ls1 := hs1.len
  have hb1 : (M.getD j []).length <= 140737488351232 := hM _ (by rw [List.getD, List.getElem?_eq_getElem (by omega)]; exact List.getElem_mem _)
  have htl : (M.take j).length = j := by rw [List.length_take]; omega
  refine Zac <| Zaa <| rv 8 (.bool true) (fun _ => Zaq (v := .bool (decide (((j : Nat) : Int) < (n : Int)))) (by kernel_rfl) (congrArg Value.bool (decide_eq_true (by omega)))) <| Zad <| Zab <| Zac <| Zam (fun _ => by kernel_rfl) <| Zar <| Zab <| Zac <| Zbc <| Zac ?_
  refine Zaa <| rp 9 (.int .i64 ((j : Nat) : Int)) <| rp 4 (.int .i64 ((j : Nat) : Int)) <| Zad <| Zab ?_
  have hB0 := hB
  have hO0 := hO
  refine Zaa <| rp 10 (vO) <| Zdr 11 #[] 5 0 (fun _ => by kernel_rfl) (fun _ => by kernel_rfl) ?_
  intro w5 g5 hn5
  have hq := Zqz hn5 (Nat.le_refl v.heap.size)
  have hOv := fun k hk => (hO.own k hk).2
  replace hB := hB.go hn5.below
  replace hO := hO.far hn5.below
  have hz5 := hn5.below.size
  refine rp 12 (.slice (some ⟨g1, o1, none⟩) n c) <| rp 13 (.int .i64 ((j : Nat) : Int)) <| rv 14 (.pointer (some ⟨g1, o1 + j * 1, none⟩)) (fun _ => Zbt 28 _ _ g1 o1 j n c 1 23 rfl (by kernel_rfl) (by kernel_rfl) hlt Tryz.underlying28 (by kernel_rfl)) <| rv 15 (.slice a1 n1 c1) (fun _ => Zai 23 _ _ _ _ rfl (by kernel_rfl) ((Below.cell hB (block_lt_of_cell hc1)).trans hc1) Tryz.underlying23 rfl) ?_
  obtain ⟨V6, w6, hr6, ho6, hb6⟩ := Zkp hq (hs1.go hB).ag (by simp; omega) hz5
  refine rw_v 16 V6 (fun _ => by kernel_rfl) (fun _ => Znn hr6 _ _ rfl (by kernel_rfl) (by kernel_rfl)) ?_
  have hb6w : Bl v w6 := Below.trans hn5.below hb6
  replace hB : Bl w w6 := hB0.go hb6w
  replace hO := hO0.far hb6w
  rw [List.nil_append] at ho6
  obtain ⟨a6, c6, eV, hs6⟩ := ho6.sk (K := fun b => vO.ownBlock ≠ some b) (hs1.ag.b) (fun b hb e => by have := hOv b e; omega)
  subst eV
  refine Zdr 17 #[.slice a6 (M.getD j []).length c6] 23 1 (fun _ => by kernel_rfl) (fun _ => by kernel_rfl) ?_
  intro w7 g7 hn7
  have hB1 := Bt.one hn7 hs6
  replace hB := hB.go hn7.below
  replace hO := hO.far hn7.below
  obtain ⟨vP, w8, hr8, hO3, hb8⟩ := appT (c := 1) hO hB1 (fun b hb => hb) (by rw [htl]; omega) hB.size
  refine rw_v 18 vP (fun _ => by kernel_rfl) (fun _ => Zf3 hr8 _ _ rfl (by kernel_rfl) (by kernel_rfl)) ?_
  replace hB : Bl w w8 := Below.trans hB hb8
  refine rp 3 (vP) <| Zad <| Zbf <| Zab <| Zaa <| rv 19 (.int .i64 (((j : Nat) : Int) + 1)) (fun _ => Zaq (v := .int .i64 (IntKind.i64.wrap (((j : Nat) : Int) + 1))) (by kernel_rfl) (congrArg (Value.int .i64) (Ziv (by omega) (by omega)))) <| rp 7 (.int .i64 (((j : Nat) : Int) + 1)) <| Zad ?_
  exact Zdv (E := fun q => [(7, .int .i64 ((q.1 : Nat) : Int)), (0, .slice (some ⟨g1, o1, none⟩) n c), (6, .int .i64 n), (3, q.2)]) (R := fun q v => Bl w v /\ OwnS v w.heap.size q.2 (M.take q.1) /\ q.1 <= n) (μ := fun q => n - q.1) (x := (j, vO)) (j + 1, vP) (by exact ⟨fun _ => by kernel_rfl, ⟨fun _ => by kernel_rfl, ⟨fun _ => by kernel_rfl, ⟨fun _ => by kernel_rfl, trivial⟩⟩⟩⟩) ⟨hB, by show OwnS _ _ vP (M.take (j + 1)); rw [Zon (by omega)]; exact hO3, by simp only; omega⟩ (by show n - (j + 1) < n - j; omega)
 obtain rfl : j = n := by omega
 show CW _ _ _ _ _ _ _ [(7, .int .i64 ((j : Nat) : Int)), (0, .slice a j c), (6, .int .i64 ((j : Nat) : Int)), (3, vO)] _
 refine Zac <| Zaa <| rv 8 (.bool false) (fun _ => Zaq (v := .bool (decide (((j : Nat) : Int) < ((j : Nat) : Int)))) (by kernel_rfl) (congrArg Value.bool (decide_eq_false (by omega)))) <| Zad <| Zab <| Zac <| Zag (fun _ => by kernel_rfl) <| Ze7 <| Za1 <| Za1 <| Zbw <| Zab ?_
 refine Zac <| Zaa <| rp 20 (vO) <| rp 2 (vO) <| Zad <| Zab <| Zao ?_
 exact Zae vO (fun _ => by kernel_rfl) ⟨_, rfl, ⟨by rw [<- List.take_length (l := M), hl0]; exact hO, hB⟩⟩
set_option maxHeartbeats 4000000 in
theorem Zvm {K : Nat -> Prop} {w : World} {g : Nat} {v : Value} {t : Tr} {a : Option Addr} {n c : Nat} {k : List Int} (hr : Rw g w #[v] 76) (ht : TA K w t v) (hno : t = no) {K1 : Nat -> Prop} (hk : Sk K1 w a n c k) (hn : n <= 32) {K0 : Nat -> Prop} {ax : Option Addr} {nx cx : Nat} {x : List Int} (hx : Sk K0 w ax nx cx x) (hx2 : nx <= 256) (h0 : 0 < nx) (hOk : Tr.Ok 64 (put t (Ni.nib k) x)) (hK : ∀ b, w.heap.size <= b -> K b) :
  Calls Tryz.prog 24 #[.pointer (some ⟨g, 0, none⟩), .slice a n c, .slice ax nx cx] w fun e w' => ∃ u, e = .returned u /\ (fun u w' => u = .int .i64 0 /\ Tri K w' g (put t (Ni.nib k) x) /\ Touch g w w') u w' := by
 have hB := Bl.refl w
 have hnb : Nb (Ni.nib k) := Zlk hk.ag.b
 have hkl : (Ni.nib k).length = 2 * n := by rw [Ni.nib_len, hk.len]
 have hg0 : g < w.heap.size := lt_of_get hr
 have hPF : t = no \/ ∃ B, Tr.Ok B t /\ B <= 64 /\ (Ni.nib k).length <= B /\ WS t := by
  exact .inl hno
 refine Zat Tryz.func24 rfl 27 rfl ?_
 show CW _ _ _ _ _ _ _ [(0, .pointer (some ⟨g, 0, none⟩)), (1, .slice a n c), (2, .slice ax nx cx)] _
 refine Zac <| Zaa <| rp 6 (.int .i64 0) <| Zad <| Zab <| Zac <| Zbc <| Zac <| Zaa <| rp 8 (.slice a n c) <| Zav 9 49 #[.slice a n c] (fun _ => by kernel_rfl) (fun _ => by kernel_rfl) (R := fun u w' => u = .bool true /\ Bl (w) w') ((Zwl hn)) ?_
 rintro _ u1 ⟨rfl, hb2⟩
 replace hB := hB.go hb2
 replace hk := hk.go hb2
 replace hx := hx.go hb2
 replace ht := ht.go hb2
 replace hr := hr.go hb2
 refine rp 10 (.bool false) <| rp 7 (.bool false) <| Zad <| Zab <| Zag (fun _ => by kernel_rfl) <| Zac <| Zaa <| rp 12 (.slice ax nx cx) <| Zav 13 50 #[.slice ax nx cx] (fun _ => by kernel_rfl) (fun _ => by kernel_rfl) (R := fun u w' => u = .bool true /\ Bl (u1) w') ((Zrn h0 hx2)) ?_
 rintro _ u3 ⟨rfl, hb4⟩
 replace hB := hB.go hb4
 replace hk := hk.go hb4
 replace hx := hx.go hb4
 replace ht := ht.go hb4
 replace hr := hr.go hb4
 refine rp 14 (.bool false) <| rp 11 (.bool false) <| Zad <| Zab <| Zag (fun _ => by kernel_rfl) <| Zar <| Zbf <| Zab <| Zac <| Za7 (fun _ => True) (by kernel_rfl) (trivial) ?_
 replace hB := hB.drew
 replace hk := hk.drew
 replace hx := hx.drew
 replace ht := ht.drew
 replace hr := hr.drew
 refine dt 0 15 (.pointer (some ⟨g, 0, none⟩)) (fun v hv _ => by kernel_rfl) trivial <| dt 1 16 (.pointer (some ⟨g, 0, none⟩)) (fun v hv _ => by kernel_rfl) trivial <| dt 2 17 (.pointer (some ⟨g, 0, none⟩)) (fun v hv => (fun _ => by kernel_rfl)) trivial <| dt 3 18 (.pointer (some ⟨g, 0, none⟩)) (fun v hv _ => by kernel_rfl) trivial <| dt 5 20 (.slice a n c) (fun v hv _ => by kernel_rfl) trivial <| dt 7 22 (.slice ax nx cx) (fun v hv _ => by kernel_rfl) trivial <| Zak [4, 6] (by kernel_rfl) (by simp) ?_
 refine ar_v 4 19 v rfl (fun _ => by kernel_rfl) (fun _ => Zai 74 _ ⟨g, 0, none⟩ _ _ rfl (by kernel_rfl) (by rw [cell_of_row _ _ _ _ _ _ hr]; rfl) Tryz.underlying74 rfl) trivial ?_ ?_
 ·skip
  refine Zak [6] (by kernel_rfl) (by simp) ?_
  refine Za4 6 21 28 #[.slice a n c] rfl (fun _ => by kernel_rfl) (fun _ => by kernel_rfl) (R := fun u w' => (∃ a', u = .slice a' (2 * n) (2 * n) /\ Ni.Cut w' (u3.drew).heap.size a' (2 * n) (Ni.nib k)) /\ Bl (u3.drew) w') (((Ni.of_any _ _ _ k _ hk.ag (by omega)).mono (fun e w' h => by obtain ⟨⟨a', e1, h1⟩, h2⟩ := h; exact ⟨_, e1, ⟨a', rfl, h1⟩, h2⟩))) (fun u w' h => trivial) ?_ Zaw
  rintro _ u5 ⟨⟨aq, rfl, hcut⟩, hb6⟩
  have hsq := hB.size
  have hq : Sk K u5 aq (2 * n) (2 * n) (Ni.nib k) := Zvi hcut (fun b hb => hK b (Nat.le_trans hsq hb))
  replace hB := hB.go hb6
  replace hk := hk.go hb6
  replace hx := hx.go hb6
  replace ht := ht.go hb6
  replace hr := hr.go hb6
  refine Zak [8] (by kernel_rfl) (by simp) ?_
  refine Za4 8 23 52 #[.slice ax nx cx] rfl (fun _ => by kernel_rfl) (fun _ => by kernel_rfl) (R := fun u w' => ∃ a2 n2 c2, u = .slice a2 n2 c2 /\ Sk (fun b => (u5).heap.size <= b) w' a2 n2 c2 x /\ Bl (u5) w') ((Zed hx (by omega))) (fun u w' h => trivial) ?_ Zaw
  rintro _ u7 ⟨a4, n4, c4, rfl, hs4, hb8⟩
  have hsz4 := hB.size
  replace hs4 : Sk K u7 a4 n4 c4 x := hs4.mono (fun b hb => hK b (Nat.le_trans hsz4 hb))
  replace hB := hB.go hb8
  replace hk := hk.go hb8
  replace hx := hx.go hb8
  replace ht := ht.go hb8
  replace hr := hr.go hb8
  replace hq := hq.go hb8
  refine Zak [9] (by kernel_rfl) (by simp) ?_
  refine Za4 9 24 51 #[v, .slice aq (2 * n) (2 * n), .slice a4 n4 c4] rfl (fun _ => by kernel_rfl) (fun _ => by kernel_rfl) (R := TRs K (u7) (put t (Ni.nib k) x)) ((Zew hPF ht hq hnb hs4 (by have e1 := hs4.len; have e2 := hx.len; omega) (fun b hb => hK b (Nat.le_trans hB.size hb)))) (fun u w' h => trivial) ?_ Zaw
  rintro vR u9 ⟨htR, hb10⟩
  replace hB := hB.go hb10
  replace hk := hk.go hb10
  replace hx := hx.go hb10
  replace ht := ht.go hb10
  replace hr := hr.go hb10
  replace hq := hq.go hb10
  replace hs4 := hs4.go hb10
  refine dt 10 25 (.pointer (some ⟨g, 0, none⟩)) (fun v hv => (fun _ => by kernel_rfl)) trivial <| dt 11 26 (.pointer (some ⟨g, 0, none⟩)) (fun v hv _ => by kernel_rfl) trivial <| Zak [12] (by kernel_rfl) (by simp) ?_
  refine Zgc 12 g 0 vR rfl (fun _ => by kernel_rfl) (fun _ => Zf2 74 _ _ g 0 _ 76 _ hr rfl (by kernel_rfl) (by kernel_rfl) (by show 0 < 1; omega) htR.cells htR.one (by kernel_rfl)) (fun w' h => trivial) ?_ Zaw
  intro w11 hp12
  have hbs := Bs.of hr (Zhy ht) hp12
  have htch := (Touch.of_below (g := g) hB).trans hp12.touch
  have hTR : Tri K w11 g (put t (Ni.nib k) x) := ⟨⟨vR, hr.set hp12 rfl, htR.bs hbs⟩, .inr hOk⟩
  refine Zax (by kernel_rfl) <| Zab <| Zac <| Zaa <| rp 6 (.int .i64 0) <| Zad <| Zab <| Zao ?_
  exact Zae (.int .i64 0) (fun _ => by kernel_rfl) ⟨_, rfl, rfl, hTR, htch⟩
 refine Za4 6 21 28 #[.slice a n c] rfl (fun _ => by kernel_rfl) (fun _ => by kernel_rfl) (R := fun u w' => (∃ a', u = .slice a' (2 * n) (2 * n) /\ Ni.Cut w' (u3.drew).heap.size a' (2 * n) (Ni.nib k)) /\ Bl (u3.drew) w') (((Ni.of_any _ _ _ k _ hk.ag (by omega)).mono (fun e w' h => by obtain ⟨⟨a', e1, h1⟩, h2⟩ := h; exact ⟨_, e1, ⟨a', rfl, h1⟩, h2⟩))) (fun u w' h => trivial) ?_ Zaw
 rintro _ u13 ⟨⟨aq, rfl, hcut⟩, hb14⟩
 have hsq := hB.size
 have hq : Sk K u13 aq (2 * n) (2 * n) (Ni.nib k) := Zvi hcut (fun b hb => hK b (Nat.le_trans hsq hb))
 replace hB := hB.go hb14
 replace hk := hk.go hb14
 replace hx := hx.go hb14
 replace ht := ht.go hb14
 replace hr := hr.go hb14
 refine Zak [4, 8] (by kernel_rfl) (by simp) ?_
 refine ar_v 4 19 v rfl (fun _ => by kernel_rfl) (fun _ => Zai 74 _ ⟨g, 0, none⟩ _ _ rfl (by kernel_rfl) (by rw [cell_of_row _ _ _ _ _ _ hr]; rfl) Tryz.underlying74 rfl) trivial ?_ ?_
 ·skip
  refine Zak [8] (by kernel_rfl) (by simp) ?_
  refine Za4 8 23 52 #[.slice ax nx cx] rfl (fun _ => by kernel_rfl) (fun _ => by kernel_rfl) (R := fun u w' => ∃ a2 n2 c2, u = .slice a2 n2 c2 /\ Sk (fun b => (u13).heap.size <= b) w' a2 n2 c2 x /\ Bl (u13) w') ((Zed hx (by omega))) (fun u w' h => trivial) ?_ Zaw
  rintro _ u15 ⟨a4, n4, c4, rfl, hs4, hb16⟩
  have hsz4 := hB.size
  replace hs4 : Sk K u15 a4 n4 c4 x := hs4.mono (fun b hb => hK b (Nat.le_trans hsz4 hb))
  replace hB := hB.go hb16
  replace hk := hk.go hb16
  replace hx := hx.go hb16
  replace ht := ht.go hb16
  replace hr := hr.go hb16
  replace hq := hq.go hb16
  refine Zak [9] (by kernel_rfl) (by simp) ?_
  refine Za4 9 24 51 #[v, .slice aq (2 * n) (2 * n), .slice a4 n4 c4] rfl (fun _ => by kernel_rfl) (fun _ => by kernel_rfl) (R := TRs K (u15) (put t (Ni.nib k) x)) ((Zew hPF ht hq hnb hs4 (by have e1 := hs4.len; have e2 := hx.len; omega) (fun b hb => hK b (Nat.le_trans hB.size hb)))) (fun u w' h => trivial) ?_ Zaw
  rintro vR u17 ⟨htR, hb18⟩
  replace hB := hB.go hb18
  replace hk := hk.go hb18
  replace hx := hx.go hb18
  replace ht := ht.go hb18
  replace hr := hr.go hb18
  replace hq := hq.go hb18
  replace hs4 := hs4.go hb18
  refine dt 10 25 (.pointer (some ⟨g, 0, none⟩)) (fun v hv => (fun _ => by kernel_rfl)) trivial <| dt 11 26 (.pointer (some ⟨g, 0, none⟩)) (fun v hv _ => by kernel_rfl) trivial <| Zak [12] (by kernel_rfl) (by simp) ?_
  refine Zgc 12 g 0 vR rfl (fun _ => by kernel_rfl) (fun _ => Zf2 74 _ _ g 0 _ 76 _ hr rfl (by kernel_rfl) (by kernel_rfl) (by show 0 < 1; omega) htR.cells htR.one (by kernel_rfl)) (fun w' h => trivial) ?_ Zaw
  intro w19 hp20
  have hbs := Bs.of hr (Zhy ht) hp20
  have htch := (Touch.of_below (g := g) hB).trans hp20.touch
  have hTR : Tri K w19 g (put t (Ni.nib k) x) := ⟨⟨vR, hr.set hp20 rfl, htR.bs hbs⟩, .inr hOk⟩
  refine Zax (by kernel_rfl) <| Zab <| Zac <| Zaa <| rp 6 (.int .i64 0) <| Zad <| Zab <| Zao ?_
  exact Zae (.int .i64 0) (fun _ => by kernel_rfl) ⟨_, rfl, rfl, hTR, htch⟩
 refine Za4 8 23 52 #[.slice ax nx cx] rfl (fun _ => by kernel_rfl) (fun _ => by kernel_rfl) (R := fun u w' => ∃ a2 n2 c2, u = .slice a2 n2 c2 /\ Sk (fun b => (u13).heap.size <= b) w' a2 n2 c2 x /\ Bl (u13) w') ((Zed hx (by omega))) (fun u w' h => trivial) ?_ Zaw
 rintro _ u21 ⟨a4, n4, c4, rfl, hs4, hb22⟩
 have hsz4 := hB.size
 replace hs4 : Sk K u21 a4 n4 c4 x := hs4.mono (fun b hb => hK b (Nat.le_trans hsz4 hb))
 replace hB := hB.go hb22
 replace hk := hk.go hb22
 replace hx := hx.go hb22
 replace ht := ht.go hb22
 replace hr := hr.go hb22
 replace hq := hq.go hb22
 refine Zak [4] (by kernel_rfl) (by simp) ?_
 refine ar_v 4 19 v rfl (fun _ => by kernel_rfl) (fun _ => Zai 74 _ ⟨g, 0, none⟩ _ _ rfl (by kernel_rfl) (by rw [cell_of_row _ _ _ _ _ _ hr]; rfl) Tryz.underlying74 rfl) trivial ?_ Zaw
 refine Zak [9] (by kernel_rfl) (by simp) ?_
 refine Za4 9 24 51 #[v, .slice aq (2 * n) (2 * n), .slice a4 n4 c4] rfl (fun _ => by kernel_rfl) (fun _ => by kernel_rfl) (R := TRs K (u21) (put t (Ni.nib k) x)) ((Zew hPF ht hq hnb hs4 (by have e1 := hs4.len; have e2 := hx.len; omega) (fun b hb => hK b (Nat.le_trans hB.size hb)))) (fun u w' h => trivial) ?_ Zaw
 rintro vR u23 ⟨htR, hb24⟩
 replace hB := hB.go hb24
 replace hk := hk.go hb24
 replace hx := hx.go hb24
 replace ht := ht.go hb24
 replace hr := hr.go hb24
 replace hq := hq.go hb24
 replace hs4 := hs4.go hb24
 refine dt 10 25 (.pointer (some ⟨g, 0, none⟩)) (fun v hv => (fun _ => by kernel_rfl)) trivial <| dt 11 26 (.pointer (some ⟨g, 0, none⟩)) (fun v hv _ => by kernel_rfl) trivial <| Zak [12] (by kernel_rfl) (by simp) ?_
 refine Zgc 12 g 0 vR rfl (fun _ => by kernel_rfl) (fun _ => Zf2 74 _ _ g 0 _ 76 _ hr rfl (by kernel_rfl) (by kernel_rfl) (by show 0 < 1; omega) htR.cells htR.one (by kernel_rfl)) (fun w' h => trivial) ?_ Zaw
 intro w25 hp26
 have hbs := Bs.of hr (Zhy ht) hp26
 have htch := (Touch.of_below (g := g) hB).trans hp26.touch
 have hTR : Tri K w25 g (put t (Ni.nib k) x) := ⟨⟨vR, hr.set hp26 rfl, htR.bs hbs⟩, .inr hOk⟩
 refine Zax (by kernel_rfl) <| Zab <| Zac <| Zaa <| rp 6 (.int .i64 0) <| Zad <| Zab <| Zao ?_
 exact Zae (.int .i64 0) (fun _ => by kernel_rfl) ⟨_, rfl, rfl, hTR, htch⟩
theorem Ztn {p x : List Int} (hp : p.length <= 1000) : NDS (leaf p x) := by
 intro v gW base vM Y Z ns val ht hW hY hM
 obtain ⟨a1, n1, c1, a2, n2, c2, rfl, h1, h2, h3⟩ := ht
 exact ⟨_, _, _, rfl, Zrl _, Zrh hW h1 h2 (by have := h1.len; omega) h3⟩
theorem Zwr {l B0 : Nat} {Z : PList} {U : Nat -> Prop} {J : PList -> World -> Prop} {Jx : World -> Prop} (V : Vis l B0 Z U J Jx) (p x : List Int) : EC l B0 Z U J Jx (leaf p x) := by
 intro K K' w v a n c B gY q pre hO h64 ht hKU hq hKU' hY hUY hJ hN hB0
 obtain ⟨a1, n1, c1, a2, n2, c2, rfl, h1, h2, h3⟩ := ht
 exact ⟨_, _, _, rfl, Zrm _, Zri V h1 h2 h3 hq hY hJ hN hB0 (by have := h1.len; have := hO.2.1; omega)⟩
set_option maxHeartbeats 4000000 in
theorem Zvz {K : Nat -> Prop} {w : World} {g : Nat} {t : Tr} {T0 : TypeId} {v0 : Value} (hr : Rw g w #[.iface T0 v0] 76) (ht : TA K w t (.iface T0 v0)) (hND : NDS t) (hne : t ≠ no) (hM : (nmd t).length + 1 <= 8800000000000) :
  Calls Tryz.prog 14 #[.pointer (some ⟨g, 0, none⟩)] w fun e w' => ∃ u, e = .returned u /\ (fun u w' => u = .agg (B8 (dref (encT t))) /\ Bl w w') u w' := by
 have hB := Bl.refl w
 have hdl := dref_len (encT t)
 obtain ⟨ds, hds⟩ : ∃ ds, dref (encT t) = ds := ⟨_, rfl⟩
 rw [hds] at hdl ⊢
 replace ht := ht.old
 refine Zat Tryz.func14 rfl 16 rfl ?_
 show CW _ _ _ _ _ _ _ [(0, .pointer (some ⟨g, 0, none⟩))] _
 refine Zac <| Zaa <| Zbk 2 (B8 z32) 35 (fun _ => by kernel_rfl) (fun _ => by kernel_rfl) ?_
 intro w1 g2 hn3
 replace hB := hB.go hn3.below
 replace hr := hr.go hn3.below
 replace ht := ht.go hn3.below
 have hr4 : Rw g2 w1 (B8 z32) 35 := hn3.row
 have hgd := hn3.hg
 refine Zad <| Zab <| Zac <| Zac <| Zaa <| rp 3 (.pointer (some ⟨g, 0, none⟩)) <| rp 4 (.pointer (some ⟨g, 0, none⟩)) <| rp 5 (.pointer (some ⟨g, 0, none⟩)) <| rv 6 (.iface T0 v0) (fun _ => Zai 74 _ ⟨g, 0, none⟩ _ _ rfl (by kernel_rfl) (by rw [cell_of_row _ _ _ _ _ _ hr]; rfl) Tryz.underlying74 rfl) <| rp 7 (.bool false) <| Zad <| Zab ?_
 refine Zag (fun _ => by kernel_rfl) <| Zar <| Zab <| Zac <| Zaa <| Zbk 9 #[.slice none 0 0] 80 (fun _ => by kernel_rfl) (fun _ => by kernel_rfl) ?_
 intro wW gW hnW
 have hzW := hB.size
 replace hB := hB.go hnW.below
 replace hr := hr.go hnW.below
 replace ht := ht.go hnW.below
 replace hr4 := hr4.go hnW.below
 have hgW := hnW.hg
 have hWt := Wt.new hnW
 refine rp 10 (.pointer (some ⟨g, 0, none⟩)) <| rp 11 (.pointer (some ⟨g, 0, none⟩)) <| rp 12 (.pointer (some ⟨g, 0, none⟩)) <| rv 13 (.iface T0 v0) (fun _ => Zai 74 _ ⟨g, 0, none⟩ _ _ rfl (by kernel_rfl) (by rw [cell_of_row _ _ _ _ _ _ hr]; rfl) Tryz.underlying74 rfl) <| Zav 14 40 #[.pointer (some ⟨gW, 0, none⟩), .iface T0 v0] (fun _ => by kernel_rfl) (fun _ => by kernel_rfl) (R := REn wW gW gW (.slice none 0 0) (fun _ => True) [] t) (Zwf hne (hND) (ht.mono (K' := KW gW (.slice none 0 0) (fun _ => True)) (fun b hb => ⟨by omega, by simp [Value.ownBlock], trivial⟩)) hWt (fun _ _ => trivial) (by simpa using hM)) ?_
 rintro _ u1 ⟨a2, n2, c2, vM, rfl, hs2, hW1, hG, hen⟩
 replace hr4 := hr4.wg hG hWt (by decide) (by decide)
 replace hB := hG.below hB (by omega) rfl
 clear hr ht hWt
 have l2 := hs2.len
 refine Zav 15 39 #[.slice a2 n2 c2] (fun _ => by kernel_rfl) (fun _ => by kernel_rfl) (R := fun u w' => u = .agg (B8 ds) /\ Bl u1 w') ((Zmx a2 n2 c2 (encT t) u1 hs2.ag (by omega)).mono (fun e w' h => ⟨_, by rw [h.1, hds], rfl, h.2⟩)) ?_
 rintro _ u2 ⟨rfl, hb2⟩
 replace hr4 := hr4.go hb2
 replace hB := hB.go hb2
 refine Zcy g2 (B8 ds) (fun _ => by kernel_rfl) (fun _ => Za9 35 _ _ _ _ _ _ rfl (by kernel_rfl) (by kernel_rfl) hr4 (Zc2 hdl) (Zl9 hdl) (B8_one _)) ?_
 intro uE hpE
 replace hB : Bl w uE := hpE.below hB (by omega) hB.size
 have hrE : Rw g2 uE (B8 ds) 35 := hpE.row hr4
 refine Zad <| Zab <| Zao ?_
 exact Zae (.agg (B8 ds)) (fun _ => Zqk Tryz.results14 _ g2 ds hdl (by kernel_rfl) hrE) ⟨_, rfl, rfl, hB⟩
set_option maxHeartbeats 1000000 in
theorem Zw7 {l B0 : Nat} {Z : PList} {U : Nat -> Prop} {J : PList -> World -> Prop} {Jx : World -> Prop} (V : Vis l B0 Z U J Jx) {T0 : TypeId} {v0 : Value} {w : World} {g gB : Nat} (hgB : Rw gB w #[.pointer (some ⟨g, 0, none⟩)] 25) (hr : Rw g w #[.iface T0 v0] 76) (hJ : J [] w) (hB0 : B0 <= w.heap.size) {K : Nat -> Prop} {t : Tr} (ht : TA K w t (.iface T0 v0)) (hO : Tr.Ok 64 t) (hEC : EC l B0 Z U J Jx t) (hKU : ∀ b, K b -> ¬ U b) (hN : ([] ++ entsF [] t) <+: Z) :
  Calls Tryz.prog 76 #[.func (.yield l) #[] #[], .pointer (some ⟨gB, 0, none⟩)] w fun e w' => ∃ u, e = .returned u /\ (fun u w' => J (entsF [] t) w' \/ Jx w') u w' := by
 have hB := Bl.refl w
 refine Zat Tryz.func76 rfl 14 rfl ?_
 show CW _ _ _ _ _ _ _ [(0, .func (.yield l) #[] #[]), (1, .pointer (some ⟨gB, 0, none⟩))] _
 refine Zac <| Zaa <| Zbk 2 (#[.func (.yield l) #[] #[]]) 71 (fun _ => by kernel_rfl) (fun _ => by kernel_rfl) ?_
 intro w1 g2 hn3
 replace hB := hB.go hn3.below
 replace hgB := hgB.go hn3.below
 replace hr := hr.go hn3.below
 replace hJ := V.go hJ hn3.below
 replace ht := ht.go hn3.below
 have hr4 : Rw g2 w1 (#[.func (.yield l) #[] #[]]) 71 := hn3.row
 refine Zad ?_
 have hgY := hn3.hg
 refine Zab <| Zac <| Zac <| Zaa <| rv 3 (.pointer (some ⟨g, 0, none⟩)) (fun _ => Zai 25 _ ⟨gB, 0, none⟩ _ _ rfl (by kernel_rfl) (by rw [cell_of_row _ _ _ _ _ _ hgB]; rfl) Tryz.underlying25 rfl) <| rp 4 (.pointer (some ⟨g, 0, none⟩)) <| rp 5 (.pointer (some ⟨g, 0, none⟩)) <| rv 6 (.iface T0 v0) (fun _ => Zai 74 _ ⟨g, 0, none⟩ _ _ rfl (by kernel_rfl) (by rw [cell_of_row _ _ _ _ _ _ hr]; rfl) Tryz.underlying74 rfl) <| rp 7 (.bool false) <| Zad <| Zab <| Zag (fun _ => by kernel_rfl) ?_
 refine Zar <| Zab <| Zaa <| rv 8 (.pointer (some ⟨g, 0, none⟩)) (fun _ => Zai 25 _ ⟨gB, 0, none⟩ _ _ rfl (by kernel_rfl) (by rw [cell_of_row _ _ _ _ _ _ hgB]; rfl) Tryz.underlying25 rfl) <| rp 9 (.pointer (some ⟨g, 0, none⟩)) <| rp 10 (.pointer (some ⟨g, 0, none⟩)) <| rv 11 (.iface T0 v0) (fun _ => Zai 74 _ ⟨g, 0, none⟩ _ _ rfl (by kernel_rfl) (by rw [cell_of_row _ _ _ _ _ _ hr]; rfl) Tryz.underlying74 rfl) <| rp 12 (.func (.func 77) #[] #[.pointer (some ⟨g2, 0, none⟩)]) ?_
 obtain ⟨T7, x8, f9, he10, hi5, hc6⟩ := (hEC hO (by omega) ht hKU (Sk.nil (fun _ => False) _) (fun b hb => hb.elim) hr4 (fun hu => by have := V.lo _ hu; omega) hJ hN (Nat.le_trans hB0 hB.size))
 refine Zav 13 f9 (#[x8] ++ #[.slice none 0 0, .func (.func 77) #[] #[.pointer (some ⟨g2, 0, none⟩)]]) (fun _ => by kernel_rfl) (fun _ => hi5 _ _ _ _ _ _ _ rfl (by kernel_rfl) (by kernel_rfl)) (R := RB U J Jx (w1) ([] ++ entsF [] t)) ?_ ?_
 ·exact hc6
 rintro _ u8 ⟨b8, rfl, hR8, hX8⟩
 refine Zad ?_
 cases b8 with
 | true => exact Ze1 (.tuple #[]) (fun _ => by kernel_rfl) ⟨_, rfl, .inl (hR8 rfl).1⟩
 | false => exact Ze1 (.tuple #[]) (fun _ => by kernel_rfl) ⟨_, rfl, .inr (hX8 rfl)⟩
theorem Zw8 {l B0 : Nat} {Z : PList} {U : Nat -> Prop} {J : PList -> World -> Prop} {Jx : World -> Prop} (V : Vis l B0 Z U J Jx) {w : World} {g gB : Nat} (hgB : Rw gB w #[.pointer (some ⟨g, 0, none⟩)] 25) (hJ : J [] w) (hB0 : B0 <= w.heap.size) {K : Nat -> Prop} {t : Tr} {v : Value} (hr : Rw g w #[v] 76) (ht : TA K w t v) (hO : Tr.Ok 64 t) (hEC : EC l B0 Z U J Jx t) (hKU : ∀ b, K b -> ¬ U b) (hN : entsF [] t <+: Z) :
  Calls Tryz.prog 76 #[.func (.yield l) #[] #[], .pointer (some ⟨gB, 0, none⟩)] w fun e w' => ∃ u, e = .returned u /\ (J (entsF [] t) w' \/ Jx w') := by
 obtain ⟨T0, v0, rfl⟩ := ht.iface hO.ne
 exact Zw7 V hgB hr hJ hB0 ht hO hEC hKU hN
set_option maxHeartbeats 8000000 in
theorem Zpg {K : Nat -> Prop} {w : World} {g : Nat} {t : Tr} (hT : Tri K w g t) (hEC : ∀ {l B0 : Nat} {Z : PList} {U : Nat -> Prop} {J : PList -> World -> Prop} {Jx : World -> Prop}, Vis l B0 Z U J Jx -> EC l B0 Z U J Jx t) (hO : Tr.Ok 64 t) (hLk : ∀ e ∈ entsF [] t, e.1.length <= 32) (hLn : (entsF [] t).length <= 2932031007390) :
  Calls Tryz.prog 27 #[.pointer (some ⟨g, 0, none⟩)] w fun e w' => ∃ u, e = .returned u /\ EnR w (entsF [] t) u w' := by
 have hB := Bl.refl w
 refine Zsb Tryz.func27 rfl 18 rfl ?_
 show CW _ _ _ _ _ _ _ [(0, .pointer (some ⟨g, 0, none⟩))] _
 have hTl := hT.lt
 have hTo := hT.old
 refine Zac <| Zaa <| rp 2 (.slice none 0 0) <| Zad <| Zab <| Zac <| Zaa <| Zbk 3 #[.slice none 0 0] 55 (fun _ => by kernel_rfl) (fun _ => by kernel_rfl) ?_
 intro w6 gL hn6
 have hgL := hn6.hg
 replace hB := hB.go hn6.below
 have hL : Rw gL w6 #[.slice none 0 0] 55 := hn6.row
 have hTk : Tri (fun b => b ≠ gL) w6 g t := (hTo.go hn6.below).mono (fun b hb => by have : b < _ := hb; omega)
 have hgne : g ≠ gL := by omega
 refine Zad <| Zab <| Zac <| Zac <| Zaa <| rp 6 (.pointer (some ⟨g, 0, none⟩)) <| Zav 7 53 #[.pointer (some ⟨g, 0, none⟩)] (fun _ => by kernel_rfl) (fun _ => by kernel_rfl) (R := fun u w' => (∃ gB, u = .func (.func 76) #[] #[.pointer (some ⟨gB, 0, none⟩)] /\ Rw gB w' #[.pointer (some ⟨g, 0, none⟩)] 25 /\ w6.heap.size <= gB) /\ Bl w6 w') (Zw6 (g := g)) ?_
 rintro _ w7 ⟨⟨gB, rfl, hgB, hzB⟩, hb7⟩
 replace hB := hB.go hb7
 replace hL := hL.go hb7
 replace hTk := hTk.go hb7
 refine Zad <| Zab <| Zbc <| Zd1 [(3, .pointer (some ⟨gL, 0, none⟩)), (7, .func (.func 76) #[] #[.pointer (some ⟨gB, 0, none⟩)])] (by exact ⟨fun _ => by kernel_rfl, ⟨fun _ => by kernel_rfl, trivial⟩⟩) ?_
 have hlL := lt_of_get hL
 obtain ⟨⟨vT, hrT, htT⟩, hok⟩ := id hTk
 obtain ⟨L, hents⟩ : ∃ L, entsF [] t = L := ⟨_, rfl⟩
 rw [hents] at hLk hLn ⊢
 refine Zr9 76 #[.pointer (some ⟨gB, 0, none⟩)] (fun _ => by kernel_rfl) (by decide) (by decide) (by decide) (fun args w => by kernel_rfl) (U := fun b => b = gL) (L := L) (fun lp J Wq hbq V hJ0 => (Zw8 V (hgB.go hbq) hJ0 (Nat.le_refl _) (hrT.go hbq) (htT.go hbq) hO (hEC V) (fun b hb hu => hb hu) (by rw [hents]; exact List.prefix_rfl)).mono (fun e W' ⟨u, e1, h⟩ => ⟨u, e1, by rw [<- hents]; exact h.resolve_right id⟩)) (fun b hu => by have e : b = gL := hu; omega) (fun pre => EnI w w7 gL (pre.map nbE)) (fun s W W' row h => EnI.own hB.size (s.map nbE) W W' row h) ⟨hB, ⟨_, hL, OwnE.none (fun b hb => by omega), SlB.nil _⟩, fun _ _ _ _ _ hh => hh, Nat.le_refl _⟩ (fun u v e => e = [(3, .pointer (some ⟨gL, 0, none⟩)), (4, u), (5, v)]) ?_ ?_ ?_
 ·intro lp u v W
  refine Zac <| Zaa <| rp 4 (u) <| Zad <| Zab <| Zaa <| rp 5 (v) <| Zad ?_
  exact fun a ha => ⟨rfl, _, ha.sub (env' := [(3, .pointer (some ⟨gL, 0, none⟩)), (4, u), (5, v)]) (by exact ⟨fun _ => by kernel_rfl, ⟨fun _ => by kernel_rfl, ⟨fun _ => by kernel_rfl, trivial⟩⟩⟩), rfl⟩
 ·intro lp pre W M a1 a2 n1 c1 n2 c2 k x e hlp hrec hIv hpre hM1 hM2 hs1 hs2 he
  subst he
  obtain ⟨hB, ⟨v, hL, hO, hS⟩, hkp, hsz⟩ := hIv
  have hlen : (pre.map nbE).length + 1 <= L.length := by obtain ⟨sf, hsf⟩ := hpre; rw [<- hsf]; simp
  have hlL2 := lt_of_get hL
  have hkl : k.length <= 32 := hLk (k, x) (by obtain ⟨sf, hsf⟩ := hpre; rw [<- hsf]; simp)
  have hk1 := hs1.len
  have hL0 := hL
  have hO0 := hO
  have hS0 := hS
  have hWW := Bl.refl W
  refine Zbc <| Zt5 (fun v => True) (by kernel_rfl) (by kernel_rfl) (fun ⟨_, _, h⟩ => h) (trivial) ?_
  replace hs1 := hs1.drew
  replace hs2 := hs2.drew
  replace hL := hL.drew
  replace hWW := hWW.drew
  refine dt 1 11 (.slice a1 n1 c1) (fun v hv _ => by kernel_rfl) trivial <| dt 3 13 (.slice a2 n2 c2) (fun v hv _ => by kernel_rfl) trivial <| Zak [0, 2] (by kernel_rfl) (by simp) ?_
  refine ar_v 0 10 v rfl (fun _ => by kernel_rfl) (fun _ => Zai 55 _ ⟨gL, 0, none⟩ _ _ rfl (by kernel_rfl) (by rw [cell_of_row _ _ _ _ _ _ hL]; rfl) Tryz.underlying55 rfl) trivial ?_ ?_
  ·skip
   refine Zak [2] (by kernel_rfl) (by simp) ?_
   refine Za4 2 12 28 #[.slice a1 n1 c1] rfl (fun _ => by kernel_rfl) (fun _ => by kernel_rfl) (R := fun u w' => (∃ a', u = .slice a' (2 * n1) (2 * n1) /\ Ni.Cut w' (W.drew).heap.size a' (2 * n1) (Ni.nib k)) /\ Bl (W.drew) w') (((Ni.of_any a1 n1 c1 k (W.drew) hs1.ag (by omega)).mono (fun e w' ⟨⟨a', e1, e2⟩, e3⟩ => ⟨_, e1, ⟨a', rfl, e2⟩, e3⟩))) (fun _ _ _ => trivial) ?_ Zaw
   rintro _ u3 ⟨⟨a3, rfl, hc3⟩, hb3⟩
   have hz3 := hWW.size
   replace hs1 := hs1.go hb3
   replace hs2 := hs2.go hb3
   replace hL := hL.go hb3
   replace hWW := hWW.go hb3
   have hp3 := Cut.skb hc3
   refine dt 4 14 (.agg #[.slice a3 (2 * n1) (2 * n1), .slice a2 n2 c2]) (fun v hv => (fun _ => by kernel_rfl)) trivial <| Zak [5] (by kernel_rfl) (by simp) ?_
   refine Zgd 5 15 #[.slice a3 (2 * n1) (2 * n1), .slice a2 n2 c2] 95 1 rfl (fun _ => by kernel_rfl) (fun _ => by kernel_rfl) (fun _ _ _ => trivial) ?_ Zaw
   intro W1 gN hnN
   have hOw := hO0.far hWW
   have hSw := hS0.go hWW (fun k hk => (hO0.own k hk).2)
   have hP1 := PAt.oneE (K := fun b => w7.heap.size <= b /\ v.ownBlock ≠ some b) hnN ((hp3.nsl hSw).mono (fun b hb => ⟨by have := hb.1.1; omega, hb.2⟩)) ((hs2.nsl hSw).mono (fun b hb => ⟨by have := hb.1; omega, hb.2⟩)) ⟨by rw [hnN.hg]; have := hWW.size; omega, fun e => by have := (hOw.own gN e).2; have := hnN.hg; omega⟩
   have hO1 := hOw.far hnN.below
   have hS1 := hSw.go hnN.below (fun k hk => (hOw.own k hk).2)
   replace hs1 := hs1.go hnN.below
   replace hs2 := hs2.go hnN.below
   replace hL := hL.go hnN.below
   replace hWW := hWW.go hnN.below
   refine Zak [6] (by kernel_rfl) (by simp) ?_
   obtain ⟨v2, W2, hr2, hO2, hS2, hb2_, hk2, hv2⟩ := Zw5 hO1 hS1 hP1 (fun b hb => ⟨hb.2, by have := hb.1; omega⟩) (by omega) (by have := hWW.size; omega)
   refine ar_v 6 16 v2 rfl (fun _ => by kernel_rfl) (fun _ => Zf3 hr2 _ _ rfl (by kernel_rfl) (by kernel_rfl)) trivial ?_ Zaw
   have hLo : v.ownBlock ≠ some gL := fun e => by have := (hO0.own gL e).1; omega
   have hL2 : Rw gL W2 #[v] 55 := (hk2 gL (lt_of_get hL) hLo).trans hL
   refine Zak [7] (by kernel_rfl) (by simp) ?_
   refine Zgc 7 gL 0 v2 rfl (fun _ => by kernel_rfl) (fun _ => Zf2 55 _ _ gL 0 _ 55 _ hL2 rfl (by kernel_rfl) (by kernel_rfl) (by show 0 < 1; omega) hO2.cel hO2.one (by kernel_rfl)) (fun _ _ => trivial) ?_ Zaw
   intro W3 hs3
   refine Zax (by kernel_rfl) <| Zbf ?_
   have hz3 : W3.heap.size = W2.heap.size := hs3.size
   have hz2 : W1.heap.size <= W2.heap.size := Below.size hb2_
   have hz1 : W.heap.size <= W1.heap.size := hWW.size
   have hkk : ∀ (k : Nat) (cs : Array Value) (T : TypeId) (fr : Nat × Nat), k ≠ gL -> Pr cs -> W.heap[k]? = some (Obj.cells cs T fr) -> W3.heap[k]? = some (Obj.cells cs T fr) := fun k cs T fr hk hP hh => ((hs3.other hk).trans ((hk2 k (Nat.lt_of_lt_of_le (lt_of_get hh) hz1) (fun e => Znp (hS0 k cs T fr e hh) hP)).trans (Below.block hWW k (lt_of_get hh)))).trans hh
   have hko : ∀ (k : Nat) (o : Obj), k ≠ gL -> v.ownBlock ≠ some k -> W.heap[k]? = some o -> W3.heap[k]? = some o := fun k o hk he hh => ((hs3.other hk).trans ((hk2 k (Nat.lt_of_lt_of_le (lt_of_get hh) hz1) he).trans (Below.block hWW k (lt_of_get hh)))).trans hh
   have hnc : ∀ (k : Nat) (o : Obj), W.heap[k]? = some o -> o.isCells = false -> v.ownBlock ≠ some k := fun k o hh hc e => by obtain ⟨cs, hcs⟩ := hO0.row k e; rw [hcs] at hh; cases hh; cases hc
   have hL3 : Rw gL W3 #[v2] 55 := hL2.set hs3 rfl
   have hne2 : ∀ k, v2.ownBlock = some k -> k ≠ gL := fun k hk e => by have := (hO2.own k hk).1; omega
   have hO3 : OwnE (fun b => b ≠ gL) W3 w7.heap.size v2 (pre.map nbE ++ [(Ni.nib k, x)]) := hO2.tou hs3.touch (by omega)
   have hS3 : SlB W3 v2 := fun k cur T fr hk hh => hS2 k cur T fr hk ((hs3.other (hne2 k hk)).symm.trans hh)
   refine Zq5 ⟨by omega, fun q o hq ho hc => hko q o (by omega) (hnc q o ho hc) ho⟩ ⟨by omega, fun q cs T fr _ hU hP hh => hkk q cs T fr hU hP hh⟩ ⟨?_, ⟨v2, hL3, by rw [List.map_append]; exact hO3, hS3⟩, fun q cs T fr hq hh => ?_, by omega⟩
   ·refine Below.trans hB ⟨?_, ?_, ?_, by omega, fun q hq => ?_⟩
    ·rw [hs3.touch.os, Below.os hb2_, Below.os hWW]
    ·rw [hs3.touch.tape, Below.tape hb2_, Below.tape hWW]
    ·rw [hs3.touch.output, Below.output hb2_, Below.output hWW]
    ·exact (hs3.other (by omega)).trans ((Below.block hb2_ q (by omega)).trans (Below.block hWW q (by have := Below.size hB; omega)))
   ·exact hko q _ hq (fun e => by have := (hO0.own q e).1; have := lt_of_get hh; omega) (hkp q cs T fr hq hh)
  refine Za4 2 12 28 #[.slice a1 n1 c1] rfl (fun _ => by kernel_rfl) (fun _ => by kernel_rfl) (R := fun u w' => (∃ a', u = .slice a' (2 * n1) (2 * n1) /\ Ni.Cut w' (W.drew).heap.size a' (2 * n1) (Ni.nib k)) /\ Bl (W.drew) w') (((Ni.of_any a1 n1 c1 k (W.drew) hs1.ag (by omega)).mono (fun e w' ⟨⟨a', e1, e2⟩, e3⟩ => ⟨_, e1, ⟨a', rfl, e2⟩, e3⟩))) (fun _ _ _ => trivial) ?_ Zaw
  rintro _ u3 ⟨⟨a3, rfl, hc3⟩, hb3⟩
  have hz3 := hWW.size
  replace hs1 := hs1.go hb3
  replace hs2 := hs2.go hb3
  replace hL := hL.go hb3
  replace hWW := hWW.go hb3
  have hp3 := Cut.skb hc3
  refine dt 4 14 (.agg #[.slice a3 (2 * n1) (2 * n1), .slice a2 n2 c2]) (fun v hv => (fun _ => by kernel_rfl)) trivial <| Zak [0, 5] (by kernel_rfl) (by simp) ?_
  refine ar_v 0 10 v rfl (fun _ => by kernel_rfl) (fun _ => Zai 55 _ ⟨gL, 0, none⟩ _ _ rfl (by kernel_rfl) (by rw [cell_of_row _ _ _ _ _ _ hL]; rfl) Tryz.underlying55 rfl) trivial ?_ ?_
  ·skip
   refine Zak [5] (by kernel_rfl) (by simp) ?_
   refine Zgd 5 15 #[.slice a3 (2 * n1) (2 * n1), .slice a2 n2 c2] 95 1 rfl (fun _ => by kernel_rfl) (fun _ => by kernel_rfl) (fun _ _ _ => trivial) ?_ Zaw
   intro W1 gN hnN
   have hOw := hO0.far hWW
   have hSw := hS0.go hWW (fun k hk => (hO0.own k hk).2)
   have hP1 := PAt.oneE (K := fun b => w7.heap.size <= b /\ v.ownBlock ≠ some b) hnN ((hp3.nsl hSw).mono (fun b hb => ⟨by have := hb.1.1; omega, hb.2⟩)) ((hs2.nsl hSw).mono (fun b hb => ⟨by have := hb.1; omega, hb.2⟩)) ⟨by rw [hnN.hg]; have := hWW.size; omega, fun e => by have := (hOw.own gN e).2; have := hnN.hg; omega⟩
   have hO1 := hOw.far hnN.below
   have hS1 := hSw.go hnN.below (fun k hk => (hOw.own k hk).2)
   replace hs1 := hs1.go hnN.below
   replace hs2 := hs2.go hnN.below
   replace hL := hL.go hnN.below
   replace hWW := hWW.go hnN.below
   refine Zak [6] (by kernel_rfl) (by simp) ?_
   obtain ⟨v2, W2, hr2, hO2, hS2, hb2_, hk2, hv2⟩ := Zw5 hO1 hS1 hP1 (fun b hb => ⟨hb.2, by have := hb.1; omega⟩) (by omega) (by have := hWW.size; omega)
   refine ar_v 6 16 v2 rfl (fun _ => by kernel_rfl) (fun _ => Zf3 hr2 _ _ rfl (by kernel_rfl) (by kernel_rfl)) trivial ?_ Zaw
   have hLo : v.ownBlock ≠ some gL := fun e => by have := (hO0.own gL e).1; omega
   have hL2 : Rw gL W2 #[v] 55 := (hk2 gL (lt_of_get hL) hLo).trans hL
   refine Zak [7] (by kernel_rfl) (by simp) ?_
   refine Zgc 7 gL 0 v2 rfl (fun _ => by kernel_rfl) (fun _ => Zf2 55 _ _ gL 0 _ 55 _ hL2 rfl (by kernel_rfl) (by kernel_rfl) (by show 0 < 1; omega) hO2.cel hO2.one (by kernel_rfl)) (fun _ _ => trivial) ?_ Zaw
   intro W3 hs3
   refine Zax (by kernel_rfl) <| Zbf ?_
   have hz3 : W3.heap.size = W2.heap.size := hs3.size
   have hz2 : W1.heap.size <= W2.heap.size := Below.size hb2_
   have hz1 : W.heap.size <= W1.heap.size := hWW.size
   have hkk : ∀ (k : Nat) (cs : Array Value) (T : TypeId) (fr : Nat × Nat), k ≠ gL -> Pr cs -> W.heap[k]? = some (Obj.cells cs T fr) -> W3.heap[k]? = some (Obj.cells cs T fr) := fun k cs T fr hk hP hh => ((hs3.other hk).trans ((hk2 k (Nat.lt_of_lt_of_le (lt_of_get hh) hz1) (fun e => Znp (hS0 k cs T fr e hh) hP)).trans (Below.block hWW k (lt_of_get hh)))).trans hh
   have hko : ∀ (k : Nat) (o : Obj), k ≠ gL -> v.ownBlock ≠ some k -> W.heap[k]? = some o -> W3.heap[k]? = some o := fun k o hk he hh => ((hs3.other hk).trans ((hk2 k (Nat.lt_of_lt_of_le (lt_of_get hh) hz1) he).trans (Below.block hWW k (lt_of_get hh)))).trans hh
   have hnc : ∀ (k : Nat) (o : Obj), W.heap[k]? = some o -> o.isCells = false -> v.ownBlock ≠ some k := fun k o hh hc e => by obtain ⟨cs, hcs⟩ := hO0.row k e; rw [hcs] at hh; cases hh; cases hc
   have hL3 : Rw gL W3 #[v2] 55 := hL2.set hs3 rfl
   have hne2 : ∀ k, v2.ownBlock = some k -> k ≠ gL := fun k hk e => by have := (hO2.own k hk).1; omega
   have hO3 : OwnE (fun b => b ≠ gL) W3 w7.heap.size v2 (pre.map nbE ++ [(Ni.nib k, x)]) := hO2.tou hs3.touch (by omega)
   have hS3 : SlB W3 v2 := fun k cur T fr hk hh => hS2 k cur T fr hk ((hs3.other (hne2 k hk)).symm.trans hh)
   refine Zq5 ⟨by omega, fun q o hq ho hc => hko q o (by omega) (hnc q o ho hc) ho⟩ ⟨by omega, fun q cs T fr _ hU hP hh => hkk q cs T fr hU hP hh⟩ ⟨?_, ⟨v2, hL3, by rw [List.map_append]; exact hO3, hS3⟩, fun q cs T fr hq hh => ?_, by omega⟩
   ·refine Below.trans hB ⟨?_, ?_, ?_, by omega, fun q hq => ?_⟩
    ·rw [hs3.touch.os, Below.os hb2_, Below.os hWW]
    ·rw [hs3.touch.tape, Below.tape hb2_, Below.tape hWW]
    ·rw [hs3.touch.output, Below.output hb2_, Below.output hWW]
    ·exact (hs3.other (by omega)).trans ((Below.block hb2_ q (by omega)).trans (Below.block hWW q (by have := Below.size hB; omega)))
   ·exact hko q _ hq (fun e => by have := (hO0.own q e).1; have := lt_of_get hh; omega) (hkp q cs T fr hq hh)
  refine Zgd 5 15 #[.slice a3 (2 * n1) (2 * n1), .slice a2 n2 c2] 95 1 rfl (fun _ => by kernel_rfl) (fun _ => by kernel_rfl) (fun _ _ _ => trivial) ?_ Zaw
  intro W1 gN hnN
  have hOw := hO0.far hWW
  have hSw := hS0.go hWW (fun k hk => (hO0.own k hk).2)
  have hP1 := PAt.oneE (K := fun b => w7.heap.size <= b /\ v.ownBlock ≠ some b) hnN ((hp3.nsl hSw).mono (fun b hb => ⟨by have := hb.1.1; omega, hb.2⟩)) ((hs2.nsl hSw).mono (fun b hb => ⟨by have := hb.1; omega, hb.2⟩)) ⟨by rw [hnN.hg]; have := hWW.size; omega, fun e => by have := (hOw.own gN e).2; have := hnN.hg; omega⟩
  have hO1 := hOw.far hnN.below
  have hS1 := hSw.go hnN.below (fun k hk => (hOw.own k hk).2)
  replace hs1 := hs1.go hnN.below
  replace hs2 := hs2.go hnN.below
  replace hL := hL.go hnN.below
  replace hWW := hWW.go hnN.below
  refine Zak [0] (by kernel_rfl) (by simp) ?_
  refine ar_v 0 10 v rfl (fun _ => by kernel_rfl) (fun _ => Zai 55 _ ⟨gL, 0, none⟩ _ _ rfl (by kernel_rfl) (by rw [cell_of_row _ _ _ _ _ _ hL]; rfl) Tryz.underlying55 rfl) trivial ?_ Zaw
  refine Zak [6] (by kernel_rfl) (by simp) ?_
  obtain ⟨v2, W2, hr2, hO2, hS2, hb2_, hk2, hv2⟩ := Zw5 hO1 hS1 hP1 (fun b hb => ⟨hb.2, by have := hb.1; omega⟩) (by omega) (by have := hWW.size; omega)
  refine ar_v 6 16 v2 rfl (fun _ => by kernel_rfl) (fun _ => Zf3 hr2 _ _ rfl (by kernel_rfl) (by kernel_rfl)) trivial ?_ Zaw
  have hLo : v.ownBlock ≠ some gL := fun e => by have := (hO0.own gL e).1; omega
  have hL2 : Rw gL W2 #[v] 55 := (hk2 gL (lt_of_get hL) hLo).trans hL
  refine Zak [7] (by kernel_rfl) (by simp) ?_
  refine Zgc 7 gL 0 v2 rfl (fun _ => by kernel_rfl) (fun _ => Zf2 55 _ _ gL 0 _ 55 _ hL2 rfl (by kernel_rfl) (by kernel_rfl) (by show 0 < 1; omega) hO2.cel hO2.one (by kernel_rfl)) (fun _ _ => trivial) ?_ Zaw
  intro W3 hs3
  refine Zax (by kernel_rfl) <| Zbf ?_
  have hz3 : W3.heap.size = W2.heap.size := hs3.size
  have hz2 : W1.heap.size <= W2.heap.size := Below.size hb2_
  have hz1 : W.heap.size <= W1.heap.size := hWW.size
  have hkk : ∀ (k : Nat) (cs : Array Value) (T : TypeId) (fr : Nat × Nat), k ≠ gL -> Pr cs -> W.heap[k]? = some (Obj.cells cs T fr) -> W3.heap[k]? = some (Obj.cells cs T fr) := fun k cs T fr hk hP hh => ((hs3.other hk).trans ((hk2 k (Nat.lt_of_lt_of_le (lt_of_get hh) hz1) (fun e => Znp (hS0 k cs T fr e hh) hP)).trans (Below.block hWW k (lt_of_get hh)))).trans hh
  have hko : ∀ (k : Nat) (o : Obj), k ≠ gL -> v.ownBlock ≠ some k -> W.heap[k]? = some o -> W3.heap[k]? = some o := fun k o hk he hh => ((hs3.other hk).trans ((hk2 k (Nat.lt_of_lt_of_le (lt_of_get hh) hz1) he).trans (Below.block hWW k (lt_of_get hh)))).trans hh
  have hnc : ∀ (k : Nat) (o : Obj), W.heap[k]? = some o -> o.isCells = false -> v.ownBlock ≠ some k := fun k o hh hc e => by obtain ⟨cs, hcs⟩ := hO0.row k e; rw [hcs] at hh; cases hh; cases hc
  have hL3 : Rw gL W3 #[v2] 55 := hL2.set hs3 rfl
  have hne2 : ∀ k, v2.ownBlock = some k -> k ≠ gL := fun k hk e => by have := (hO2.own k hk).1; omega
  have hO3 : OwnE (fun b => b ≠ gL) W3 w7.heap.size v2 (pre.map nbE ++ [(Ni.nib k, x)]) := hO2.tou hs3.touch (by omega)
  have hS3 : SlB W3 v2 := fun k cur T fr hk hh => hS2 k cur T fr hk ((hs3.other (hne2 k hk)).symm.trans hh)
  refine Zq5 ⟨by omega, fun q o hq ho hc => hko q o (by omega) (hnc q o ho hc) ho⟩ ⟨by omega, fun q cs T fr _ hU hP hh => hkk q cs T fr hU hP hh⟩ ⟨?_, ⟨v2, hL3, by rw [List.map_append]; exact hO3, hS3⟩, fun q cs T fr hq hh => ?_, by omega⟩
  ·refine Below.trans hB ⟨?_, ?_, ?_, by omega, fun q hq => ?_⟩
   ·rw [hs3.touch.os, Below.os hb2_, Below.os hWW]
   ·rw [hs3.touch.tape, Below.tape hb2_, Below.tape hWW]
   ·rw [hs3.touch.output, Below.output hb2_, Below.output hWW]
   ·exact (hs3.other (by omega)).trans ((Below.block hb2_ q (by omega)).trans (Below.block hWW q (by have := Below.size hB; omega)))
  ·exact hko q _ hq (fun e => by have := (hO0.own q e).1; have := lt_of_get hh; omega) (hkp q cs T fr hq hh)
 intro D W hD hIv hdd
 have hB7 := hB
 obtain ⟨hB, ⟨v, hL, hO, hS⟩, hkp, hsz⟩ := hIv
 obtain ⟨aV, cV, vsV, rfl, _⟩ := OwnE.pat hO
 rw [List.length_map] at hL
 refine Zbf <| Zab <| Zac <| Zaa <| rv 17 (.slice aV L.length cV) (fun _ => Zai 55 _ ⟨gL, 0, none⟩ _ _ rfl (by kernel_rfl) (by rw [cell_of_row _ _ _ _ _ _ hL]; rfl) Tryz.underlying55 rfl) <| rp 2 (.slice aV L.length cV) <| Zad <| Zab <| Zao ?_
 have hO' := hO.cells (w' := W.putObj D (.deferred none)) (by simp) (fun k cs T fr hh => (World.putObj_heap_other (fun e => by subst e; rw [hdd] at hh; cases hh)).trans hh)
 obtain ⟨a', c', vs', e', hPt⟩ := OwnE.pat hO'
 cases e'
 rw [List.length_map] at hPt
 exact Zli hdd (.slice aV L.length cV) (fun _ => by kernel_rfl) ⟨_, rfl, ⟨aV, cV, vs', rfl, hPt.mono (fun _ _ => trivial)⟩, Below.grown hB (grownBy_putObj' _ _ _) hB.size (fun k e => by cases e; exact Nat.le_trans hB7.size hD)⟩
set_option maxHeartbeats 4000000 in
theorem Zth {K K1 : Nat -> Prop} {w : World} {g : Nat} {t : Tr} (hT : Tri K w g t) (hEC : ∀ {l B0 : Nat} {Z : PList} {U : Nat -> Prop} {J : PList -> World -> Prop} {Jx : World -> Prop}, Vis l B0 Z U J Jx -> EC l B0 Z U J Jx t) (hO : Tr.Ok 64 t) {kk x : List Int} (hen : entsF [] t = [(kk, x)]) (hkk : kk.length <= 32) (hxl : x.length <= 256) {a : Option Addr} {n c : Nat} {k : List Int} (hk : Sk K1 w a n c k) (hn : n <= 32) :
  Calls Tryz.prog 11 #[.pointer (some ⟨g, 0, none⟩), .slice a n c] w fun e w' => ∃ u, e = .returned u /\ (fun u w' => (∃ a' c', u = .tuple #[.slice a' 1 c', .int .i64 0] /\ 1 <= c' /\ Bt (fun _ => True) w' a' 1 [encT (leaf (Ni.nib kk) x)]) /\ Bl w w') u w' := by
 have hB := Bl.refl w
 have lk := hk.len
 refine Zat Tryz.func11 rfl 31 rfl ?_
 show CW _ _ _ _ _ _ _ [(0, .pointer (some ⟨g, 0, none⟩)), (1, .slice a n c)] _
 refine Zac <| Zaa <| rp 4 (.slice none 0 0) <| rp 5 (.int .i64 0) <| Zad <| Zab <| Zac <| Zac <| Zaa <| rp 10 (.slice a n c) <| Zav 11 26 #[.slice a n c] (fun _ => by kernel_rfl) (fun _ => by kernel_rfl) (R := fun u w' => u = .bool true /\ Bl (w) w') ((isKey_any.mono (fun e w' ⟨u, e1, e2, e3⟩ => ⟨u, e1, by rw [e2, decide_eq_true (by omega)], e3⟩))) ?_
 rintro _ u1 ⟨rfl, hb1⟩
 replace hB := hB.go hb1
 replace hk := hk.go hb1
 have hTu := hT.go hb1
 refine rp 12 (.bool false) <| Zad <| Zab <| Zag (fun _ => by kernel_rfl) <| Zar <| Zab <| Zac <| Zaa <| rp 13 (.pointer (some ⟨g, 0, none⟩)) <| Zav 14 27 #[.pointer (some ⟨g, 0, none⟩)] (fun _ => by kernel_rfl) (fun _ => by kernel_rfl) (R := EnR u1 [(kk, x)]) ((by have := Zpg hTu hEC hO (by rw [hen]; intro e he; simp at he; rw [he]; exact hkk) (by rw [hen]; simp); rw [hen] at this; exact this)) ?_
 rintro _ u2 ⟨⟨aV, cV, vsV, rfl, hPt⟩, hb2⟩
 replace hB := hB.go hb2
 replace hk := hk.go hb2
 replace hPt : PAt (fun _ => True) u2 aV 1 cV vsV [(Ni.nib kk, x)] := hPt
 obtain ⟨gE, oE, a1, n1, c1, a2, n2, c2, kq, xq, ea, hej, hc1, hc2, hs1, hs2⟩ := hPt.at (j := 0) (by omega)
 subst ea
 cases hej
 have hl1 := hs1.len
 have hl2 := hs2.len
 rw [Ni.nib_len] at hl1
 refine rp 6 (.slice (some ⟨gE, oE, none⟩) 1 cV) <| Zad <| Zab <| Zac <| Zac <| Zaa <| rp 15 (.slice (some ⟨gE, oE, none⟩) 1 cV) <| rp 16 (.int .i64 1) <| rp 17 (.bool false) <| Zad <| Zab <| Zag (fun _ => by kernel_rfl) ?_
 refine Zar <| Zab <| Zac <| Zaa <| rp 18 (.slice a n c) ?_
 have hbo := Bl.refl u2
 refine Zav 19 28 #[.slice a n c] (fun _ => by kernel_rfl) (fun _ => by kernel_rfl) (R := fun u w' => (∃ a', u = .slice a' (2 * n) (2 * n) /\ Ni.Cut w' (u2).heap.size a' (2 * n) (Ni.nib k)) /\ Bl (u2) w') (((Ni.of_any a n c k (u2) hk.ag (by omega)).mono (fun e w' ⟨⟨a', e1, e2⟩, e3⟩ => ⟨_, e1, ⟨a', rfl, e2⟩, e3⟩))) ?_
 rintro _ u3 ⟨⟨a3, rfl, hc3⟩, hb3⟩
 replace hB := hB.go hb3
 replace hk := hk.go hb3
 replace hbo := hbo.go hb3
 refine rp 20 (.agg #[.slice a3 (2 * n) (2 * n), .slice none 0 0]) <| Zbk 7 #[.slice none 0 0, .slice none 0 0] 59 (fun _ => by kernel_rfl) (fun _ => by kernel_rfl) ?_
 intro wA gA hnA
 refine Zcy gA #[.slice a3 (2 * n) (2 * n), .slice none 0 0] (fun _ => by kernel_rfl) (fun _ => Za9 59 _ _ _ _ _ _ rfl (by kernel_rfl) (by kernel_rfl) hnA.row (by kernel_rfl) rfl (by kernel_rfl)) ?_
 intro wC hpC
 have hnC := hnA.put hpC
 replace hB := hB.go hnC.below
 replace hk := hk.go hnC.below
 replace hbo := hbo.go hnC.below
 have hrA : Rw gA wC #[.slice a3 (2 * n) (2 * n), .slice none 0 0] 59 := hnC.row
 refine Zad <| Zab <| Zac <| Zaa <| rp 21 (.slice (some ⟨gE, oE, none⟩) 1 cV) ?_
 refine Zav 22 29 #[.pointer (some ⟨gA, 0, none⟩), .slice (some ⟨gE, oE, none⟩) 1 cV, .int .i64 0] (fun _ => by kernel_rfl) (fun _ => by kernel_rfl) (R := fun u w' => (∃ a n c, u = .slice a n c /\ Sk (fun b => wC.heap.size <= b) w' a n c (encT (leaf (Ni.nib kk) x))) /\ Bl wC w') (wenc1 ((Below.cell hbo (block_lt_of_cell hc1)).trans hc1) ((Below.cell hbo (block_lt_of_cell hc2)).trans hc2) (hs1.go hbo) (hs2.go hbo) (by omega) (by omega)) ?_
 rintro _ u4 ⟨⟨a4, n4, c4, rfl, hs4⟩, hb4⟩
 have hz4 := hB.size
 replace hB := hB.go hb4
 replace hk := hk.go hb4
 replace hbo := hbo.go hb4
 replace hrA := hrA.go hb4
 refine rp 8 (.slice a4 n4 c4) <| Zad <| Zab <| Zac <| Zaa <| rp 23 (.pointer (some ⟨gA, 1, none⟩)) <| rv 24 (.slice none 0 0) (fun _ => Zai 28 _ ⟨gA, 1, none⟩ _ _ rfl (by kernel_rfl) (by rw [cell_of_row _ _ _ _ _ _ hrA]; rfl) Tryz.underlying28 rfl) <| rp 25 (.slice a4 n4 c4) <| Zdr 26 #[.slice a4 n4 c4] 23 1 (fun _ => by kernel_rfl) (fun _ => by kernel_rfl) ?_
 intro w5 gN hnN
 replace hB := hB.go hnN.below
 replace hk := hk.go hnN.below
 replace hbo := hbo.go hnN.below
 replace hrA := hrA.go hnN.below
 replace hs4 := hs4.go hnN.below
 have hrN : Rw gN w5 #[.slice a4 n4 c4] 23 := hnN.row
 have hz5 := hB.size
 obtain ⟨V6, w6, cV6, hr6, hg6, hb6⟩ := Zw4 hrN
 refine rw_v 27 V6 (fun _ => by kernel_rfl) (fun _ => Zf3 hr6 _ _ rfl (by kernel_rfl) (by kernel_rfl)) ?_
 replace hB := hB.go hb6
 replace hk := hk.go hb6
 replace hbo := hbo.go hb6
 replace hrA := hrA.go hb6
 replace hs4 := hs4.go hb6
 obtain ⟨g6, rfl, hc6, hzz⟩ := hg6
 refine rp 9 (.slice (some ⟨g6, 0, none⟩) 1 cV6) <| Zad <| Zab <| Zac <| Zaa <| rp 28 (.slice (some ⟨g6, 0, none⟩) 1 cV6) <| Zav 29 30 #[.slice (some ⟨g6, 0, none⟩) 1 cV6] (fun _ => by kernel_rfl) (fun _ => by kernel_rfl) (R := fun u w' => Bl w6 w') (rev1) ?_
 rintro _ u7 hb7
 replace hB := hB.go hb7
 replace hk := hk.go hb7
 replace hbo := hbo.go hb7
 replace hrA := hrA.go hb7
 replace hs4 := hs4.go hb7
 refine Zad <| Zab <| Zac <| Zaa <| rp 30 (.slice (some ⟨g6, 0, none⟩) 1 cV6) <| rp 4 (.slice (some ⟨g6, 0, none⟩) 1 cV6) <| rp 5 (.int .i64 0) <| Zad <| Zab <| Zao ?_
 exact Zae (.tuple #[.slice (some ⟨g6, 0, none⟩) 1 cV6, .int .i64 0]) (fun _ => by kernel_rfl) ⟨_, rfl, ⟨_, cV6, rfl, hzz, ⟨rfl, fun j hj => ⟨g6, 0, a4, n4, c4, rfl, by rw [show j = 0 by omega]; exact (Below.cell hb7 (block_lt_of_cell hc6)).trans hc6, by rw [show j = 0 by omega]; exact hs4.mono (fun _ _ => trivial)⟩⟩⟩, hB⟩
theorem Zoe : put no (Ni.nib [97]) [1] = leaf [6, 1] [1] := by simp [put, Ni.nib]
theorem Zvf : Tr.Ok 64 (leaf [6, 1] [1]) := by
 refine ⟨?_, ?_, ?_⟩ <;> simp [Nb]
theorem Zsq : encT (leaf [6, 1] [1]) = [196, 130, 32, 97, 1] := by kernel_rfl
theorem Zud : entsF [] (leaf [6, 1] [1]) = [([97], [1])] := by kernel_rfl
theorem Zvg : ND [196, 130, 32, 97, 1] = some ⟨1, [6, 1], [1], r0, []⟩ := by kernel_rfl
theorem Zyn : vfP (dref [196, 130, 32, 97, 1]) [97] [[196, 130, 32, 97, 1]] = (0, [1]) := by
 simp [vfP, veP, opP, Zvg, foP, vaP, Ni.nib]
theorem Zym : vfP (dref [196, 130, 32, 97, 1]) [98] [[196, 130, 32, 97, 1]] = (0, []) := by
 simp [vfP, veP, opP, Zvg, foP, vaP, Ni.nib]
theorem Zvn {K K0 K1 : Nat -> Prop} {w : World} {g : Nat} (h : Tri K w g no) {a ax : Option Addr} {n c nx cx : Nat} (hk : Sk K1 w a n c [97]) (hx : Sk K0 w ax nx cx [1]) (hK : ∀ b, w.heap.size <= b -> K b) :
  Calls Tryz.prog 24 #[.pointer (some ⟨g, 0, none⟩), .slice a n c, .slice ax nx cx] w fun e w' => ∃ u, e = .returned u /\ u = .int .i64 0 /\ Tri K w' g (leaf [6, 1] [1]) /\ Touch g w w' := by
 obtain ⟨⟨v, h1, h2⟩, h3⟩ := h
 have l1 : 1 = n := hk.len
 have l2 : 1 = nx := hx.len
 have := Zvm h1 h2 rfl hk (by omega) hx (by omega) (by omega) (by rw [Zoe]; exact Zvf) hK
 rw [Zoe] at this
 exact this
theorem Zqi {K : Nat -> Prop} {w : World} {g : Nat} (h : Tri K w g (leaf [6, 1] [1])) :
  Calls Tryz.prog 14 #[.pointer (some ⟨g, 0, none⟩)] w fun e w' => ∃ u, e = .returned u /\ u = .agg (B8 (dref [196, 130, 32, 97, 1])) /\ Bl w w' := by
 obtain ⟨⟨v, h1, h2⟩, h3⟩ := h
 obtain ⟨T0, v0, rfl⟩ := h2.iface (by simp)
 rw [<- Zsq]
 exact Zvz h1 h2 (Ztn (by simp)) (by simp) (by simp [nmd])
set_option maxHeartbeats 4000000 in
theorem Zpr {w : World} :
  Calls Tryz.prog 9 #[] w fun e w' => ∃ u, e = .returned u /\ (fun u w' => u = .bool true /\ Bl w w') u w' := by
 have hB := Bl.refl w
 have hdl := dref_len [196, 130, 32, 97, 1]
 have hdb := Zt2 [196, 130, 32, 97, 1]
 have hva := Zyn
 have hvb := Zym
 obtain ⟨ds, hds⟩ : ∃ ds, dref [196, 130, 32, 97, 1] = ds := ⟨_, rfl⟩
 rw [hds] at hdl hdb hva hvb
 refine Zat Tryz.func9 rfl 72 rfl ?_
 show CW _ _ _ _ _ _ _ [] _
 refine Zac <| Zaa <| rp 0 (.bool false) <| Zad <| Zab <| Zac <| Zaa <| Zav 10 23 #[] (fun _ => by kernel_rfl) (fun _ => by kernel_rfl) (R := fun u w' => (∃ g, u = .pointer (some ⟨g, 0, none⟩) /\ w.heap.size <= g /\ Tri (fun _ => True) w' g no) /\ Bl w w') (Zwd) ?_
 rintro _ u2 ⟨⟨g, rfl, hgT, hT⟩, hb2⟩
 replace hB := hB.go hb2
 refine rp 1 (.pointer (some ⟨g, 0, none⟩)) <| Zad <| Zab <| Zac <| Zac <| Zaa <| rp 11 (.pointer (some ⟨g, 0, none⟩)) <| rp 12 (.bool false) <| Zad <| Zab <| Zag (fun _ => by kernel_rfl) <| Zar ?_
 refine Zab <| Zac <| Zaa <| rp 13 (.pointer (some ⟨g, 0, none⟩)) <| Zdr 14 #[.int .u8 97] 5 1 (fun _ => by kernel_rfl) (fun _ => by kernel_rfl) ?_
 intro w1 g2 hn3
 obtain ⟨w4, hr5, hb6, hs7⟩ := Zkm (x := 97) (by omega) hn3 (K := fun b => True) (fun _ _ => trivial)
 refine rw_v 15 (.slice (some ⟨g2, 0, none⟩) 1 1) (fun _ => by kernel_rfl) (fun _ => hr5 _ _ _ rfl (by kernel_rfl)) ?_
 replace hB := hB.go hb6
 replace hT := hT.go hb6
 refine Zdr 16 #[.int .u8 1] 5 1 (fun _ => by kernel_rfl) (fun _ => by kernel_rfl) ?_
 intro w8 g9 hn10
 have hs11 : Sk (fun b => True) w8 (some ⟨g9, 0, none⟩) 1 1 [1] := Zxw (by omega) hn10 (fun _ _ => trivial)
 replace hB := hB.go hn10.below
 replace hT := hT.go hn10.below
 replace hs7 := hs7.go hn10.below
 refine Zav 17 24 #[.pointer (some ⟨g, 0, none⟩), .slice (some ⟨g2, 0, none⟩) 1 1, .slice (some ⟨g9, 0, none⟩) 1 1] (fun _ => by kernel_rfl) (fun _ => by kernel_rfl) (R := fun u w' => u = .int .i64 0 /\ Tri (fun _ => True) w' g (leaf [6, 1] [1]) /\ Touch g (w8) w') ((Zvn hT hs7 hs11 (fun _ _ => trivial))) ?_
 rintro _ u5 ⟨rfl, hTn, hto⟩
 replace hB : Bl w u5 := hto.below hB hgT hB.size
 replace hT := hTn
 refine Zad <| Zab <| Zac <| Zaa <| rp 19 (.pointer (some ⟨g, 0, none⟩)) <| Zdr 20 #[.int .u8 98] 5 1 (fun _ => by kernel_rfl) (fun _ => by kernel_rfl) ?_
 intro w12 g13 hn14
 obtain ⟨w15, hr16, hb17, hs18⟩ := Zkm (x := 98) (by omega) hn14 (K := fun b => True) (fun _ _ => trivial)
 refine rw_v 21 (.slice (some ⟨g13, 0, none⟩) 1 1) (fun _ => by kernel_rfl) (fun _ => hr16 _ _ _ rfl (by kernel_rfl)) ?_
 replace hB := hB.go hb17
 replace hT := hT.go hb17
 refine Zav 22 11 #[.pointer (some ⟨g, 0, none⟩), .slice (some ⟨g13, 0, none⟩) 1 1] (fun _ => by kernel_rfl) (fun _ => by kernel_rfl) (R := fun u w' => (∃ a' c', u = .tuple #[.slice a' 1 c', .int .i64 0] /\ 1 <= c' /\ Bt (fun _ => True) w' a' 1 [[196, 130, 32, 97, 1]]) /\ Bl (w15) w') ((by have := Zth hT (fun V => Zwr V _ _) Zvf Zud (by decide) (by decide) hs18 (by omega); rw [show leaf (Ni.nib [97]) [1] = leaf [6, 1] [1] from rfl, Zsq] at this; exact this)) ?_
 rintro _ u6 ⟨⟨aP, cP, rfl, hcP, hP⟩, hb6⟩
 replace hB := hB.go hb6
 replace hT := hT.go hb6
 replace hs18 := hs18.go hb6
 refine rp 18 (.tuple #[.slice aP 1 cP, .int .i64 0]) <| rp 23 (.slice aP 1 cP) <| rp 24 (.int .i64 0) <| rp 2 (.slice aP 1 cP) <| rp 3 (.int .i64 0) <| Zad <| Zab <| Zac <| Zaa <| rp 26 (.pointer (some ⟨g, 0, none⟩)) <| Zav 27 14 #[.pointer (some ⟨g, 0, none⟩)] (fun _ => by kernel_rfl) (fun _ => by kernel_rfl) (R := fun u w' => u = .agg (B8 ds) /\ Bl (u6) w') (((Zqi hT).mono (fun e w' ⟨u, e1, e2, e3⟩ => ⟨u, e1, by rw [e2, hds], e3⟩))) ?_
 rintro _ u19 ⟨rfl, hb20⟩
 replace hB := hB.go hb20
 replace hT := hT.go hb20
 replace hs18 := hs18.go hb20
 replace hP := hP.go hb20
 refine Zdr 28 #[.int .u8 97] 5 1 (fun _ => by kernel_rfl) (fun _ => by kernel_rfl) ?_
 intro w21 g22 hn23
 obtain ⟨w24, hr25, hb26, hs27⟩ := Zkm (x := 97) (by omega) hn23 (K := fun b => True) (fun _ _ => trivial)
 refine rw_v 29 (.slice (some ⟨g22, 0, none⟩) 1 1) (fun _ => by kernel_rfl) (fun _ => hr25 _ _ _ rfl (by kernel_rfl)) ?_
 replace hB := hB.go hb26
 replace hT := hT.go hb26
 replace hs18 := hs18.go hb26
 replace hP := hP.go hb26
 refine rp 30 (.slice aP 1 cP) <| Zav 31 17 #[.agg (B8 ds), .slice (some ⟨g22, 0, none⟩) 1 1, .slice aP 1 cP] (fun _ => by kernel_rfl) (fun _ => by kernel_rfl) (R := fun u w' => (∃ a c, u = .tuple #[.slice a 1 c, .bool true, .int .i64 0] /\ Sk (fun _ => True) w' a 1 c [1]) /\ Bl (w24) w') (((Zfv hdl hdb hs27 hP hcP (fun b hb => by simp at hb; rw [hb]; decide)).mono (fun e w' ⟨u, e1, ⟨a, n, c, e2, e3⟩, e4⟩ => by rw [hva] at e2 e3; have hl : (1 : Nat) = n := e3.len; subst hl; exact ⟨u, e1, ⟨a, c, e2, e3.mono (fun _ _ => trivial)⟩, e4⟩))) ?_
 rintro _ u28 ⟨⟨av30, cv31, rfl, hs32⟩, hb29⟩
 replace hB := hB.go hb29
 replace hT := hT.go hb29
 replace hs18 := hs18.go hb29
 replace hP := hP.go hb29
 replace hs27 := hs27.go hb29
 refine rp 25 (.tuple #[.slice av30 1 cv31, .bool true, .int .i64 0]) <| rp 32 (.slice av30 1 cv31) <| rp 33 (.bool true) <| rp 34 (.int .i64 0) <| rp 4 (.slice av30 1 cv31) <| rp 5 (.bool true) <| rp 6 (.int .i64 0) <| Zad <| Zab <| Zac <| Zaa <| rp 36 (.pointer (some ⟨g, 0, none⟩)) ?_
 refine Zav 37 14 #[.pointer (some ⟨g, 0, none⟩)] (fun _ => by kernel_rfl) (fun _ => by kernel_rfl) (R := fun u w' => u = .agg (B8 ds) /\ Bl (u28) w') (((Zqi hT).mono (fun e w' ⟨u, e1, e2, e3⟩ => ⟨u, e1, by rw [e2, hds], e3⟩))) ?_
 rintro _ u33 ⟨rfl, hb34⟩
 replace hB := hB.go hb34
 replace hT := hT.go hb34
 replace hs18 := hs18.go hb34
 replace hP := hP.go hb34
 replace hs27 := hs27.go hb34
 replace hs32 := hs32.go hb34
 refine Zdr 38 #[.int .u8 98] 5 1 (fun _ => by kernel_rfl) (fun _ => by kernel_rfl) ?_
 intro w35 g36 hn37
 obtain ⟨w38, hr39, hb40, hs41⟩ := Zkm (x := 98) (by omega) hn37 (K := fun b => True) (fun _ _ => trivial)
 refine rw_v 39 (.slice (some ⟨g36, 0, none⟩) 1 1) (fun _ => by kernel_rfl) (fun _ => hr39 _ _ _ rfl (by kernel_rfl)) ?_
 replace hB := hB.go hb40
 replace hT := hT.go hb40
 replace hs18 := hs18.go hb40
 replace hP := hP.go hb40
 replace hs27 := hs27.go hb40
 replace hs32 := hs32.go hb40
 refine rp 40 (.slice aP 1 cP) <| Zav 41 17 #[.agg (B8 ds), .slice (some ⟨g36, 0, none⟩) 1 1, .slice aP 1 cP] (fun _ => by kernel_rfl) (fun _ => by kernel_rfl) (R := fun u w' => (∃ a c, u = .tuple #[.slice a 0 c, .bool false, .int .i64 0] /\ Sk (fun _ => True) w' a 0 c []) /\ Bl (w38) w') (((Zfv hdl hdb hs41 hP hcP (fun b hb => by simp at hb; rw [hb]; decide)).mono (fun e w' ⟨u, e1, ⟨a, n, c, e2, e3⟩, e4⟩ => by rw [hvb] at e2 e3; have hl : (0 : Nat) = n := e3.len; subst hl; exact ⟨u, e1, ⟨a, c, e2, e3.mono (fun _ _ => trivial)⟩, e4⟩))) ?_
 rintro _ u42 ⟨⟨av44, cv45, rfl, hs46⟩, hb43⟩
 replace hB := hB.go hb43
 replace hT := hT.go hb43
 replace hs18 := hs18.go hb43
 replace hP := hP.go hb43
 replace hs27 := hs27.go hb43
 replace hs32 := hs32.go hb43
 replace hs41 := hs41.go hb43
 refine rp 35 (.tuple #[.slice av44 0 cv45, .bool false, .int .i64 0]) <| rp 42 (.slice av44 0 cv45) <| rp 43 (.bool false) <| rp 44 (.int .i64 0) <| rp 7 (.slice av44 0 cv45) <| rp 8 (.bool false) <| rp 9 (.int .i64 0) <| Zad <| Zab <| Zac <| Zaa <| rp 45 (.int .i64 0) ?_
 refine rp 46 (.bool true) <| rp 47 (.bool true) <| rp 48 (.slice aP 1 cP) <| rp 49 (.int .i64 1) <| rp 50 (.bool true) <| rp 51 (.bool true) <| rp 52 (.bool true) <| rp 53 (.int .i64 0) <| rp 54 (.bool true) <| rp 55 (.bool true) <| rp 56 (.bool true) <| rp 57 (.bool true) ?_
 refine rp 58 (.bool true) <| rp 59 (.bool true) <| rp 60 (.slice av30 1 cv31) <| rv 61 (.string (strOfNums ([1]))) (fun _ => hs32.run_str _ _ _ rfl (by kernel_rfl)) <| rp 62 (.bool true) <| rp 63 (.bool true) <| rp 64 (.bool true) <| rp 65 (.int .i64 0) <| rp 66 (.bool true) <| rp 67 (.bool true) <| rp 68 (.bool true) <| rp 69 (.bool false) ?_
 refine rp 70 (.bool true) <| rp 71 (.bool true) <| rp 0 (.bool true) <| Zad <| Zab <| Zao ?_
 exact Zae (.bool true) (fun _ => by kernel_rfl) ⟨_, rfl, rfl, hB⟩
end Go.Proofs.YtefhepcplempkaaGreat
