/- A tree and a list in order that say the same; two ways to one tree. -/
import Derived.Test.YtefhepcplempkaaGreatG30
import Derived.Test.YtefhepcplempkaaGreatG00
import Derived.Test.YtefhepcplempkaaGreatG18
import Derived.Maps.AppendAt
import Derived.Laws.AppendOwnNone
set_option linter.unusedVariables false
set_option maxRecDepth 100000
namespace Go.Proofs.YtefhepcplempkaaGreat
open Tr
open Ni (lessP)
structure Rel (t : Tr) (l : PList) : Prop where
 s : SrtP l
 m : ∀ k x, (k, x) ∈ l ↔ (Byk k /\ k.length <= 32 /\ x ≠ [] /\ Tr.get t (Ni.nib k) = x)
 e : ∀ p, Nb p -> Tr.get t p ≠ [] -> ∃ k, Byk k /\ k.length <= 32 /\ p = Ni.nib k
 v : ∀ k x, (k, x) ∈ l -> x.length <= 256
 ok : t = no \/ Tr.Ok 64 t
def putL (l : PList) (k x : List Int) : PList := if k.length <= 32 /\ 0 < x.length /\ x.length <= 256 then putR k x l else l
def delL (l : PList) (k : List Int) : PList := if k.length <= 32 then delR k l else l
def Sup (u : Tr) (A : List Int -> Prop) : Prop := ∀ q, Nb q -> Tr.get u q ≠ [] -> ∃ k, A k /\ Byk k /\ k.length <= 32 /\ q = Ni.nib k
end Go.Proofs.YtefhepcplempkaaGreat
namespace Go.Proofs.YtefhepcplempkaaGreat
open Go.RowKit
open Tr
def flatP (vs : List (Value × Value)) : List Value := vs.flatMap fun p => [p.1, p.2]
theorem Zid : ∀ vs : List (Value × Value), (flatP vs).length = vs.length * 2
 | [] => rfl
 | p :: r => by have := Zid r; simp only [flatP, List.flatMap_cons, List.length_append, List.length_cons, List.length_nil] at this ⊢; omega
theorem Zrx (a b : List (Value × Value)) : flatP (a ++ b) = flatP a ++ flatP b := by simp [flatP]
theorem Zpe : ∀ (vs : List (Value × Value)) (m : Nat), flatP (vs.drop m) = (flatP vs).drop (m * 2)
 | [], m => by simp [flatP]
 | p :: r, 0 => by simp
 | p :: r, m + 1 => by
  rw [List.drop_succ_cons, Zpe r m, show (m + 1) * 2 = m * 2 + 1 + 1 from by omega]
  simp [flatP]
theorem Zlw : ∀ (vs : List (Value × Value)) (j : Nat) (p : Value × Value), vs[j]? = some p -> (flatP vs)[j * 2]? = some p.1 /\ (flatP vs)[j * 2 + 1]? = some p.2
 | [], j, p, h => by simp at h
 | q :: r, 0, p, h => by simp at h; subst h; simp [flatP]
 | q :: r, j + 1, p, h => by
  have := Zlw r j p (by simpa using h)
  rw [show (j + 1) * 2 = j * 2 + 1 + 1 from by omega]
  simpa [flatP] using this
def Gp2 (K : Nat -> Prop) (w : World) (p : Value × Value) (e : List Int × List Int) : Prop := ∃ a n c a' n' c', p.1 = .slice a n c /\ p.2 = .slice a' n' c' /\ Sk K w a n c e.1 /\ Sk K w a' n' c' e.2
theorem Gp2.mono {K K' : Nat -> Prop} {w : World} {p : Value × Value} {e : List Int × List Int} (h : Gp2 K w p e) (hK : ∀ b, K b -> K' b) : Gp2 K' w p e := by
 obtain ⟨a, n, c, a', n', c', h1, h2, h3, h4⟩ := h
 exact ⟨a, n, c, a', n', c', h1, h2, h3.mono hK, h4.mono hK⟩
theorem Gp2.go {K : Nat -> Prop} {w w' : World} {p : Value × Value} {e : List Int × List Int} (h : Gp2 K w p e) (hb : Below w.heap.size w w') : Gp2 K w' p e := by
 obtain ⟨a, n, c, a', n', c', h1, h2, h3, h4⟩ := h
 exact ⟨a, n, c, a', n', c', h1, h2, h3.go hb, h4.go hb⟩
structure PAt (K : Nat -> Prop) (w : World) (a : Option Addr) (n c : Nat) (vs : List (Value × Value)) (l : PList) : Prop where
 vl : vs.length = n
 ll : l.length = n
 nc : n <= c
 nil : a = none -> n = 0 /\ c = 0
 row : ∀ j u, (flatP vs)[j]? = some u -> ∃ g off, a = some ⟨g, off, none⟩ /\ w.cell? ⟨g, off + j, none⟩ = some u
 gd : ∀ (j : Nat) (p : Value × Value) (e : List Int × List Int), vs[j]? = some p -> l[j]? = some e -> Gp2 K w p e
 rk : ∀ x, a = some x -> 0 < n -> K x.block
section
variable {K : Nat → Prop} {w w' : World} {a : Option Addr} {n c : Nat} {vs : List (Value × Value)} {l : PList}
theorem PAt.mono {K' : Nat -> Prop} (h : PAt K w a n c vs l) (hK : ∀ b, K b -> K' b) : PAt K' w a n c vs l := ⟨h.vl, h.ll, h.nc, h.nil, h.row, fun j p e h1 h2 => (h.gd j p e h1 h2).mono hK, fun x hx hn => hK _ (h.rk x hx hn)⟩
theorem PAt.at (h : PAt K w a n c vs l) {j : Nat} (hj : j < n) : ∃ g off a1 n1 c1 a2 n2 c2 k x, a = some ⟨g, off, none⟩ /\ l[j]? = some (k, x) /\ w.cell? ⟨g, off + j * 2, none⟩ = some (.slice a1 n1 c1) /\ w.cell? ⟨g, off + j * 2 + 1, none⟩ = some (.slice a2 n2 c2) /\ Sk K w a1 n1 c1 k /\ Sk K w a2 n2 c2 x := by
 obtain ⟨p, hp⟩ : ∃ p, vs[j]? = some p := ⟨_, List.getElem?_eq_getElem (by rw [h.vl]; exact hj)⟩
 obtain ⟨e, he⟩ : ∃ e, l[j]? = some e := ⟨_, List.getElem?_eq_getElem (by rw [h.ll]; exact hj)⟩
 obtain ⟨a1, n1, c1, a2, n2, c2, h1, h2, h3, h4⟩ := h.gd j p e hp he
 obtain ⟨f1, f2⟩ := Zlw vs j p hp
 obtain ⟨g, off, e1, e2⟩ := h.row _ _ f1
 obtain ⟨g', off', e1', e2'⟩ := h.row _ _ f2
 rw [e1] at e1'
 cases e1'
 exact ⟨g, off, a1, n1, c1, a2, n2, c2, e.1, e.2, e1, he, by rw [e2, h1], by rw [Nat.add_assoc, e2', h2], h3, h4⟩
end
def OwnL (X : Nat -> Prop) (w : World) (base : Nat) (v : Value) (l : PList) : Prop := (∀ b, base <= b -> X b) /\ ∃ vs : List (Value × Value), vs.length = l.length /\ w.ownsRow base 51 2 v l.length (flatP vs) /\ ∀ (j : Nat) (p : Value × Value) (e : List Int × List Int), vs[j]? = some p -> l[j]? = some e -> Gp2 (fun b => v.ownBlock ≠ some b /\ X b) w p e
theorem KpU.putObj {U : Nat -> Prop} (M : Nat) {W : World} {l : Nat} {o : Obj} (o' : Obj) (hl : W.heap[l]? = some o) (ho : o.isCells = false) : KpU U M W (W.putObj l o') := ⟨by simp, fun k cs T fr _ _ _ hh => (World.putObj_heap_other (fun e => by subst e; rw [hh] at hl; cases hl; cases ho)).trans hh⟩
theorem Zr9 {m : Nat} {n : Nat} {Q : Exit -> Act -> World -> Prop} {env : Env} {w : World} {g : Operand} {p q : Tmp} {assign body : Code} (gf : Nat) (lb : Array Value) (hg : ∀ fb, ev env fb g = .func (.func gf) #[] lb) (hm : 1 <= m) (hp : p < n) (hq : q < n) (eg : ∀ args w, (callFunc gf args).run Tryz.prog w = .ok (.enter gf args) w)
  {U : Nat -> Prop} {L : PList} (hit : ∀ (l : Nat) (J : PList -> World -> Prop) (W : World), Below w.heap.size w W -> Vis l W.heap.size L U J (fun _ => False) -> J [] W -> Calls Tryz.prog gf (#[.func (.yield l) #[] #[]] ++ lb) W fun e W' => ∃ u, e = .returned u /\ J L W')
  (hU : ∀ b, U b -> b < w.heap.size)
  (I : PList -> World -> Prop) (hI : OwnFrom w.heap.size I) (h0 : I [] w) (Ax : Value -> Value -> Env -> Prop)
  (hassign : ∀ (l : Nat) (u v : Value) (W : World), CW (some l) (m - 1 - 1) Tryz.prog [] n (Exit.then (fun a' W' => W' = W /\ ∃ e, Frm [] n e a' /\ Ax u v e) (fun _ _ _ => False)) assign ((q, v) :: (p, u) :: env) W)
  (hbody : ∀ (l : Nat) (pre : PList) (W : World) (M : Nat) (a a' : Option Addr) (n1 c1 n2 c2 : Nat) (k x : List Int) (e : Env), w.heap.size <= l -> (∃ r, W.heap[l]? = some (.loop r)) -> I pre W -> (pre ++ [(k, x)]) <+: L -> w.heap.size < M -> M <= W.heap.size -> Sk (fun b => M <= b) W a n1 c1 k -> Sk (fun b => M <= b) W a' n2 c2 x -> Ax (.slice a n1 c1) (.slice a' n2 c2) e →
   CW (some l) (m - 1 - 1) Tryz.prog [] n (ownPostG w.heap.size (KpU U M) I (fun _ _ _ => False) (pre ++ [(k, x)]) W) body e W)
  (hdone : ∀ (D : Nat) (W : World), w.heap.size <= D -> I L W -> W.heap[D]? = some (.deferred (some [])) -> NW [{ target := .collected D, args := #[] }] n Q .normal env W) :
  CW none m Tryz.prog [] n Q (.rangeFunc g #[p, q] assign body) env w := fun a ha => by
 refine wpIn_rangeFunc (F := Fence.wide) ?_
 intro fn hfn
 obtain ⟨rec, hrec⟩ : ∃ rec : LoopState -> Option Code -> Loop, rec = fun st pe => { state := st, pending := pe, fn, tmps := a.tmps, params := #[p, q], assign, body, defers := w.heap.size } := ⟨_, rfl⟩
 obtain ⟨D, hD⟩ : ∃ D, w.heap.size = D := ⟨_, rfl⟩
 obtain ⟨W1, hW1⟩ : ∃ W1, (w.alloc (.deferred (some []))).alloc (.loop (rec .ready none)) = W1 := ⟨_, rfl⟩
 have hL1 : W1.heap[D + 1]? = some (.loop (rec .ready none)) := by
  rw [<- hW1, <- hD]; have := World.alloc_heap_new (w.alloc (.deferred (some []))) (.loop (rec .ready none)); rwa [World.size_alloc] at this
 have hK1 : W1.heap[D]? = some (.deferred (some [])) := by
  rw [<- hW1, <- hD]; exact (Below.heap_alloc _ _ _ (by simp)).trans (World.alloc_heap_new w _)
 have hI1 : I [] W1 := by rw [<- hW1]; exact hI.alloc _ (hI.alloc _ h0)
 have hs1 : W1.heap.size = D + 2 := by rw [<- hW1]; simp [hD]
 have hb1 : Below w.heap.size w W1 := by
  rw [<- hW1]; exact ((Below.refl _ w).alloc (Nat.le_refl _) _).alloc (by simp) _
 refine ⟨D + 1, [{ target := .collected D, args := #[] }], W1, { target := .fn (.func gf) lb, args := #[.func (.yield (D + 1)) #[] #[]] }, W1, gf, #[.func (.yield (D + 1)) #[] #[]] ++ lb, W1, ?_, ?_, ?_, ?_, fun _ => hm, ?_⟩
 ·rw [<- hW1, hrec, <- hD]; exact run_enterLoop_outer _ _ _ _ _
 ·simp only [resolve, show a.eval g = .func (.func gf) #[] lb from by rw [ha.ev]; exact hg _]
  simp [go_sem]
 ·intro f' hf'; exact trivial
 ·simp [invoke, go_sem, eg]
 ·refine callsIn_wide.2 ?_
  have V : Vis (D + 1) W1.heap.size L U (fun pre W => I pre W /\ W.heap[D + 1]? = some (.loop (rec .ready none)) /\ W.heap[D]? = some (.deferred (some []))) (fun _ => False) := by
   refine ⟨?_, fun h _ => h, fun b hu => Nat.lt_of_lt_of_le (hU b hu) hb1.size, ?_⟩
   ·rintro pre A B ⟨h1, h2, h3⟩ hAB
    exact ⟨hI pre A B none h1 (Zpb hAB) (fun r e => by cases e), (hAB.block _ (lt_of_get h2)).trans h2, (hAB.block _ (lt_of_get h3)).trans h3⟩
   ·rintro pre W M b1 b2 n1 c1 n2 c2 k x ⟨hi, hl, hk⟩ hN hM0 hM hs hs'
    have hlt : D + 1 < W.heap.size := lt_of_get hl
    have hy := run_yield (P := Tryz.prog) (args := #[.slice b1 n1 c1, .slice b2 n2 c2]) hl (by rw [hrec]; rfl)
    rw [hrec] at hy
    refine Zkt (m := m - 1 - 1) ⟨fn, _, assign, body, hy, roundIn_of_wpIn (F := Fence.wide) (n := m - 1 - 1) hfn ?_⟩
    have hfr : Frm [] n ((q, .slice b2 n2 c2) :: (p, .slice b1 n1 c1) :: env) { tmps := ((#[p, q] : Array Tmp).zip #[.slice b1 n1 c1, .slice b2 n2 c2]).foldl (fun t (p, v) => t.setIfInBounds p v) a.tmps, defers := [] } := by
     have := Zdm (Zdm (⟨rfl, ha.sz, ha.get⟩ : Frm [] n env { tmps := a.tmps, defers := [] }) hp (.slice b1 n1 c1)) hq (.slice b2 n2 c2)
     have e : ((#[p, q] : Array Tmp).zip #[Value.slice b1 n1 c1, .slice b2 n2 c2]).foldl (fun t (p, v) => t.setIfInBounds p v) a.tmps = (a.tmps.setIfInBounds p (.slice b1 n1 c1)).setIfInBounds q (.slice b2 n2 c2) := by simp
     rw [e]
     exact this
    refine wpIn_mono (hassign (D + 1) (.slice b1 n1 c1) (.slice b2 n2 c2) W _ hfr) ?_
    intro ex a' W' hq1
    cases ex with
    | normal =>
     obtain ⟨rfl, e, hF, hA⟩ := hq1
     refine ⟨_, run_beginRound hl (by rw [hrec]), ?_⟩
     have hkb : KpU U W'.heap.size W' (W'.putObj (D + 1) (.loop { rec .ready none with state := .busy })) := KpU.putObj _ _ hl rfl
     have hl2 : (W'.putObj (D + 1) (.loop { rec .ready none with state := .busy })).heap[D + 1]? = some (.loop { rec .ready none with state := .busy }) := World.putObj_heap_same hlt
     have hk2 : (W'.putObj (D + 1) (.loop { rec .ready none with state := .busy })).heap[D]? = some (.deferred (some [])) := (World.putObj_heap_other (by omega)).trans hk
     have hUM : ∀ b, M <= b -> ¬ U b := fun b hb hu => by have := hU b hu; omega
     refine wpIn_mono (hbody (D + 1) pre _ M b1 b2 n1 c1 n2 c2 k x e (by omega) ⟨_, hl2⟩ (hI.putObj _ hi (by omega) hl rfl) hN (by omega) (by simpa using hM) (hs.kp hkb (Nat.le_refl _) hUM) (hs'.kp hkb (Nat.le_refl _) hUM) hA a' hF) ?_
     intro ex a3 W3 hp3
     cases ex with
     | normal =>
      obtain ⟨hk3, hkp3, hi3⟩ := hp3
      have hl3 := hk3.same _ _ (by omega) hl2 rfl
      have hd3 := hk3.same _ _ (by omega) hk2 rfl
      have hr := run_endRound (P := Tryz.prog) none hl3
      refine ⟨_, _, hr, .inl ⟨rfl, ⟨hI.putObj _ hi3 (by omega) hl3 rfl, ?_, ?_⟩, ?_⟩⟩
      ·rw [hrec]; exact World.putObj_heap_same (lt_of_get hl3)
      ·exact (World.putObj_heap_other (by omega)).trans hd3
      ·exact ((KpU.putObj M _ hl rfl).trans hkp3 (Nat.le_refl _)).trans (KpU.putObj M _ hl3 rfl) (Nat.le_refl _)
     | exit id => exact hp3.2.elim
     | goto l => exact hp3.2.elim
     | ret => exact hp3.2.elim
     | panic ch => exact hp3.elim
     | outgrown => exact hp3.elim
    | exit id => exact hq1.elim
    | goto l => exact hq1.elim
    | ret => exact hq1.elim
    | panic ch => exact hq1.elim
    | outgrown => exact hq1.elim
  refine (hit (D + 1) _ W1 hb1 V ⟨hI1, hL1, hK1⟩).mono ?_
  rintro e W2 ⟨u, rfl, hi, hl, hk⟩
  refine ⟨none, _, by have := run_endLoop (P := Tryz.prog) hl (by rw [hrec]; simp); rw [hrec] at this; exact this, ?_⟩
  refine hdone D _ (by omega) (hI.putObj _ hi (by omega) hl rfl) ((World.putObj_heap_other (by omega)).trans hk) _ ⟨?_, ha.sz, ha.get⟩
  show _ :: a.defers = _
  rw [ha.df]
def isS (u : Value) : Prop := ∃ a n c, u = .slice a n c
def SlB (w : World) (v : Value) : Prop := ∀ k cur T fr, v.ownBlock = some k -> w.heap[k]? = some (.cells cur T fr) -> ∀ u ∈ cur.toList, isS u
theorem Znp {cs : Array Value} (h : ∀ u ∈ cs.toList, isS u) : ¬ Pr cs := by
 rintro ⟨j, v, h1, h2⟩
 rw [<- Array.getElem?_toList] at h1
 obtain ⟨a, n, c, rfl⟩ := h v (List.mem_of_getElem? h1)
 exact h2 a n c rfl
theorem Zsv (n : Nat) : ∀ u ∈ (Builtin.zeroCells #[.slice none 0 0, .slice none 0 0] n).toList, isS u := by
 intro u hu
 unfold Builtin.zeroCells at hu
 simp only [Array.toList_map, List.mem_map] at hu
 obtain ⟨i, _, rfl⟩ := hu
 rcases (show i % 2 = 0 \/ i % 2 = 1 by omega) with e | e
 ·exact ⟨none, 0, 0, by simp [e]⟩
 ·exact ⟨none, 0, 0, by simp [e]⟩
theorem SlB.go {w w' : World} {v : Value} (h : SlB w v) (hb : Below w.heap.size w w') (ho : ∀ k, v.ownBlock = some k -> k < w.heap.size) : SlB w' v := fun k cur T fr hk hh => h k cur T fr hk (by rw [<- hb.block k (ho k hk)]; exact hh)
theorem SlB.nil (w : World) : SlB w (.slice none 0 0) := fun k cur T fr hk => by simp [Value.ownBlock] at hk
theorem Zyk {P : Program} {w : World} {base : Nat} {t ty e : TypeId} {i : TypeInfo} (ht : P.underlying t = some (.slice e)) (hi : P.info? e = some i) (hz : i.zero = some (.agg #[.slice none 0 0, .slice none 0 0])) (hsize : i.size = 2) (hby : i.bytes = 48)
  {v : Value} {n : Nat} {xs : List Value} (hown : w.ownsRow base e 2 v n xs) (hs : SlB w v) {a : Addr} {m c : Nat} {news : List Value} (hl : news.length = m * 2) (hnews : ∀ j u, news[j]? = some u -> w.cell? (a.add j) = some u) (hsn : ∀ u ∈ news, isS u) (hm : 0 < m)
  (h63 : n + m <= maxLen) (hbytes : (n + m) * 48 <= 140737488355328) {v' : Value} {w' : World} (hr : (Builtin.append_ #[t, t] ty #[v, .slice (some a) m c]).run P w = .ok v' w') : SlB w' v' := by
 have h1 : ∀ u ∈ news, u.oneCell' = true := fun u hu => by obtain ⟨_, _, _, rfl⟩ := hsn u hu; rfl
 have hsmall : n + m <= 9223372036854775807 := by simp only [maxLen] at h63; omega
 have hxs : ∀ {g cap : Nat}, v = .slice (some ⟨g, 0, none⟩) n cap -> ∀ u ∈ xs, isS u := by
  intro g cap ev u hu
  rcases hown.2 with ⟨rfl, rfl⟩ | ⟨g', cap', cur, rfl, hbg, hg, hnc, hcm, hcs, htake⟩
  ·cases ev
  ·exact hs g' cur e (0, 0) rfl hg u (by rw [<- htake] at hu; exact List.mem_of_mem_take hu)
 have hnew : ∀ {ys : List Value} {q : Nat}, (∀ u ∈ ys, isS u) -> ∀ u ∈ (ys.toArray ++ news.toArray ++ Builtin.zeroCells #[.slice none 0 0, .slice none 0 0] q).toList, isS u := by
  intro ys q hy u hu
  simp only [Array.toList_append, List.mem_append] at hu
  rcases hu with (hu | hu) | hu
  ·exact hy u hu
  ·exact hsn u hu
  ·exact Zsv _ u hu
 have hal : ∀ {cs : Array Value} {q r : Nat}, (∀ u ∈ cs.toList, isS u) -> SlB (w.drew.alloc (.cells cs e)) (.slice (some ⟨w.heap.size, 0, none⟩) q r) := by
  intro cs q r hcs k cur T fr hk hh
  simp only [Value.ownBlock, Option.some.injEq] at hk
  subst hk
  rw [show w.heap.size = w.drew.heap.size from rfl, heap_alloc_new w.drew] at hh
  cases hh
  exact hcs
 rcases id hown.2 with ⟨rfl, rfl⟩ | ⟨g, cap, cur, rfl, hbg, hg, hnc, hcm, hcs, htake⟩
 ·have hq := run_append_nil (P := P) w t ty e i _ ht hi hz a m c news (by rw [hsize]; exact hl) hnews hm (by omega) (by rw [hby]; omega)
  rw [hq] at hr
  cases hr
  refine hal ?_
  have := hnew (ys := []) (q := grownCap w m 0 e - m) (fun u hu => by cases hu)
  rw [show ([] : List Value).toArray = #[] from rfl, Array.empty_append] at this
  exact this
 ·by_cases hroom : n + m <= cap
  ·have hfit : n * i.size + news.length <= cur.size := by rw [hl, hcs, hsize, <- Nat.add_mul]; exact Nat.mul_le_mul_right _ hroom
   have hq := run_append_room (P := P) w t ty e i ht hi g n cap cur hg a m c news (by rw [hsize]; exact hl) hnews h1 hroom hfit
   rw [hq] at hr
   cases hr
   intro k cur' T fr hk hh
   simp only [Value.ownBlock, Option.some.injEq] at hk
   subst hk
   rw [setRow_heap w g cur _ e _ hg] at hh
   cases hh
   intro u hu
   have hcu := hs g cur e (0, 0) rfl hg
   simp only [List.mem_append] at hu
   rcases hu with (hu | hu) | hu
   ·exact hcu u (List.mem_of_mem_take hu)
   ·exact hsn u hu
   ·exact hcu u (List.mem_of_mem_drop hu)
  ·have holds : ∀ j u, xs[j]? = some u -> w.cell? ((⟨g, 0, none⟩ : Addr).add j) = some u := hown.cells (g := g) rfl
   have hq := run_append_grow (P := P) w t ty e i _ ht hi hz ⟨g, 0, none⟩ n cap xs (by rw [hsize]; exact hown.1) holds a m c news (by rw [hsize]; exact hl) hnews (by omega) (by omega) (by rw [hby]; exact growslice_fits (by omega) hbytes)
   rw [hq] at hr
   cases hr
   exact hal (hnew (hxs rfl))
section
variable {r : Option Nat} {m : Nat} {P : Program} {ds : List Deferred} {n : Nat} {Q : Exit → Act → World → Prop} {env : Env} {w : World}
end
theorem Sk.nsl {K : Nat -> Prop} {w : World} {v : Value} {a : Option Addr} {n c : Nat} {bs : List Int} (h : Sk K w a n c bs) (hs : SlB w v) : Sk (fun b => K b /\ v.ownBlock ≠ some b) w a n c bs := ⟨h.ag, fun x hx hn => ⟨h.k x hx hn, fun e => by
 rcases h.ag.i with ⟨h1, _⟩ | ⟨gb, off, h1, h2, h3, h4, h5, h7⟩
 ·omega
 ·rw [h1] at hx; cases hx
  obtain ⟨cs, T, fr, e1, e2⟩ := Zfr (h7 0 (by have := h.len; omega))
  refine Znp (hs gb cs T fr e e1) ⟨_, _, e2, fun _ _ _ => by simp⟩⟩⟩
def OwnE (X : Nat -> Prop) (w : World) (base : Nat) (v : Value) (l : PList) : Prop := (∀ b, base <= b -> X b) /\ ∃ vs : List (Value × Value), vs.length = l.length /\ w.ownsRow base 95 2 v l.length (flatP vs) /\ ∀ (j : Nat) (p : Value × Value) (e : List Int × List Int), vs[j]? = some p -> l[j]? = some e -> Gp2 (fun b => v.ownBlock ≠ some b /\ X b) w p e
theorem OwnE.pat {X : Nat -> Prop} {w : World} {base : Nat} {v : Value} {l : PList} (h : OwnE X w base v l) : ∃ a c vs, v = .slice a l.length c /\ PAt X w a l.length c vs l := by
 obtain ⟨hX, vs, h1, ⟨h2, h3⟩, h4⟩ := h
 rcases h3 with ⟨rfl, h5⟩ | ⟨g, cap, cur, rfl, hbg, hg, hc1, hc2, hc3, hc4⟩
 ·refine ⟨none, 0, vs, by rw [h5], h1, rfl, by omega, fun _ => ⟨h5, rfl⟩, fun j u hj => ?_, fun j p e q1 q2 => (h4 j p e q1 q2).mono (fun _ h => h.2), fun x hx => by cases hx⟩
  have : vs = [] := List.eq_nil_of_length_eq_zero (by omega)
  subst this; simp [flatP] at hj
 ·refine ⟨some ⟨g, 0, none⟩, cap, vs, rfl, h1, rfl, hc1, (fun e => by cases e), fun j u hj => ⟨g, 0, rfl, ?_⟩, fun j p e q1 q2 => (h4 j p e q1 q2).mono (fun _ h => h.2), fun x hx _ => by cases hx; exact hX _ hbg⟩
  rw [cell_of_row _ _ _ _ _ _ hg, Nat.zero_add]
  have hlt : j < (flatP vs).length := (List.getElem?_eq_some_iff.1 hj).1
  rw [Zid, h1] at hlt
  rw [<- hc4, List.getElem?_take_of_lt (by omega)] at hj
  rw [<- Array.getElem?_toList]; exact hj
theorem Zu4 : ∃ i, Tryz.prog.info? 95 = some i /\ i.zero = some (.agg #[.slice none 0 0, .slice none 0 0]) /\ i.size = 2 /\ i.bytes = 48 := by
 have h : (Tryz.prog.info? 95).map (fun i => (i.zero, i.size, i.bytes)) = some (some (.agg #[.slice none 0 0, .slice none 0 0]), 2, 48) := by kernel_rfl
 cases hq : Tryz.prog.info? 95 with
 | none => rw [hq] at h; simp at h
 | some i => rw [hq] at h; simp at h; exact ⟨i, rfl, h.1, h.2.1, h.2.2⟩
theorem OwnE.far {X : Nat -> Prop} {w w' : World} {base : Nat} {v : Value} {l : PList} (h : OwnE X w base v l) (hb : Below w.heap.size w w') : OwnE X w' base v l := by
 obtain ⟨hX, vs, h1, ⟨h2, h3⟩, h4⟩ := h
 refine ⟨hX, vs, h1, ⟨h2, ?_⟩, fun j p e q1 q2 => (h4 j p e q1 q2).go hb⟩
 rcases h3 with q | ⟨g, cap, cur, e1, e2, e3, e4⟩
 ·exact .inl q
 ·exact .inr ⟨g, cap, cur, e1, e2, (hb.block g (lt_of_get e3)).trans e3, e4⟩
theorem OwnE.own {X : Nat -> Prop} {w : World} {base : Nat} {v : Value} {l : PList} (h : OwnE X w base v l) : ∀ k, v.ownBlock = some k -> base <= k /\ k < w.heap.size := by
 obtain ⟨hX, vs, h1, ⟨h2, h3⟩, h4⟩ := h
 intro k hk
 rcases h3 with ⟨rfl, _⟩ | ⟨g, cap, cur, rfl, hbg, hg, _⟩
 ·cases hk
 ·have e : g = k := by simpa [Value.ownBlock] using hk
  subst e
  exact ⟨hbg, lt_of_get hg⟩
theorem appEQ {X : Nat -> Prop} {w : World} {base : Nat} {v : Value} {l : PList} (hown : OwnE X w base v l) {K : Nat -> Prop} {a : Option Addr} {m c : Nat} {vs' : List (Value × Value)} {l' : PList} (h : PAt K w a m c vs' l') (hK : ∀ b, K b -> v.ownBlock ≠ some b /\ X b) (hlen : l.length + m <= 2932031007400) (hbase : base <= w.heap.size) :
  ∃ v' w', (∀ ty, (Builtin.append_ #[55, 55] ty #[v, .slice a m c]).run Tryz.prog w = .ok v' w') /\ OwnE X w' base v' (l ++ l') /\ Below base w w' /\ (∀ k, k < w.heap.size -> v.ownBlock ≠ some k -> w'.heap[k]? = w.heap[k]?) /\ (v'.ownBlock = v.ownBlock \/ v'.ownBlock = some w.heap.size) := by
 obtain ⟨i, hi, hz, hsz, hby⟩ := Zu4
 have hOw := hown.own
 obtain ⟨hX, vs, h1, h2, h4⟩ := id hown
 cases a with
 | none =>
  obtain ⟨rfl, rfl⟩ := h.nil rfl
  have hn0 : l' = [] := List.eq_nil_of_length_eq_zero h.ll
  subst hn0
  exact ⟨v, w, fun ty => run_append_owned_none w base 55 ty 95 i 2 Tryz.underlying55 hi v _ _ h2, by rw [List.append_nil]; exact hown, Below.refl _ _, fun _ _ _ => rfl, .inl rfl⟩
 | some ad =>
  have hc : ∀ j u, (flatP vs')[j]? = some u -> w.cell? (ad.add j) = some u := by
   intro j u hj
   obtain ⟨g, off, e1, e2⟩ := h.row j u hj
   cases e1
   rw [Zaz]; exact e2
  have hone : ∀ u ∈ flatP vs', u.oneCell' = true := by
   intro u hu
   obtain ⟨p, hp, hup⟩ := List.mem_flatMap.1 hu
   obtain ⟨j, hj, e⟩ := List.mem_iff_getElem.1 hp
   have hjl : j < l'.length := by rw [h.ll, <- h.vl]; exact hj
   obtain ⟨a1, n1, c1, a2, n2, c2, q1, q2, _, _⟩ := h.gd j p l'[j] (by rw [List.getElem?_eq_getElem hj, e]) (List.getElem?_eq_getElem hjl)
   simp at hup
   rcases hup with q | q
   ·rw [q, q1]; rfl
   ·rw [q, q2]; rfl
  obtain ⟨v', w', r1, r2, r3, _, r5⟩ := run_append_own_at w base 55 0 95 i _ 2 48 Tryz.underlying55 hi hz hsz hby rfl (by decide) v l.length (flatP vs) h2 ad m c (flatP vs') (by rw [Zid, h.vl]) hc hone (by unfold maxLen; omega) (by omega) hbase
  have hkeep : ∀ {K' : Nat -> Prop} {p : Value × Value} {e : List Int × List Int}, (∀ b, K' b -> v.ownBlock ≠ some b /\ X b) -> Gp2 K' w p e -> Gp2 (fun b => v'.ownBlock ≠ some b /\ X b) w' p e := by
   intro K' p e hK' hg
   obtain ⟨a1, n1, c1, a2, n2, c2, q1, q2, q3, q4⟩ := hg
   have hsk : ∀ {a : Option Addr} {n c : Nat} {bs : List Int}, Sk K' w a n c bs -> Sk (fun b => v'.ownBlock ≠ some b /\ X b) w' a n c bs := by
    intro a n c bs hs
    refine ⟨⟨?_, hs.ag.nil, hs.ag.l, hs.ag.b⟩, fun x hx hn => ?_⟩
    ·rcases hs.ag.i with q | ⟨gb, off, q1, q2, q3, q4, q5, q7⟩
     ·exact .inl q
     ·refine .inr ⟨gb, off, q1, q2, q3, q4, q5, fun j hj => ?_⟩
      rw [<- q7 j hj]
      exact World.cell?_of_block (r3.block gb (block_lt_of_cell (q7 j hj)) (fun e => (hK' _ (hs.k _ q1 q3)).1 e.symm))
    ·refine ⟨?_, (hK' _ (hs.k x hx hn)).2⟩
     rcases r5 with q | q
     ·rw [q]; exact (hK' _ (hs.k x hx hn)).1
     ·rw [q]; intro e; have := hs.old hx hn; simp at e; omega
   exact ⟨a1, n1, c1, a2, n2, c2, q1, q2, hsk q3, hsk q4⟩
  refine ⟨v', w', fun ty => r1, ⟨hX, vs ++ vs', by simp [h1, h.vl, h.ll], ?_, ?_⟩, ?_, fun k hk hn => r3.block k hk (fun e => hn e.symm), r5⟩
  ·rw [List.length_append, h.ll, Zrx]; exact r2
  ·intro j p e q1 q2
   by_cases hj : j < vs.length
   ·rw [List.getElem?_append_left hj] at q1
    rw [List.getElem?_append_left (by omega)] at q2
    exact hkeep (fun b hb => hb) (h4 j p e q1 q2)
   ·rw [List.getElem?_append_right (by omega)] at q1
    rw [List.getElem?_append_right (by omega), <- h1] at q2
    exact hkeep hK (h.gd _ p e q1 q2)
  ·exact (Below.refl _ _).grown r3 hbase (fun k hk => (hOw k hk).1)
theorem PAt.oneE {K : Nat -> Prop} {w w' : World} {g : Nat} {a a' : Option Addr} {n c n' c' : Nat} {k x : List Int} (h : New w w' g #[.slice a n c, .slice a' n' c'] 95) (h1 : Sk K w a n c k) (h2 : Sk K w a' n' c' x) (hKg : K g) : PAt K w' (some ⟨g, 0, none⟩) 1 1 [(.slice a n c, .slice a' n' c')] [(k, x)] := by
 refine ⟨rfl, rfl, Nat.le_refl _, (fun e => by cases e), fun j u hj => ⟨g, 0, rfl, ?_⟩, (fun j p e q1 q2 => ?_), fun x hx _ => by cases hx; exact hKg⟩
 ·rw [cell_of_row _ _ _ _ _ _ h.row, Nat.zero_add]
  match j, hj with
  | 0, hj => exact hj
  | 1, hj => exact hj
  | j + 2, hj => simp [flatP] at hj
 ·match j, q1, q2 with
  | 0, q1, q2 =>
   simp at q1 q2
   subst q1 q2
   exact ⟨a, n, c, a', n', c', rfl, rfl, h1.go h.below, h2.go h.below⟩
  | j + 1, q1, _ => simp at q1
theorem Zw5 {X : Nat -> Prop} {w : World} {base : Nat} {v : Value} {l : PList} (hown : OwnE X w base v l) (hs : SlB w v) {K : Nat -> Prop} {g : Nat} {p : Value × Value} {e : List Int × List Int} (h : PAt K w (some ⟨g, 0, none⟩) 1 1 [p] [e]) (hK : ∀ b, K b -> v.ownBlock ≠ some b /\ X b) (hlen : l.length + 1 <= 2932031007400) (hbase : base <= w.heap.size) :
  ∃ v' w', (∀ ty, (Builtin.append_ #[55, 55] ty #[v, .slice (some ⟨g, 0, none⟩) 1 1]).run Tryz.prog w = .ok v' w') /\ OwnE X w' base v' (l ++ [e]) /\ SlB w' v' /\ Below base w w' /\ (∀ k, k < w.heap.size -> v.ownBlock ≠ some k -> w'.heap[k]? = w.heap[k]?) /\ (v'.ownBlock = v.ownBlock \/ v'.ownBlock = some w.heap.size) := by
 obtain ⟨v', w', h1, h2, h3, h4, h5⟩ := appEQ hown h hK hlen hbase
 refine ⟨v', w', h1, h2, ?_, h3, h4, h5⟩
 obtain ⟨i, hi, hz, hsz, hby⟩ := Zu4
 obtain ⟨hX, vs, q1, q2, q4⟩ := id hown
 obtain ⟨a1, n1, c1, a2, n2, c2, e1, e2, _, _⟩ := h.gd 0 p e rfl rfl
 refine Zyk (ty := 0) (m := 1) (c := 1) (a := ⟨g, 0, none⟩) (news := flatP [p]) Tryz.underlying55 hi hz hsz hby q2 hs (by simp [flatP]) (fun j u hj => ?_) (fun u hu => ?_) (by omega) (by unfold maxLen; omega) (by omega) (h1 0)
 ·obtain ⟨g', off, e3, e4⟩ := h.row j u hj
  cases e3
  rw [Zaz]; exact e4
 ·simp only [flatP, List.flatMap_cons, List.flatMap_nil, List.append_nil, List.mem_cons, List.not_mem_nil, or_false] at hu
  rcases hu with rfl | rfl
  ·exact ⟨a1, n1, c1, e1⟩
  ·exact ⟨a2, n2, c2, e2⟩
theorem Zwi {X Y : World} {B : Nat} {row : Option Nat} (hg : X.grownBy Y row) (hrow : ∀ r, row = some r -> B <= r /\ ∃ o : Obj, X.heap[r]? = some o /\ o.isCells = false) (k : Nat) (cs : Array Value) (T : TypeId) (fr : Nat × Nat) (hh : X.heap[k]? = some (.cells cs T fr)) : Y.heap[k]? = some (.cells cs T fr) := (hg.block k (lt_of_get hh) (fun e => by
 obtain ⟨_, o, ho, hc⟩ := hrow k e.symm
 rw [hh] at ho; cases ho; cases hc)).trans hh
theorem OwnE.cells {X : Nat -> Prop} {w w' : World} {base : Nat} {v : Value} {l : PList} (h : OwnE X w base v l) (hz : w.heap.size <= w'.heap.size) (hc : ∀ (k : Nat) (cs : Array Value) (T : TypeId) (fr : Nat × Nat), w.heap[k]? = some (Obj.cells cs T fr) -> w'.heap[k]? = some (Obj.cells cs T fr)) : OwnE X w' base v l := by
 obtain ⟨hX, vs, h1, ⟨h2, h3⟩, h4⟩ := h
 have hk : KpU (fun _ => False) w.heap.size w w' := ⟨hz, fun k cs T fr _ _ _ hh => hc k cs T fr hh⟩
 refine ⟨hX, vs, h1, ⟨h2, ?_⟩, fun j p e q1 q2 => ?_⟩
 ·rcases h3 with q | ⟨g, cap, cur, e1, e2, e3, e4⟩
  ·exact .inl q
  ·exact .inr ⟨g, cap, cur, e1, e2, hc g _ _ _ e3, e4⟩
 ·obtain ⟨a1, n1, c1, a2, n2, c2, e1, e2, e3, e4⟩ := h4 j p e q1 q2
  exact ⟨a1, n1, c1, a2, n2, c2, e1, e2, e3.kp hk (Nat.le_refl _) (fun _ _ h => h), e4.kp hk (Nat.le_refl _) (fun _ _ h => h)⟩
theorem OwnE.row {X : Nat -> Prop} {w : World} {base : Nat} {v : Value} {l : PList} (h : OwnE X w base v l) : ∀ k, v.ownBlock = some k -> ∃ cs, w.heap[k]? = some (.cells cs 95 (0, 0)) := by
 obtain ⟨hX, vs, h1, ⟨h2, h3⟩, h4⟩ := h
 intro k hk
 rcases h3 with ⟨rfl, _⟩ | ⟨g, cap, cur, rfl, hbg, hg, _⟩
 ·simp [Value.ownBlock] at hk
 ·simp only [Value.ownBlock, Option.some.injEq] at hk
  subst hk
  exact ⟨cur, hg⟩
theorem SlB.cells {X : Nat -> Prop} {w w' : World} {base : Nat} {v : Value} {l : PList} (hs : SlB w v) (h : OwnE X w base v l) (hc : ∀ (k : Nat) (cs : Array Value) (T : TypeId) (fr : Nat × Nat), w.heap[k]? = some (Obj.cells cs T fr) -> w'.heap[k]? = some (Obj.cells cs T fr)) : SlB w' v := fun k cur T fr hk hh => by
 obtain ⟨cs, e⟩ := h.row k hk
 have := hc k _ _ _ e
 rw [this] at hh; cases hh
 exact hs k _ _ _ hk e
structure EnI (w V : World) (gA : Nat) (pre : PList) (W : World) : Prop where
 b : Bl w W
 ex : ∃ v, Rw gA W #[v] 55 /\ OwnE (fun b => b ≠ gA) W V.heap.size v pre /\ SlB W v
 kp : ∀ (k : Nat) (cs : Array Value) (T : TypeId) (fr : Nat × Nat), k ≠ gA -> V.heap[k]? = some (Obj.cells cs T fr) -> W.heap[k]? = some (Obj.cells cs T fr)
 sz : V.heap.size <= W.heap.size
theorem EnI.own {w V : World} {gA : Nat} {B : Nat} (hB : w.heap.size <= B) : OwnFrom B (EnI w V gA) := fun pre X Y row hs hg hrow => by
 obtain ⟨v, h1, h2, h3⟩ := hs.ex
 have hc := Zwi hg hrow
 exact ⟨Below.grown hs.b hg hs.b.size (fun k e => Nat.le_trans hB (hrow k e).1), ⟨v, hc _ _ _ _ h1, h2.cells hg.size hc, h3.cells h2 hc⟩, fun k cs T fr hk hh => hc _ _ _ _ (hs.kp k cs T fr hk hh), Nat.le_trans hs.sz hg.size⟩
theorem OwnE.none {X : Nat -> Prop} {w : World} {base : Nat} (hX : ∀ b, base <= b -> X b) : OwnE X w base (.slice none 0 0) [] := ⟨hX, [], rfl, World.ownsRow_nil w base _ 2, fun j p e q => by simp at q⟩
theorem OwnE.one {X : Nat -> Prop} {w : World} {base : Nat} {v : Value} {l : PList} (h : OwnE X w base v l) : v.oneCell' = true := by
 obtain ⟨a, c, vs, rfl, _⟩ := h.pat
 rfl
theorem OwnE.cel {X : Nat -> Prop} {w : World} {base : Nat} {v : Value} {l : PList} (h : OwnE X w base v l) : v.cells = #[v] := by
 obtain ⟨a, c, vs, rfl, _⟩ := h.pat
 rfl
theorem OwnE.tou {gL : Nat} {w w' : World} {base : Nat} {v : Value} {l : PList} (h : OwnE (fun b => b ≠ gL) w base v l) (ht : Touch gL w w') (hg : gL < base) : OwnE (fun b => b ≠ gL) w' base v l := by
 obtain ⟨hX, vs, h1, ⟨h2, h3⟩, h4⟩ := h
 refine ⟨hX, vs, h1, ⟨h2, ?_⟩, fun j p e q1 q2 => ?_⟩
 ·rcases h3 with q | ⟨g, cap, cur, e1, e2, e3, e4⟩
  ·exact .inl q
  ·exact .inr ⟨g, cap, cur, e1, e2, (ht.block g (lt_of_get e3) (by omega)).trans e3, e4⟩
 ·obtain ⟨a1, n1, c1, a2, n2, c2, e1, e2, e3, e4⟩ := h4 j p e q1 q2
  exact ⟨a1, n1, c1, a2, n2, c2, e1, e2, e3.tou ht (fun hb => hb.2 rfl), e4.tou ht (fun hb => hb.2 rfl)⟩
end Go.Proofs.YtefhepcplempkaaGreat
