/- Slices of bytes in blocks of which something is said; slices cut, texts of bytes, appends. -/
import Derived.Test.YtchgejomcgoaeaaGreatG14
import Derived.Test.YtchgejomcgoaeaaGreatG15
import Derived.Lib.AppendZeros
import Derived.RangeFuncNested
import Derived.Maps.RangeRun
import Derived.Deep.WholeRow
set_option linter.unusedVariables false
set_option maxRecDepth 100000
namespace Go.Proofs.YtchgejomcgoaeaaGreat
open Go.RowKit
variable {w : World} {base : Nat}
structure Sk (K : Nat → Prop) (w : World) (a : Option Addr) (n c : Nat) (bs : List Int) : Prop where
  ag : Ag w a n c bs
  k : ∀ x, a = some x → 0 < n → K x.block
section
variable {K : Nat → Prop} {w w' : World} {a : Option Addr} {n c : Nat} {bs : List Int}
theorem Sk.go (h : Sk K w a n c bs) (hb : Below w.heap.size w w') : Sk K w' a n c bs := ⟨h.ag.at hb, h.k⟩
theorem Sk.nil (K : Nat → Prop) (w : World) : Sk K w none 0 0 [] := ⟨⟨.inl ⟨rfl, rfl⟩, fun _ => ⟨rfl, rfl⟩, rfl, fun x hx => by cases hx⟩, fun x h => by cases h⟩
theorem Sk.len (h : Sk K w a n c bs) : bs.length = n := h.ag.l
theorem Sk.from (h : Sk K w a n c bs) (f : Nat) (hf : f ≤ n) : Sk K w (if c = f then a else a.map (·.add (f * 1))) (n - f) (c - f) (bs.drop f) := by
 have hl := h.len
 refine ⟨⟨?_, ?_, by simp [hl], fun x hx => h.ag.b x (List.mem_of_mem_drop hx)⟩, ?_⟩
 ·rcases h.ag.i with ⟨h1, h2⟩ | ⟨gb, off, h1, h2, h3, h4, h5, h7⟩
  ·exact .inl ⟨by omega, by simp [h2]⟩
  ·by_cases hn : n - f = 0
   ·exact .inl ⟨hn, List.drop_eq_nil_of_le (by omega)⟩
   ·refine .inr ⟨gb, off + f, ?_, by simp [hl], by omega, by omega, by omega, fun j hj => ?_⟩
    ·rw [if_neg (by omega), h1, Option.map_some, Zbb, Nat.mul_one]
    ·rw [List.length_drop] at hj
     rw [show off + f + j = off + (f + j) from by omega, h7 (f + j) (by omega)]
     simp [List.getD_eq_getElem?_getD, List.getElem?_drop]
 ·intro e
  have : a = none := by
   by_cases hc : c = f
   ·rw [if_pos hc] at e; exact e
   ·rw [if_neg hc] at e; simpa using e
  have := h.ag.nil this
  omega
 ·intro x hx hn
  rcases h.ag.i with ⟨h1, h2⟩ | ⟨gb, off, h1, h2, h3, h4, h5, h7⟩
  ·omega
  ·have hk := h.k _ h1 (by omega)
   by_cases hc : c = f
   ·omega
   ·rw [if_neg hc, h1, Option.map_some, Zbb] at hx
    cases hx
    exact hk
theorem Sk.upto (h : Sk K w a n c bs) (f : Nat) (hf : f ≤ n) : Sk K w (if c = 0 then a else a.map (·.add (0 * 1))) f c (bs.take f) := by
 have hl := h.len
 have ha : ∀ gb off, a = some ⟨gb, off, none⟩ → (if c = 0 then a else a.map (·.add (0 * 1))) = some ⟨gb, off, none⟩ := by
  intro gb off e
  split
  ·exact e
  ·rw [e, Option.map_some, Zbb, Nat.mul_one, Nat.add_zero]
 refine ⟨⟨?_, ?_, by simp; omega, fun x hx => h.ag.b x (List.mem_of_mem_take hx)⟩, ?_⟩
 ·rcases h.ag.i with ⟨h1, h2⟩ | ⟨gb, off, h1, h2, h3, h4, h5, h7⟩
  ·exact .inl ⟨by omega, by simp [h2]⟩
  ·by_cases hn : f = 0
   ·exact .inl ⟨hn, by simp [hn]⟩
   ·refine .inr ⟨gb, off, ha gb off h1, by simp; omega, by omega, by omega, h5, fun j hj => ?_⟩
    rw [List.length_take] at hj
    rw [h7 j (by omega)]
    simp [List.getD_eq_getElem?_getD, List.getElem?_take_of_lt (show j < f by omega)]
 ·intro e
  have : a = none := by
   by_cases hc : c = 0
   ·rw [if_pos hc] at e; exact e
   ·rw [if_neg hc] at e; simpa using e
  have := h.ag.nil this
  omega
 ·intro x hx hn
  rcases h.ag.i with ⟨h1, h2⟩ | ⟨gb, off, h1, h2, h3, h4, h5, h7⟩
  ·omega
  ·rw [ha gb off h1] at hx
   cases hx
   exact h.k _ h1 (by omega)
theorem Sk.cap (h : Sk K w a n c bs) (hn : 0 < n) : n ≤ c := by
 rcases h.ag.i with ⟨h1, h2⟩ | ⟨gb, off, h1, h2, h3, h4, h5, h7⟩ <;> omega
theorem Sk.run_from (h : Sk K w a n c bs) (f : Nat) (hf : f ≤ n) (v : World) (ρ : Operand → Value) (o : Oper) (x y : Operand) (i : Int) (ho : o.op = .slice 29 x (some y) none none) (hx : ρ x = .slice a n c) (hy : ρ y = .int .i64 i) (hi : i = f) :
    (execOp ρ o).run Tryz.prog v = .ok (.value (.slice (if c = f then a else a.map (·.add (f * 1))) (n - f) (c - f))) v := by
  subst hi
  unfold execOp
  rw [ho]
  simp [hx, hy, Instr.sliceAt, run_underlying Tryz.underlying29, Instr.slice, Instr.sliceBounds, Instr.sliceBound, asIntOf, hf, Result.andThen]
theorem Sk.run_upto (h : Sk K w a n c bs) (f : Nat) (hf : f ≤ n) (v : World) (ρ : Operand → Value) (o : Oper) (x y : Operand) (i : Int) (ho : o.op = .slice 29 x none (some y) none) (hx : ρ x = .slice a n c) (hy : ρ y = .int .i64 i) (hi : i = f) :
    (execOp ρ o).run Tryz.prog v = .ok (.value (.slice (if c = 0 then a else a.map (·.add (0 * 1))) f c)) v := by
  subst hi
  unfold execOp
  rw [ho]
  have h2 : f ≤ c := by
    by_cases hn : 0 < n
    · have := h.cap hn; omega
    · omega
  simp [hx, hy, Instr.sliceAt, run_underlying Tryz.underlying29, Instr.slice, Instr.sliceBounds, Instr.sliceBound, asIntOf, h2, Result.andThen]
theorem Sk.run_str (h : Sk K w a n c bs) (ρ : Operand → Value) (o : Oper) (x : Operand) (ho : o.op = .convert 29 9 x) (hx : ρ x = .slice a n c) : (execOp ρ o).run Tryz.prog w = .ok (.value (.string (strOfNums bs))) w := by
 unfold execOp
 simp only [ho, hx, Sem.run_bind, Ztf h.ag.i, Result.andThen_ok, Sem.run_pure]
end
theorem Zoi {xs ys : List Int} (hx : ∀ x ∈ xs, 0 ≤ x ∧ x < 256) (hy : ∀ x ∈ ys, 0 ≤ x ∧ x < 256) : ((strOfNums xs).toList == (strOfNums ys).toList) = decide (xs = ys) := by
 exact Ni.str_beq hx hy
theorem Zld {v : Value} {bs : List Int} (hown : OwnB w base v bs) {a : Option Addr} {m c : Nat} {news : List Int} (h : Ag w a m c news) (hb : bs.length + m ≤ 140737488355328) (hbase : base ≤ w.heap.size) :
    ∃ v' w', (∀ ty, (Builtin.append_ #[29, 29] ty #[v, .slice a m c]).run Tryz.prog w = .ok v' w') ∧ OwnB w' base v' (bs ++ news) ∧ Below base w w' := by
  obtain ⟨i, hi, hz, hsz, hby⟩ := info5
  cases a with
  | none =>
    obtain ⟨rfl, rfl⟩ := h.nil rfl
    have hn0 : news = [] := List.eq_nil_of_length_eq_zero h.l
    subst hn0
    exact ⟨v, w, fun ty => run_append_owned_none w base 29 ty 5 i 1 Tryz.underlying29 hi v _ _ hown, by rw [List.append_nil]; exact hown, Below.refl _ _⟩
  | some ad =>
    have hc : ∀ j u, (news.map (Value.int .u8))[j]? = some u → w.cell? (ad.add j) = some u := by
      rcases h.i.inB h.nil with ⟨h, _⟩ | ⟨ad', h1, _, h3⟩
      · cases h
      · cases h1; exact h3
    obtain ⟨v', w', h1, h2, h3, _⟩ := run_append_own w base 29 0 5 i (.int .u8 0) 1 1 Tryz.underlying29 hi hz hsz hby rfl (by decide) v bs.length (bs.map (Value.int .u8)) hown ad m c (news.map (Value.int .u8)) (by simpa using h.l) hc (B8_one2 _) (by unfold maxLen; omega) (by omega) hbase
    refine ⟨v', w', fun ty => h1, ?_, (Below.refl _ _).grown h3 hbase hown.lt⟩
    unfold OwnB
    rw [List.length_append, h.l, List.map_append]
    exact h2
theorem Zpp {w w' : World} {v u r : Value} {ρ : Operand → Value} {o : Oper} (hr : ∀ ty, (Builtin.append_ #[29, 29] ty #[v, u]).run Tryz.prog w = .ok r w') (x y : Operand) (ho : o.op = .call { callee := .builtin .append, args := #[x, y], argTypes := #[29, 29] }) (hx : ρ x = v) (hy : ρ y = u) : (execOp ρ o).run Tryz.prog w = .ok (.value r) w' := by
 unfold execOp
 simp only [ho, resolve, invoke, builtin, Sem.run_bind, Sem.run_pure, Result.andThen_ok, List.map_toArray, List.map_cons, List.map_nil, hx, hy, hr]
theorem OwnB.sk {K : Nat → Prop} {v : Value} {bs : List Int} (h : OwnB w base v bs) (hb : ∀ x ∈ bs, 0 ≤ x ∧ x < 256) (hK : ∀ b, base ≤ b → K b) : ∃ a c, v = .slice a bs.length c ∧ Sk K w a bs.length c bs := by
 obtain ⟨a, c, hv, hag⟩ := h.ag hb
 refine ⟨a, c, hv, hag, fun x hx hn => hK _ ?_⟩
 exact h.lt x.block (by rw [hv, hx]; rfl)
def brc (vs : Nat → Value) (s : Value) : Array Value := #[vs 0, vs 1, vs 2, vs 3, vs 4, vs 5, vs 6, vs 7, vs 8, vs 9, vs 10, vs 11, vs 12, vs 13, vs 14, vs 15, s]
def updv (vs : Nat → Value) (i : Nat) (v : Value) : Nat → Value := fun j => if j = i then v else vs j
theorem Zg9 (vs : Nat → Value) (s : Value) : ∀ i, i < 16 → (brc vs s)[i]? = some (vs i)
  | 0, _ | 1, _ | 2, _ | 3, _ | 4, _ | 5, _ | 6, _ | 7, _ | 8, _ | 9, _ | 10, _ | 11, _ | 12, _ | 13, _ | 14, _ | 15, _ => rfl
  | n + 16, h => by omega
theorem Zg8 (vs : Nat → Value) (s v : Value) : ∀ i, i < 16 → (brc vs s).setIfInBounds i v = brc (updv vs i v) s
  | 0, _ | 1, _ | 2, _ | 3, _ | 4, _ | 5, _ | 6, _ | 7, _ | 8, _ | 9, _ | 10, _ | 11, _ | 12, _ | 13, _ | 14, _ | 15, _ => rfl
  | n + 16, h => by omega
end Go.Proofs.YtchgejomcgoaeaaGreat
namespace Go.Proofs.YtchgejomcgoaeaaGreat
open Go.RowKit
open Go.ChangeMaps (setBlock)
section
variable {r : Option Nat} {m : Nat} {P : Program} {ds : List Deferred} {n : Nat} {Q : Exit → Act → World → Prop} {env : Env} {w w' : World} {ops : Array Oper} {l : List Oper} {o : Oper}
end
section
variable {P : Program} {ρ : Operand → Value} {w w' : World} {o : Oper}
theorem Xba (x : Operand) (b : Bool) (p v : Value) (ho : o.op = .next x b) (hx : ρ x = p) (hr : (Instr.next p b o.type).run P w = .ok v w') : (execOp ρ o).run P w = .ok (.value v) w' := by
 unfold execOp
 rw [ho]
 simp only [hx, Sem.run_bind, hr, Result.andThen_ok, Sem.run_pure]
theorem Xbi (x : Operand) (p v : Value) (ho : o.op = .entry x) (hx : ρ x = p) (hr : (Instr.entry p).run P w = .ok v w') : (execOp ρ o).run P w = .ok (.value v) w' := by
 unfold execOp
 rw [ho]
 simp only [hx, Sem.run_bind, hr, Result.andThen_ok, Sem.run_pure]
end
theorem New.put {w w1 w2 : World} {g : Nat} {z cells : Array Value} {T : TypeId} (h : New w w1 g z T) (hp : Put w1 w2 g cells) : New w w2 g cells T := ⟨h.hg, by rw [hp.hw, h.hw, h.hg]; exact World.setRow_alloc_new _ _ _ _⟩
end Go.Proofs.YtchgejomcgoaeaaGreat
namespace Go.Proofs.YtchgejomcgoaeaaGreat
open Go.RowKit
variable {g n c n' c' : Nat} {w w' w0 : World} {p q : List Int} {K K' : Nat → Prop} {a a' : Option Addr}
theorem Sk.cutFrom {K : Nat → Prop} {w : World} {a : Option Addr} {n c : Nat} {bs : List Int} (h : Sk K w a n c bs) (f : Nat) (hf : f ≤ n) :
    ∃ a' n' c', (∀ (v : World) (ρ : Operand → Value) (o : Oper) (x y : Operand) (i : Int), o.op = .slice 29 x (some y) none none → ρ x = .slice a n c → ρ y = .int .i64 i → i = f → (execOp ρ o).run Tryz.prog v = .ok (.value (.slice a' n' c')) v) ∧ Sk K w a' n' c' (bs.drop f) :=
  ⟨_, _, _, h.run_from f hf, h.from f hf⟩
theorem Sk.cutTo {K : Nat → Prop} {w : World} {a : Option Addr} {n c : Nat} {bs : List Int} (h : Sk K w a n c bs) (f : Nat) (hf : f ≤ n) :
    ∃ a' n' c', (∀ (v : World) (ρ : Operand → Value) (o : Oper) (x y : Operand) (i : Int), o.op = .slice 29 x none (some y) none → ρ x = .slice a n c → ρ y = .int .i64 i → i = f → (execOp ρ o).run Tryz.prog v = .ok (.value (.slice a' n' c')) v) ∧ Sk K w a' n' c' (bs.take f) :=
  ⟨_, _, _, h.run_upto f hf, h.upto f hf⟩
def Rw (g : Nat) (w : World) (cells : Array Value) (T : TypeId) : Prop := w.heap[g]? = some (.cells cells T (0, 0))
theorem Rw.go {cells : Array Value} {T : TypeId} (h : Rw g w cells T) (hb : Below w.heap.size w w') : Rw g w' cells T := Below.row hb h
theorem Rw.drew {cells : Array Value} {T : TypeId} (h : Rw g w cells T) : Rw g w.drew cells T := h
def Bl (w0 w : World) : Prop := Below w0.heap.size w0 w
theorem Bl.refl (w : World) : Bl w w := Below.refl _ _
theorem Bl.go (h : Bl w0 w) (hb : Below w.heap.size w w') : Bl w0 w' := h.trans (hb.mono h.size)
theorem Bl.drew (h : Bl w0 w) : Bl w0 w.drew := h.go (Below.refl _ _).drew
theorem Bl.size (h : Bl w0 w) : w0.heap.size ≤ w.heap.size := Below.size h
section
variable {r : Option Nat} {m : Nat} {P : Program} {ds : List Deferred} {n : Nat} {Q : Exit → Act → World → Prop} {env : Env} {w : World} {ops : Array Oper} {l : List Oper} {o : Oper} {S : World → Prop} {fuel : Nat} {listed : Array Bool} {rs : List Nat}
theorem Zcg (d : Nat) (cells : Array Value) (T : TypeId) (k : Nat) (hc : ∀ fb, chk n ops env fb o d = true) (hr : ∀ fb, (execOp (ev env fb) o).run P w = .ok (.value (.slice (some ⟨w.heap.size, 0, none⟩) k k)) (w.alloc (.cells cells T)))
    (h : ∀ w' g, New w w' g cells T → RW r m P ds n Q ops l ((d, .slice (some ⟨g, 0, none⟩) k k) :: env) w') : RW r m P ds n Q ops (o :: l) env w := rw_v d _ hc hr (h _ _ ⟨rfl, rfl⟩)
theorem Zlc (i d : Nat) (cells : Array Value) (T : TypeId) (k : Nat) (ho : ops[i]? = some o) (hc : ∀ fb, chk n ops env fb o d = true) (hr : ∀ fb, (execOp (ev env fb) o).run P w = .ok (.value (.slice (some ⟨w.heap.size, 0, none⟩) k k)) (w.alloc (.cells cells T))) (hS : ∀ w' g, New w w' g cells T → S w')
    (h : ∀ w' g, New w w' g cells T → DW P ds n Q ops S fuel (listed.setIfInBounds i true) ((d, .slice (some ⟨g, 0, none⟩) k k) :: env) w') (hs : AR P ds n Q ops S fuel listed env w rs) : AR P ds n Q ops S fuel listed env w (i :: rs) :=
  ar_v i d _ ho hc hr (hS _ _ ⟨rfl, rfl⟩) (h _ _ ⟨rfl, rfl⟩) hs
end
theorem Zo6 (h : ¬ q.length ≤ p.length) : decide (p.take q.length = q) = false := by
 rw [decide_eq_false]
 intro e
 have := congrArg List.length e
 rw [List.length_take] at this
 omega
theorem Zt3 {x : Int} (hx : 0 ≤ x ∧ x < 256) (h : New w w' g #[.int .u8 x] 5) (hK : ∀ b, w.heap.size ≤ b → K b) : Sk K w' (some ⟨g, 0, none⟩) 1 1 [x] := by
 refine ⟨⟨.inr ⟨g, 0, rfl, rfl, by omega, by omega, by unfold maxLen; omega, fun j hj => ?_⟩, (fun e => by cases e), rfl, fun y hy => by rw [List.mem_singleton.1 hy]; exact hx⟩, fun y hy _ => ?_⟩
 ·have : j = 0 := by simpa using hj
  subst this
  rw [cell_of_row _ _ _ _ _ _ h.row]; rfl
 ·cases hy
  exact hK _ (by rw [h.hg]; exact Nat.le_refl _)
set_option maxHeartbeats 1000000 in
theorem Zg3 (h1 : Sk K w a n c p) (h2 : Sk K' w a' n' c' q) :
    Calls Tryz.prog 64 #[.slice a n c, .slice a' n' c'] w fun e w' => ∃ u, e = .returned u ∧ u = .bool (decide (p = q)) ∧ Bl w w' := by
  have hB := Bl.refl w
  refine Zaj Tryz.func64 rfl 10 rfl ?_
  show CW _ _ _ _ _ _ _ [(0, .slice a n c), (1, .slice a' n' c')] _
  refine Zac ?_
  refine Zaa ?_
  refine rp 4 (.bool false) ?_
  refine Zad ?_
  refine Zab ?_
  refine Zac ?_
  refine Zaa ?_
  refine rp 5 (.slice a n c) ?_
  refine rv 6 (.string (strOfNums p)) (fun _ => h1.run_str _ _ _ rfl (by kernel_rfl)) ?_
  refine rp 7 (.slice a' n' c') ?_
  refine rv 8 (.string (strOfNums q)) (fun _ => h2.run_str _ _ _ rfl (by kernel_rfl)) ?_
  refine rv 9 (.bool (decide (p = q))) (fun _ => Zt5 9 _ _ _ _ _ rfl (by kernel_rfl) (by kernel_rfl) (Zoi h1.ag.b h2.ag.b)) ?_
  refine rp 4 (.bool (decide (p = q))) ?_
  refine Zad ?_
  refine Zab ?_
  refine Zap ?_
  exact Zae (.bool (decide (p = q))) (fun _ => by kernel_rfl) ⟨_, rfl, rfl, hB⟩
set_option maxHeartbeats 1000000 in
theorem Zix (h1 : Sk K w a n c p) (h2 : Sk K' w a' n' c' q) :
    Calls Tryz.prog 96 #[.slice a n c, .slice a' n' c'] w fun e w' => ∃ u, e = .returned u ∧ u = .bool (decide (p.take q.length = q)) ∧ Bl w w' := by
  have hB := Bl.refl w
  have l1 := h1.len
  have l2 := h2.len
  refine Zaj Tryz.func96 rfl 18 rfl ?_
  show CW _ _ _ _ _ _ _ [(0, .slice a n c), (1, .slice a' n' c')] _
  refine Zac ?_
  refine Zaa ?_
  refine rp 4 (.bool false) ?_
  refine Zad ?_
  refine Zab ?_
  refine Zac ?_
  refine Zaa ?_
  refine rp 5 (.slice a n c) ?_
  refine rp 6 (.int .i64 n) ?_
  refine rp 7 (.slice a' n' c') ?_
  refine rp 8 (.int .i64 n') ?_
  refine rp 9 (.bool (decide ((n : Int) ≥ (n' : Int)))) ?_
  refine rp 10 (.bool (decide ((n : Int) ≥ (n' : Int)))) ?_
  cases hq1 : (decide ((n : Int) ≥ (n' : Int))) with
  | true =>
    refine rp 11 (.slice a n c) ?_
    refine rp 12 (.slice a' n' c') ?_
    refine rp 13 (.int .i64 n') ?_
    obtain ⟨a2, n3, c4, hr5, hs6⟩ := h1.cutTo n' (by simp only [decide_eq_true_eq, ge_iff_le] at *; omega)
    refine rv 14 (.slice a2 n3 c4) (fun _ => hr5 _ _ _ _ _ _ rfl (by kernel_rfl) (by kernel_rfl) rfl) ?_
    refine rp 15 (.slice a' n' c') ?_
    refine Zak 16 64 #[.slice a2 n3 c4, .slice a' n' c'] (fun _ => by kernel_rfl) (fun _ => by kernel_rfl) (R := fun u w' => u = .bool (decide (p.take n' = q)) ∧ Bl (w) w') ((Zg3 hs6 h2)) ?_
    rintro _ u7 ⟨rfl, hb8⟩
    replace h1 := h1.go hb8
    replace h2 := h2.go hb8
    replace hB := hB.go hb8
    replace hs6 := hs6.go hb8
    refine rp 17 (.bool (decide (p.take n' = q))) ?_
    refine rp 4 (.bool (decide (p.take n' = q))) ?_
    refine Zad ?_
    refine Zab ?_
    refine Zap ?_
    exact Zae (.bool (decide (p.take n' = q))) (fun _ => by kernel_rfl) ⟨_, rfl, by rw [l2], hB⟩
  | false =>
    refine Za8 11 (fun _ => by kernel_rfl) ?_
    refine Za8 12 (fun _ => by kernel_rfl) ?_
    refine Za8 13 (fun _ => by kernel_rfl) ?_
    refine Za8 14 (fun _ => by kernel_rfl) ?_
    refine Za8 15 (fun _ => by kernel_rfl) ?_
    refine Za8 16 (fun _ => by kernel_rfl) ?_
    refine rp 17 (.bool false) ?_
    refine rp 4 (.bool false) ?_
    refine Zad ?_
    refine Zab ?_
    refine Zap ?_
    exact Zae (.bool false) (fun _ => by kernel_rfl) ⟨_, rfl, by rw [Zo6 (by simp only [decide_eq_false_iff_not, ge_iff_le] at *; omega)], hB⟩
set_option maxHeartbeats 1000000 in
theorem Znt (h1 : Sk K w none 0 0 p) :
    Calls Tryz.prog 41 #[.slice none 0 0] w fun e w' => ∃ u, e = .returned u ∧ ∃ a2 n2 c2, u = .slice a2 n2 c2 ∧ Sk (fun b => w.heap.size ≤ b) w' a2 n2 c2 p ∧ Bl w w' := by
  have hB := Bl.refl w
  refine Zaj Tryz.func41 rfl 8 rfl ?_
  show CW _ _ _ _ _ _ _ [(0, .slice none 0 0)] _
  refine Zac ?_
  refine Zaa ?_
  refine rp 2 (.slice none 0 0) ?_
  refine Zad ?_
  refine Zab ?_
  refine Zac ?_
  refine Zac ?_
  refine Zaa ?_
  refine rp 3 (.slice none 0 0) ?_
  refine rp 4 (.bool true) ?_
  refine Zad ?_
  refine Zab ?_
  refine Zai (fun _ => by kernel_rfl) ?_
  refine Zac ?_
  refine Zaa ?_
  refine rp 2 (.slice none 0 0) ?_
  refine Zad ?_
  refine Zab ?_
  refine Zap ?_
  refine Zah ?_
  exact Zae (.slice none 0 0) (fun _ => by kernel_rfl) ⟨_, rfl, none, 0, 0, rfl, by have e : p = [] := List.eq_nil_of_length_eq_zero h1.len; subst e; exact Sk.nil _ _, hB⟩
set_option maxHeartbeats 1000000 in
theorem Zns {ad : Addr} (h1 : Sk K w (some ad) n c p) (hn : n ≤ 1000000) :
    Calls Tryz.prog 41 #[.slice (some ad) n c] w fun e w' => ∃ u, e = .returned u ∧ ∃ a2 n2 c2, u = .slice a2 n2 c2 ∧ Sk (fun b => w.heap.size ≤ b) w' a2 n2 c2 p ∧ Bl w w' := by
  have hB := Bl.refl w
  refine Zaj Tryz.func41 rfl 8 rfl ?_
  show CW _ _ _ _ _ _ _ [(0, .slice (some ad) n c)] _
  refine Zac ?_
  refine Zaa ?_
  refine rp 2 (.slice none 0 0) ?_
  refine Zad ?_
  refine Zab ?_
  refine Zac ?_
  refine Zac ?_
  refine Zaa ?_
  refine rp 3 (.slice (some ad) n c) ?_
  refine rp 4 (.bool false) ?_
  refine Zad ?_
  refine Zab ?_
  refine Zaf (fun _ => by kernel_rfl) ?_
  refine Zam ?_
  refine Zab ?_
  refine Zac ?_
  refine Zaa ?_
  refine Zcg 5 #[] 5 0 (fun _ => by kernel_rfl) (fun _ => by kernel_rfl) ?_
  intro w1 g2 hn3
  have hzhn3 := hB.size
  replace h1 := h1.go hn3.below
  replace hB := hB.go hn3.below
  have hO : OwnB w1 g2 (.slice (some ⟨g2, 0, none⟩) 0 0) [] := by rw [hn3.hw, hn3.hg]; exact OwnB.new _
  have hsz := hn3.size
  have hgs := hn3.hg
  refine rp 6 (.slice (some ad) n c) ?_
  obtain ⟨v1, w9, hr9, ho9, hb9⟩ := Zld hO h1.ag (by simp; omega) (by omega)
  refine rw_v 7 v1 (fun _ => by kernel_rfl) (fun _ => Zpp hr9 _ _ rfl (by kernel_rfl) (by kernel_rfl)) ?_
  obtain ⟨a9, c9, rfl, hs9⟩ := ho9.sk (K := fun b => w.heap.size ≤ b) (by simpa using h1.ag.b) (fun b hb => by omega)
  refine rp 2 (.slice a9 ([] ++ p).length c9) ?_
  refine Zad ?_
  refine Zab ?_
  refine Zap ?_
  exact Zae (.slice a9 ([] ++ p).length c9) (fun _ => by kernel_rfl) ⟨_, rfl, _, _, _, rfl, hs9, hB.trans (hb9.mono (by omega))⟩
theorem Zg6 (h1 : Sk K w a n c p) (hn : n ≤ 1000000) :
    Calls Tryz.prog 41 #[.slice a n c] w fun e w' => ∃ u, e = .returned u ∧ ∃ a2 n2 c2, u = .slice a2 n2 c2 ∧ Sk (fun b => w.heap.size ≤ b) w' a2 n2 c2 p ∧ Bl w w' := by
  cases a with
  | none => obtain ⟨rfl, rfl⟩ := h1.ag.nil rfl; exact Znt h1
  | some ad => exact Zns h1 hn
end Go.Proofs.YtchgejomcgoaeaaGreat
