/- Boxes of accounts, digests and items; appends, copies; results. -/
import Derived.Test.YtmaajddofmahpaaG24
import Derived.Test.YtmaajddofmahpaaG25
import Derived.Test.YtmaajddofmahpaaG28
import Derived.Test.YtmaajddofmahpaaG30
namespace Go.Proofs.Ytmaajddofmahpaa
open Go.RowKit
open Di (dref)
set_option linter.unusedVariables false
set_option maxRecDepth 100000
def Rw (g : Nat) (w : World) (cells : Array Value) (T : TypeId) : Prop := w.heap[g]? = some (.cells cells T (0, 0))
def Bl (w0 w : World) : Prop := Below w0.heap.size w0 w
section
variable {g g' k : Nat} {w0 w w' : World} {cells cells' : Array Value} {T T' : TypeId}
theorem Rw.go (h : Rw g w cells T) (hb : Below w.heap.size w w') : Rw g w' cells T := Below.row hb h
theorem Rw.lt (h : Rw g w cells T) : g < w.heap.size := lt_of_get h
theorem Rw.put (h : Rw g w cells T) (hp : Put w w' g cells') : Rw g w' cells' T := hp.row h
theorem Rw.past (h : Rw g w cells T) (hp : Put w w' g' cells') (hne : g ≠ g') : Rw g w' cells T := (hp.other hne).trans h
theorem Bl.refl (w : World) : Bl w w := Below.refl _ _
theorem Bl.go (h : Bl w0 w) (hb : Below w.heap.size w w') : Bl w0 w' := h.trans (hb.mono h.size)
theorem Bl.size (h : Bl w0 w) : w0.heap.size ≤ w.heap.size := Below.size h
theorem Bl.put (h : Bl w0 w) (hp : Put w w' g cells) (hg : w0.heap.size ≤ g) : Bl w0 w' := hp.below h hg h.size
end
theorem Ag.go {w w' : World} {a : Option Addr} {n c : Nat} {b : List Int} (h : Ag w a n c b) (hb : Below w.heap.size w w') : Ag w' a n c b := h.at hb
section
variable {r : Option Nat} {m : Nat} {P : Program} {ds : List Deferred} {n : Nat} {Q : Exit → Act → World → Prop} {env : Env} {w : World} {ops : Array Oper} {l : List Oper} {o : Oper} {S : World → Prop} {fuel : Nat} {listed : Array Bool} {rs : List Nat}
theorem ar_newS (i d : Nat) (cells : Array Value) (T : TypeId) (k : Nat) (ho : ops[i]? = some o) (hc : ∀ fb, chk n ops env fb o d = true) (hr : ∀ fb, (execOp (ev env fb) o).run P w = .ok (.value (.slice (some ⟨w.heap.size, 0, none⟩) k k)) (w.alloc (.cells cells T))) (hS : ∀ w' g, New w w' g cells T → S w')
    (h : ∀ w' g, New w w' g cells T → DW P ds n Q ops S fuel (listed.setIfInBounds i true) ((d, .slice (some ⟨g, 0, none⟩) k k) :: env) w') (hs : AR P ds n Q ops S fuel listed env w rs) : AR P ds n Q ops S fuel listed env w (i :: rs) :=
  ar_v i d _ ho hc hr (hS _ _ ⟨rfl, rfl⟩) (h _ _ ⟨rfl, rfl⟩) hs
end
theorem strs_eq {xs ys : List Int} (hx : ∀ x ∈ xs, 0 ≤ x ∧ x < 256) (hy : ∀ x ∈ ys, 0 ≤ x ∧ x < 256) : ((strOfNums xs).toList == (strOfNums ys).toList) = decide (xs = ys) := Wo.str_beq hx hy
/-- string(x) -/
theorem Ag.run_str {w : World} {a : Option Addr} {n c : Nat} {bs : List Int} (h : Ag w a n c bs) (ρ : Operand → Value) (o : Oper) (x : Operand) (ho : o.op = .convert 29 9 x) (hx : ρ x = .slice a n c) : (execOp ρ o).run Try.prog w = .ok (.value (.string (strOfNums bs))) w := by
  unfold execOp
  simp only [ho, hx, Sem.run_bind, conv_any h.i, Result.andThen_ok, Sem.run_pure]
/-- The digests of an account's box, as bytes. -/
theorem code_ag {w : World} {g : Nat} {a : PA} (h : Rw g w (AV a).toArray 26) (ok : okA a) : Ag w (some ⟨g, 2, none⟩) 32 32 a.c := by
  refine ⟨.inr ⟨g, 2, rfl, ok.c, by omega, Nat.le_refl _, by unfold maxLen; omega, fun j hj => ?_⟩, (fun e => by cases e), ok.c, ok.cb⟩
  rw [cell_of_row _ _ _ _ _ _ h]
  have e : (AV a).toArray[2 + j]? = ((a.c.map (Value.int .u8) ++ a.s.map (Value.int .u8)))[j]? := by
    rw [List.getElem?_toArray, show 2 + j = j + 1 + 1 from by omega]; rfl
  rw [e, List.getElem?_append_left (by simpa using hj)]
  simp [hj]
theorem stor_ag {w : World} {g : Nat} {a : PA} (h : Rw g w (AV a).toArray 26) (ok : okA a) : Ag w (some ⟨g, 34, none⟩) 32 32 a.s := by
  refine ⟨.inr ⟨g, 34, rfl, ok.s, by omega, Nat.le_refl _, by unfold maxLen; omega, fun j hj => ?_⟩, (fun e => by cases e), ok.s, ok.sb⟩
  rw [cell_of_row _ _ _ _ _ _ h]
  have e : (AV a).toArray[34 + j]? = ((a.c.map (Value.int .u8) ++ a.s.map (Value.int .u8)))[32 + j]? := by
    rw [List.getElem?_toArray, show 34 + j = (32 + j) + 1 + 1 from by omega]; rfl
  rw [e, List.getElem?_append_right (by simp [ok.c])]
  simp [ok.c, hj]
/-- What a result's block tells. -/
theorem res_c1 {fn : Func} {p : Tmp} {f : Nat → Value} {T : TypeId} {d : TypeDesc} (h : fn.results = #[.cell p T]) (w : World) (g : Nat) (cs : Array Value) (hp : f p = .pointer (some ⟨g, 0, none⟩)) (hg : Rw g w cs T) (hu : Try.prog.underlying T = some d) (hd : (match d with | .struct _ | .array _ _ => true | _ => false) = true) (hi : (Try.prog.info? T).map (·.size) = some cs.size) : (resF f fn.results).run Try.prog w = .ok (.agg cs) w := by
  have := run_loadVar_row (P := Try.prog) w g T T _ _ _ hg hu (by cases d <;> first | rfl | exact hd) hi
  unfold resF
  rw [h]
  simp [hp, this, asAddr]
theorem zA_ok : okA zA := ⟨by decide, by decide, rfl, fun x hx => by rw [(List.mem_replicate.1 hx).2]; omega, rfl, fun x hx => by rw [(List.mem_replicate.1 hx).2]; omega⟩
theorem AV_size {a c : PA} (ha : okA a) (hc : okA c) : (AV a).toArray.size = (AV c).toArray.size := by rw [List.size_toArray, List.size_toArray, AV_len ha, AV_len hc]
end Go.Proofs.Ytmaajddofmahpaa
/- What was said of items, words and the digests of nothing, once more, as the walk by environments asks it. -/
namespace Go.Proofs.Ytmaajddofmahpaa
open Go.RowKit
open Di (dref)
set_option linter.unusedVariables false
set_option maxRecDepth 100000
abbrev IV (y : V) : Array Value := #[.bool y.l, .slice y.ba y.bn y.bc, .slice y.ia y.m y.ic]
def RSl (w : World) (b : List Int) : Value → World → Prop := fun u w' => (∃ x n c, u = .slice x n c ∧ Ag w' x n c b) ∧ Bl w w'
def RIt (N : Nat) (w : World) (t : T) : Value → World → Prop := fun u w' => (∃ y : V, u = .agg (IV y) ∧ LiesP (fun b => N ≤ b) w' t y) ∧ Bl w w'
theorem lp_go {N : Nat} {w w' : World} {t : T} {y : V} (h : LiesP (fun b => N ≤ b) w t y) (hb : Below w.heap.size w w') : LiesP (fun b => N ≤ b) w' t y := liesP_mono (fun b hn hlt => ⟨hb.block b hlt, hn⟩) t y h
theorem lp_put {N g : Nat} {w w' : World} {t : T} {y : V} {cells : Array Value} (h : LiesP (fun b => N ≤ b) w t y) (hp : Put w w' g cells) (hg : g < N) : LiesP (fun b => N ≤ b) w' t y := liesP_mono (fun b hn hlt => ⟨hp.other (by omega), hn⟩) t y h
def RVl (w : World) (v : Value) : Value → World → Prop := fun u w' => u = v ∧ Bl w w'
theorem be_nb (n : Nat) : (be n).length = nb n := by rw [← wo_be, Wo.be_len, wo_nb]
theorem wbytes (n : Nat) (h : n < W64) (w : World) : Calls Try.prog 34 #[.int .u64 ((n : Nat) : Int)] w fun e w' => ∃ v, e = .returned v ∧ RSl w (be n) v w' := by
  refine (Wo.bytes_any (n : Int) (by omega) (by unfold W64 at h; omega) w).mono ?_
  rintro e w' ⟨rfl, hr, hb⟩
  rw [Int.toNat_natCast, wo_nb] at *
  rw [wo_be] at hr
  have h8 := be_b8 h
  rw [be_nb] at h8
  exact ⟨_, rfl, ⟨_, _, _, rfl, row_ag (show Row _ _ _ from hr) (be_nb n) (be_byt n) (by omega)⟩, hb⟩
theorem wtext {w : World} {a : Option Addr} {n c : Nat} {b : List Int} (h : Ag w a n c b) (hn : n ≤ 140737488351232) {N : Nat} (hN : N ≤ w.heap.size) : Calls Try.prog 40 #[.slice a n c] w fun e w' => ∃ v, e = .returned v ∧ RIt N w (tx b) v w' := by
  refine (text_any a n c b w h hn).mono ?_
  rintro e w' ⟨rfl, hr, hb⟩
  exact ⟨_, rfl, ⟨⟨false, some ⟨w.heap.size + 1, 0, none⟩, n, n, none, 0, 0⟩, rfl, liesP_txt hr h.l h.b hn (by omega)⟩, hb⟩
/-- Four things in a row. -/
abbrev IV4 (y0 y1 y2 y3 : V) : Array Value := #[.bool y0.l, .slice y0.ba y0.bn y0.bc, .slice y0.ia y0.m y0.ic, .bool y1.l, .slice y1.ba y1.bn y1.bc, .slice y1.ia y1.m y1.ic, .bool y2.l, .slice y2.ba y2.bn y2.bc, .slice y2.ia y2.m y2.ic, .bool y3.l, .slice y3.ba y3.bn y3.bc, .slice y3.ia y3.m y3.ic]
theorem lies4 {w : World} {g : Nat} {ty : TypeId} {y0 y1 y2 y3 : V} {t0 t1 t2 t3 : T} (hR : Rw g w (IV4 y0 y1 y2 y3) ty) (L0 : Lies w t0 y0) (L1 : Lies w t1 y1) (L2 : Lies w t2 y2) (L3 : Lies w t3 y3) : LiesAll w [t0, t1, t2, t3] (some ⟨g, 0, none⟩) 0 := by
  refine liesAll_cons.2 ⟨⟨g, 0, y0, rfl, by rw [cell_of_row _ _ _ _ _ _ hR]; rfl, by rw [cell_of_row _ _ _ _ _ _ hR]; rfl, by rw [cell_of_row _ _ _ _ _ _ hR]; rfl, L0⟩, ?_⟩
  refine liesAll_cons.2 ⟨⟨g, 0, y1, rfl, by rw [cell_of_row _ _ _ _ _ _ hR]; rfl, by rw [cell_of_row _ _ _ _ _ _ hR]; rfl, by rw [cell_of_row _ _ _ _ _ _ hR]; rfl, L1⟩, ?_⟩
  refine liesAll_cons.2 ⟨⟨g, 0, y2, rfl, by rw [cell_of_row _ _ _ _ _ _ hR]; rfl, by rw [cell_of_row _ _ _ _ _ _ hR]; rfl, by rw [cell_of_row _ _ _ _ _ _ hR]; rfl, L2⟩, ?_⟩
  exact liesAll_cons.2 ⟨⟨g, 0, y3, rfl, by rw [cell_of_row _ _ _ _ _ _ hR]; rfl, by rw [cell_of_row _ _ _ _ _ _ hR]; rfl, by rw [cell_of_row _ _ _ _ _ _ hR]; rfl, L3⟩, liesAll_nil⟩
theorem v_ext {x y : V} (h0 : Value.bool x.l = .bool y.l) (h1 : Value.slice x.ba x.bn x.bc = .slice y.ba y.bn y.bc) (h2 : Value.slice x.ia x.m x.ic = .slice y.ia y.m y.ic) : x = y := by
  obtain ⟨l, ba, bn, bc, ia, m, ic⟩ := x
  obtain ⟨l', ba', bn', bc', ia', m', ic'⟩ := y
  simp only [Value.bool.injEq, Value.slice.injEq] at h0 h1 h2
  obtain ⟨rfl, rfl, rfl⟩ := h1
  obtain ⟨rfl, rfl, rfl⟩ := h2
  subst h0
  rfl
theorem lp_list4 {w : World} {g N : Nat} {ty : TypeId} {y0 y1 y2 y3 : V} {t0 t1 t2 t3 : T} (hR : Rw g w (IV4 y0 y1 y2 y3) ty) (hg : N ≤ g) (L0 : LiesP (fun b => N ≤ b) w t0 y0) (L1 : LiesP (fun b => N ≤ b) w t1 y1) (L2 : LiesP (fun b => N ≤ b) w t2 y2) (L3 : LiesP (fun b => N ≤ b) w t3 y3) : LiesP (fun b => N ≤ b) w (.mk true [] [t0, t1, t2, t3]) ⟨true, none, 0, 0, some ⟨g, 0, none⟩, 4, 4⟩ := by
  refine liesP_eq.2 ⟨⟨rfl, ⟨.inl ⟨rfl, rfl⟩, fun _ => ⟨rfl, rfl⟩, rfl, fun x hx => by cases hx⟩, rfl, Nat.le_refl _, (show 4 ≤ maxLen by unfold maxLen; omega), ⟨(show 0 ≤ 140737488351232 by omega), (show 4 ≤ 140737488351232 by omega)⟩, fun g' off e => by cases e⟩, ?_⟩
  refine liesPAll_cons.2 ⟨⟨g, 0, y0, ⟨rfl, hg⟩, by rw [cell_of_row _ _ _ _ _ _ hR]; rfl, by rw [cell_of_row _ _ _ _ _ _ hR]; rfl, by rw [cell_of_row _ _ _ _ _ _ hR]; rfl, L0⟩, ?_⟩
  refine liesPAll_cons.2 ⟨⟨g, 0, y1, ⟨rfl, hg⟩, by rw [cell_of_row _ _ _ _ _ _ hR]; rfl, by rw [cell_of_row _ _ _ _ _ _ hR]; rfl, by rw [cell_of_row _ _ _ _ _ _ hR]; rfl, L1⟩, ?_⟩
  refine liesPAll_cons.2 ⟨⟨g, 0, y2, ⟨rfl, hg⟩, by rw [cell_of_row _ _ _ _ _ _ hR]; rfl, by rw [cell_of_row _ _ _ _ _ _ hR]; rfl, by rw [cell_of_row _ _ _ _ _ _ hR]; rfl, L2⟩, ?_⟩
  refine liesPAll_cons.2 ⟨⟨g, 0, y3, ⟨rfl, hg⟩, by rw [cell_of_row _ _ _ _ _ _ hR]; rfl, by rw [cell_of_row _ _ _ _ _ _ hR]; rfl, by rw [cell_of_row _ _ _ _ _ _ hR]; rfl, L3⟩, ?_⟩
  exact liesPAll_nil
theorem list4 {w : World} {g : Nat} {y0 y1 y2 y3 : V} {t0 t1 t2 t3 : T} {N : Nat} (hN : N ≤ w.heap.size) (hR : Rw g w (IV4 y0 y1 y2 y3) 46) (L0 : LiesP (fun b => N ≤ b) w t0 y0) (L1 : LiesP (fun b => N ≤ b) w t1 y1) (L2 : LiesP (fun b => N ≤ b) w t2 y2) (L3 : LiesP (fun b => N ≤ b) w t3 y3) :
    Calls Try.prog 39 #[.slice (some ⟨g, 0, none⟩) 4 4] w fun e w' => ∃ v, e = .returned v ∧ RIt N w (.mk true [] [t0, t1, t2, t3]) v w' := by
  refine (list_any (some ⟨g, 0, none⟩) 4 4 [t0, t1, t2, t3] ⟨rfl, Nat.le_refl _, by unfold maxLen; omega, by omega⟩ w (lies4 hR (liesP_lies _ _ L0) (liesP_lies _ _ L1) (liesP_lies _ _ L2) (liesP_lies _ _ L3)) (by omega) (fun e => by cases e)).mono ?_
  rintro e w' ⟨ys, hl, rfl, hrow, hy, hb⟩
  match ys, hl with
  | [z0, z1, z2, z3], _ =>
    have key : ∀ (i : Nat) (z y : V) (h : [z0, z1, z2, z3][i]? = some z) (c0 : w.cell? ⟨g, 0 + i * 3, none⟩ = some (.bool y.l)) (c1 : w.cell? ⟨g, 0 + i * 3 + 1, none⟩ = some (.slice y.ba y.bn y.bc)) (c2 : w.cell? ⟨g, 0 + i * 3 + 2, none⟩ = some (.slice y.ia y.m y.ic)), z = y := by
      intro i z y h c0 c1 c2
      obtain ⟨g', off', t', A⟩ := hy i z h
      have ha := A.ha
      cases ha
      have e0 := A.c0.symm.trans c0
      have e1 := A.c1.symm.trans c1
      have e2 := A.c2.symm.trans c2
      exact v_ext (Option.some.inj e0) (Option.some.inj e1) (Option.some.inj e2)
    have q0 := key 0 z0 y0 rfl (by rw [cell_of_row _ _ _ _ _ _ hR]; rfl) (by rw [cell_of_row _ _ _ _ _ _ hR]; rfl) (by rw [cell_of_row _ _ _ _ _ _ hR]; rfl)
    have q1 := key 1 z1 y1 rfl (by rw [cell_of_row _ _ _ _ _ _ hR]; rfl) (by rw [cell_of_row _ _ _ _ _ _ hR]; rfl) (by rw [cell_of_row _ _ _ _ _ _ hR]; rfl)
    have q2 := key 2 z2 y2 rfl (by rw [cell_of_row _ _ _ _ _ _ hR]; rfl) (by rw [cell_of_row _ _ _ _ _ _ hR]; rfl) (by rw [cell_of_row _ _ _ _ _ _ hR]; rfl)
    have q3 := key 3 z3 y3 rfl (by rw [cell_of_row _ _ _ _ _ _ hR]; rfl) (by rw [cell_of_row _ _ _ _ _ _ hR]; rfl) (by rw [cell_of_row _ _ _ _ _ _ hR]; rfl)
    subst q0 q1 q2 q3
    refine ⟨_, rfl, ⟨⟨true, none, 0, 0, some ⟨w.heap.size + 1, 0, none⟩, 4, 4⟩, rfl, ?_⟩, hb⟩
    exact lp_list4 (show Rw (w.heap.size + 1) w' (IV4 z0 z1 z2 z3) 46 from hrow) (by omega) (lp_go L0 hb) (lp_go L1 hb) (lp_go L2 hb) (lp_go L3 hb)
theorem wencode {w : World} {a : PA} (ok : okA a) {y : V} (h : Lies w (itA a) y) : Calls Try.prog 22 #[.agg (IV y)] w fun e w' => ∃ v, e = .returned v ∧ (∃ x n c, v = .tuple #[.slice x n c, .int .i64 0] ∧ Ag w' x n c (enA a)) ∧ Bl w w' := by
  refine (encode_own (itA a) y w h).mono ?_
  rintro e w' ⟨⟨x, n, c, rfl, hag, _⟩, hb⟩
  have he : encP (itA a) = (enA a, 0) := encP_yes (mA ok)
  rw [he] at hag ⊢
  exact ⟨_, rfl, ⟨x, n, c, rfl, hag⟩, hb⟩
def eqDv (b : List Int) : Value := .agg (B8 b)
theorem wecode (w : World) : Calls Try.prog 35 #[] w fun e w' => ∃ v, e = .returned v ∧ RVl w (.agg (B8 (dref []))) v w' := (emptyCode_any w).mono fun e w' h => ⟨_, h.1, rfl, h.2⟩
theorem weroot (w : World) : Calls Try.prog 36 #[] w fun e w' => ∃ v, e = .returned v ∧ RVl w (.agg (B8 (dref [128]))) v w' := (emptyRoot_any w).mono fun e w' h => ⟨_, h.1, rfl, h.2⟩
theorem rwecode (w : World) : Calls Try.prog 26 #[] w fun e w' => ∃ v, e = .returned v ∧ RVl w (.agg (B8 (dref []))) v w' := (remptyCode_any w).mono fun e w' h => ⟨_, h.1, rfl, h.2⟩
theorem rweroot (w : World) : Calls Try.prog 27 #[] w fun e w' => ∃ v, e = .returned v ∧ RVl w (.agg (B8 (dref [128]))) v w' := (remptyRoot_any w).mono fun e w' h => ⟨_, h.1, rfl, h.2⟩
def RDe (w : World) (r : RT) : Value → World → Prop := fun u w' => (∃ (y : V) (er : Nat), u = .tuple #[.agg (IV y), .int .i64 (er : Nat)] ∧ match r with
  | .bad _ => er ≠ 0 ∧ y = ⟨false, none, 0, 0, none, 0, 0⟩
  | .ok t => er = 0 ∧ Lies w' t y) ∧ Bl w w'
end Go.Proofs.Ytmaajddofmahpaa
