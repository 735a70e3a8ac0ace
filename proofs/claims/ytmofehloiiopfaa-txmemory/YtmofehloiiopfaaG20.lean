/- Boxes of transactions, digests and items; appends, copies; results. -/
import Derived.Test.YtmofehloiiopfaaG09
import Derived.Test.YtmofehloiiopfaaG11
import Derived.Test.YtmofehloiiopfaaG14
import Derived.Test.YtmofehloiiopfaaG15
import Derived.Test.YtmofehloiiopfaaG16
import Derived.Test.YtmofehloiiopfaaG18
import Derived.Test.YtmofehloiiopfaaG19
import Derived.Test.YtmofehloiiopfaaG10
namespace Go.Proofs.Ytmofehloiiopfaa
open Go.RowKit
open Di (dref)
set_option linter.unusedVariables false
set_option maxRecDepth 100000
def Rw (g : Nat) (w : World) (cells : Array Value) (T : TypeId) : Prop := w.heap[g]? = some (.cells cells T (0, 0))
def Bl (w0 w : World) : Prop := Below w0.heap.size w0 w
section
variable {g g' k : Nat} {w0 w w' : World} {cells cells' : Array Value} {T T' : TypeId}
theorem Rw.go (h : Rw g w cells T) (hb : Below w.heap.size w w') : Rw g w' cells T := Below.row hb h
theorem Rw.drew (h : Rw g w cells T) : Rw g w.drew cells T := h
theorem Rw.lt (h : Rw g w cells T) : g < w.heap.size := lt_of_get h
theorem Rw.put (h : Rw g w cells T) (hp : Put w w' g cells') : Rw g w' cells' T := hp.row h
theorem Rw.past (h : Rw g w cells T) (hp : Put w w' g' cells') (hne : g ≠ g') : Rw g w' cells T := (hp.other hne).trans h
theorem Rw.tou (h : Rw g w cells T) (ht : Touch g' w w') (hne : g ≠ g') : Rw g w' cells T := (ht.block g (lt_of_get h) hne).trans h
theorem Bl.refl (w : World) : Bl w w := Below.refl _ _
theorem Bl.go (h : Bl w0 w) (hb : Below w.heap.size w w') : Bl w0 w' := h.trans (hb.mono h.size)
theorem Bl.drew (h : Bl w0 w) : Bl w0 w.drew := h.go (Below.refl _ _).drew
theorem Bl.size (h : Bl w0 w) : w0.heap.size ≤ w.heap.size := Below.size h
theorem Bl.put (h : Bl w0 w) (hp : Put w w' g cells) (hg : w0.heap.size ≤ g) : Bl w0 w' := hp.below h hg h.size
theorem Bl.tou (h : Bl w0 w) (ht : Touch g w w') (hg : w0.heap.size ≤ g) : Bl w0 w' := ht.below h hg h.size
end
theorem Ag.go {w w' : World} {a : Option Addr} {n c : Nat} {b : List Int} (h : Ag w a n c b) (hb : Below w.heap.size w w') : Ag w' a n c b := h.at hb
/-- Bytes that do not lie in a block that is written. -/
theorem Ag.tou {w w' : World} {a : Option Addr} {n c g : Nat} {b : List Int} (h : Ag w a n c b) (ht : Touch g w w') (hne : ∀ g' off, a = some ⟨g', off, none⟩ → g' ≠ g) : Ag w' a n c b :=
  ag_keep h fun g' off e _ hlt => ht.block g' hlt (hne g' off e)
section
variable {r : Option Nat} {m : Nat} {P : Program} {ds : List Deferred} {n : Nat} {Q : Exit → Act → World → Prop} {env : Env} {w : World} {ops : Array Oper} {l : List Oper} {o : Oper} {S : World → Prop} {fuel : Nat} {listed : Array Bool} {rs : List Nat}
theorem rw_newS (d : Nat) (cells : Array Value) (T : TypeId) (k : Nat) (hc : ∀ fb, chk n ops env fb o d = true) (hr : ∀ fb, (execOp (ev env fb) o).run P w = .ok (.value (.slice (some ⟨w.heap.size, 0, none⟩) k k)) (w.alloc (.cells cells T)))
    (h : ∀ w' g, New w w' g cells T → RW r m P ds n Q ops l ((d, .slice (some ⟨g, 0, none⟩) k k) :: env) w') : RW r m P ds n Q ops (o :: l) env w := rw_v d _ hc hr (h _ _ ⟨rfl, rfl⟩)
theorem ar_newS (i d : Nat) (cells : Array Value) (T : TypeId) (k : Nat) (ho : ops[i]? = some o) (hc : ∀ fb, chk n ops env fb o d = true) (hr : ∀ fb, (execOp (ev env fb) o).run P w = .ok (.value (.slice (some ⟨w.heap.size, 0, none⟩) k k)) (w.alloc (.cells cells T))) (hS : ∀ w' g, New w w' g cells T → S w')
    (h : ∀ w' g, New w w' g cells T → DW P ds n Q ops S fuel (listed.setIfInBounds i true) ((d, .slice (some ⟨g, 0, none⟩) k k) :: env) w') (hs : AR P ds n Q ops S fuel listed env w rs) : AR P ds n Q ops S fuel listed env w (i :: rs) :=
  ar_v i d _ ho hc hr (hS _ _ ⟨rfl, rfl⟩) (h _ _ ⟨rfl, rfl⟩) hs
end
theorem strs_eq {xs ys : List Int} (hx : ∀ x ∈ xs, 0 ≤ x ∧ x < 256) (hy : ∀ x ∈ ys, 0 ≤ x ∧ x < 256) : ((strOfNums xs).toList == (strOfNums ys).toList) = decide (xs = ys) := Wo.str_beq hx hy
/-- string(x) -/
theorem Ag.run_str {w : World} {a : Option Addr} {n c : Nat} {bs : List Int} (h : Ag w a n c bs) (ρ : Operand → Value) (o : Oper) (x : Operand) (ho : o.op = .convert 24 9 x) (hx : ρ x = .slice a n c) : (execOp ρ o).run Try.prog w = .ok (.value (.string (strOfNums bs))) w := by
  unfold execOp
  simp only [ho, hx, Sem.run_bind, conv_any h.i, Result.andThen_ok, Sem.run_pure]
/-- An append onto a row of one's own. -/
theorem app_run {w : World} {base : Nat} {v : Value} {bs : List Int} (hown : OwnB w base v bs) {a : Option Addr} {m c : Nat} {news : List Int} (h : Ag w a m c news) (hb : bs.length + m ≤ 140737488355328) (hbase : base ≤ w.heap.size) :
    ∃ v' w', (∀ ty, (Builtin.append_ #[24, 24] ty #[v, .slice a m c]).run Try.prog w = .ok v' w') ∧ OwnB w' base v' (bs ++ news) ∧ Below base w w' := by
  obtain ⟨i, hi, hz, hsz, hby⟩ := info5
  cases a with
  | none =>
    obtain ⟨rfl, rfl⟩ := h.nil rfl
    have hn0 : news = [] := List.eq_nil_of_length_eq_zero h.l
    subst hn0
    exact ⟨v, w, fun ty => run_append_owned_none w base 24 ty 5 i 1 Try.underlying24 hi v _ _ hown, by rw [List.append_nil]; exact hown, Below.refl _ _⟩
  | some ad =>
    have hc : ∀ j u, (news.map (Value.int .u8))[j]? = some u → w.cell? (ad.add j) = some u := by
      rcases h.i.inB h.nil with ⟨h, _⟩ | ⟨ad', h1, _, h3⟩
      · cases h
      · cases h1; exact h3
    obtain ⟨v', w', h1, h2, h3, _⟩ := run_append_own w base 24 0 5 i (.int .u8 0) 1 1 Try.underlying24 hi hz hsz hby rfl (by decide) v bs.length (bs.map (Value.int .u8)) hown ad m c (news.map (Value.int .u8)) (by simpa using h.l) hc (B8_one2 _) (by unfold maxLen; omega) (by omega) hbase
    refine ⟨v', w', fun ty => h1, ?_, (Below.refl _ _).grown h3 hbase hown.lt⟩
    unfold OwnB
    rw [List.length_append, h.l, List.map_append]
    exact h2
theorem ol_app {w w' : World} {v u r : Value} {ρ : Operand → Value} {o : Oper} (hr : ∀ ty, (Builtin.append_ #[24, 24] ty #[v, u]).run Try.prog w = .ok r w') (x y : Operand) (ho : o.op = .call { callee := .builtin .append, args := #[x, y], argTypes := #[24, 24] }) (hx : ρ x = v) (hy : ρ y = u) : (execOp ρ o).run Try.prog w = .ok (.value r) w' := by
  unfold execOp
  simp only [ho, resolve, invoke, builtin, Sem.run_bind, Sem.run_pure, Result.andThen_ok, List.map_toArray, List.map_cons, List.map_nil, hx, hy, hr]
/-- What a result's block tells. -/
theorem res_c1 {fn : Func} {p : Tmp} {f : Nat → Value} {T : TypeId} {d : TypeDesc} (h : fn.results = #[.cell p T]) (w : World) (g : Nat) (cs : Array Value) (hp : f p = .pointer (some ⟨g, 0, none⟩)) (hg : Rw g w cs T) (hu : Try.prog.underlying T = some d) (hd : (match d with | .struct _ | .array _ _ => true | _ => false) = true) (hi : (Try.prog.info? T).map (·.size) = some cs.size) : (resF f fn.results).run Try.prog w = .ok (.agg cs) w := by
  have := run_loadVar_row (P := Try.prog) w g T T _ _ _ hg hu (by cases d <;> first | rfl | exact hd) hi
  unfold resF
  rw [h]
  simp [hp, this, asAddr]
theorem res_c2 {fn : Func} {p q : Tmp} {f : Nat → Value} {T : TypeId} {d : TypeDesc} (h : fn.results = #[.cell p T, .tmp q]) (w : World) (g : Nat) (cs : Array Value) (v : Value) (hp : f p = .pointer (some ⟨g, 0, none⟩)) (hq : f q = v) (hg : Rw g w cs T) (hu : Try.prog.underlying T = some d) (hd : (match d with | .struct _ | .array _ _ => true | _ => false) = true) (hi : (Try.prog.info? T).map (·.size) = some cs.size) : (resF f fn.results).run Try.prog w = .ok (.tuple #[.agg cs, v]) w := by
  have := run_loadVar_row (P := Try.prog) w g T T _ _ _ hg hu (by cases d <;> first | rfl | exact hd) hi
  unfold resF
  rw [h]
  simp [hp, hq, this, asAddr]
end Go.Proofs.Ytmofehloiiopfaa
/- What was said of items, words and the digests of nothing, once more, as the walk by environments asks it. -/
namespace Go.Proofs.Ytmofehloiiopfaa
open Go.RowKit
open Di (dref)
set_option linter.unusedVariables false
set_option maxRecDepth 100000
abbrev IV (y : V) : Array Value := #[.bool y.l, .slice y.ba y.bn y.bc, .slice y.ia y.m y.ic]
def RSl (w : World) (b : List Int) : Value → World → Prop := fun u w' => (∃ x n c, u = .slice x n c ∧ Ag w' x n c b) ∧ Bl w w'
def RIt (N : Nat) (w : World) (t : T) : Value → World → Prop := fun u w' => (∃ y : V, u = .agg (IV y) ∧ LiesP (fun b => N ≤ b) w' t y) ∧ Bl w w'
theorem lp_put {N g : Nat} {w w' : World} {t : T} {y : V} {cells : Array Value} (h : LiesP (fun b => N ≤ b) w t y) (hp : Put w w' g cells) (hg : g < N) : LiesP (fun b => N ≤ b) w' t y := liesP_mono (fun b hn hlt => ⟨hp.other (by omega), hn⟩) t y h
def RVl (w : World) (v : Value) : Value → World → Prop := fun u w' => u = v ∧ Bl w w'
theorem be_nb (n : Nat) : (be n).length = nb n := by rw [← wo_be, Wo.be_len, wo_nb]
theorem wbytes (n : Nat) (h : n < W64) (w : World) : Calls Try.prog 65 #[.int .u64 ((n : Nat) : Int)] w fun e w' => ∃ v, e = .returned v ∧ RSl w (be n) v w' := by
  refine (Wo.bytes_any (n : Int) (by omega) (by unfold W64 at h; omega) w).mono ?_
  rintro e w' ⟨rfl, hr, hb⟩
  rw [Int.toNat_natCast, wo_nb] at *
  rw [wo_be] at hr
  have h8 := be_b8 h
  rw [be_nb] at h8
  exact ⟨_, rfl, ⟨_, _, _, rfl, row_ag (show Row _ _ _ from hr) (be_nb n) (be_byt n) (by omega)⟩, hb⟩
theorem frozen_row {w : World} {g : Nat} {b : List Int} (h : Row g w b) (o : Nat) : w.frozen? ⟨g, o, none⟩ = false := frozen_of_row _ _ _ _ _ h
theorem liesP_txt {P : Nat → Prop} {w : World} {g n : Nat} {b : List Int} (h : Row g w b) (hl : b.length = n) (hb : bytP b) (hn : n ≤ 140737488351232) (hP : P g) : LiesP P w (.mk false b []) ⟨false, some ⟨g, 0, none⟩, n, n, none, 0, 0⟩ :=
  liesP_eq.2 ⟨⟨rfl, row_ag (n := n) h hl hb (Nat.le_trans hn (by omega)), rfl, Nat.le_refl _, Nat.zero_le _, ⟨hn, Nat.zero_le _⟩, fun g' off e _ => by cases e; exact ⟨hP, frozen_row h⟩⟩, liesPAll_nil⟩
theorem wtext {w : World} {a : Option Addr} {n c : Nat} {b : List Int} (h : Ag w a n c b) (hn : n ≤ 140737488351232) {N : Nat} (hN : N ≤ w.heap.size) : Calls Try.prog 44 #[.slice a n c] w fun e w' => ∃ v, e = .returned v ∧ RIt N w (tx b) v w' := by
  refine (text_any a n c b w h hn).mono ?_
  rintro e w' ⟨rfl, hr, hb⟩
  exact ⟨_, rfl, ⟨⟨false, some ⟨w.heap.size + 1, 0, none⟩, n, n, none, 0, 0⟩, rfl, liesP_txt hr h.l h.b hn (by omega)⟩, hb⟩
theorem lies_tx {w : World} {a : Option Addr} {n c : Nat} {b : List Int} (h : Ag w a n c b) (hn : n ≤ 140737488351232) : Lies w (tx b) ⟨false, a, n, c, none, 0, 0⟩ := by
  unfold tx
  exact lies_eq.2 ⟨rfl, h, rfl, Nat.le_refl _, Nat.zero_le _, ⟨hn, Nat.zero_le _⟩, liesAll_nil⟩
theorem v_ext {x y : V} (h0 : Value.bool x.l = .bool y.l) (h1 : Value.slice x.ba x.bn x.bc = .slice y.ba y.bn y.bc) (h2 : Value.slice x.ia x.m x.ic = .slice y.ia y.m y.ic) : x = y := by
  obtain ⟨l, ba, bn, bc, ia, m, ic⟩ := x
  obtain ⟨l', ba', bn', bc', ia', m', ic'⟩ := y
  simp only [Value.bool.injEq, Value.slice.injEq] at h0 h1 h2
  obtain ⟨rfl, rfl, rfl⟩ := h1
  obtain ⟨rfl, rfl, rfl⟩ := h2
  subst h0
  rfl
theorem wread {w : World} {a : Option Addr} {n c : Nat} {b : List Int} (h : Ag w a n c b) (hn : n ≤ 140737488351232) : Calls Try.prog 78 #[.slice a n c] w fun e w' => ∃ v, e = .returned v ∧ RVl w (.tuple #[.int .u64 ((Wo.rdP b).1 : Nat), .bool (Wo.rdP b).2]) v w' :=
  (Wo.read_any a n c b w h hn).mono fun e w' h => ⟨_, h.1, rfl, by rw [h.2]; exact Bl.refl _⟩
theorem rwread {w : World} {a : Option Addr} {n c : Nat} {b : List Int} (h : Ag w a n c b) (hn : n ≤ 140737488351232) : Calls Try.prog 30 #[.slice a n c] w fun e w' => ∃ v, e = .returned v ∧ RVl w (.tuple #[.int .u64 ((Wo.rdP b).1 : Nat), .bool (Wo.rdP b).2]) v w' :=
  (Wo.rread_any a n c b w h hn).mono fun e w' h => ⟨_, h.1, rfl, h.2⟩
def RDe (w : World) (r : RT) : Value → World → Prop := fun u w' => (∃ (y : V) (er : Nat), u = .tuple #[.agg (IV y), .int .i64 (er : Nat)] ∧ match r with
  | .bad _ => er ≠ 0 ∧ y = ⟨false, none, 0, 0, none, 0, 0⟩
  | .ok t => er = 0 ∧ Lies w' t y) ∧ Bl w w'
theorem dec_ret {w w' : World} {e : Ending} {r : RT} (h : DecPost w r e w') : ∃ v, e = .returned v ∧ RDe w r v w' := by
  obtain ⟨hb, h⟩ := h
  cases r with
  | bad er => exact ⟨_, h.1, ⟨⟨false, none, 0, 0, none, 0, 0⟩, er, rfl, h.2, rfl⟩, hb⟩
  | ok t =>
    obtain ⟨y, he, hl⟩ := h
    exact ⟨_, he, ⟨y, 0, rfl, rfl, liesP_lies _ _ hl⟩, hb⟩
theorem wdecode {w : World} {a : Option Addr} {n c : Nat} {b : List Int} (h : Ag w a n c b) (hn : n ≤ 140737488351232) : Calls Try.prog 27 #[.slice a n c] w fun e w' => ∃ v, e = .returned v ∧ RDe w (decP b) v w' := (decode_any a n c b w h hn).mono fun e w' h => dec_ret h
theorem rwdecode {w : World} {a : Option Addr} {n c : Nat} {b : List Int} (h : Ag w a n c b) (hn : n ≤ 140737488351232) : Calls Try.prog 29 #[.slice a n c] w fun e w' => ∃ v, e = .returned v ∧ RDe w (decP b) v w' := (rDecode_any a n c b w h hn).mono fun e w' h => dec_ret h
end Go.Proofs.Ytmofehloiiopfaa
/- What the functions of transactions tell that make nothing. -/
namespace Go.Proofs.Ytmofehloiiopfaa
open Go.RowKit
open Di (dref)
set_option linter.unusedVariables false
set_option maxRecDepth 100000
set_option linter.unusedSimpArgs false
theorem wrapu {n : Int} (h : 0 ≤ n) (h2 : n < 18446744073709551616) : IntKind.u64.wrap n = n := by
  have : IntKind.u64.wrap n = n % 18446744073709551616 := rfl
  omega
theorem rt_iff (y : TV) (ei : y.t.i.length = y.im) (ec : y.t.c.length = y.cn) : rtX y.t = true ↔ (y.im ≤ 8 ∧ y.cn ≤ 256) ∧ if y.t.m = true then y.t.o = 0 ∧ y.im = 0 else y.cn = 0 := by
  unfold rtX
  rw [Bool.and_eq_true, decide_eq_true_eq, ei, ec]
  cases y.t.m <;> simp
theorem rright (y : TV) (w : World) (ok : TXa w y) : Calls Try.prog 14 #[.agg #[.int .u64 ((y.t.f : Nat) : Int), .int .u64 ((y.t.n : Nat) : Int), .int .u64 ((y.t.g : Nat) : Int), .int .u64 ((y.t.p : Nat) : Int), .int .u64 ((y.t.o : Nat) : Int), .int .u64 ((y.t.v : Nat) : Int), .slice y.ia y.im y.ic, .bool y.t.m, .slice y.ca y.cn y.cc]] w fun e w' => ∃ v, e = .returned v ∧ RVl w (.bool (rtX y.t)) v w' := by
  have ei := ok.i.e
  have ec := ok.c.l
  have bi := ok.i.c
  have bc := ok.m
  have hB : Bl w w := Bl.refl w
  refine cw_enter Try.func14 rfl 28 rfl ?_
  show CW _ _ _ _ _ _ _ [(0, .agg #[.int .u64 ((y.t.f : Nat) : Int), .int .u64 ((y.t.n : Nat) : Int), .int .u64 ((y.t.g : Nat) : Int), .int .u64 ((y.t.p : Nat) : Int), .int .u64 ((y.t.o : Nat) : Int), .int .u64 ((y.t.v : Nat) : Int), .slice y.ia y.im y.ic, .bool y.t.m, .slice y.ca y.cn y.cc])] _
  refine cw_seq ?_
  refine cw_region ?_
  refine rw_new 1 (#[.int .u64 ((y.t.f : Nat) : Int), .int .u64 ((y.t.n : Nat) : Int), .int .u64 ((y.t.g : Nat) : Int), .int .u64 ((y.t.p : Nat) : Int), .int .u64 ((y.t.o : Nat) : Int), .int .u64 ((y.t.v : Nat) : Int), .slice y.ia y.im y.ic, .bool y.t.m, .slice y.ca y.cn y.cc]) 26 (fun _ => by kernel_rfl) (fun _ => by kernel_rfl) ?_
  intro w1 g2 hn3
  have hzg2 : w.heap.size ≤ g2 := by have := hB.size; have := hn3.hg; omega
  replace hB := hB.go hn3.below
  have hr4 : Rw g2 w1 (#[.int .u64 ((y.t.f : Nat) : Int), .int .u64 ((y.t.n : Nat) : Int), .int .u64 ((y.t.g : Nat) : Int), .int .u64 ((y.t.p : Nat) : Int), .int .u64 ((y.t.o : Nat) : Int), .int .u64 ((y.t.v : Nat) : Int), .slice y.ia y.im y.ic, .bool y.t.m, .slice y.ca y.cn y.cc]) 26 := hn3.row
  refine rp 2 (.bool false) ?_
  refine rw_nil ?_
  refine nw_then ?_
  refine cw_seq ?_
  refine cw_seq ?_
  refine cw_region ?_
  refine rp 3 (.pointer (some ⟨g2, 6, none⟩)) ?_
  refine rv 4 (.slice y.ia y.im y.ic) (fun _ => ol_cell 23 _ ⟨g2, 6, none⟩ _ _ rfl (by kernel_rfl) (by rw [cell_of_row _ _ _ _ _ _ hr4]; rfl) Try.underlying23 rfl) ?_
  refine rp 5 (.int .i64 y.im) ?_
  refine rp 6 (.bool (decide ((y.im : Int) > (8 : Int)))) ?_
  refine rp 7 (.bool (decide ((y.im : Int) > (8 : Int)))) ?_
  cases hq5 : (decide ((y.im : Int) > (8 : Int))) with
  | true =>
    refine rw_off 8 (fun _ => by kernel_rfl) ?_
    refine rw_off 9 (fun _ => by kernel_rfl) ?_
    refine rw_off 10 (fun _ => by kernel_rfl) ?_
    refine rw_off 11 (fun _ => by kernel_rfl) ?_
    refine rp 12 (.bool true) ?_
    refine rw_nil ?_
    refine nw_then ?_
    refine cw_cond_t (fun _ => by kernel_rfl) ?_
    refine cw_seq ?_
    refine cw_region ?_
    refine rp 2 (.bool false) ?_
    refine rw_nil ?_
    refine nw_then ?_
    refine cw_ret ?_
    refine nw_ret_then ?_
    refine nw_ret_body (.bool false) (fun _ => by kernel_rfl) ?_
    refine ⟨_, rfl, congrArg Value.bool ?_, hB⟩
    rw [Bool.eq_iff_iff, rt_iff y ei ec]
    try simp only [decide_eq_true_eq, decide_eq_false_iff_not, beq_iff_eq, beq_eq_false_iff_ne, ne_eq, gt_iff_lt] at hq5
    try simp only [decide_eq_true_eq, beq_iff_eq, Bool.false_eq_true, false_iff, ]
    try simp only [Bool.false_eq_true, reduceCtorEq, true_and, and_true, if_true, if_false]
    omega
  | false =>
    refine rp 8 (.pointer (some ⟨g2, 8, none⟩)) ?_
    refine rv 9 (.slice y.ca y.cn y.cc) (fun _ => ol_cell 24 _ ⟨g2, 8, none⟩ _ _ rfl (by kernel_rfl) (by rw [cell_of_row _ _ _ _ _ _ hr4]; rfl) Try.underlying24 rfl) ?_
    refine rp 10 (.int .i64 y.cn) ?_
    refine rp 11 (.bool (decide ((y.cn : Int) > (256 : Int)))) ?_
    refine rp 12 (.bool (decide ((y.cn : Int) > (256 : Int)))) ?_
    refine rw_nil ?_
    refine nw_then ?_
    cases hq6 : (decide ((y.cn : Int) > (256 : Int))) with
    | true =>
      refine cw_cond_t (fun _ => by kernel_rfl) ?_
      refine cw_seq ?_
      refine cw_region ?_
      refine rp 2 (.bool false) ?_
      refine rw_nil ?_
      refine nw_then ?_
      refine cw_ret ?_
      refine nw_ret_then ?_
      refine nw_ret_body (.bool false) (fun _ => by kernel_rfl) ?_
      refine ⟨_, rfl, congrArg Value.bool ?_, hB⟩
      rw [Bool.eq_iff_iff, rt_iff y ei ec]
      try simp only [decide_eq_true_eq, decide_eq_false_iff_not, beq_iff_eq, beq_eq_false_iff_ne, ne_eq, gt_iff_lt] at hq5
      try simp only [decide_eq_true_eq, decide_eq_false_iff_not, beq_iff_eq, beq_eq_false_iff_ne, ne_eq, gt_iff_lt] at hq6
      try simp only [decide_eq_true_eq, beq_iff_eq, Bool.false_eq_true, false_iff, ]
      try simp only [Bool.false_eq_true, reduceCtorEq, true_and, and_true, if_true, if_false]
      omega
    | false =>
      refine cw_cond_f (fun _ => by kernel_rfl) ?_
      refine cw_skip ?_
      refine nw_then ?_
      refine cw_seq ?_
      refine cw_seq ?_
      refine cw_region ?_
      refine rp 13 (.pointer (some ⟨g2, 7, none⟩)) ?_
      refine rv 14 (.bool y.t.m) (fun _ => ol_cell 4 _ ⟨g2, 7, none⟩ _ _ rfl (by kernel_rfl) (by rw [cell_of_row _ _ _ _ _ _ hr4]; rfl) Try.underlying4 rfl) ?_
      refine rw_nil ?_
      refine nw_then ?_
      cases hq7 : (y.t.m) with
      | true =>
        refine cw_cond_t (fun _ => by kernel_rfl) ?_
        refine cw_seq ?_
        refine cw_region ?_
        refine rp 15 (.pointer (some ⟨g2, 4, none⟩)) ?_
        refine rv 16 (.int .u64 ((y.t.o : Nat) : Int)) (fun _ => ol_cell 22 _ ⟨g2, 4, none⟩ _ _ rfl (by kernel_rfl) (by rw [cell_of_row _ _ _ _ _ _ hr4]; rfl) Try.underlying22 rfl) ?_
        refine rp 17 (.bool (((y.t.o : Nat) : Int) == (0 : Int))) ?_
        refine rp 18 (.bool (((y.t.o : Nat) : Int) == (0 : Int))) ?_
        cases hq8 : (((y.t.o : Nat) : Int) == (0 : Int)) with
        | true =>
          refine rp 19 (.pointer (some ⟨g2, 6, none⟩)) ?_
          refine rv 20 (.slice y.ia y.im y.ic) (fun _ => ol_cell 23 _ ⟨g2, 6, none⟩ _ _ rfl (by kernel_rfl) (by rw [cell_of_row _ _ _ _ _ _ hr4]; rfl) Try.underlying23 rfl) ?_
          refine rp 21 (.int .i64 y.im) ?_
          refine rp 22 (.bool ((y.im : Int) == (0 : Int))) ?_
          refine rp 23 (.bool ((y.im : Int) == (0 : Int))) ?_
          refine rp 2 (.bool ((y.im : Int) == (0 : Int))) ?_
          refine rw_nil ?_
          refine nw_then ?_
          refine cw_ret ?_
          refine nw_ret_then ?_
          refine nw_ret_body (.bool ((y.im : Int) == (0 : Int))) (fun _ => by kernel_rfl) ?_
          refine ⟨_, rfl, congrArg Value.bool ?_, hB⟩
          rw [Bool.eq_iff_iff, rt_iff y ei ec]
          try simp only [decide_eq_true_eq, decide_eq_false_iff_not, beq_iff_eq, beq_eq_false_iff_ne, ne_eq, gt_iff_lt] at hq5
          try simp only [decide_eq_true_eq, decide_eq_false_iff_not, beq_iff_eq, beq_eq_false_iff_ne, ne_eq, gt_iff_lt] at hq6
          try simp only [decide_eq_true_eq, decide_eq_false_iff_not, beq_iff_eq, beq_eq_false_iff_ne, ne_eq, gt_iff_lt] at hq7
          try simp only [decide_eq_true_eq, decide_eq_false_iff_not, beq_iff_eq, beq_eq_false_iff_ne, ne_eq, gt_iff_lt] at hq8
          try simp only [decide_eq_true_eq, beq_iff_eq, Bool.false_eq_true, false_iff, hq7]
          try simp only [Bool.false_eq_true, reduceCtorEq, true_and, and_true, if_true, if_false]
          omega
        | false =>
          refine rw_off 19 (fun _ => by kernel_rfl) ?_
          refine rw_off 20 (fun _ => by kernel_rfl) ?_
          refine rw_off 21 (fun _ => by kernel_rfl) ?_
          refine rw_off 22 (fun _ => by kernel_rfl) ?_
          refine rp 23 (.bool false) ?_
          refine rp 2 (.bool false) ?_
          refine rw_nil ?_
          refine nw_then ?_
          refine cw_ret ?_
          refine nw_ret_then ?_
          refine nw_ret_body (.bool false) (fun _ => by kernel_rfl) ?_
          refine ⟨_, rfl, congrArg Value.bool ?_, hB⟩
          rw [Bool.eq_iff_iff, rt_iff y ei ec]
          try simp only [decide_eq_true_eq, decide_eq_false_iff_not, beq_iff_eq, beq_eq_false_iff_ne, ne_eq, gt_iff_lt] at hq5
          try simp only [decide_eq_true_eq, decide_eq_false_iff_not, beq_iff_eq, beq_eq_false_iff_ne, ne_eq, gt_iff_lt] at hq6
          try simp only [decide_eq_true_eq, decide_eq_false_iff_not, beq_iff_eq, beq_eq_false_iff_ne, ne_eq, gt_iff_lt] at hq7
          try simp only [decide_eq_true_eq, decide_eq_false_iff_not, beq_iff_eq, beq_eq_false_iff_ne, ne_eq, gt_iff_lt] at hq8
          try simp only [decide_eq_true_eq, beq_iff_eq, Bool.false_eq_true, false_iff, hq7]
          try simp only [Bool.false_eq_true, reduceCtorEq, true_and, and_true, if_true, if_false]
          omega
      | false =>
        refine cw_cond_f (fun _ => by kernel_rfl) ?_
        refine cw_skip ?_
        refine nw_then ?_
        refine cw_seq ?_
        refine cw_region ?_
        refine rp 24 (.pointer (some ⟨g2, 8, none⟩)) ?_
        refine rv 25 (.slice y.ca y.cn y.cc) (fun _ => ol_cell 24 _ ⟨g2, 8, none⟩ _ _ rfl (by kernel_rfl) (by rw [cell_of_row _ _ _ _ _ _ hr4]; rfl) Try.underlying24 rfl) ?_
        refine rp 26 (.int .i64 y.cn) ?_
        refine rp 27 (.bool ((y.cn : Int) == (0 : Int))) ?_
        refine rp 2 (.bool ((y.cn : Int) == (0 : Int))) ?_
        refine rw_nil ?_
        refine nw_then ?_
        refine cw_ret ?_
        refine nw_ret_body (.bool ((y.cn : Int) == (0 : Int))) (fun _ => by kernel_rfl) ?_
        refine ⟨_, rfl, congrArg Value.bool ?_, hB⟩
        rw [Bool.eq_iff_iff, rt_iff y ei ec]
        try simp only [decide_eq_true_eq, decide_eq_false_iff_not, beq_iff_eq, beq_eq_false_iff_ne, ne_eq, gt_iff_lt] at hq5
        try simp only [decide_eq_true_eq, decide_eq_false_iff_not, beq_iff_eq, beq_eq_false_iff_ne, ne_eq, gt_iff_lt] at hq6
        try simp only [decide_eq_true_eq, decide_eq_false_iff_not, beq_iff_eq, beq_eq_false_iff_ne, ne_eq, gt_iff_lt] at hq7
        try simp only [decide_eq_true_eq, beq_iff_eq, Bool.false_eq_true, false_iff, hq7]
        try simp only [Bool.false_eq_true, reduceCtorEq, true_and, and_true, if_true, if_false]
        omega
theorem wright (y : TV) (w : World) (ok : TXa w y) : Calls Try.prog 13 #[.agg #[.int .u64 ((y.t.f : Nat) : Int), .int .u64 ((y.t.n : Nat) : Int), .int .u64 ((y.t.g : Nat) : Int), .int .u64 ((y.t.p : Nat) : Int), .int .u64 ((y.t.o : Nat) : Int), .int .u64 ((y.t.v : Nat) : Int), .slice y.ia y.im y.ic, .bool y.t.m, .slice y.ca y.cn y.cc]] w fun e w' => ∃ v, e = .returned v ∧ RVl w (.bool (rtX y.t)) v w' := by
  have ei := ok.i.e
  have ec := ok.c.l
  have bi := ok.i.c
  have bc := ok.m
  have hB : Bl w w := Bl.refl w
  refine cw_enter Try.func13 rfl 28 rfl ?_
  show CW _ _ _ _ _ _ _ [(0, .agg #[.int .u64 ((y.t.f : Nat) : Int), .int .u64 ((y.t.n : Nat) : Int), .int .u64 ((y.t.g : Nat) : Int), .int .u64 ((y.t.p : Nat) : Int), .int .u64 ((y.t.o : Nat) : Int), .int .u64 ((y.t.v : Nat) : Int), .slice y.ia y.im y.ic, .bool y.t.m, .slice y.ca y.cn y.cc])] _
  refine cw_seq ?_
  refine cw_region ?_
  refine rw_new 1 (#[.int .u64 ((y.t.f : Nat) : Int), .int .u64 ((y.t.n : Nat) : Int), .int .u64 ((y.t.g : Nat) : Int), .int .u64 ((y.t.p : Nat) : Int), .int .u64 ((y.t.o : Nat) : Int), .int .u64 ((y.t.v : Nat) : Int), .slice y.ia y.im y.ic, .bool y.t.m, .slice y.ca y.cn y.cc]) 26 (fun _ => by kernel_rfl) (fun _ => by kernel_rfl) ?_
  intro w1 g2 hn3
  have hzg2 : w.heap.size ≤ g2 := by have := hB.size; have := hn3.hg; omega
  replace hB := hB.go hn3.below
  have hr4 : Rw g2 w1 (#[.int .u64 ((y.t.f : Nat) : Int), .int .u64 ((y.t.n : Nat) : Int), .int .u64 ((y.t.g : Nat) : Int), .int .u64 ((y.t.p : Nat) : Int), .int .u64 ((y.t.o : Nat) : Int), .int .u64 ((y.t.v : Nat) : Int), .slice y.ia y.im y.ic, .bool y.t.m, .slice y.ca y.cn y.cc]) 26 := hn3.row
  refine rp 2 (.bool false) ?_
  refine rw_nil ?_
  refine nw_then ?_
  refine cw_seq ?_
  refine cw_seq ?_
  refine cw_region ?_
  refine rp 3 (.pointer (some ⟨g2, 6, none⟩)) ?_
  refine rv 4 (.slice y.ia y.im y.ic) (fun _ => ol_cell 23 _ ⟨g2, 6, none⟩ _ _ rfl (by kernel_rfl) (by rw [cell_of_row _ _ _ _ _ _ hr4]; rfl) Try.underlying23 rfl) ?_
  refine rp 5 (.int .i64 y.im) ?_
  refine rp 6 (.bool (decide ((y.im : Int) > (8 : Int)))) ?_
  refine rp 7 (.bool (decide ((y.im : Int) > (8 : Int)))) ?_
  cases hq5 : (decide ((y.im : Int) > (8 : Int))) with
  | true =>
    refine rw_off 8 (fun _ => by kernel_rfl) ?_
    refine rw_off 9 (fun _ => by kernel_rfl) ?_
    refine rw_off 10 (fun _ => by kernel_rfl) ?_
    refine rw_off 11 (fun _ => by kernel_rfl) ?_
    refine rp 12 (.bool true) ?_
    refine rw_nil ?_
    refine nw_then ?_
    refine cw_cond_t (fun _ => by kernel_rfl) ?_
    refine cw_seq ?_
    refine cw_region ?_
    refine rp 2 (.bool false) ?_
    refine rw_nil ?_
    refine nw_then ?_
    refine cw_ret ?_
    refine nw_ret_then ?_
    refine nw_ret_body (.bool false) (fun _ => by kernel_rfl) ?_
    refine ⟨_, rfl, congrArg Value.bool ?_, hB⟩
    rw [Bool.eq_iff_iff, rt_iff y ei ec]
    try simp only [decide_eq_true_eq, decide_eq_false_iff_not, beq_iff_eq, beq_eq_false_iff_ne, ne_eq, gt_iff_lt] at hq5
    try simp only [decide_eq_true_eq, beq_iff_eq, Bool.false_eq_true, false_iff, ]
    try simp only [Bool.false_eq_true, reduceCtorEq, true_and, and_true, if_true, if_false]
    omega
  | false =>
    refine rp 8 (.pointer (some ⟨g2, 8, none⟩)) ?_
    refine rv 9 (.slice y.ca y.cn y.cc) (fun _ => ol_cell 24 _ ⟨g2, 8, none⟩ _ _ rfl (by kernel_rfl) (by rw [cell_of_row _ _ _ _ _ _ hr4]; rfl) Try.underlying24 rfl) ?_
    refine rp 10 (.int .i64 y.cn) ?_
    refine rp 11 (.bool (decide ((y.cn : Int) > (256 : Int)))) ?_
    refine rp 12 (.bool (decide ((y.cn : Int) > (256 : Int)))) ?_
    refine rw_nil ?_
    refine nw_then ?_
    cases hq6 : (decide ((y.cn : Int) > (256 : Int))) with
    | true =>
      refine cw_cond_t (fun _ => by kernel_rfl) ?_
      refine cw_seq ?_
      refine cw_region ?_
      refine rp 2 (.bool false) ?_
      refine rw_nil ?_
      refine nw_then ?_
      refine cw_ret ?_
      refine nw_ret_then ?_
      refine nw_ret_body (.bool false) (fun _ => by kernel_rfl) ?_
      refine ⟨_, rfl, congrArg Value.bool ?_, hB⟩
      rw [Bool.eq_iff_iff, rt_iff y ei ec]
      try simp only [decide_eq_true_eq, decide_eq_false_iff_not, beq_iff_eq, beq_eq_false_iff_ne, ne_eq, gt_iff_lt] at hq5
      try simp only [decide_eq_true_eq, decide_eq_false_iff_not, beq_iff_eq, beq_eq_false_iff_ne, ne_eq, gt_iff_lt] at hq6
      try simp only [decide_eq_true_eq, beq_iff_eq, Bool.false_eq_true, false_iff, ]
      try simp only [Bool.false_eq_true, reduceCtorEq, true_and, and_true, if_true, if_false]
      omega
    | false =>
      refine cw_cond_f (fun _ => by kernel_rfl) ?_
      refine cw_skip ?_
      refine nw_then ?_
      refine cw_seq ?_
      refine cw_seq ?_
      refine cw_region ?_
      refine rp 13 (.pointer (some ⟨g2, 7, none⟩)) ?_
      refine rv 14 (.bool y.t.m) (fun _ => ol_cell 4 _ ⟨g2, 7, none⟩ _ _ rfl (by kernel_rfl) (by rw [cell_of_row _ _ _ _ _ _ hr4]; rfl) Try.underlying4 rfl) ?_
      refine rw_nil ?_
      refine nw_then ?_
      cases hq7 : (y.t.m) with
      | true =>
        refine cw_cond_t (fun _ => by kernel_rfl) ?_
        refine cw_seq ?_
        refine cw_region ?_
        refine rp 15 (.pointer (some ⟨g2, 4, none⟩)) ?_
        refine rv 16 (.int .u64 ((y.t.o : Nat) : Int)) (fun _ => ol_cell 22 _ ⟨g2, 4, none⟩ _ _ rfl (by kernel_rfl) (by rw [cell_of_row _ _ _ _ _ _ hr4]; rfl) Try.underlying22 rfl) ?_
        refine rp 17 (.bool (((y.t.o : Nat) : Int) == (0 : Int))) ?_
        refine rp 18 (.bool (((y.t.o : Nat) : Int) == (0 : Int))) ?_
        cases hq8 : (((y.t.o : Nat) : Int) == (0 : Int)) with
        | true =>
          refine rp 19 (.pointer (some ⟨g2, 6, none⟩)) ?_
          refine rv 20 (.slice y.ia y.im y.ic) (fun _ => ol_cell 23 _ ⟨g2, 6, none⟩ _ _ rfl (by kernel_rfl) (by rw [cell_of_row _ _ _ _ _ _ hr4]; rfl) Try.underlying23 rfl) ?_
          refine rp 21 (.int .i64 y.im) ?_
          refine rp 22 (.bool ((y.im : Int) == (0 : Int))) ?_
          refine rp 23 (.bool ((y.im : Int) == (0 : Int))) ?_
          refine rp 2 (.bool ((y.im : Int) == (0 : Int))) ?_
          refine rw_nil ?_
          refine nw_then ?_
          refine cw_ret ?_
          refine nw_ret_then ?_
          refine nw_ret_body (.bool ((y.im : Int) == (0 : Int))) (fun _ => by kernel_rfl) ?_
          refine ⟨_, rfl, congrArg Value.bool ?_, hB⟩
          rw [Bool.eq_iff_iff, rt_iff y ei ec]
          try simp only [decide_eq_true_eq, decide_eq_false_iff_not, beq_iff_eq, beq_eq_false_iff_ne, ne_eq, gt_iff_lt] at hq5
          try simp only [decide_eq_true_eq, decide_eq_false_iff_not, beq_iff_eq, beq_eq_false_iff_ne, ne_eq, gt_iff_lt] at hq6
          try simp only [decide_eq_true_eq, decide_eq_false_iff_not, beq_iff_eq, beq_eq_false_iff_ne, ne_eq, gt_iff_lt] at hq7
          try simp only [decide_eq_true_eq, decide_eq_false_iff_not, beq_iff_eq, beq_eq_false_iff_ne, ne_eq, gt_iff_lt] at hq8
          try simp only [decide_eq_true_eq, beq_iff_eq, Bool.false_eq_true, false_iff, hq7]
          try simp only [Bool.false_eq_true, reduceCtorEq, true_and, and_true, if_true, if_false]
          omega
        | false =>
          refine rw_off 19 (fun _ => by kernel_rfl) ?_
          refine rw_off 20 (fun _ => by kernel_rfl) ?_
          refine rw_off 21 (fun _ => by kernel_rfl) ?_
          refine rw_off 22 (fun _ => by kernel_rfl) ?_
          refine rp 23 (.bool false) ?_
          refine rp 2 (.bool false) ?_
          refine rw_nil ?_
          refine nw_then ?_
          refine cw_ret ?_
          refine nw_ret_then ?_
          refine nw_ret_body (.bool false) (fun _ => by kernel_rfl) ?_
          refine ⟨_, rfl, congrArg Value.bool ?_, hB⟩
          rw [Bool.eq_iff_iff, rt_iff y ei ec]
          try simp only [decide_eq_true_eq, decide_eq_false_iff_not, beq_iff_eq, beq_eq_false_iff_ne, ne_eq, gt_iff_lt] at hq5
          try simp only [decide_eq_true_eq, decide_eq_false_iff_not, beq_iff_eq, beq_eq_false_iff_ne, ne_eq, gt_iff_lt] at hq6
          try simp only [decide_eq_true_eq, decide_eq_false_iff_not, beq_iff_eq, beq_eq_false_iff_ne, ne_eq, gt_iff_lt] at hq7
          try simp only [decide_eq_true_eq, decide_eq_false_iff_not, beq_iff_eq, beq_eq_false_iff_ne, ne_eq, gt_iff_lt] at hq8
          try simp only [decide_eq_true_eq, beq_iff_eq, Bool.false_eq_true, false_iff, hq7]
          try simp only [Bool.false_eq_true, reduceCtorEq, true_and, and_true, if_true, if_false]
          omega
      | false =>
        refine cw_cond_f (fun _ => by kernel_rfl) ?_
        refine cw_skip ?_
        refine nw_then ?_
        refine cw_seq ?_
        refine cw_region ?_
        refine rp 24 (.pointer (some ⟨g2, 8, none⟩)) ?_
        refine rv 25 (.slice y.ca y.cn y.cc) (fun _ => ol_cell 24 _ ⟨g2, 8, none⟩ _ _ rfl (by kernel_rfl) (by rw [cell_of_row _ _ _ _ _ _ hr4]; rfl) Try.underlying24 rfl) ?_
        refine rp 26 (.int .i64 y.cn) ?_
        refine rp 27 (.bool ((y.cn : Int) == (0 : Int))) ?_
        refine rp 2 (.bool ((y.cn : Int) == (0 : Int))) ?_
        refine rw_nil ?_
        refine nw_then ?_
        refine cw_ret ?_
        refine nw_ret_body (.bool ((y.cn : Int) == (0 : Int))) (fun _ => by kernel_rfl) ?_
        refine ⟨_, rfl, congrArg Value.bool ?_, hB⟩
        rw [Bool.eq_iff_iff, rt_iff y ei ec]
        try simp only [decide_eq_true_eq, decide_eq_false_iff_not, beq_iff_eq, beq_eq_false_iff_ne, ne_eq, gt_iff_lt] at hq5
        try simp only [decide_eq_true_eq, decide_eq_false_iff_not, beq_iff_eq, beq_eq_false_iff_ne, ne_eq, gt_iff_lt] at hq6
        try simp only [decide_eq_true_eq, decide_eq_false_iff_not, beq_iff_eq, beq_eq_false_iff_ne, ne_eq, gt_iff_lt] at hq7
        try simp only [decide_eq_true_eq, beq_iff_eq, Bool.false_eq_true, false_iff, hq7]
        try simp only [Bool.false_eq_true, reduceCtorEq, true_and, and_true, if_true, if_false]
        omega
/-- What a transaction costs at least. -/
def leX (t : PX) : Nat := 100 + 2 * t.c.length + 4 * t.i.length
theorem rleast (y : TV) (w : World) (ok : TXa w y) : Calls Try.prog 21 #[.agg #[.int .u64 ((y.t.f : Nat) : Int), .int .u64 ((y.t.n : Nat) : Int), .int .u64 ((y.t.g : Nat) : Int), .int .u64 ((y.t.p : Nat) : Int), .int .u64 ((y.t.o : Nat) : Int), .int .u64 ((y.t.v : Nat) : Int), .slice y.ia y.im y.ic, .bool y.t.m, .slice y.ca y.cn y.cc]] w fun e w' => ∃ v, e = .returned v ∧ RVl w (.int .u64 (leX y.t : Nat)) v w' := by
  have ei := ok.i.e
  have ec := ok.c.l
  have bi := ok.i.c
  have bc := ok.m
  have hB : Bl w w := Bl.refl w
  refine cw_enter Try.func21 rfl 15 rfl ?_
  show CW _ _ _ _ _ _ _ [(0, .agg #[.int .u64 ((y.t.f : Nat) : Int), .int .u64 ((y.t.n : Nat) : Int), .int .u64 ((y.t.g : Nat) : Int), .int .u64 ((y.t.p : Nat) : Int), .int .u64 ((y.t.o : Nat) : Int), .int .u64 ((y.t.v : Nat) : Int), .slice y.ia y.im y.ic, .bool y.t.m, .slice y.ca y.cn y.cc])] _
  refine cw_seq ?_
  refine cw_region ?_
  refine rw_new 1 (#[.int .u64 ((y.t.f : Nat) : Int), .int .u64 ((y.t.n : Nat) : Int), .int .u64 ((y.t.g : Nat) : Int), .int .u64 ((y.t.p : Nat) : Int), .int .u64 ((y.t.o : Nat) : Int), .int .u64 ((y.t.v : Nat) : Int), .slice y.ia y.im y.ic, .bool y.t.m, .slice y.ca y.cn y.cc]) 26 (fun _ => by kernel_rfl) (fun _ => by kernel_rfl) ?_
  intro w1 g2 hn3
  have hzg2 : w.heap.size ≤ g2 := by have := hB.size; have := hn3.hg; omega
  replace hB := hB.go hn3.below
  have hr4 : Rw g2 w1 (#[.int .u64 ((y.t.f : Nat) : Int), .int .u64 ((y.t.n : Nat) : Int), .int .u64 ((y.t.g : Nat) : Int), .int .u64 ((y.t.p : Nat) : Int), .int .u64 ((y.t.o : Nat) : Int), .int .u64 ((y.t.v : Nat) : Int), .slice y.ia y.im y.ic, .bool y.t.m, .slice y.ca y.cn y.cc]) 26 := hn3.row
  refine rp 2 (.int .u64 0) ?_
  refine rw_nil ?_
  refine nw_then ?_
  refine cw_seq ?_
  refine cw_region ?_
  refine rp 3 (.pointer (some ⟨g2, 8, none⟩)) ?_
  refine rv 4 (.slice y.ca y.cn y.cc) (fun _ => ol_cell 24 _ ⟨g2, 8, none⟩ _ _ rfl (by kernel_rfl) (by rw [cell_of_row _ _ _ _ _ _ hr4]; rfl) Try.underlying24 rfl) ?_
  refine rp 5 (.int .i64 y.cn) ?_
  refine rv 6 (.int .u64 (y.cn : Int)) (fun _ => ol_conv (v := .int .u64 (IntKind.u64.wrap ((y.cn : Int)))) (by kernel_rfl) (congrArg (Value.int .u64) (wrapu (by omega) (by omega)))) ?_
  refine rv 7 (.int .u64 ((2 : Int) * (y.cn : Int))) (fun _ => ol_conv (v := .int .u64 (IntKind.u64.wrap ((2 : Int) * (y.cn : Int)))) (by kernel_rfl) (congrArg (Value.int .u64) (wrapu (by omega) (by omega)))) ?_
  refine rv 8 (.int .u64 ((100 : Int) + ((2 : Int) * (y.cn : Int) : Int))) (fun _ => ol_conv (v := .int .u64 (IntKind.u64.wrap ((100 : Int) + ((2 : Int) * (y.cn : Int) : Int)))) (by kernel_rfl) (congrArg (Value.int .u64) (wrapu (by omega) (by omega)))) ?_
  refine rp 9 (.pointer (some ⟨g2, 6, none⟩)) ?_
  refine rv 10 (.slice y.ia y.im y.ic) (fun _ => ol_cell 23 _ ⟨g2, 6, none⟩ _ _ rfl (by kernel_rfl) (by rw [cell_of_row _ _ _ _ _ _ hr4]; rfl) Try.underlying23 rfl) ?_
  refine rp 11 (.int .i64 y.im) ?_
  refine rv 12 (.int .u64 (y.im : Int)) (fun _ => ol_conv (v := .int .u64 (IntKind.u64.wrap ((y.im : Int)))) (by kernel_rfl) (congrArg (Value.int .u64) (wrapu (by omega) (by omega)))) ?_
  refine rv 13 (.int .u64 ((4 : Int) * (y.im : Int))) (fun _ => ol_conv (v := .int .u64 (IntKind.u64.wrap ((4 : Int) * (y.im : Int)))) (by kernel_rfl) (congrArg (Value.int .u64) (wrapu (by omega) (by omega)))) ?_
  refine rv 14 (.int .u64 (((100 : Int) + ((2 : Int) * (y.cn : Int) : Int) : Int) + ((4 : Int) * (y.im : Int) : Int))) (fun _ => ol_conv (v := .int .u64 (IntKind.u64.wrap (((100 : Int) + ((2 : Int) * (y.cn : Int) : Int) : Int) + ((4 : Int) * (y.im : Int) : Int)))) (by kernel_rfl) (congrArg (Value.int .u64) (wrapu (by omega) (by omega)))) ?_
  refine rp 2 (.int .u64 (((100 : Int) + ((2 : Int) * (y.cn : Int) : Int) : Int) + ((4 : Int) * (y.im : Int) : Int))) ?_
  refine rw_nil ?_
  refine nw_then ?_
  refine cw_ret ?_
  refine nw_ret_body (.int .u64 (((100 : Int) + ((2 : Int) * (y.cn : Int) : Int) : Int) + ((4 : Int) * (y.im : Int) : Int))) (fun _ => by kernel_rfl) ?_
  refine ⟨_, rfl, congrArg (Value.int .u64) ?_, hB⟩
  unfold leX
  rw [ei, ec]
  omega
theorem wleast (y : TV) (w : World) (ok : TXa w y) : Calls Try.prog 20 #[.agg #[.int .u64 ((y.t.f : Nat) : Int), .int .u64 ((y.t.n : Nat) : Int), .int .u64 ((y.t.g : Nat) : Int), .int .u64 ((y.t.p : Nat) : Int), .int .u64 ((y.t.o : Nat) : Int), .int .u64 ((y.t.v : Nat) : Int), .slice y.ia y.im y.ic, .bool y.t.m, .slice y.ca y.cn y.cc]] w fun e w' => ∃ v, e = .returned v ∧ RVl w (.int .u64 (leX y.t : Nat)) v w' := by
  have ei := ok.i.e
  have ec := ok.c.l
  have bi := ok.i.c
  have bc := ok.m
  have hB : Bl w w := Bl.refl w
  refine cw_enter Try.func20 rfl 15 rfl ?_
  show CW _ _ _ _ _ _ _ [(0, .agg #[.int .u64 ((y.t.f : Nat) : Int), .int .u64 ((y.t.n : Nat) : Int), .int .u64 ((y.t.g : Nat) : Int), .int .u64 ((y.t.p : Nat) : Int), .int .u64 ((y.t.o : Nat) : Int), .int .u64 ((y.t.v : Nat) : Int), .slice y.ia y.im y.ic, .bool y.t.m, .slice y.ca y.cn y.cc])] _
  refine cw_seq ?_
  refine cw_region ?_
  refine rw_new 1 (#[.int .u64 ((y.t.f : Nat) : Int), .int .u64 ((y.t.n : Nat) : Int), .int .u64 ((y.t.g : Nat) : Int), .int .u64 ((y.t.p : Nat) : Int), .int .u64 ((y.t.o : Nat) : Int), .int .u64 ((y.t.v : Nat) : Int), .slice y.ia y.im y.ic, .bool y.t.m, .slice y.ca y.cn y.cc]) 26 (fun _ => by kernel_rfl) (fun _ => by kernel_rfl) ?_
  intro w1 g2 hn3
  have hzg2 : w.heap.size ≤ g2 := by have := hB.size; have := hn3.hg; omega
  replace hB := hB.go hn3.below
  have hr4 : Rw g2 w1 (#[.int .u64 ((y.t.f : Nat) : Int), .int .u64 ((y.t.n : Nat) : Int), .int .u64 ((y.t.g : Nat) : Int), .int .u64 ((y.t.p : Nat) : Int), .int .u64 ((y.t.o : Nat) : Int), .int .u64 ((y.t.v : Nat) : Int), .slice y.ia y.im y.ic, .bool y.t.m, .slice y.ca y.cn y.cc]) 26 := hn3.row
  refine rp 2 (.int .u64 0) ?_
  refine rw_nil ?_
  refine nw_then ?_
  refine cw_seq ?_
  refine cw_region ?_
  refine rp 3 (.pointer (some ⟨g2, 8, none⟩)) ?_
  refine rv 4 (.slice y.ca y.cn y.cc) (fun _ => ol_cell 24 _ ⟨g2, 8, none⟩ _ _ rfl (by kernel_rfl) (by rw [cell_of_row _ _ _ _ _ _ hr4]; rfl) Try.underlying24 rfl) ?_
  refine rp 5 (.int .i64 y.cn) ?_
  refine rv 6 (.int .u64 (y.cn : Int)) (fun _ => ol_conv (v := .int .u64 (IntKind.u64.wrap ((y.cn : Int)))) (by kernel_rfl) (congrArg (Value.int .u64) (wrapu (by omega) (by omega)))) ?_
  refine rv 7 (.int .u64 ((2 : Int) * (y.cn : Int))) (fun _ => ol_conv (v := .int .u64 (IntKind.u64.wrap ((2 : Int) * (y.cn : Int)))) (by kernel_rfl) (congrArg (Value.int .u64) (wrapu (by omega) (by omega)))) ?_
  refine rv 8 (.int .u64 ((100 : Int) + ((2 : Int) * (y.cn : Int) : Int))) (fun _ => ol_conv (v := .int .u64 (IntKind.u64.wrap ((100 : Int) + ((2 : Int) * (y.cn : Int) : Int)))) (by kernel_rfl) (congrArg (Value.int .u64) (wrapu (by omega) (by omega)))) ?_
  refine rp 9 (.pointer (some ⟨g2, 6, none⟩)) ?_
  refine rv 10 (.slice y.ia y.im y.ic) (fun _ => ol_cell 23 _ ⟨g2, 6, none⟩ _ _ rfl (by kernel_rfl) (by rw [cell_of_row _ _ _ _ _ _ hr4]; rfl) Try.underlying23 rfl) ?_
  refine rp 11 (.int .i64 y.im) ?_
  refine rv 12 (.int .u64 (y.im : Int)) (fun _ => ol_conv (v := .int .u64 (IntKind.u64.wrap ((y.im : Int)))) (by kernel_rfl) (congrArg (Value.int .u64) (wrapu (by omega) (by omega)))) ?_
  refine rv 13 (.int .u64 ((4 : Int) * (y.im : Int))) (fun _ => ol_conv (v := .int .u64 (IntKind.u64.wrap ((4 : Int) * (y.im : Int)))) (by kernel_rfl) (congrArg (Value.int .u64) (wrapu (by omega) (by omega)))) ?_
  refine rv 14 (.int .u64 (((100 : Int) + ((2 : Int) * (y.cn : Int) : Int) : Int) + ((4 : Int) * (y.im : Int) : Int))) (fun _ => ol_conv (v := .int .u64 (IntKind.u64.wrap (((100 : Int) + ((2 : Int) * (y.cn : Int) : Int) : Int) + ((4 : Int) * (y.im : Int) : Int)))) (by kernel_rfl) (congrArg (Value.int .u64) (wrapu (by omega) (by omega)))) ?_
  refine rp 2 (.int .u64 (((100 : Int) + ((2 : Int) * (y.cn : Int) : Int) : Int) + ((4 : Int) * (y.im : Int) : Int))) ?_
  refine rw_nil ?_
  refine nw_then ?_
  refine cw_ret ?_
  refine nw_ret_body (.int .u64 (((100 : Int) + ((2 : Int) * (y.cn : Int) : Int) : Int) + ((4 : Int) * (y.im : Int) : Int))) (fun _ => by kernel_rfl) ?_
  refine ⟨_, rfl, congrArg (Value.int .u64) ?_, hB⟩
  unfold leX
  rw [ei, ec]
  omega
end Go.Proofs.Ytmofehloiiopfaa
