/- Boxes, rows, texts and slices of bytes, the table. -/
import Derived.Test.YtbjjboicfghldabDoorG02
import Derived.Test.YtbjjboicfghldabDoorG07
import Derived.Test.YtbjjboicfghldabDoorG08
import Derived.Lib.OthersKept
namespace Go.Proofs.YtbjjboicfghldabDoor
open Go.RowKit
open Wo
set_option linter.unusedVariables false
set_option maxRecDepth 100000
def Rw (g : Nat) (w : World) (cells : Array Value) (T : TypeId) : Prop := w.heap[g]? = some (.cells cells T (0, 0))
def Bl (w0 w : World) : Prop := Below w0.heap.size w0 w
section
variable {g g' k : Nat} {w0 w w' : World} {cells cells' : Array Value} {T T' : TypeId}
theorem Rw.go (h : Rw g w cells T) (hb : Below w.heap.size w w') : Rw g w' cells T := Below.row hb h
theorem Rw.drew (h : Rw g w cells T) : Rw g w.drew cells T := h
theorem Rw.lt (h : Rw g w cells T) : g < w.heap.size := lt_of_get h
theorem Rw.put (h : Rw g w cells T) (hp : Put w w' g cells') : Rw g w' cells' T := hp.row h
theorem Rw.past (h : Rw g w cells T) (hp : Put w w' g' cells') (hne : g ≠ g') : Rw g w' cells T := (hp.other hne).trans h
theorem Rw.tou (h : Rw g w cells T) (ht : Touch g' w w') (hne : g ≠ g') : Rw g w' cells T := (ht.block g (lt_of_get h) hne).trans h
theorem Bl.refl (w : World) : Bl w w := Below.refl _ _
theorem Bl.go (h : Bl w0 w) (hb : Below w.heap.size w w') : Bl w0 w' := h.trans (hb.mono h.size)
theorem Bl.drew (h : Bl w0 w) : Bl w0 w.drew := h.go (Below.refl _ _).drew
theorem Bl.size (h : Bl w0 w) : w0.heap.size ≤ w.heap.size := Below.size h
theorem Bl.put (h : Bl w0 w) (hp : Put w w' g cells) (hg : w0.heap.size ≤ g) : Bl w0 w' := hp.below h hg h.size
theorem Bl.tou (h : Bl w0 w) (ht : Touch g w w') (hg : w0.heap.size ≤ g) : Bl w0 w' := ht.below h hg h.size
end
theorem Ag.go {w w' : World} {a : Option Addr} {n c : Nat} {b : List Int} (h : Ag w a n c b) (hb : Below w.heap.size w w') : Ag w' a n c b := h.at hb
section
variable {r : Option Nat} {m : Nat} {P : Program} {ds : List Deferred} {n : Nat} {Q : Exit → Act → World → Prop} {env : Env} {w : World} {ops : Array Oper} {l : List Oper} {o : Oper} {S : World → Prop} {fuel : Nat} {listed : Array Bool} {rs : List Nat}
theorem rw_newS (d : Nat) (cells : Array Value) (T : TypeId) (k : Nat) (hc : ∀ fb, chk n ops env fb o d = true) (hr : ∀ fb, (execOp (ev env fb) o).run P w = .ok (.value (.slice (some ⟨w.heap.size, 0, none⟩) k k)) (w.alloc (.cells cells T)))
    (h : ∀ w' g, New w w' g cells T → RW r m P ds n Q ops l ((d, .slice (some ⟨g, 0, none⟩) k k) :: env) w') : RW r m P ds n Q ops (o :: l) env w := rw_v d _ hc hr (h _ _ ⟨rfl, rfl⟩)
theorem ar_newS (i d : Nat) (cells : Array Value) (T : TypeId) (k : Nat) (ho : ops[i]? = some o) (hc : ∀ fb, chk n ops env fb o d = true) (hr : ∀ fb, (execOp (ev env fb) o).run P w = .ok (.value (.slice (some ⟨w.heap.size, 0, none⟩) k k)) (w.alloc (.cells cells T))) (hS : ∀ w' g, New w w' g cells T → S w')
    (h : ∀ w' g, New w w' g cells T → DW P ds n Q ops S fuel (listed.setIfInBounds i true) ((d, .slice (some ⟨g, 0, none⟩) k k) :: env) w') (hs : AR P ds n Q ops S fuel listed env w rs) : AR P ds n Q ops S fuel listed env w (i :: rs) :=
  ar_v i d _ ho hc hr (hS _ _ ⟨rfl, rfl⟩) (h _ _ ⟨rfl, rfl⟩) hs
end
/-- string(x) -/
theorem Ag.run_str {w : World} {a : Option Addr} {n c : Nat} {bs : List Int} (h : Ag w a n c bs) (ρ : Operand → Value) (o : Oper) (x : Operand) (ho : o.op = .convert 22 9 x) (hx : ρ x = .slice a n c) : (execOp ρ o).run Tryd.prog w = .ok (.value (.string (strOfNums bs))) w := by
  unfold execOp
  simp only [ho, hx, Sem.run_bind, conv_any h.i, Result.andThen_ok, Sem.run_pure]
/-- An append onto a row of one's own. -/
theorem app_run {w : World} {base : Nat} {v : Value} {bs : List Int} (hown : OwnB w base v bs) {a : Option Addr} {m c : Nat} {news : List Int} (h : Ag w a m c news) (hb : bs.length + m ≤ 140737488355328) (hbase : base ≤ w.heap.size) :
    ∃ v' w', (∀ ty, (Builtin.append_ #[22, 22] ty #[v, .slice a m c]).run Tryd.prog w = .ok v' w') ∧ OwnB w' base v' (bs ++ news) ∧ Below base w w' := by
  obtain ⟨i, hi, hz, hsz, hby⟩ := info5
  cases a with
  | none =>
    obtain ⟨rfl, rfl⟩ := h.nil rfl
    have hn0 : news = [] := List.eq_nil_of_length_eq_zero h.l
    subst hn0
    exact ⟨v, w, fun ty => run_append_owned_none w base 22 ty 5 i 1 Tryd.underlying22 hi v _ _ hown, by rw [List.append_nil]; exact hown, Below.refl _ _⟩
  | some ad =>
    have hc : ∀ j u, (news.map (Value.int .u8))[j]? = some u → w.cell? (ad.add j) = some u := by
      rcases h.i.inB h.nil with ⟨h, _⟩ | ⟨ad', h1, _, h3⟩
      · cases h
      · cases h1; exact h3
    obtain ⟨v', w', h1, h2, h3, _⟩ := run_append_own w base 22 0 5 i (.int .u8 0) 1 1 Tryd.underlying22 hi hz hsz hby rfl (by decide) v bs.length (bs.map (Value.int .u8)) hown ad m c (news.map (Value.int .u8)) (by simpa using h.l) hc (B8_one2 _) (by unfold maxLen; omega) (by omega) hbase
    refine ⟨v', w', fun ty => h1, ?_, (Below.refl _ _).grown h3 hbase hown.lt⟩
    unfold OwnB
    rw [List.length_append, h.l, List.map_append]
    exact h2
theorem app_nil {w : World} {a : Option Addr} {m c : Nat} {news : List Int} (h : Ag w a m c news) (hb : m ≤ 140737488355328) :
    ∃ a' c' w', (∀ ty, (Builtin.append_ #[22, 22] ty #[.slice none 0 0, .slice a m c]).run Tryd.prog w = .ok (.slice a' m c') w') ∧ Ag w' a' m c' news ∧ Below w.heap.size w w' := by
  obtain ⟨v', w', h1, h2, h3⟩ := app_run (w := w) (base := w.heap.size) (v := .slice none 0 0) (bs := []) ⟨rfl, .inl ⟨rfl, rfl⟩⟩ h (by simpa using hb) (Nat.le_refl _)
  rw [List.nil_append] at h2
  obtain ⟨a', c', rfl, hag⟩ := h2.ag h.b
  rw [h.l] at hag h1
  exact ⟨a', c', w', h1, hag, h3⟩
theorem ol_app {w w' : World} {v u r : Value} {ρ : Operand → Value} {o : Oper} (hr : ∀ ty, (Builtin.append_ #[22, 22] ty #[v, u]).run Tryd.prog w = .ok r w') (x y : Operand) (ho : o.op = .call { callee := .builtin .append, args := #[x, y], argTypes := #[22, 22] }) (hx : ρ x = v) (hy : ρ y = u) : (execOp ρ o).run Tryd.prog w = .ok (.value r) w' := by
  unfold execOp
  simp only [ho, resolve, invoke, builtin, Sem.run_bind, Sem.run_pure, Result.andThen_ok, List.map_toArray, List.map_cons, List.map_nil, hx, hy, hr]
/-- What a result's block tells. -/
theorem res_c1 {fn : Func} {p : Tmp} {f : Nat → Value} {T : TypeId} {d : TypeDesc} (h : fn.results = #[.cell p T]) (w : World) (g : Nat) (cs : Array Value) (hp : f p = .pointer (some ⟨g, 0, none⟩)) (hg : Rw g w cs T) (hu : Tryd.prog.underlying T = some d) (hd : (match d with | .struct _ | .array _ _ => true | _ => false) = true) (hi : (Tryd.prog.info? T).map (·.size) = some cs.size) : (resF f fn.results).run Tryd.prog w = .ok (.agg cs) w := by
  have := run_loadVar_row (P := Tryd.prog) w g T T _ _ _ hg hu (by cases d <;> first | rfl | exact hd) hi
  unfold resF
  rw [h]
  simp [hp, this, asAddr]
theorem res_c2 {fn : Func} {p q : Tmp} {f : Nat → Value} {T : TypeId} {d : TypeDesc} (h : fn.results = #[.cell p T, .tmp q]) (w : World) (g : Nat) (cs : Array Value) (v : Value) (hp : f p = .pointer (some ⟨g, 0, none⟩)) (hq : f q = v) (hg : Rw g w cs T) (hu : Tryd.prog.underlying T = some d) (hd : (match d with | .struct _ | .array _ _ => true | _ => false) = true) (hi : (Tryd.prog.info? T).map (·.size) = some cs.size) : (resF f fn.results).run Tryd.prog w = .ok (.tuple #[.agg cs, v]) w := by
  have := run_loadVar_row (P := Tryd.prog) w g T T _ _ _ hg hu (by cases d <;> first | rfl | exact hd) hi
  unfold resF
  rw [h]
  simp [hp, hq, this, asAddr]
def RSl (w : World) (b : List Int) : Value → World → Prop := fun u w' => (∃ x n c, u = .slice x n c ∧ Ag w' x n c b) ∧ Bl w w'
def RVl (w : World) (v : Value) : Value → World → Prop := fun u w' => u = v ∧ Bl w w'
theorem str_size (l : List Int) : (strOfNums l).size = l.length := strOfNums_size l
theorem str_data (l : List Int) : (strOfNums l).data.toList = l.map fun n => UInt8.ofNat n.toNat := strOfNums_data l
theorem ba_ext {a b : ByteArray} (h : a.data.toList = b.data.toList) : a = b := ByteArray.ext (Array.ext' h)
theorem str_extract (l : List Int) (i j : Nat) : (strOfNums l).extract i j = strOfNums ((l.take j).drop i) := by
  apply ba_ext
  rw [str_data, ByteArray.data_extract, Array.toList_extract, List.extract_eq_take_drop, str_data, List.drop_take]
  simp [List.map_take, List.map_drop]
theorem str_get (l : List Int) (hb : Byt l) (i : Nat) (h : i < l.length) : (strOfNums l)[i]? = some (UInt8.ofNat (l.getD i 0).toNat) := by
  have h1 : i < (strOfNums l).size := by rw [str_size]; exact h
  rw [getElem?_pos (strOfNums l) i h1]
  congr 1
  have h2 : i < (strOfNums l).data.toList.length := by rw [str_data, List.length_map]; exact h
  show (strOfNums l).data[i]'_ = _
  rw [← Array.getElem_toList]
  simp only [str_data, List.getElem_map]
  rw [List.getD, List.getElem?_eq_getElem h]
  rfl
theorem byt_get {l : List Int} (hb : Byt l) (i : Nat) : 0 ≤ l.getD i 0 ∧ l.getD i 0 < 256 := by
  rw [List.getD]
  cases h : l[i]? with
  | none => simp
  | some x => exact hb x (List.mem_of_getElem? h)
theorem byt_drop {l : List Int} (hb : Byt l) (k : Nat) : Byt (l.drop k) := fun x hx => hb x (List.mem_of_mem_drop hx)
theorem byt_take {l : List Int} (hb : Byt l) (k : Nat) : Byt (l.take k) := fun x hx => hb x (List.mem_of_mem_take hx)
theorem byt_app {a b : List Int} (ha : Byt a) (hb : Byt b) : Byt (a ++ b) := mem_app ha hb
section
variable {P : Program} {ρ : Operand → Value} {w : World} {o : Oper}
theorem ol_len9 (x : Operand) (l : List Int) (ho : o.op = .call { callee := .builtin .len, args := #[x], argTypes := #[9] }) (hu : P.underlying 9 = some .string) (hx : ρ x = .string (strOfNums l)) : (execOp ρ o).run P w = .ok (.value (.int .i64 ((l.length : Nat) : Int))) w := by
  unfold execOp
  rw [ho]
  simp only [resolve, invoke, builtin, Sem.run_bind, Sem.run_pure, Result.andThen_ok, List.map_toArray, List.map_cons, List.map_nil, hx]
  simp [Builtin.len_, run_underlying hu, goInt, str_size]
theorem ol_addS (x y : Operand) (r : TypeId) (a b : List Int) (ho : o.op = .binOp .add 9 x y r) (hx : ρ x = .string (strOfNums a)) (hy : ρ y = .string (strOfNums b)) (hs : a.length + b.length ≤ 9223372036854775807) : (execOp ρ o).run P w = .ok (.value (.string (strOfNums (a ++ b)))) w := by
  have h1 : (strOfNums a).size + (strOfNums b).size ≤ 9223372036854775807 := by rw [str_size, str_size]; exact hs
  have e : strOfNums a ++ strOfNums b = strOfNums (a ++ b) := by
    apply ba_ext
    rw [str_data]
    simp [str_data]
  unfold execOp
  rw [ho]
  simp only [hx, hy]
  generalize strOfNums a = p at *
  generalize strOfNums b = q at *
  rw [← e]
  go_simp
theorem ol_eqS (T : TypeId) (x y : Operand) (r : TypeId) (a b : List Int) (ho : o.op = .binOp .eql T x y r) (hx : ρ x = .string (strOfNums a)) (hy : ρ y = .string (strOfNums b)) (ha : Byt a) (hb : Byt b) : (execOp ρ o).run P w = .ok (.value (.bool (decide (a = b)))) w := ol_eqs T x y r _ _ ho hx hy (str_beq ha hb)
theorem ol_neS (T : TypeId) (x y : Operand) (r : TypeId) (a b : List Int) (ho : o.op = .binOp .neq T x y r) (hx : ρ x = .string (strOfNums a)) (hy : ρ y = .string (strOfNums b)) (ha : Byt a) (hb : Byt b) : (execOp ρ o).run P w = .ok (.value (.bool (!decide (a = b)))) w := ol_nes T x y r _ _ ho hx hy (congrArg Bool.not (str_beq ha hb))
theorem ol_sfrom (x y : Operand) (l : List Int) (k : Nat) (ho : o.op = .slice 9 x (some y) none none) (hu : P.underlying 9 = some .string) (hx : ρ x = .string (strOfNums l)) (hy : ρ y = .int .i64 ((k : Nat) : Int)) (hk : k ≤ l.length) : (execOp ρ o).run P w = .ok (.value (.string (strOfNums (l.drop k)))) w := by
  have hs : ((k : Nat) : Int) ≤ ((strOfNums l).size : Int) := by rw [str_size]; omega
  unfold execOp
  rw [ho]
  simp only [hx, hy, Option.map_some, Option.map_none, Sem.run_bind, run_sliceAt_string w 9 _ _ _ _ hu, run_slice_string_l w 9 _ hu .i64 ((k : Nat) : Int) (by omega) hs, Result.andThen_ok, Sem.run_pure, Int.toNat_natCast, str_extract, str_size]
  rw [List.take_of_length_le (Nat.le_refl _)]
theorem ol_sto (x y : Operand) (l : List Int) (k : Nat) (ho : o.op = .slice 9 x none (some y) none) (hu : P.underlying 9 = some .string) (hx : ρ x = .string (strOfNums l)) (hy : ρ y = .int .i64 ((k : Nat) : Int)) (hk : k ≤ l.length) : (execOp ρ o).run P w = .ok (.value (.string (strOfNums (l.take k)))) w := by
  have hs : ((k : Nat) : Int) ≤ ((strOfNums l).size : Int) := by rw [str_size]; omega
  unfold execOp
  rw [ho]
  simp only [hx, hy, Option.map_some, Option.map_none, Sem.run_bind, run_sliceAt_string w 9 _ _ _ _ hu, run_slice_string_h w 9 _ hu .i64 ((k : Nat) : Int) (by omega) hs, Result.andThen_ok, Sem.run_pure, Int.toNat_natCast, str_extract, List.drop_zero]
theorem ol_smid (x y z : Operand) (l : List Int) (i j : Nat) (ho : o.op = .slice 9 x (some y) (some z) none) (hu : P.underlying 9 = some .string) (hx : ρ x = .string (strOfNums l)) (hy : ρ y = .int .i64 ((i : Nat) : Int)) (hz : ρ z = .int .i64 ((j : Nat) : Int)) (hi : i ≤ j) (hj : j ≤ l.length) : (execOp ρ o).run P w = .ok (.value (.string (strOfNums ((l.take j).drop i)))) w := by
  have hs : ((j : Nat) : Int) ≤ ((strOfNums l).size : Int) := by rw [str_size]; omega
  unfold execOp
  rw [ho]
  simp only [hx, hy, hz, Option.map_some, Option.map_none, Sem.run_bind, run_sliceAt_string w 9 _ _ _ _ hu, run_slice_string w 9 _ .i64 .i64 ((i : Nat) : Int) ((j : Nat) : Int) hu (by omega) (by omega) hs, Result.andThen_ok, Sem.run_pure, Int.toNat_natCast, str_extract]
theorem ol_sidx (x y : Operand) (l : List Int) (k : Nat) (ho : o.op = .index 9 x y) (hu : P.underlying 9 = some .string) (hx : ρ x = .string (strOfNums l)) (hy : ρ y = .int .i64 ((k : Nat) : Int)) (hb : Byt l) (hk : k < l.length) : (execOp ρ o).run P w = .ok (.value (.int .u8 (l.getD k 0))) w := by
  have hg := str_get l hb k hk
  have hv := byt_get hb k
  generalize l.getD k 0 = y at hg hv ⊢
  unfold execOp
  rw [ho]
  simp only [hx, hy]
  simp [Instr.index, asIntOf, run_underlying hu, hg, Result.andThen]
  omega
end
end Go.Proofs.YtbjjboicfghldabDoor
