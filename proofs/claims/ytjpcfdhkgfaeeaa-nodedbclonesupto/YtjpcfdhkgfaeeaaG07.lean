/- Texts as bytes; what a store is in memory; what is stored into its map, and deleted. -/
import Derived.Test.YtjpcfdhkgfaeeaaG06
namespace Go.Proofs.Ytjpcfdhkgfaeeaa
open Go.RowKit
open Go.ChangeMaps (setBlock)
set_option linter.unusedVariables false
set_option maxRecDepth 100000
/-- The bytes of a text, as numbers. -/
def nums (s : ByteArray) : List Int := s.data.toList.map fun b => (b.toNat : Int)
theorem nums_len (s : ByteArray) : (nums s).length = s.size := by rw [nums, List.length_map, Array.length_toList]; rfl
theorem nums_b (s : ByteArray) : ∀ x ∈ nums s, 0 ≤ x ∧ x < 256 := by
  intro x hx
  obtain ⟨b, _, rfl⟩ := List.mem_map.1 hx
  have := b.toNat_lt
  omega
theorem str_nums (s : ByteArray) : strOfNums (nums s) = s := by
  obtain ⟨⟨l⟩⟩ := s
  unfold strOfNums nums
  simp [Function.comp_def]
theorem nums_inj {s t : ByteArray} (h : nums s = nums t) : s = t := by rw [← str_nums s, h, str_nums]
theorem bytes_below (w : World) (s : ByteArray) : Below w.heap.size w (Lib.bytesWorld w 5 s) :=
  ⟨rfl, rfl, rfl, by rw [Lib.bytesWorld_size]; omega, fun k hk => Lib.bytesWorld_at_old w 5 s k hk⟩
theorem bytes_ag (w : World) (s : ByteArray) (hs : s.size ≤ 140737488351232) : Ag (Lib.bytesWorld w 5 s) (some ⟨w.heap.size, 0, none⟩) s.size (grownCap w s.size 0 5) (nums s) := by
  refine ⟨?_, (fun h => by cases h), nums_len s, nums_b s⟩
  by_cases h0 : s.size = 0
  · exact .inl ⟨h0, List.eq_nil_of_length_eq_zero (by rw [nums_len, h0])⟩
  · refine .inr ⟨w.heap.size, 0, rfl, nums_len s, by omega, grownCap_ge _ _ _ _, grownCap_le_maxLen _ _ _ _ (by unfold maxLen; omega), fun j hj => ?_⟩
    rw [nums_len] at hj
    rw [Nat.zero_add, Lib.bytesWorld_cell w 5 s j hj]
    have hj' : j < s.data.toList.length := by rw [Array.length_toList]; exact hj
    rw [nums, List.getD, List.getD, List.getElem?_map, List.getElem?_eq_getElem hj']
    rfl
theorem text_conv (w : World) (s : ByteArray) : (convert 34 54 (.string s)).run Try.prog w = .ok (.slice (some ⟨w.heap.size, 0, none⟩) s.size (grownCap w s.size 0 5)) (Lib.bytesWorld w 5 s) := Lib.run_convert_string_bytes w 34 54 5 s Try.underlying34 Try.underlying54 Try.underlying5
theorem str_conv (w : World) (s : ByteArray) : (convert 9 54 (.string s)).run Try.prog w = .ok (.slice (some ⟨w.heap.size, 0, none⟩) s.size (grownCap w s.size 0 5)) (Lib.bytesWorld w 5 s) := Lib.run_convert_string_bytes w 9 54 5 s Try.underlying9 Try.underlying54 Try.underlying5
theorem ag_str {w : World} {a : Option Addr} {n c : Nat} {s : ByteArray} (h : Ag w a n c (nums s)) : (convert 54 9 (.slice a n c)).run Try.prog w = .ok (.string s) w := by
  have := conv_any h.i
  rwa [str_nums] at this
theorem setBlock_same {w : World} {m : Nat} {o o' : Obj} (h : w.heap[m]? = some o) : (setBlock w m o').heap[m]? = some o' := by
  have hm := lt_of_get h
  simp [setBlock, hm]
theorem setBlock_other {w : World} {m k : Nat} {o : Obj} (h : k ≠ m) : (setBlock w m o).heap[k]? = w.heap[k]? := by
  simp [setBlock, Ne.symm h]
theorem setBlock_touch (w : World) (m : Nat) (o : Obj) : Touch m w (setBlock w m o) := ⟨rfl, rfl, rfl, by simp [setBlock], fun k _ hk => setBlock_other hk⟩
/-- A thing that is laid in, or counted anew. -/
def putT (x : Th) (L : List Th) : List Th := match findT x.d L with
  | none => L ++ [x]
  | some (j, _) => L.set j x
def delT (d : List Int) (L : List Th) : List Th := match findT d L with
  | none => L
  | some (j, _) => L.eraseIdx j
theorem findT_some {d : List Int} : ∀ {L : List Th} {j : Nat} {y : Th}, findT d L = some (j, y) → L[j]? = some y ∧ y.d = d
  | x :: r, j, y, h => by
    unfold findT at h
    by_cases hx : x.d = d
    · rw [if_pos hx] at h
      cases h
      exact ⟨rfl, hx⟩
    · rw [if_neg hx] at h
      cases hq : findT d r with
      | none => rw [hq] at h; cases h
      | some p =>
        obtain ⟨j', y'⟩ := p
        rw [hq] at h
        cases h
        have ih := findT_some hq
        exact ⟨by simpa using ih.1, ih.2⟩
theorem Ents.len {es : List MapEntry} {L : List Th} (h : Ents es L) : es.length = L.length := by
  have := congrArg List.length h
  simpa using this
theorem Bn.push {es : List MapEntry} {clock : Nat} (h : Bn es clock) (e : MapEntry) (he : e.born = clock) : Bn (es ++ [e]) (clock + 1) := by
  refine ⟨?_, fun x hx => ?_⟩
  · rw [List.map_append, List.nodup_append]
    refine ⟨h.1, by simp, fun a ha b hb => ?_⟩
    obtain ⟨x, hx, rfl⟩ := List.mem_map.1 ha
    have := h.2 x hx
    simp at hb
    omega
  · rcases List.mem_append.1 hx with hx | hx
    · have := h.2 x hx; omega
    · simp at hx; subst hx; omega
theorem Bn.set {es : List MapEntry} {clock : Nat} (h : Bn es clock) (j : Nat) (hj : j < es.length) (e : MapEntry) (he : e.born = es[j].born) : Bn (es.set j e) clock := by
  refine ⟨?_, fun x hx => ?_⟩
  · rw [List.map_set, he, show es[j].born = (es.map (·.born))[j]'(by simpa using hj) from by simp, List.set_getElem_self]
    exact h.1
  · rcases List.mem_or_eq_of_mem_set hx with hx | rfl
    · exact h.2 x hx
    · rw [he]; exact h.2 _ (List.getElem_mem hj)
theorem Bn.erase {es : List MapEntry} {clock : Nat} (h : Bn es clock) (j : Nat) : Bn (es.eraseIdx j) clock :=
  ⟨h.1.sublist ((List.eraseIdx_sublist es j).map _), fun x hx => h.2 x (List.mem_of_mem_eraseIdx hx)⟩
theorem upd_run {w : World} {m : Nat} {L : List Th} (h : MapAt w m L) (x : Th) (hx : x.d.length = 32) :
    ∃ o, (Instr.mapUpdate 67 (.map (some m)) (.agg (B8 x.d)) x.val).run Try.prog w = .ok () (setBlock w m o) ∧ MapAt (setBlock w m o) m (putT x L) := by
  obtain ⟨hl, es, clock, hm, he, hbn⟩ := h
  have hf := find_run x.d hx w L es.toList hl he
  unfold putT
  cases hq : findT x.d L with
  | none =>
    rw [hq] at hf
    refine ⟨.map (es.push { key := .agg (B8 x.d), val := x.val, born := clock }) (clock + 1), by simp [Instr.mapUpdate, run_underlying Try.underlying67, MapKept.run_getObj_map hm, check_digest x.d hx, hf, MapKept.run_setObj_map _ hm, Result.andThen, setBlock], fun y hy => ?_, _, _, setBlock_same hm, ?_, by rw [Array.toList_push]; exact hbn.push _ rfl⟩
    · rcases List.mem_append.1 hy with hy | hy
      · exact hl y hy
      · simp at hy; rw [hy]; exact hx
    · unfold Ents at he ⊢
      simp only [Array.toList_push, List.map_append, he, List.map_cons, List.map_nil]
      rfl
  | some p =>
    obtain ⟨j, y⟩ := p
    rw [hq] at hf
    obtain ⟨hj, hyd⟩ := findT_some hq
    have hjl := (List.getElem?_eq_some_iff.1 hj).1
    have hje : j < es.toList.length := by rw [he.len]; exact hjl
    have hkey : es.toList[j].key = .agg (B8 x.d) := by
      have h1 : (es.toList.map (fun e => (e.key, e.val)))[j]? = (L.map fun x => (x.key, x.val))[j]? := by rw [he]
      rw [List.getElem?_map, List.getElem?_map, hj, List.getElem?_eq_getElem hje] at h1
      simp only [Option.map_some, Option.some.injEq, Prod.mk.injEq] at h1
      rw [h1.1, Th.key, hyd]
    have hes : es[j]? = some es.toList[j] := by simp [Array.getElem?_eq_getElem (show j < es.size by simpa using hje)]
    have hst := stays x.d w
    refine ⟨.map (es.modify j fun e => { e with key := .agg (B8 x.d), val := x.val }) clock, ?_, fun y hy => ?_, _, _, setBlock_same hm, ?_, ?_⟩
    · have hgk : ((es[j]?).map (·.key)).getD (.agg (B8 x.d)) = .agg (B8 x.d) := by rw [hes]; exact hkey
      simp only [Instr.mapUpdate, Sem.run_bind, run_underlying Try.underlying67, Result.andThen_ok, MapKept.run_getObj_map hm, check_digest x.d hx, hf, hgk, hst, MapKept.run_setObj_map _ hm]
      rfl
    · rcases List.mem_or_eq_of_mem_set hy with hy | rfl
      · exact hl y hy
      · exact hx
    · unfold Ents at he ⊢
      rw [Array.toList_modify]
      have e1 : es.toList.modify j (fun e => { e with key := .agg (B8 x.d), val := x.val }) = es.toList.set j { es.toList[j] with key := .agg (B8 x.d), val := x.val } := by
        rw [Go.ChangeMaps.modify_eq_set _ _ _ es.toList[j] (List.getElem?_eq_getElem hje)]
      rw [e1, List.map_set, List.map_set, he]
      rfl
    · rw [Array.toList_modify, Go.ChangeMaps.modify_eq_set _ _ _ es.toList[j] (List.getElem?_eq_getElem hje)]
      exact hbn.set j hje _ rfl
theorem del_run {w : World} {m : Nat} {L : List Th} (h : MapAt w m L) (d : List Int) (hd : d.length = 32) (ty : TypeId) :
    ∃ o, (Builtin.delete_ #[67, 30] ty #[.map (some m), .agg (B8 d)]).run Try.prog w = .ok (.tuple #[]) (setBlock w m o) ∧ MapAt (setBlock w m o) m (delT d L) := by
  obtain ⟨hl, es, clock, hm, he, hbn⟩ := h
  have hf := find_run d hd w L es.toList hl he
  unfold delT
  cases hq : findT d L with
  | none =>
    rw [hq] at hf
    exact ⟨.map es clock, by simp [Builtin.delete_, run_underlying Try.underlying67, MapKept.run_getObj_map hm, check_digest d hd, hf, MapKept.run_setObj_map _ hm, Result.andThen, setBlock], hl, _, _, setBlock_same hm, he, hbn⟩
  | some p =>
    obtain ⟨j, y⟩ := p
    rw [hq] at hf
    obtain ⟨hj, hyd⟩ := findT_some hq
    have hjl := (List.getElem?_eq_some_iff.1 hj).1
    have hje : j < es.size := by have := he.len; simp at this; omega
    refine ⟨.map (es.eraseIdxIfInBounds j) clock, by simp [Builtin.delete_, run_underlying Try.underlying67, MapKept.run_getObj_map hm, check_digest d hd, hf, MapKept.run_setObj_map _ hm, Result.andThen, setBlock], fun y hy => hl y (List.mem_of_mem_eraseIdx hy), _, _, setBlock_same hm, ?_⟩
    have e1 : (es.eraseIdxIfInBounds j).toList = es.toList.eraseIdx j := by
      unfold Array.eraseIdxIfInBounds
      rw [dif_pos hje]
      simp
    refine ⟨?_, by rw [e1]; exact hbn.erase j⟩
    unfold Ents at he ⊢
    have e1 : (es.eraseIdxIfInBounds j).toList = es.toList.eraseIdx j := by
      unfold Array.eraseIdxIfInBounds
      rw [dif_pos hje]
      simp
    rw [e1, Go.ChangeMaps.map_eraseIdx, Go.ChangeMaps.map_eraseIdx, he]
/-- A store in memory: its block, its map's block. -/
structure Sto (w : World) (g m : Nat) (most : Int) (L : List Th) : Prop where
  row : w.heap[g]? = some (.cells #[.int .i64 most, .map (some m)] 69)
  mp : MapAt w m L
  ne : g ≠ m
theorem MapAt.keep {w w' : World} {m : Nat} {L : List Th} (h : MapAt w m L) (hk : m < w.heap.size → w'.heap[m]? = w.heap[m]?) : MapAt w' m L := by
  obtain ⟨hl, es, clock, hm, he⟩ := h
  exact ⟨hl, es, clock, (hk (lt_of_get hm)).trans hm, he⟩
theorem MapAt.lt {w : World} {m : Nat} {L : List Th} (h : MapAt w m L) : m < w.heap.size := by
  obtain ⟨hl, es, clock, hm, he⟩ := h
  exact lt_of_get hm
theorem Sto.go {w w' : World} {g m : Nat} {most : Int} {L : List Th} (h : Sto w g m most L) (hb : Below w.heap.size w w') : Sto w' g m most L := ⟨Below.row hb h.row, h.mp.keep (fun hl => hb.block m hl), h.ne⟩
theorem Sto.c0 {w : World} {g m : Nat} {most : Int} {L : List Th} (h : Sto w g m most L) : w.cell? ⟨g, 0, none⟩ = some (.int .i64 most) := by rw [cell_of_row _ _ _ _ _ _ h.row]; rfl
theorem Sto.c1 {w : World} {g m : Nat} {most : Int} {L : List Th} (h : Sto w g m most L) : w.cell? ⟨g, 1, none⟩ = some (.map (some m)) := by rw [cell_of_row _ _ _ _ _ _ h.row]; rfl
theorem Sto.lts {w : World} {g m : Nat} {most : Int} {L : List Th} (h : Sto w g m most L) : g < w.heap.size ∧ m < w.heap.size := ⟨lt_of_get h.row, h.mp.lt⟩
end Go.Proofs.Ytjpcfdhkgfaeeaa
/- What Bytes, New, Len and Get of a store answer. -/
namespace Go.Proofs.Ytjpcfdhkgfaeeaa
open Go.RowKit
open Go.ChangeMaps (setBlock)
set_option linter.unusedVariables false
set_option maxRecDepth 100000
section
variable {a : Act} {w : World}
theorem rd_loadM {x : Operand} {p : Addr} {v : Value} {o : Oper} (ho : o.op = .load 67 x) (hx : a.eval x = .pointer (some p)) (hc : w.cell? p = some v) : (execOp a.eval o).run Try.prog w = .ok (.value v) w := by
  unfold execOp
  rw [ho]
  simp only [hx]
  go_simp
theorem rd_loadT {x : Operand} {p : Addr} {v : Value} {o : Oper} (ho : o.op = .load 34 x) (hx : a.eval x = .pointer (some p)) (hc : w.cell? p = some v) : (execOp a.eval o).run Try.prog w = .ok (.value v) w := by
  unfold execOp
  rw [ho]
  simp only [hx]
  go_simp
theorem rd_loadi {x : Operand} {p : Addr} {v : Value} {o : Oper} (ho : o.op = .load 3 x) (hx : a.eval x = .pointer (some p)) (hc : w.cell? p = some v) : (execOp a.eval o).run Try.prog w = .ok (.value v) w := by
  unfold execOp
  rw [ho]
  simp only [hx]
  go_simp
theorem rd_look {x y : Operand} {r : Value} {m d : Value} {o : Oper} (ho : o.op = .lookup 67 x y true) (hx : a.eval x = m) (hy : a.eval y = d) (hr : (Instr.lookup 67 m d true).run Try.prog w = .ok r w) : (execOp a.eval o).run Try.prog w = .ok (.value r) w := by
  unfold execOp
  rw [ho]
  simp only [hx, hy, Sem.run_bind, hr, Result.andThen_ok, Sem.run_pure]
theorem rd_allocE {o : Oper} (ho : o.op = .alloc 72) : (execOp a.eval o).run Try.prog w = .ok (.value (.pointer (some ⟨w.heap.size, 0, none⟩))) (w.alloc (.cells #[.string ByteArray.empty, .int .i64 0] 72)) := by
  unfold execOp
  rw [ho]
  go_simp
  try rfl
end
theorem e_one (s : ByteArray) (r : Int) : (#[Value.string s, Value.int .i64 r] : Array Value).all (·.oneCell') = true := by simp [Value.oneCell']
theorem rd_lenM {a : Act} {w : World} {x : Operand} {m clock : Nat} {es : Array MapEntry} {o : Oper} (ho : o.op = .call { callee := .builtin .len, args := #[x], argTypes := #[67] }) (hx : a.eval x = .map (some m)) (hm : w.heap[m]? = some (.map es clock)) : (execOp a.eval o).run Try.prog w = .ok (.value (.int .i64 es.size)) w := by
  simp [execOp, ho, resolve, invoke, builtin, hx, Builtin.len_, run_underlying Try.underlying67, MapKept.run_getObj_map hm, Result.andThen, goInt]
/-- A box that holds an entry. -/
def EBx (g : Nat) (v : World) (s : ByteArray) (r : Int) : Prop := v.heap[g]? = some (.cells #[.string s, .int .i64 r] 72)
theorem EBx.go {g : Nat} {v v' : World} {s : ByteArray} {r : Int} (h : EBx g v s r) (hb : Below v.heap.size v v') : EBx g v' s r := Below.row hb h
theorem EBx.c0 {g : Nat} {v : World} {s : ByteArray} {r : Int} (h : EBx g v s r) : v.cell? ⟨g, 0, none⟩ = some (.string s) := by rw [cell_of_row _ _ _ _ _ _ h]; rfl
theorem EBx.c1 {g : Nat} {v : World} {s : ByteArray} {r : Int} (h : EBx g v s r) : v.cell? ⟨g, 1, none⟩ = some (.int .i64 r) := by rw [cell_of_row _ _ _ _ _ _ h]; rfl
theorem EBx.fz {g : Nat} {v : World} {s : ByteArray} {r : Int} (h : EBx g v s r) (o : Nat) : v.frozen? ⟨g, o, none⟩ = false := frozen_of_row _ _ _ _ _ h
theorem ebox_below (w : World) (s : ByteArray) (r : Int) : Below w.heap.size w ((w.alloc (.cells #[.string ByteArray.empty, .int .i64 0] 72)).setRow w.heap.size #[.string s, .int .i64 r]) := Below.setRow (below_new _ _) (Nat.le_refl _) _
theorem bytes_any (s : ByteArray) (w : World) : Calls Try.prog 23 #[.string s] w fun e w' => e = .returned (.slice (some ⟨w.heap.size, 0, none⟩) s.size (grownCap w s.size 0 5)) ∧ w' = Lib.bytesWorld w 5 s := by
  have hc := text_conv w s
  go_enter Try.func23, Try.ntmps23
  go_wp2_with fail
  go_ret
  exact ⟨rfl, rfl⟩
theorem new_any (most : Int) (w : World) : Calls Try.prog 16 #[.int .i64 most] w fun e w' => (∃ g m, e = .returned (.pointer (some ⟨g, 0, none⟩)) ∧ Sto w' g m most [] ∧ w.heap.size ≤ g ∧ w.heap.size ≤ m) ∧ Below w.heap.size w w' := by
  have hmm := @run_makeMap Try.prog
  go_enter Try.func16, Try.ntmps16
  go_wp2_with fail
  go_ret
  have s1 : (w.alloc (.map #[] 0)).heap.size = w.heap.size + 1 := by simp
  refine ⟨⟨w.heap.size + 1, w.heap.size, by rfl, ⟨?_, ⟨(fun x hx => by cases hx), #[], 0, ?_, rfl, List.Pairwise.nil, fun e he => by cases he⟩, by omega⟩, by omega, Nat.le_refl _⟩, below_go (below_new w (.map #[] 0)) (below_new _ _)⟩
  · rw [← s1]
    exact heap_alloc_new _ _
  · rw [heap_alloc_old _ _ (by rw [s1]; omega)]
    exact heap_alloc_new _ _
theorem len_any {w : World} {g m : Nat} {most : Int} {L : List Th} (h : Sto w g m most L) : Calls Try.prog 15 #[.pointer (some ⟨g, 0, none⟩)] w fun e w' => e = .returned (.int .i64 L.length) ∧ w' = w := by
  have c1 := h.c1
  obtain ⟨_, es, clock, hm, he, _⟩ := h.mp
  have hl := he.len
  rw [Array.length_toList] at hl
  have HL := Hid.mk hl
  clear h he hl
  go_enter Try.func15, Try.ntmps15
  go_upto_region 1 with fail
  rename_i KK hkk
  refine wp_region_lit ?_
  refine wl_pure 3 (.pointer (some ⟨g, 0, none⟩)) rfl (by kernel_rfl) (by kernel_rfl) ?_
  refine wl_pure 4 (.pointer (some ⟨g, 0, none⟩)) rfl (by kernel_rfl) (by kernel_rfl) ?_
  refine wl_pure 5 (.pointer (some ⟨g, 1, none⟩)) rfl (by kernel_rfl) (by kernel_rfl) ?_
  refine wl_pure 6 (.map (some m)) rfl (by kernel_rfl) (rd_loadM rfl (by kernel_rfl) c1) ?_
  refine wl_pure 7 (.int .i64 es.size) rfl (by kernel_rfl) (rd_lenM rfl (by kernel_rfl) hm) ?_
  refine wl_pure 2 (.int .i64 es.size) rfl (by kernel_rfl) (by kernel_rfl) ?_
  refine hkk _ _ ?_
  clear hkk
  go_frame
  go_wp2_with fail
  go_ret
  exact ⟨by rw [← HL.out]; rfl, rfl⟩
/-- What Get tells. -/
def getT (d : List Int) (L : List Th) : ByteArray × Int × Bool := match findT d L with
  | none => (ByteArray.empty, 0, false)
  | some (_, y) => (y.s, y.r, true)
theorem look_get {w : World} {m : Nat} {L : List Th} (h : MapAt w m L) (d : List Int) (hd : d.length = 32) : (Instr.lookup 67 (.map (some m)) (.agg (B8 d)) true).run Try.prog w = .ok (.tuple #[.agg #[.string (getT d L).1, .int .i64 (getT d L).2.1], .bool (getT d L).2.2]) w := by
  rw [look_run h d hd]
  unfold getT
  cases findT d L <;> rfl
set_option maxHeartbeats 4000000 in
theorem get_any {w : World} {g m : Nat} {most : Int} {L : List Th} (h : Sto w g m most L) (d : List Int) (hd : d.length = 32) : Calls Try.prog 19 #[.pointer (some ⟨g, 0, none⟩), .agg (B8 d)] w fun e w' => e = .returned (.tuple #[.string (getT d L).1, .int .i64 (getT d L).2.1, .bool (getT d L).2.2]) ∧ Below w.heap.size w w' := by
  obtain ⟨⟨eS, eR, eB⟩, hget⟩ : ∃ x, getT d L = x := ⟨_, rfl⟩
  rw [hget]
  have HLK := Hid.mk (show ∀ v, Sto v g m most L → (Instr.lookup 67 (.map (some m)) (.agg (B8 d)) true).run Try.prog v = .ok (.tuple #[.agg #[.string eS, .int .i64 eR], .bool eB]) v from fun v hv => by have := look_get hv.mp d hd; rwa [hget] at this)
  have HST := Hid.mk (h.go (below_new w (.cells (B8 d) 30)))
  have HBD := Hid.mk (dbx_new w d hd)
  have HBE := Hid.mk (below_new w (.cells (B8 d) 30))
  clear h hget hd
  simp only
  go_enter Try.func19, Try.ntmps19
  go_upto_region 1 with fail
  refine gen_w (p := fun v => Code.wp _ _ _ _ v) (q := fun v => Sto v g m most L ∧ DBx w.heap.size v d ∧ Below w.heap.size w v) ⟨HST.out, HBD.out, HBE.out⟩ ?_
  clear HST HBD HBE
  rintro v ⟨hst, hbd, hbe⟩
  have HST := Hid.mk hst
  have HBD := Hid.mk hbd
  have HBE := Hid.mk hbe
  clear hst hbd hbe
  rename_i KK hkk
  refine wp_region_held_drew (S := fun v' => Sto v' g m most L ∧ DBx w.heap.size v' d) (by kernel_rfl) ⟨HST.out.go (Below.refl _ _).drew, HBD.out.go (Below.refl _ _).drew⟩ (fun hS => ?_)
  refine rd_take 0 10 (.pointer (some ⟨g, 0, none⟩)) rfl rfl (by kernel_rfl) (by kernel_rfl) (by kernel_rfl) (fun _ _ _ h => h) (by kernel_rfl) (fun v _ => by kernel_rfl) hS ?_
  refine rd_take 1 11 (.pointer (some ⟨g, 0, none⟩)) rfl rfl (by kernel_rfl) (by kernel_rfl) (by kernel_rfl) (fun _ _ _ h => h) (by kernel_rfl) (fun v _ => by kernel_rfl) hS ?_
  refine rd_take 2 12 (.pointer (some ⟨g, 1, none⟩)) rfl rfl (by kernel_rfl) (by kernel_rfl) (by kernel_rfl) (fun _ _ _ h => h) (by kernel_rfl) (fun v _ => by kernel_rfl) hS ?_
  refine rd_take 3 13 (.map (some m)) rfl rfl (by kernel_rfl) (by kernel_rfl) (by kernel_rfl) (fun _ _ _ h => h) (by kernel_rfl) (fun v' hv => rd_loadM rfl (by kernel_rfl) hv.1.c1) hS ?_
  refine rd_take 4 14 (.agg (B8 d)) rfl rfl (by kernel_rfl) (by kernel_rfl) (by kernel_rfl) (fun _ _ _ h => h) (by kernel_rfl) (fun v' hv => rd_loadDd rfl (by kernel_rfl) hv.2) hS ?_
  refine rd_take 5 15 (.tuple #[.agg #[.string eS, .int .i64 eR], .bool eB]) rfl rfl (by kernel_rfl) (by kernel_rfl) (by kernel_rfl) (fun _ _ _ h => h) (by kernel_rfl) (fun v' hv => rd_look rfl (by kernel_rfl) (by kernel_rfl) (HLK.out v' hv.1)) hS ?_
  refine rd_take 6 9 (.tuple #[.agg #[.string eS, .int .i64 eR], .bool eB]) rfl rfl (by kernel_rfl) (by kernel_rfl) (by kernel_rfl) (fun _ _ _ h => h) (by kernel_rfl) (fun v _ => by kernel_rfl) hS ?_
  refine rd_take 7 16 (.agg #[.string eS, .int .i64 eR]) rfl rfl (by kernel_rfl) (by kernel_rfl) (by kernel_rfl) (fun _ _ _ h => h) (by kernel_rfl) (fun v _ => by kernel_rfl) hS ?_
  refine rd_take 8 17 (.bool eB) rfl rfl (by kernel_rfl) (by kernel_rfl) (by kernel_rfl) (fun _ _ _ h => h) (by kernel_rfl) (fun v _ => by kernel_rfl) hS ?_
  refine wpAnyH_ready (rs := [9]) (by kernel_rfl) (by simp) ?_
  refine rd_run 9 7 (.pointer (some ⟨v.heap.size, 0, none⟩)) rfl rfl (by kernel_rfl) (rd_allocE rfl) ⟨hS.1.go (below_new _ _), hS.2.go (below_new _ _)⟩ ?_ AllReadyH.nil
  refine wpAnyH_ready (rs := [10]) (by kernel_rfl) (by simp) ?_
  refine rd_run0 10 rfl rfl (by kernel_rfl) (rd_store 72 _ _ rfl v.heap.size #[.string eS, .int .i64 eR] (by kernel_rfl) (by kernel_rfl) 72 #[.string ByteArray.empty, .int .i64 0] (heap_alloc_new v.drew _) (by kernel_rfl) rfl (e_one _ _)) ⟨hS.1.go (ebox_below _ _ _), hS.2.go (ebox_below _ _ _)⟩ ?_ AllReadyH.nil
  refine rd_take 11 8 (.bool eB) rfl rfl (by kernel_rfl) (by kernel_rfl) (by kernel_rfl) (fun _ _ _ h => h) (by kernel_rfl) (fun v _ => by kernel_rfl) ⟨hS.1.go (ebox_below _ _ _), hS.2.go (ebox_below _ _ _)⟩ ?_
  refine wpAnyH_done (by kernel_rfl) ?_ _
  refine hkk _ _ ?_
  have hE : EBx v.heap.size ((v.drew.alloc (.cells #[.string ByteArray.empty, .int .i64 0] 72)).setRow v.heap.size #[.string eS, .int .i64 eR]) eS eR := setRow_heap _ _ _ _ _ _ (heap_alloc_new v.drew _)
  have hb : Below v.heap.size v ((v.drew.alloc (.cells #[.string ByteArray.empty, .int .i64 0] 72)).setRow v.heap.size #[.string eS, .int .i64 eR]) := below_go (Below.refl _ _).drew (ebox_below v.drew _ _)
  generalize (v.drew.alloc (.cells #[.string ByteArray.empty, .int .i64 0] 72)).setRow v.heap.size #[.string eS, .int .i64 eR] = u at hE hb ⊢
  clear hS hkk
  go_frame
  have HE := Hid.mk hE
  have HB2 := Hid.mk (below_go HBE.out hb)
  clear hE hb
  go_upto_region 2 with fail
  rename_i KK hkk
  refine wp_region_held_drew (S := fun v' => EBx v.heap.size v' eS eR) (by kernel_rfl) (HE.out.go (Below.refl _ _).drew) (fun hS => ?_)
  refine rd_take 0 18 (.pointer (some ⟨v.heap.size, 0, none⟩)) rfl rfl (by kernel_rfl) (by kernel_rfl) (by kernel_rfl) (fun _ _ _ h => h) (by kernel_rfl) (fun v _ => by kernel_rfl) hS ?_
  refine rd_take 1 19 (.string eS) rfl rfl (by kernel_rfl) (by kernel_rfl) (by kernel_rfl) (fun _ _ _ h => h) (by kernel_rfl) (fun v' hv => rd_loadT rfl (by kernel_rfl) hv.c0) hS ?_
  refine rd_take 2 20 (.pointer (some ⟨v.heap.size, 1, none⟩)) rfl rfl (by kernel_rfl) (by kernel_rfl) (by kernel_rfl) (fun _ _ _ h => h) (by kernel_rfl) (fun v _ => by kernel_rfl) hS ?_
  refine rd_take 3 21 (.int .i64 eR) rfl rfl (by kernel_rfl) (by kernel_rfl) (by kernel_rfl) (fun _ _ _ h => h) (by kernel_rfl) (fun v' hv => rd_loadi rfl (by kernel_rfl) hv.c1) hS ?_
  refine rd_take 4 22 (.bool eB) rfl rfl (by kernel_rfl) (by kernel_rfl) (by kernel_rfl) (fun _ _ _ h => h) (by kernel_rfl) (fun v _ => by kernel_rfl) hS ?_
  refine rd_take 5 4 (.string eS) rfl rfl (by kernel_rfl) (by kernel_rfl) (by kernel_rfl) (fun _ _ _ h => h) (by kernel_rfl) (fun v _ => by kernel_rfl) hS ?_
  refine rd_take 6 5 (.int .i64 eR) rfl rfl (by kernel_rfl) (by kernel_rfl) (by kernel_rfl) (fun _ _ _ h => h) (by kernel_rfl) (fun v _ => by kernel_rfl) hS ?_
  refine rd_take 7 6 (.bool eB) rfl rfl (by kernel_rfl) (by kernel_rfl) (by kernel_rfl) (fun _ _ _ h => h) (by kernel_rfl) (fun v _ => by kernel_rfl) hS ?_
  refine wpAnyH_done (by kernel_rfl) ?_ _
  refine hkk _ _ ?_
  clear hkk hS
  go_frame
  go_wp2_with fail
  go_ret3
  exact ⟨rfl, HB2.out.drew⟩
end Go.Proofs.Ytjpcfdhkgfaeeaa
