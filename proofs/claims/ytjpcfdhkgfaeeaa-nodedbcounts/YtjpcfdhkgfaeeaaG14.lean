/- Texts as bytes; what a store is in memory; what is stored into its map, and deleted. -/
import Derived.Test.YtjpcfdhkgfaeeaaG13
namespace Go.Proofs.Ytjpcfdhkgfaeeaa
open Go.RowKit
open Go.ChangeMaps (setBlock)
set_option linter.unusedVariables false
set_option maxRecDepth 100000
/-- The bytes of a text, as numbers. -/
def nums (s : ByteArray) : List Int := s.data.toList.map fun b => (b.toNat : Int)
theorem nums_len (s : ByteArray) : (nums s).length = s.size := by rw [nums, List.length_map, Array.length_toList]; rfl
theorem nums_b (s : ByteArray) : ∀ x ∈ nums s, 0 ≤ x ∧ x < 256 := by
  intro x hx
  obtain ⟨b, _, rfl⟩ := List.mem_map.1 hx
  have := b.toNat_lt
  omega
theorem str_nums (s : ByteArray) : strOfNums (nums s) = s := by
  obtain ⟨⟨l⟩⟩ := s
  unfold strOfNums nums
  simp [Function.comp_def]
theorem nums_inj {s t : ByteArray} (h : nums s = nums t) : s = t := by rw [← str_nums s, h, str_nums]
theorem bytes_below (w : World) (s : ByteArray) : Below w.heap.size w (Lib.bytesWorld w 5 s) :=
  ⟨rfl, rfl, rfl, by rw [Lib.bytesWorld_size]; omega, fun k hk => Lib.bytesWorld_at_old w 5 s k hk⟩
theorem bytes_ag (w : World) (s : ByteArray) (hs : s.size ≤ 140737488351232) : Ag (Lib.bytesWorld w 5 s) (some ⟨w.heap.size, 0, none⟩) s.size (grownCap w s.size 0 5) (nums s) := by
  refine ⟨?_, (fun h => by cases h), nums_len s, nums_b s⟩
  by_cases h0 : s.size = 0
  · exact .inl ⟨h0, List.eq_nil_of_length_eq_zero (by rw [nums_len, h0])⟩
  · refine .inr ⟨w.heap.size, 0, rfl, nums_len s, by omega, grownCap_ge _ _ _ _, grownCap_le_maxLen _ _ _ _ (by unfold maxLen; omega), fun j hj => ?_⟩
    rw [nums_len] at hj
    rw [Nat.zero_add, Lib.bytesWorld_cell w 5 s j hj]
    have hj' : j < s.data.toList.length := by rw [Array.length_toList]; exact hj
    rw [nums, List.getD, List.getD, List.getElem?_map, List.getElem?_eq_getElem hj']
    rfl
theorem text_conv (w : World) (s : ByteArray) : (convert 34 54 (.string s)).run Try.prog w = .ok (.slice (some ⟨w.heap.size, 0, none⟩) s.size (grownCap w s.size 0 5)) (Lib.bytesWorld w 5 s) := Lib.run_convert_string_bytes w 34 54 5 s Try.underlying34 Try.underlying54 Try.underlying5
theorem str_conv (w : World) (s : ByteArray) : (convert 9 54 (.string s)).run Try.prog w = .ok (.slice (some ⟨w.heap.size, 0, none⟩) s.size (grownCap w s.size 0 5)) (Lib.bytesWorld w 5 s) := Lib.run_convert_string_bytes w 9 54 5 s Try.underlying9 Try.underlying54 Try.underlying5
theorem ag_str {w : World} {a : Option Addr} {n c : Nat} {s : ByteArray} (h : Ag w a n c (nums s)) : (convert 54 9 (.slice a n c)).run Try.prog w = .ok (.string s) w := by
  have := conv_any h.i
  rwa [str_nums] at this
theorem setBlock_same {w : World} {m : Nat} {o o' : Obj} (h : w.heap[m]? = some o) : (setBlock w m o').heap[m]? = some o' := by
  have hm := lt_of_get h
  simp [setBlock, hm]
theorem setBlock_other {w : World} {m k : Nat} {o : Obj} (h : k ≠ m) : (setBlock w m o).heap[k]? = w.heap[k]? := by
  simp [setBlock, Ne.symm h]
theorem setBlock_touch (w : World) (m : Nat) (o : Obj) : Touch m w (setBlock w m o) := ⟨rfl, rfl, rfl, by simp [setBlock], fun k _ hk => setBlock_other hk⟩
/-- A thing that is laid in, or counted anew. -/
def putT (x : Th) (L : List Th) : List Th := match findT x.d L with
  | none => L ++ [x]
  | some (j, _) => L.set j x
def delT (d : List Int) (L : List Th) : List Th := match findT d L with
  | none => L
  | some (j, _) => L.eraseIdx j
theorem findT_some {d : List Int} : ∀ {L : List Th} {j : Nat} {y : Th}, findT d L = some (j, y) → L[j]? = some y ∧ y.d = d
  | x :: r, j, y, h => by
    unfold findT at h
    by_cases hx : x.d = d
    · rw [if_pos hx] at h
      cases h
      exact ⟨rfl, hx⟩
    · rw [if_neg hx] at h
      cases hq : findT d r with
      | none => rw [hq] at h; cases h
      | some p =>
        obtain ⟨j', y'⟩ := p
        rw [hq] at h
        cases h
        have ih := findT_some hq
        exact ⟨by simpa using ih.1, ih.2⟩
theorem Ents.len {es : List MapEntry} {L : List Th} (h : Ents es L) : es.length = L.length := by
  have := congrArg List.length h
  simpa using this
theorem upd_run {w : World} {m : Nat} {L : List Th} (h : MapAt w m L) (x : Th) (hx : x.d.length = 32) :
    ∃ o, (Instr.mapUpdate 67 (.map (some m)) (.agg (B8 x.d)) x.val).run Try.prog w = .ok () (setBlock w m o) ∧ MapAt (setBlock w m o) m (putT x L) := by
  obtain ⟨hl, es, clock, hm, he⟩ := h
  have hf := find_run x.d hx w L es.toList hl he
  unfold putT
  cases hq : findT x.d L with
  | none =>
    rw [hq] at hf
    refine ⟨.map (es.push { key := .agg (B8 x.d), val := x.val, born := clock }) (clock + 1), by simp [Instr.mapUpdate, run_underlying Try.underlying67, MapKept.run_getObj_map hm, check_digest x.d hx, hf, MapKept.run_setObj_map _ hm, Result.andThen, setBlock], fun y hy => ?_, _, _, setBlock_same hm, ?_⟩
    · rcases List.mem_append.1 hy with hy | hy
      · exact hl y hy
      · simp at hy; rw [hy]; exact hx
    · unfold Ents at he ⊢
      simp only [Array.toList_push, List.map_append, he, List.map_cons, List.map_nil]
      rfl
  | some p =>
    obtain ⟨j, y⟩ := p
    rw [hq] at hf
    obtain ⟨hj, hyd⟩ := findT_some hq
    have hjl := (List.getElem?_eq_some_iff.1 hj).1
    have hje : j < es.toList.length := by rw [he.len]; exact hjl
    have hkey : es.toList[j].key = .agg (B8 x.d) := by
      have h1 : (es.toList.map (fun e => (e.key, e.val)))[j]? = (L.map fun x => (x.key, x.val))[j]? := by rw [he]
      rw [List.getElem?_map, List.getElem?_map, hj, List.getElem?_eq_getElem hje] at h1
      simp only [Option.map_some, Option.some.injEq, Prod.mk.injEq] at h1
      rw [h1.1, Th.key, hyd]
    have hes : es[j]? = some es.toList[j] := by simp [Array.getElem?_eq_getElem (show j < es.size by simpa using hje)]
    have hst := stays x.d w
    refine ⟨.map (es.modify j fun e => { e with key := .agg (B8 x.d), val := x.val }) clock, ?_, fun y hy => ?_, _, _, setBlock_same hm, ?_⟩
    · have hgk : ((es[j]?).map (·.key)).getD (.agg (B8 x.d)) = .agg (B8 x.d) := by rw [hes]; exact hkey
      simp only [Instr.mapUpdate, Sem.run_bind, run_underlying Try.underlying67, Result.andThen_ok, MapKept.run_getObj_map hm, check_digest x.d hx, hf, hgk, hst, MapKept.run_setObj_map _ hm]
      rfl
    · rcases List.mem_or_eq_of_mem_set hy with hy | rfl
      · exact hl y hy
      · exact hx
    · unfold Ents at he ⊢
      rw [Array.toList_modify]
      have e1 : es.toList.modify j (fun e => { e with key := .agg (B8 x.d), val := x.val }) = es.toList.set j { es.toList[j] with key := .agg (B8 x.d), val := x.val } := by
        rw [Go.ChangeMaps.modify_eq_set _ _ _ es.toList[j] (List.getElem?_eq_getElem hje)]
      rw [e1, List.map_set, List.map_set, he]
      rfl
theorem del_run {w : World} {m : Nat} {L : List Th} (h : MapAt w m L) (d : List Int) (hd : d.length = 32) (ty : TypeId) :
    ∃ o, (Builtin.delete_ #[67, 30] ty #[.map (some m), .agg (B8 d)]).run Try.prog w = .ok (.tuple #[]) (setBlock w m o) ∧ MapAt (setBlock w m o) m (delT d L) := by
  obtain ⟨hl, es, clock, hm, he⟩ := h
  have hf := find_run d hd w L es.toList hl he
  unfold delT
  cases hq : findT d L with
  | none =>
    rw [hq] at hf
    exact ⟨.map es clock, by simp [Builtin.delete_, run_underlying Try.underlying67, MapKept.run_getObj_map hm, check_digest d hd, hf, MapKept.run_setObj_map _ hm, Result.andThen, setBlock], hl, _, _, setBlock_same hm, he⟩
  | some p =>
    obtain ⟨j, y⟩ := p
    rw [hq] at hf
    obtain ⟨hj, hyd⟩ := findT_some hq
    have hjl := (List.getElem?_eq_some_iff.1 hj).1
    have hje : j < es.size := by have := he.len; simp at this; omega
    refine ⟨.map (es.eraseIdxIfInBounds j) clock, by simp [Builtin.delete_, run_underlying Try.underlying67, MapKept.run_getObj_map hm, check_digest d hd, hf, MapKept.run_setObj_map _ hm, Result.andThen, setBlock], fun y hy => hl y (List.mem_of_mem_eraseIdx hy), _, _, setBlock_same hm, ?_⟩
    unfold Ents at he ⊢
    have e1 : (es.eraseIdxIfInBounds j).toList = es.toList.eraseIdx j := by
      unfold Array.eraseIdxIfInBounds
      rw [dif_pos hje]
      simp
    rw [e1, Go.ChangeMaps.map_eraseIdx, Go.ChangeMaps.map_eraseIdx, he]
/-- A store in memory: its block, its map's block. -/
structure Sto (w : World) (g m : Nat) (most : Int) (L : List Th) : Prop where
  row : w.heap[g]? = some (.cells #[.int .i64 most, .map (some m)] 69)
  mp : MapAt w m L
  ne : g ≠ m
theorem MapAt.keep {w w' : World} {m : Nat} {L : List Th} (h : MapAt w m L) (hk : m < w.heap.size → w'.heap[m]? = w.heap[m]?) : MapAt w' m L := by
  obtain ⟨hl, es, clock, hm, he⟩ := h
  exact ⟨hl, es, clock, (hk (lt_of_get hm)).trans hm, he⟩
theorem MapAt.lt {w : World} {m : Nat} {L : List Th} (h : MapAt w m L) : m < w.heap.size := by
  obtain ⟨hl, es, clock, hm, he⟩ := h
  exact lt_of_get hm
theorem Sto.go {w w' : World} {g m : Nat} {most : Int} {L : List Th} (h : Sto w g m most L) (hb : Below w.heap.size w w') : Sto w' g m most L := ⟨Below.row hb h.row, h.mp.keep (fun hl => hb.block m hl), h.ne⟩
theorem Sto.c0 {w : World} {g m : Nat} {most : Int} {L : List Th} (h : Sto w g m most L) : w.cell? ⟨g, 0, none⟩ = some (.int .i64 most) := by rw [cell_of_row _ _ _ _ _ _ h.row]; rfl
theorem Sto.c1 {w : World} {g m : Nat} {most : Int} {L : List Th} (h : Sto w g m most L) : w.cell? ⟨g, 1, none⟩ = some (.map (some m)) := by rw [cell_of_row _ _ _ _ _ _ h.row]; rfl
theorem Sto.lts {w : World} {g m : Nat} {most : Int} {L : List Th} (h : Sto w g m most L) : g < w.heap.size ∧ m < w.heap.size := ⟨lt_of_get h.row, h.mp.lt⟩
end Go.Proofs.Ytjpcfdhkgfaeeaa
