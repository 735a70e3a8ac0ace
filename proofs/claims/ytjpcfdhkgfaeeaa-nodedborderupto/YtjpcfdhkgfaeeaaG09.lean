/- The reference's stores in memory: rows of things; what At answers. -/
import Derived.Test.YtjpcfdhkgfaeeaaG08
import Derived.Great.BuildSlice
import Derived.Great.FillDense
namespace Go.Proofs.Ytjpcfdhkgfaeeaa
open Go.RowKit
set_option linter.unusedVariables false
set_option maxRecDepth 100000
def Th.cells (x : Th) : List Value := x.d.map (Value.int .u8) ++ [.string x.s, .int .i64 x.r]
theorem Th.clen {x : Th} (h : x.d.length = 32) : x.cells.length = 34 := by simp [Th.cells, h]
theorem Th.one (x : Th) : ∀ u ∈ x.cells, u.oneCell' = true := by
  intro u hu
  simp only [Th.cells, List.mem_cons, List.mem_append, List.mem_map, List.not_mem_nil, or_false] at hu
  rcases hu with ⟨y, _, rfl⟩ | rfl | rfl <;> rfl
theorem Th.c32 {x : Th} (h : x.d.length = 32) : x.cells[32]? = some (.string x.s) := by
  rw [Th.cells, List.getElem?_append_right (by simp [h])]
  simp [h]
theorem Th.c33 {x : Th} (h : x.d.length = 32) : x.cells[33]? = some (.int .i64 x.r) := by
  rw [Th.cells, List.getElem?_append_right (by simp [h])]
  simp [h]
/-- A list of things in memory. -/
structure Ls (w : World) (a : Option Addr) (n c : Nat) (L : List Th) : Prop where
  l : n = L.length
  nc : n ≤ c ∧ c ≤ maxLen
  nil : a = none → n = 0 ∧ c = 0
  rows : ∀ j x, L[j]? = some x → ∃ g off, a = some ⟨g, off, none⟩ ∧ w.rangeAt g (off + j * 34) x.cells
  lens : Lens L
theorem range_keep {w w' : World} {g o : Nat} {cs : List Value} (h : w.rangeAt g o cs) (hk : g < w.heap.size → w'.heap[g]? = w.heap[g]?) : w'.rangeAt g o cs := fun j v hv => (World.cell?_of_block (w := w) (hk (block_lt_of_cell (h j v hv)))).trans (h j v hv)
theorem Ls.keep {w w' : World} {a : Option Addr} {n c : Nat} {L : List Th} (h : Ls w a n c L) (hk : ∀ g off, a = some ⟨g, off, none⟩ → g < w.heap.size → w'.heap[g]? = w.heap[g]?) : Ls w' a n c L := ⟨h.l, h.nc, h.nil, fun j x hj => by
  obtain ⟨g, off, e, hr⟩ := h.rows j x hj
  exact ⟨g, off, e, range_keep hr (hk g off e)⟩, h.lens⟩
theorem Ls.go {w w' : World} {a : Option Addr} {n c : Nat} {L : List Th} (h : Ls w a n c L) (hb : Below w.heap.size w w') : Ls w' a n c L := h.keep fun g _ _ hl => hb.block g hl
theorem ls_nil (w : World) : Ls w none 0 0 [] := ⟨rfl, ⟨Nat.le_refl _, by unfold maxLen; omega⟩, fun _ => ⟨rfl, rfl⟩, fun j x h => by simp at h, fun x hx => by cases hx⟩
/-- A box that holds a reference's store. -/
def SBx (g : Nat) (v : World) (most : Int) (a : Option Addr) (n c : Nat) : Prop := v.heap[g]? = some (.cells #[.int .i64 most, .slice a n c] 28)
theorem SBx.go {g : Nat} {v v' : World} {most : Int} {a : Option Addr} {n c : Nat} (h : SBx g v most a n c) (hb : Below v.heap.size v v') : SBx g v' most a n c := Below.row hb h
theorem SBx.c0 {g : Nat} {v : World} {most : Int} {a : Option Addr} {n c : Nat} (h : SBx g v most a n c) : v.cell? ⟨g, 0, none⟩ = some (.int .i64 most) := by rw [cell_of_row _ _ _ _ _ _ h]; rfl
theorem SBx.c1 {g : Nat} {v : World} {most : Int} {a : Option Addr} {n c : Nat} (h : SBx g v most a n c) : v.cell? ⟨g, 1, none⟩ = some (.slice a n c) := by rw [cell_of_row _ _ _ _ _ _ h]; rfl
theorem SBx.fz {g : Nat} {v : World} {most : Int} {a : Option Addr} {n c : Nat} (h : SBx g v most a n c) (o : Nat) : v.frozen? ⟨g, o, none⟩ = false := frozen_of_row _ _ _ _ _ h
section
variable {a : Act} {w : World}
theorem rd_loadOL {x : Operand} {p : Addr} {v : Value} {o : Oper} (ho : o.op = .load 26 x) (hx : a.eval x = .pointer (some p)) (hc : w.cell? p = some v) : (execOp a.eval o).run Try.prog w = .ok (.value v) w := by
  unfold execOp
  rw [ho]
  simp only [hx]
  go_simp
theorem rd_indexO {x y : Operand} {g off j m c : Nat} {o : Oper} (ho : o.op = .indexAddr 26 x y) (hx : a.eval x = .slice (some ⟨g, off, none⟩) m c) (hy : a.eval y = .int .i64 j) (hj : j < m) : (execOp a.eval o).run Try.prog w = .ok (.value (.pointer (some ⟨g, off + j * 34, none⟩))) w := by
  have hji : (j : Int) < m := by omega
  unfold execOp
  rw [ho]
  simp only [hx, hy]
  go_simp
theorem rd_loadDr {x : Operand} {o : Oper} (ho : o.op = .load 30 x) {b off : Nat} (hx : a.eval x = .pointer (some ⟨b, off, none⟩)) {y : Th} (hl : y.d.length = 32) (hc : w.rangeAt b off y.cells) : (execOp a.eval o).run Try.prog w = .ok (.value (.agg (B8 y.d))) w :=
  rd_loadRow 30 x ho b off hx (y.d.map (Value.int .u8)) _ (fun j u hu => hc j u (by rw [Th.cells, List.getElem?_append_left (List.getElem?_eq_some_iff.1 hu).1]; exact hu)) Try.underlying30 rfl (by rw [List.length_map, hl]; kernel_rfl)
theorem rd_loadO {x : Operand} {o : Oper} (ho : o.op = .load 60 x) {b off : Nat} (hx : a.eval x = .pointer (some ⟨b, off, none⟩)) {y : Th} (hl : y.d.length = 32) (hc : w.rangeAt b off y.cells) : (execOp a.eval o).run Try.prog w = .ok (.value (.agg y.cells.toArray)) w :=
  rd_loadRow 60 x ho b off hx y.cells _ hc Try.underlying60 rfl (by rw [Th.clen hl]; kernel_rfl)
end
theorem find_at {d : List Int} : ∀ {L : List Th} {j : Nat} {x : Th}, findT d (L.take j) = none → L[j]? = some x → x.d = d → findT d L = some (j, x)
  | [], j, x, _, h, _ => by simp at h
  | y :: r, 0, x, _, h, hd => by
    simp at h
    subst h
    unfold findT
    rw [if_pos hd]
  | y :: r, j + 1, x, hn, h, hd => by
    rw [List.take_succ_cons] at hn
    unfold findT at hn ⊢
    by_cases hy : y.d = d
    · rw [if_pos hy] at hn; cases hn
    · rw [if_neg hy] at hn ⊢
      have hn' : findT d (r.take j) = none := by
        cases hq : findT d (r.take j) with
        | none => rfl
        | some p => rw [hq] at hn; cases hn
      rw [find_at hn' (by simpa using h) hd]
theorem find_no {d : List Int} : ∀ {L : List Th} {j : Nat} {x : Th}, findT d (L.take j) = none → L[j]? = some x → x.d ≠ d → findT d (L.take (j + 1)) = none
  | [], j, x, _, h, _ => by simp at h
  | y :: r, 0, x, _, h, hd => by
    simp at h
    subst h
    rw [List.take_succ_cons, List.take_zero]
    unfold findT
    rw [if_neg hd]
    rfl
  | y :: r, j + 1, x, hn, h, hd => by
    rw [List.take_succ_cons] at hn ⊢
    unfold findT at hn ⊢
    by_cases hy : y.d = d
    · rw [if_pos hy] at hn; cases hn
    · rw [if_neg hy] at hn ⊢
      have hn' : findT d (r.take j) = none := by
        cases hq : findT d (r.take j) with
        | none => rfl
        | some p => rw [hq] at hn; cases hn
      rw [find_no hn' (by simpa using h) hd]
/-- What At tells. -/
def atT (d : List Int) (L : List Th) : Int := match findT d L with
  | none => -1
  | some (j, _) => j
/-- The two boxes, while At goes on. -/
structure Aw (w v : World) (most : Int) (a : Option Addr) (n c : Nat) (d : List Int) : Prop where
  sb : SBx w.heap.size v most a n c
  db : DBx (w.heap.size + 1) v d
  bel : Below w.heap.size w v
theorem Aw.go {w v v' : World} {most : Int} {a : Option Addr} {n c : Nat} {d : List Int} (h : Aw w v most a n c d) (hb : Below v.heap.size v v') : Aw w v' most a n c d := ⟨h.sb.go hb, h.db.go hb, below_go h.bel hb⟩
theorem aw_new (w : World) (most : Int) (a : Option Addr) (n c : Nat) (d : List Int) (hd : d.length = 32) : Aw w ((w.alloc (.cells #[.int .i64 most, .slice a n c] 28)).alloc (.cells (B8 d) 30)) most a n c d := by
  have s1 : (w.alloc (.cells #[.int .i64 most, .slice a n c] 28)).heap.size = w.heap.size + 1 := by simp
  have h2 := dbx_new (w.alloc (.cells #[.int .i64 most, .slice a n c] 28)) d hd
  rw [s1] at h2
  exact ⟨SBx.go (heap_alloc_new _ _) (below_new _ _), h2, below_go (below_new w _) (below_new _ _)⟩
set_option maxHeartbeats 4000000 in
theorem rat_any (most : Int) (a : Option Addr) (n c : Nat) (L : List Th) (d : List Int) (hd : d.length = 32) (w : World) (h : Ls w a n c L) (hn : n ≤ 140737488351232) :
    Calls Try.prog 22 #[.agg #[.int .i64 most, .slice a n c], .agg (B8 d)] w fun e w' => e = .returned (.int .i64 (atT d L)) ∧ Below w.heap.size w w' := by
  have HH := Hid.mk h
  have HA0 := Hid.mk (aw_new w most a n c d hd)
  have HDL := Hid.mk hd
  have hl := h.l
  have HL := Hid.mk hl
  clear h hd hl
  go_enter Try.func22, Try.ntmps22
  go_upto_region 1 with fail
  refine gen_w (p := fun v => Code.wp _ _ _ _ v) (q := fun v => Aw w v most a n c d) HA0.out ?_
  clear HA0
  intro v hA
  have HA := Hid.mk hA
  clear hA
  go_wp2_with fail
  go_loopw [5] (fun s5 u => ∃ j : Nat, j ≤ n ∧ s5 = .int .i64 j ∧ findT d (L.take j) = none ∧ Aw w u most a n c d) (fun s5 _ => n - (intOf s5).toNat)
  case atStart => exact ⟨0, by omega, rfl, rfl, HA.out⟩
  case round =>
    obtain ⟨j, hj, rfl, hf, hA⟩ := hrel
    have HF := Hid.mk hf
    have HA' := Hid.mk hA
    have c1 := hA.sb.c1
    clear hf hA HA
    by_cases hlt : j < n
    · have hji : (j : Int) < n := by omega
      obtain ⟨x, hx⟩ : ∃ x, L[j]? = some x := ⟨_, List.getElem?_eq_getElem (by rw [← HL.out]; exact hlt)⟩
      obtain ⟨g, off, ha, hr⟩ := HH.out.rows j x hx
      have HXL := Hid.mk (HH.out.lens x (List.mem_of_getElem? hx))
      have HR := Hid.mk hr
      have HX := Hid.mk hx
      have HAE := Hid.mk ha
      rw [ha] at c1
      clear hr hx ha
      obtain ⟨q, hq⟩ : ∃ q, (x.d == d) = q := ⟨_, rfl⟩
      have HQ := Hid.mk hq
      clear hq
      go_upto_region 4 with fail
      rename_i KK hkk
      refine wp_region_held_drew (S := fun v' => Aw w v' most a n c d) (by kernel_rfl) (HA'.out.go (Below.refl _ _).drew) (fun hS => ?_)
      have hc1 : ∀ v', Aw w v' most a n c d → v'.cell? ⟨w.heap.size, 1, none⟩ = some (.slice (some ⟨g, off, none⟩) n c) := fun v' hv => by have := hv.sb.c1; rwa [HAE.out] at this
      refine rd_take 0 13 (.pointer (some ⟨w.heap.size, 1, none⟩)) rfl rfl (by kernel_rfl) (by kernel_rfl) (by kernel_rfl) (fun _ _ _ h => h) (by kernel_rfl) (fun v _ => by kernel_rfl) hS ?_
      refine rd_take 1 14 (.slice (some ⟨g, off, none⟩) n c) rfl rfl (by kernel_rfl) (by kernel_rfl) (by kernel_rfl) (fun _ _ _ h => h) (by kernel_rfl) (fun v' hv => rd_loadOL rfl (by kernel_rfl) (hc1 v' hv)) hS ?_
      refine rd_take 2 15 (.int .i64 j) rfl rfl (by kernel_rfl) (by kernel_rfl) (by kernel_rfl) (fun _ _ _ h => h) (by kernel_rfl) (fun v _ => by kernel_rfl) hS ?_
      refine rd_take 3 16 (.pointer (some ⟨g, off + j * 34, none⟩)) rfl rfl (by kernel_rfl) (by kernel_rfl) (by kernel_rfl) (fun _ _ _ h => h) (by kernel_rfl) (fun v' _ => rd_indexO (m := n) (c := c) rfl (by kernel_rfl) (by kernel_rfl) hlt) hS ?_
      refine rd_take 4 17 (.pointer (some ⟨g, off + j * 34, none⟩)) rfl rfl (by kernel_rfl) (by kernel_rfl) (by kernel_rfl) (fun _ _ _ h => h) (by kernel_rfl) (fun v _ => by kernel_rfl) hS ?_
      refine rd_take 5 18 (.agg (B8 x.d)) rfl rfl (by kernel_rfl) (by kernel_rfl) (by kernel_rfl) (fun _ _ _ h => h) (by kernel_rfl) (fun v' hv => rd_loadDr rfl (by kernel_rfl) HXL.out (range_keep HR.out (fun hl => hv.bel.block g hl))) hS ?_
      refine rd_take 6 19 (.agg (B8 d)) rfl rfl (by kernel_rfl) (by kernel_rfl) (by kernel_rfl) (fun _ _ _ h => h) (by kernel_rfl) (fun v' hv => rd_loadDd rfl (by kernel_rfl) hv.db) hS ?_
      refine rd_take 7 20 (.bool q) rfl rfl (by kernel_rfl) (by kernel_rfl) (by kernel_rfl) (fun _ _ _ h => h) (by kernel_rfl) (fun v' _ => rd_eqDig rfl (by kernel_rfl) (by kernel_rfl) HXL.out HDL.out HQ.out) hS ?_
      refine wpAnyH_done (by kernel_rfl) ?_ _
      refine hkk _ _ ?_
      have hA2 := hS
      clear hkk hS hc1
      generalize wr.drew = u at hA2 ⊢
      have HA2 := Hid.mk hA2
      clear hA2 HA'
      go_frame
      cases q with
      | true =>
        have hxd : x.d = d := by simpa using HQ.out
        have hat : atT d L = j := by unfold atT; rw [find_at HF.out HX.out hxd]
        have HAT := Hid.mk hat
        clear hat hxd
        go_wp2_with fail
        go_ret
        exact ⟨by rw [HAT.out]; rfl, HA2.out.bel⟩
      | false =>
        have HN := Hid.mk (find_no HF.out HX.out (by simpa using HQ.out))
        go_wp2_with fail
        exact ⟨⟨j + 1, by omega, by simp, HN.out, HA2.out⟩, by simp [intOf]; omega⟩
    · have hji : ¬ (j : Int) < n := by omega
      have hat : atT d L = -1 := by
        have hf := HF.out
        rw [List.take_of_length_le (by rw [← HL.out]; omega)] at hf
        unfold atT
        rw [hf]
      have HAT := Hid.mk hat
      clear hat
      go_wp2_with fail
      go_ret
      exact ⟨by rw [HAT.out]; rfl, HA'.out.bel⟩
end Go.Proofs.Ytjpcfdhkgfaeeaa
/- The reference's with: rows of things that grow. -/
namespace Go.Proofs.Ytjpcfdhkgfaeeaa
open Go.RowKit
set_option linter.unusedVariables false
set_option maxRecDepth 100000
def flatO (ys : List Th) : List Value := ys.flatMap Th.cells
theorem flatO_len : ∀ {ys : List Th}, Lens ys → (flatO ys).length = ys.length * 34
  | [], _ => rfl
  | y :: r, h => by
    have ih := flatO_len (ys := r) fun z hz => h z (List.mem_cons_of_mem _ hz)
    unfold flatO at ih ⊢
    rw [List.flatMap_cons, List.length_append, ih, Th.clen (h y (by simp)), List.length_cons]
    omega
theorem flatO_app (a b : List Th) : flatO (a ++ b) = flatO a ++ flatO b := by unfold flatO; rw [List.flatMap_append]
theorem flatO_one (y : Th) : flatO [y] = y.cells := by unfold flatO; rw [List.flatMap_cons, List.flatMap_nil, List.append_nil]
theorem flatO_at {pre : List Th} {y : Th} {post : List Th} (hp : Lens pre) {j : Nat} {u : Value} (h : y.cells[j]? = some u) : (flatO (pre ++ y :: post))[pre.length * 34 + j]? = some u := by
  have e : flatO (pre ++ y :: post) = flatO pre ++ (y.cells ++ flatO post) := by
    rw [flatO_app, show y :: post = [y] ++ post from rfl, flatO_app, flatO_one]
  rw [e, List.getElem?_append_right (by rw [flatO_len hp]; omega), flatO_len hp, show pre.length * 34 + j - pre.length * 34 = j from by omega, List.getElem?_append_left (List.getElem?_eq_some_iff.1 h).1]
  exact h
def tz : Th := ⟨z32, ByteArray.empty, 0⟩
theorem infoOz : ∃ i, Try.prog.info? 60 = some i ∧ i.zero = some (.agg tz.cells.toArray) ∧ i.size = 34 ∧ i.bytes = 56 := by
  have h : (Try.prog.info? 60).map (fun i => (i.zero, i.size, i.bytes)) = some (some (.agg tz.cells.toArray), 34, 56) := by kernel_rfl
  cases hq : Try.prog.info? 60 with
  | none => rw [hq] at h; simp at h
  | some i => rw [hq] at h; simp at h; exact ⟨i, rfl, h.1, h.2.1, h.2.2⟩
theorem infoO {y : Th} (h : y.d.length = 32) : (Try.prog.info? 60).map (·.size) = some y.cells.toArray.size := by rw [List.size_toArray, Th.clen h]; kernel_rfl
theorem tz_size {y : Th} (h : y.d.length = 32) : (tz.cells.toArray : Array Value).size = y.cells.toArray.size := by rw [List.size_toArray, List.size_toArray, Th.clen h]; rfl
def OwnO (w : World) (base : Nat) (v : Value) (ys : List Th) : Prop := w.ownsRow base 60 34 v ys.length (flatO ys)
theorem ownO_lt {w : World} {base : Nat} {v : Value} {ys : List Th} (h : OwnO w base v ys) {g : Nat} (hg : v.ownBlock = some g) : base ≤ g ∧ g < w.heap.size := World.ownsRow.lt h g hg
theorem ownO_keep {w w' : World} {base : Nat} {v : Value} {ys : List Th} (h : OwnO w base v ys) (hk : ∀ g, base ≤ g → g < w.heap.size → w'.heap[g]? = w.heap[g]?) : OwnO w' base v ys := by
  refine ⟨h.1, ?_⟩
  rcases h.2 with h2 | ⟨g, cap, cur, hv, hb, hh, r⟩
  · exact .inl h2
  · exact .inr ⟨g, cap, cur, hv, hb, (hk g hb (lt_of_get hh)).trans hh, r⟩
/-- A row of things, and more appended. -/
theorem app_things {w : World} {base : Nat} {v : Value} {ys zs : List Th} (hown : OwnO w base v ys) (hz : Lens zs) (ad : Addr) (c : Nat) (hnews : ∀ j u, (flatO zs)[j]? = some u → w.cell? (ad.add j) = some u) (hbase : base ≤ w.heap.size) (hlen : ys.length + zs.length ≤ 2199023255550) (ty : TypeId) :
    ∃ v' w', (Builtin.append_ #[26, 26] ty #[v, .slice (some ad) zs.length c]).run Try.prog w = .ok v' w' ∧ OwnO w' base v' (ys ++ zs) ∧ Below base w w' := by
  obtain ⟨i, hi, hz0, hsz, hby⟩ := infoOz
  have hone : ∀ u ∈ flatO zs, u.oneCell' = true := fun u hu => by
    unfold flatO at hu
    obtain ⟨y, hy, hu⟩ := List.mem_flatMap.1 hu
    exact y.one u hu
  obtain ⟨v', w', hrun, hown', hgr, _⟩ := run_append_own (P := Try.prog) w base 26 ty 60 i _ 34 56 Try.underlying26 hi hz0 hsz hby rfl (by decide) v ys.length (flatO ys) hown ad zs.length c (flatO zs) (flatO_len hz) hnews hone (by unfold maxLen; omega) (by omega) hbase
  refine ⟨v', w', hrun, ?_, ⟨hgr.os, hgr.tape, hgr.output, hgr.size, fun k hk => hgr.block k (by omega) (fun e => ?_)⟩⟩
  · unfold OwnO
    rw [flatO_app, List.length_append]
    exact hown'
  · have := (ownO_lt hown e.symm).1
    omega
theorem run_buildO (w : World) (r : Th) (hl : r.d.length = 32) : (Instr.buildSlice 26 1 #[(0, .agg r.cells.toArray)]).run Try.prog w = .ok (.slice (some ⟨w.heap.size, 0, none⟩) 1 1) (w.alloc (.cells r.cells.toArray 60)) := by
  obtain ⟨i, hi, hz, hsz, hby⟩ := infoOz
  refine run_buildSlice w 26 60 1 _ r.cells.toArray i _ Try.underlying26 hi hz (by rw [hsz]; omega) (by rw [hsz]; omega) ?_
  rw [hsz]
  have h := Great.fill_whole (s := 34) (by omega) [.agg r.cells.toArray] ((Array.range (1 * 34)).map ((Value.agg tz.cells.toArray).cells[· % (Value.agg tz.cells.toArray).cells.size]!)) (fun v hv => by
    simp only [List.mem_cons, List.not_mem_nil, or_false] at hv
    subst hv
    show r.cells.toArray.size = 34
    rw [List.size_toArray, Th.clen hl]) (by simp)
  refine h.trans ?_
  simp [Value.cells]
section
variable {a : Act} {w : World}
theorem rd_buildO {x : Operand} {o : Oper} (ho : o.op = .buildSlice 26 1 #[(0, x)]) (r : Th) (hl : r.d.length = 32) (hx : a.eval x = .agg r.cells.toArray) :
    (execOp a.eval o).run Try.prog w = .ok (.value (.slice (some ⟨w.heap.size, 0, none⟩) 1 1)) (w.alloc (.cells r.cells.toArray 60)) := by
  unfold execOp
  rw [ho]
  simp only [List.map_toArray, List.map_cons, List.map_nil, hx, Sem.run_bind, run_buildO w r hl, Result.andThen_ok, Sem.run_pure]
theorem rd_appO {w' : World} {s x : Operand} {o : Oper} (ho : o.op = .call { callee := .builtin .append, args := #[s, x], argTypes := #[26, 26] }) (v u : Value) (hd : a.eval s = v) (hx : a.eval x = u) {v' : Value}
    (hr : (Builtin.append_ #[26, 26] o.type #[v, u]).run Try.prog w = .ok v' w') : (execOp a.eval o).run Try.prog w = .ok (.value v') w' := by
  simp [execOp, ho, resolve, invoke, builtin, hd, hx, hr, Result.andThen]
theorem rd_storeOL {x y : Operand} {o : Oper} (ho : o.op = .store 26 x y) (g k : Nat) (ia : Option Addr) (m ic : Nat) (old : Value) (hx : a.eval x = .pointer (some ⟨g, k, none⟩)) (hy : a.eval y = .slice ia m ic) (hc : w.cell? ⟨g, k, none⟩ = some old) (hf : ∀ o, w.frozen? ⟨g, o, none⟩ = false) :
    (execOp a.eval o).run Try.prog w = .ok .skip (w.setCell ⟨g, k, none⟩ (.slice ia m ic)) := by
  unfold execOp
  rw [ho]
  simp only [hx, hy]
  go_simp
theorem rd_loadS {x : Operand} {g : Nat} {most : Int} {ia : Option Addr} {m ic : Nat} {o : Oper} (ho : o.op = .load 28 x) (hx : a.eval x = .pointer (some ⟨g, 0, none⟩)) (hc : SBx g w most ia m ic) : (execOp a.eval o).run Try.prog w = .ok (.value (.agg #[.int .i64 most, .slice ia m ic])) w :=
  rd_loadRow 28 x ho g 0 hx [.int .i64 most, .slice ia m ic] _ (fun j u hu => by rw [cell_of_row _ _ _ _ _ _ hc, Nat.zero_add]; simpa using hu) Try.underlying28 rfl (by kernel_rfl)
theorem rd_allocO {o : Oper} (ho : o.op = .alloc 60) : (execOp a.eval o).run Try.prog w = .ok (.value (.pointer (some ⟨w.heap.size, 0, none⟩))) (w.alloc (.cells tz.cells.toArray 60)) := by
  unfold execOp
  rw [ho]
  go_simp
  rfl
theorem rd_allocS {o : Oper} (ho : o.op = .alloc 28) : (execOp a.eval o).run Try.prog w = .ok (.value (.pointer (some ⟨w.heap.size, 0, none⟩))) (w.alloc (.cells #[.int .i64 0, .slice none 0 0] 28)) := by
  unfold execOp
  rw [ho]
  go_simp
  try rfl
end
theorem built_RSf : (fun (m : Int) => Try.prog.built 28 [(0, .int .i64 m)]) = fun m => some #[.int .i64 m, .slice none 0 0] := by kernel_rfl
theorem built_RS (m : Int) : Try.prog.built 28 [(0, .int .i64 m)] = some #[.int .i64 m, .slice none 0 0] := congrFun built_RSf m
theorem s_one (m : Int) (a : Option Addr) (n c : Nat) : (#[Value.int .i64 m, Value.slice a n c] : Array Value).all (·.oneCell') = true := by simp [Value.oneCell']
/-- A row of things of its own is a list. -/
theorem ownO_ls {w : World} {base : Nat} {v : Value} {ys : List Th} (h : OwnO w base v ys) (hl : Lens ys) : ∃ a c, v = .slice a ys.length c ∧ Ls w a ys.length c ys ∧ ∀ g off, a = some ⟨g, off, none⟩ → base ≤ g := by
  rcases h.2 with ⟨rfl, hn0⟩ | ⟨g, cap, cur, rfl, hbg, hg, hnc, hcm, hcs, htake⟩
  · have : ys = [] := List.eq_nil_of_length_eq_zero (by omega)
    subst this
    exact ⟨none, 0, rfl, ls_nil w, fun g off e => by cases e⟩
  · refine ⟨some ⟨g, 0, none⟩, cap, rfl, ⟨rfl, ⟨hnc, hcm⟩, (fun e => by cases e), fun j x hj => ⟨g, 0, rfl, fun k u hu => ?_⟩, hl⟩, fun g' off e => by cases e; exact hbg⟩
    have hjl := (List.getElem?_eq_some_iff.1 hj).1
    have hx : ys[j] = x := (List.getElem?_eq_some_iff.1 hj).2
    have e : ys = ys.take j ++ x :: ys.drop (j + 1) := by rw [← hx, ← List.drop_eq_getElem_cons hjl, List.take_append_drop]
    have hl' : (ys.take j).length = j := by rw [List.length_take]; omega
    have hf := flatO_at (pre := ys.take j) (post := ys.drop (j + 1)) (fun z hz => hl z (List.mem_of_mem_take hz)) hu
    rw [hl', ← e] at hf
    have := World.ownsRow.cells h (g := g) rfl (j * 34 + k) u hf
    rw [addr_add] at this
    rw [show 0 + j * 34 + k = 0 + (j * 34 + k) from by omega]
    exact this
def keep1 (k r : Int) (i : Nat) (x : Th) : Th := if (i : Int) = k then ⟨x.d, x.s, r⟩ else x
theorem keep1_len {k r : Int} {i : Nat} {x : Th} (h : x.d.length = 32) : (keep1 k r i x).d.length = 32 := by unfold keep1; split <;> exact h
/-- What with makes of a list. -/
def withL (k r : Int) : Nat → List Th → List Th
  | _, [] => []
  | i, x :: t => (if 0 < (keep1 k r i x).r then [keep1 k r i x] else []) ++ withL k r (i + 1) t
theorem withL_app (k r : Int) : ∀ (A : List Th) (i : Nat) (B : List Th), withL k r i (A ++ B) = withL k r i A ++ withL k r (i + A.length) B
  | [], i, B => by simp [withL]
  | x :: t, i, B => by
    rw [List.cons_append, withL, withL, withL_app k r t (i + 1) B, List.append_assoc, List.length_cons, show i + 1 + t.length = i + (t.length + 1) from by omega]
theorem withL_step {k r : Int} {L : List Th} {j : Nat} {x : Th} (h : L[j]? = some x) : withL k r 0 (L.take (j + 1)) = withL k r 0 (L.take j) ++ (if 0 < (keep1 k r j x).r then [keep1 k r j x] else []) := by
  have hj := (List.getElem?_eq_some_iff.1 h).1
  rw [List.take_add_one, h, withL_app, List.length_take, Nat.zero_add, Nat.min_eq_left (by omega)]
  simp [withL]
theorem withL_len (k r : Int) : ∀ (L : List Th) (i : Nat), (withL k r i L).length ≤ L.length
  | [], i => by simp [withL]
  | x :: t, i => by
    have := withL_len k r t (i + 1)
    rw [withL, List.length_append, List.length_cons]
    split <;> simp <;> omega
theorem withL_lens {k r : Int} : ∀ {L : List Th} (i : Nat), Lens L → Lens (withL k r i L)
  | [], i, _ => fun x hx => by simp [withL] at hx
  | x :: t, i, h => fun y hy => by
    rw [withL] at hy
    rcases List.mem_append.1 hy with hy | hy
    · split at hy
      · simp only [List.mem_cons, List.not_mem_nil, or_false] at hy
        rw [hy]
        exact keep1_len (h x (by simp))
      · cases hy
    · exact withL_lens (i + 1) (fun z hz => h z (List.mem_cons_of_mem _ hz)) y hy
/-- The three boxes, while with goes on. -/
structure Wi (w v : World) (most : Int) (a : Option Addr) (n c : Nat) (ta : Option Addr) (tn tc : Nat) : Prop where
  sb : SBx w.heap.size v most a n c
  rb : SBx (w.heap.size + 1) v 0 none 0 0
  tb : SBx (w.heap.size + 2) v most ta tn tc
  bel : Below w.heap.size w v
  sz : w.heap.size + 3 ≤ v.heap.size
theorem Wi.go {w v v' : World} {most : Int} {a : Option Addr} {n c : Nat} {ta : Option Addr} {tn tc : Nat} (h : Wi w v most a n c ta tn tc) (hb : Below (w.heap.size + 3) v v') : Wi w v' most a n c ta tn tc :=
  ⟨(hb.block _ (by omega)).trans h.sb, (hb.block _ (by omega)).trans h.rb, (hb.block _ (by omega)).trans h.tb, h.bel.trans (hb.mono (by omega)), Nat.le_trans h.sz hb.size⟩
theorem Wi.all {w v v' : World} {most : Int} {a : Option Addr} {n c : Nat} {ta : Option Addr} {tn tc : Nat} (h : Wi w v most a n c ta tn tc) (hb : Below v.heap.size v v') : Wi w v' most a n c ta tn tc := h.go (hb.mono h.sz)
theorem Wi.put {w v : World} {most : Int} {a : Option Addr} {n c : Nat} {ta : Option Addr} {tn tc : Nat} (h : Wi w v most a n c ta tn tc) (ia : Option Addr) (m ic : Nat) : Wi w (v.setCell ⟨w.heap.size + 2, 1, none⟩ (.slice ia m ic)) most a n c ia m ic := by
  have ho : ∀ k, k ≠ w.heap.size + 2 → (v.setCell ⟨w.heap.size + 2, 1, none⟩ (.slice ia m ic)).heap[k]? = v.heap[k]? := fun k hk => heap_setCell_other _ _ _ _ hk
  refine ⟨(ho _ (by omega)).trans h.sb, (ho _ (by omega)).trans h.rb, ?_, h.bel.setCell (by show w.heap.size ≤ w.heap.size + 2; omega) _, by simpa using h.sz⟩
  unfold SBx
  rw [heap_setCell_same v (w.heap.size + 2) 1 _ 28 _ h.tb]
  rfl
def OBx (g : Nat) (v : World) (x : Th) : Prop := v.heap[g]? = some (.cells x.cells.toArray 60)
theorem OBx.all {g : Nat} {v : World} {x : Th} (h : OBx g v x) : v.rangeAt g 0 x.cells := fun j u hu => by rw [cell_of_row _ _ _ _ _ _ h, Nat.zero_add, List.getElem?_toArray]; exact hu
theorem OBx.c33 {g : Nat} {v : World} {x : Th} (h : OBx g v x) (hl : x.d.length = 32) : v.cell? ⟨g, 33, none⟩ = some (.int .i64 x.r) := by rw [cell_of_row _ _ _ _ _ _ h, List.getElem?_toArray]; exact Th.c33 hl
theorem OBx.put {g : Nat} {v : World} {x : Th} (h : OBx g v x) (hl : x.d.length = 32) (r : Int) : OBx g (v.setCell ⟨g, 33, none⟩ (.int .i64 r)) ⟨x.d, x.s, r⟩ := by
  unfold OBx at h ⊢
  rw [heap_setCell_same v g 33 _ 60 _ h, List.setIfInBounds_toArray]
  congr 2
  rw [Th.cells, Th.cells, List.set_append_right _ _ (by simp [hl])]
  simp [hl]
set_option maxHeartbeats 8000000 in
theorem rwith_any (most : Int) (a : Option Addr) (n c : Nat) (L : List Th) (k r : Int) (w : World) (h : Ls w a n c L) (hn : n ≤ 2199023255550) :
    Calls Try.prog 32 #[.agg #[.int .i64 most, .slice a n c], .int .i64 k, .int .i64 r] w fun e w' => (∃ a' m' c', e = .returned (.agg #[.int .i64 most, .slice a' m' c']) ∧ Ls w' a' m' c' (withL k r 0 L) ∧ ∀ g off, a' = some ⟨g, off, none⟩ → w.heap.size ≤ g) ∧ Below w.heap.size w w' := by
  have HH := Hid.mk h
  have HL := Hid.mk h.l
  have s1 : (w.alloc (.cells #[.int .i64 most, .slice a n c] 28)).heap.size = w.heap.size + 1 := by simp
  have HS0 := Hid.mk (show SBx w.heap.size ((w.alloc (.cells #[.int .i64 most, .slice a n c] 28)).alloc (.cells #[.int .i64 0, .slice none 0 0] 28)) most a n c ∧ SBx (w.heap.size + 1) ((w.alloc (.cells #[.int .i64 most, .slice a n c] 28)).alloc (.cells #[.int .i64 0, .slice none 0 0] 28)) 0 none 0 0 ∧ Below w.heap.size w ((w.alloc (.cells #[.int .i64 most, .slice a n c] 28)).alloc (.cells #[.int .i64 0, .slice none 0 0] 28)) from
    ⟨SBx.go (heap_alloc_new _ _) (below_new _ _), by unfold SBx; rw [← s1]; exact heap_alloc_new _ _, below_go (below_new _ _) (below_new _ _)⟩)
  clear h s1
  go_enter Try.func32, Try.ntmps32
  go_upto_region 1 with fail
  refine gen_w (p := fun v => Code.wp _ _ _ _ v) (q := fun v => SBx w.heap.size v most a n c ∧ SBx (w.heap.size + 1) v 0 none 0 0 ∧ Below w.heap.size w v ∧ v.heap.size = w.heap.size + 2) ⟨HS0.out.1, HS0.out.2.1, HS0.out.2.2, by simp⟩ ?_
  clear HS0
  rintro v ⟨hsb, hrb, hbe, hsz⟩
  have HSB := Hid.mk hsb
  have HRB := Hid.mk hrb
  have HBE := Hid.mk hbe
  have HSZ := Hid.mk hsz
  clear hsb hrb hbe hsz
  rename_i KK hkk
  refine wp_region_lit ?_
  refine wl_pure 10 (.pointer (some ⟨w.heap.size, 0, none⟩)) rfl (by kernel_rfl) (by kernel_rfl) ?_
  refine wl_pure 11 (.int .i64 most) rfl (by kernel_rfl) (rd_loadi rfl (by kernel_rfl) HSB.out.c0) ?_
  refine wl_pure 12 (.agg #[.int .i64 most, .slice none 0 0]) rfl (by kernel_rfl) (rd_build 28 _ rfl [(0, .int .i64 most)] (by kernel_rfl) _ (built_RS _)) ?_
  refine wl_run 7 (.pointer (some ⟨w.heap.size + 2, 0, none⟩)) rfl (by kernel_rfl) ((rd_allocS rfl).trans (by rw [HSZ.out])) ?_
  refine wl_skip rfl (by kernel_rfl) (rd_store 28 _ _ rfl (w.heap.size + 2) #[.int .i64 most, .slice none 0 0] (by kernel_rfl) (by kernel_rfl) 28 #[.int .i64 0, .slice none 0 0] (by rw [← HSZ.out]; exact heap_alloc_new _ _) (by kernel_rfl) rfl (s_one _ _ _ _)) ?_
  refine hkk _ _ ?_
  have hW : Wi w ((v.alloc (.cells #[.int .i64 0, .slice none 0 0] 28)).setRow (w.heap.size + 2) #[.int .i64 most, .slice none 0 0]) most a n c none 0 0 := by
    have hb := below_new v (.cells #[.int .i64 0, .slice none 0 0] 28)
    exact ⟨(setRow_other _ _ _ _ (by omega)).trans (HSB.out.go hb), (setRow_other _ _ _ _ (by omega)).trans (HRB.out.go hb), setRow_heap _ _ _ _ _ _ (by rw [← HSZ.out]; exact heap_alloc_new _ _), Below.setRow (below_go HBE.out hb) (by omega) _, by simp [HSZ.out]⟩
  generalize (v.alloc (.cells #[.int .i64 0, .slice none 0 0] 28)).setRow (w.heap.size + 2) #[.int .i64 most, .slice none 0 0] = v1 at hW ⊢
  have HW := Hid.mk hW
  clear hW HSB HRB HBE HSZ hkk
  go_frame
  go_wp2_with fail
  go_loopw [8] (fun s8 u => ∃ (j : Nat) (ta : Option Addr) (tn tc : Nat), j ≤ n ∧ s8 = .int .i64 j ∧ Wi w u most a n c ta tn tc ∧ OwnO u (w.heap.size + 3) (.slice ta tn tc) (withL k r 0 (L.take j))) (fun s8 _ => n - (intOf s8).toNat)
  case atStart => exact ⟨0, none, 0, 0, by omega, rfl, HW.out, World.ownsRow_nil _ _ _ _⟩
  case round =>
    obtain ⟨j, ta, tn, tc, hj, rfl, hW, hO⟩ := hrel
    have HW' := Hid.mk hW
    have HO := Hid.mk hO
    have c1 := hW.sb.c1
    clear hW hO HW
    by_cases hlt : j < n
    · have hji : (j : Int) < n := by omega
      obtain ⟨x, hx⟩ : ∃ x, L[j]? = some x := ⟨_, List.getElem?_eq_getElem (by rw [← HL.out]; exact hlt)⟩
      obtain ⟨g, off, ha, hr⟩ := HH.out.rows j x hx
      have HXL := Hid.mk (HH.out.lens x (List.mem_of_getElem? hx))
      have HR := Hid.mk hr
      have HST := Hid.mk (withL_step (k := k) (r := r) hx)
      rw [ha] at c1
      have HWL := Hid.mk (show (withL k r 0 (L.take j)).length ≤ j from Nat.le_trans (withL_len _ _ _ _) (by rw [List.length_take]; omega))
      clear hr hx ha
      go_upto_region 5 with fail
      rename_i KK hkk
      refine wp_region_lit ?_
      refine wl_pure 20 (.pointer (some ⟨w.heap.size, 1, none⟩)) rfl (by kernel_rfl) (by kernel_rfl) ?_
      refine wl_pure 21 (.slice (some ⟨g, off, none⟩) n c) rfl (by kernel_rfl) (rd_loadOL rfl (by kernel_rfl) c1) ?_
      refine wl_pure 22 (.int .i64 j) rfl (by kernel_rfl) (by kernel_rfl) ?_
      refine wl_pure 23 (.pointer (some ⟨g, off + j * 34, none⟩)) rfl (by kernel_rfl) (rd_indexO (m := n) (c := c) rfl (by kernel_rfl) (by kernel_rfl) hlt) ?_
      refine wl_pure 24 (.agg x.cells.toArray) rfl (by kernel_rfl) (rd_loadO rfl (by kernel_rfl) HXL.out (range_keep HR.out (fun hl => HW'.out.bel.block g hl))) ?_
      refine wl_run 9 (.pointer (some ⟨wr.heap.size, 0, none⟩)) rfl (by kernel_rfl) (rd_allocO rfl) ?_
      refine wl_skip rfl (by kernel_rfl) (rd_store 60 _ _ rfl wr.heap.size x.cells.toArray (by kernel_rfl) (by kernel_rfl) 60 tz.cells.toArray (heap_alloc_new _ _) (infoO HXL.out) (tz_size HXL.out) (all_oneCell_toArray (Th.one _))) ?_
      refine hkk _ _ ?_
      have hbu : Below wr.heap.size wr ((wr.alloc (.cells tz.cells.toArray 60)).setRow wr.heap.size x.cells.toArray) := Below.setRow (below_new _ _) (Nat.le_refl _) _
      have hob : OBx wr.heap.size ((wr.alloc (.cells tz.cells.toArray 60)).setRow wr.heap.size x.cells.toArray) x := setRow_heap _ _ _ _ _ _ (heap_alloc_new _ _)
      generalize (wr.alloc (.cells tz.cells.toArray 60)).setRow wr.heap.size x.cells.toArray = u at hbu hob ⊢
      have HBU := Hid.mk hbu
      have HOB := Hid.mk hob
      clear hbu hob hkk
      go_frame
      by_cases hk : (j : Int) = k
      · have hkb : ((j : Int) == k) = true := by simp [hk]
        have HKP := Hid.mk (show keep1 k r j x = ⟨x.d, x.s, r⟩ from if_pos hk)
        have HBU2 := Hid.mk (show Below wr.heap.size wr (u.setCell ⟨wr.heap.size, 33, none⟩ (.int .i64 r)) from HBU.out.setCell (Nat.le_refl _) _)
        have HOB2 := Hid.mk (HOB.out.put HXL.out r)
        have c33 := HOB.out.c33 HXL.out
        have cf : ∀ o, u.frozen? ⟨wr.heap.size, o, none⟩ = false := fun o => frozen_of_row _ _ _ _ _ HOB.out
        clear hk
        go_upto_region 8 with fail
        generalize u.setCell ⟨wr.heap.size, 33, none⟩ (.int .i64 r) = u2 at HBU2 HOB2 ⊢
        clear c33 cf HBU HOB
        rw [← HKP.out] at HOB2
        obtain ⟨y, hy⟩ : ∃ y, keep1 k r j x = y := ⟨_, rfl⟩
        have hyl : y.d.length = 32 := by rw [← hy]; exact keep1_len HXL.out
        rw [hy] at HOB2 HST
        have HYL := Hid.mk hyl
        have c33 := HOB2.out.c33 hyl
        clear hy hyl HKP
        by_cases hpos : 0 < y.r
        · have hpi : y.r > 0 := hpos
          have hst := HST.out
          rw [if_pos hpos] at hst
          have HST2 := Hid.mk hst
          clear hst
          obtain ⟨v', w3, hrun, hown3, hb3⟩ := app_things (zs := [y]) (w := u2.alloc (.cells y.cells.toArray 60)) (ad := ⟨u2.heap.size, 0, none⟩) (c := 1) (ownO_keep HO.out (fun g hg hl => (below_go HBU2.out (below_new u2 _)).block g hl)) (fun z hz => by simp only [List.mem_cons, List.not_mem_nil, or_false] at hz; rw [hz]; exact HYL.out) (fun q t ht => by
            rw [flatO_one] at ht
            rw [addr_add, Nat.zero_add, cell_of_row _ _ _ _ _ _ (heap_alloc_new u2 _), List.getElem?_toArray]
            exact ht) (by have h1 := HBU2.out.size; have h2 := HW'.out.sz; simp; omega) (by have := HWL.out; simp; omega) 26
          rw [← HST2.out] at hown3
          obtain ⟨ta', tc', hv', hls3, -⟩ := ownO_ls hown3 (withL_lens 0 (fun z hz => HH.out.lens z (List.mem_of_mem_take hz)))
          obtain ⟨tn', htn⟩ : ∃ tn', (withL k r 0 (L.take (j + 1))).length = tn' := ⟨_, rfl⟩
          rw [htn] at hv'
          subst hv'
          have hW2 := HW'.out.all HBU2.out
          have hW3 := (hW2.all (below_new u2 (.cells y.cells.toArray 60))).go hb3
          have hW4 := hW3.put ta' tn' tc'
          have hO4 : OwnO (w3.setCell ⟨w.heap.size + 2, 1, none⟩ (.slice ta' tn' tc')) (w.heap.size + 3) (.slice ta' tn' tc') (withL k r 0 (L.take (j + 1))) := ownO_keep hown3 (fun g hg _ => heap_setCell_other _ _ _ _ (by show g ≠ w.heap.size + 2; omega))
          have HW2 := Hid.mk hW2
          have HW3 := Hid.mk hW3
          have HW4 := Hid.mk hW4
          have HO4 := Hid.mk hO4
          have HRUN := Hid.mk hrun
          clear hW2 hW3 hW4 hO4 hrun hown3 hb3 hls3 htn
          go_upto_region 9 with fail
          rename_i K2 hkk
          refine wp_region_lit ?_
          refine wl_pure 33 (.pointer (some ⟨w.heap.size + 2, 1, none⟩)) rfl (by kernel_rfl) (by kernel_rfl) ?_
          refine wl_pure 34 (.slice ta tn tc) rfl (by kernel_rfl) (rd_loadOL rfl (by kernel_rfl) HW2.out.tb.c1) ?_
          refine wl_pure 35 (.agg y.cells.toArray) rfl (by kernel_rfl) (rd_loadO rfl (by kernel_rfl) HYL.out HOB2.out.all) ?_
          refine wl_run 36 (.slice (some ⟨u2.heap.size, 0, none⟩) 1 1) rfl (by kernel_rfl) (rd_buildO rfl y HYL.out (by kernel_rfl)) ?_
          refine wl_run 37 (.slice ta' tn' tc') rfl (by kernel_rfl) (rd_appO rfl (.slice ta tn tc) (.slice (some ⟨u2.heap.size, 0, none⟩) 1 1) (by kernel_rfl) (by kernel_rfl) HRUN.out) ?_
          refine wl_pure 38 (.pointer (some ⟨w.heap.size + 2, 1, none⟩)) rfl (by kernel_rfl) (by kernel_rfl) ?_
          refine wl_skip rfl (by kernel_rfl) (rd_storeOL rfl (w.heap.size + 2) 1 ta' tn' tc' _ (by kernel_rfl) (by kernel_rfl) HW3.out.tb.c1 HW3.out.tb.fz) ?_
          refine hkk _ _ ?_
          clear hkk HW2 HW3 HRUN HW' HO HBU2 HOB2 c33
          go_frame
          go_wp2_with fail
          exact ⟨⟨j + 1, ta', tn', tc', by omega, by simp, HW4.out, HO4.out⟩, by simp [intOf]; omega⟩
        · have hpi : ¬ y.r > 0 := hpos
          have hst := HST.out
          rw [if_neg hpos, List.append_nil] at hst
          have HST2 := Hid.mk hst
          have HW4 := Hid.mk (HW'.out.all HBU2.out)
          have HO4 := Hid.mk (ownO_keep HO.out (fun g hg hl => HBU2.out.block g hl))
          rw [← HST2.out] at HO4
          clear hst HW' HO HBU2 HOB2
          go_wp2_with fail
          exact ⟨⟨j + 1, ta, tn, tc, by omega, by simp, HW4.out, HO4.out⟩, by simp [intOf]; omega⟩
      · have hkb : ((j : Int) == k) = false := by simp [hk]
        have HKP := Hid.mk (show keep1 k r j x = x from if_neg hk)
        have HBU2 := HBU
        have HOB2 := HOB
        clear HBU HOB hk
        go_upto_region 8 with fail
        generalize u = u2 at HBU2 HOB2 ⊢
        rw [← HKP.out] at HOB2
        obtain ⟨y, hy⟩ : ∃ y, keep1 k r j x = y := ⟨_, rfl⟩
        have hyl : y.d.length = 32 := by rw [← hy]; exact keep1_len HXL.out
        rw [hy] at HOB2 HST
        have HYL := Hid.mk hyl
        have c33 := HOB2.out.c33 hyl
        clear hy hyl HKP
        by_cases hpos : 0 < y.r
        · have hpi : y.r > 0 := hpos
          have hst := HST.out
          rw [if_pos hpos] at hst
          have HST2 := Hid.mk hst
          clear hst
          obtain ⟨v', w3, hrun, hown3, hb3⟩ := app_things (zs := [y]) (w := u2.alloc (.cells y.cells.toArray 60)) (ad := ⟨u2.heap.size, 0, none⟩) (c := 1) (ownO_keep HO.out (fun g hg hl => (below_go HBU2.out (below_new u2 _)).block g hl)) (fun z hz => by simp only [List.mem_cons, List.not_mem_nil, or_false] at hz; rw [hz]; exact HYL.out) (fun q t ht => by
            rw [flatO_one] at ht
            rw [addr_add, Nat.zero_add, cell_of_row _ _ _ _ _ _ (heap_alloc_new u2 _), List.getElem?_toArray]
            exact ht) (by have h1 := HBU2.out.size; have h2 := HW'.out.sz; simp; omega) (by have := HWL.out; simp; omega) 26
          rw [← HST2.out] at hown3
          obtain ⟨ta', tc', hv', hls3, -⟩ := ownO_ls hown3 (withL_lens 0 (fun z hz => HH.out.lens z (List.mem_of_mem_take hz)))
          obtain ⟨tn', htn⟩ : ∃ tn', (withL k r 0 (L.take (j + 1))).length = tn' := ⟨_, rfl⟩
          rw [htn] at hv'
          subst hv'
          have hW2 := HW'.out.all HBU2.out
          have hW3 := (hW2.all (below_new u2 (.cells y.cells.toArray 60))).go hb3
          have hW4 := hW3.put ta' tn' tc'
          have hO4 : OwnO (w3.setCell ⟨w.heap.size + 2, 1, none⟩ (.slice ta' tn' tc')) (w.heap.size + 3) (.slice ta' tn' tc') (withL k r 0 (L.take (j + 1))) := ownO_keep hown3 (fun g hg _ => heap_setCell_other _ _ _ _ (by show g ≠ w.heap.size + 2; omega))
          have HW2 := Hid.mk hW2
          have HW3 := Hid.mk hW3
          have HW4 := Hid.mk hW4
          have HO4 := Hid.mk hO4
          have HRUN := Hid.mk hrun
          clear hW2 hW3 hW4 hO4 hrun hown3 hb3 hls3 htn
          go_upto_region 9 with fail
          rename_i K2 hkk
          refine wp_region_lit ?_
          refine wl_pure 33 (.pointer (some ⟨w.heap.size + 2, 1, none⟩)) rfl (by kernel_rfl) (by kernel_rfl) ?_
          refine wl_pure 34 (.slice ta tn tc) rfl (by kernel_rfl) (rd_loadOL rfl (by kernel_rfl) HW2.out.tb.c1) ?_
          refine wl_pure 35 (.agg y.cells.toArray) rfl (by kernel_rfl) (rd_loadO rfl (by kernel_rfl) HYL.out HOB2.out.all) ?_
          refine wl_run 36 (.slice (some ⟨u2.heap.size, 0, none⟩) 1 1) rfl (by kernel_rfl) (rd_buildO rfl y HYL.out (by kernel_rfl)) ?_
          refine wl_run 37 (.slice ta' tn' tc') rfl (by kernel_rfl) (rd_appO rfl (.slice ta tn tc) (.slice (some ⟨u2.heap.size, 0, none⟩) 1 1) (by kernel_rfl) (by kernel_rfl) HRUN.out) ?_
          refine wl_pure 38 (.pointer (some ⟨w.heap.size + 2, 1, none⟩)) rfl (by kernel_rfl) (by kernel_rfl) ?_
          refine wl_skip rfl (by kernel_rfl) (rd_storeOL rfl (w.heap.size + 2) 1 ta' tn' tc' _ (by kernel_rfl) (by kernel_rfl) HW3.out.tb.c1 HW3.out.tb.fz) ?_
          refine hkk _ _ ?_
          clear hkk HW2 HW3 HRUN HW' HO HBU2 HOB2 c33
          go_frame
          go_wp2_with fail
          exact ⟨⟨j + 1, ta', tn', tc', by omega, by simp, HW4.out, HO4.out⟩, by simp [intOf]; omega⟩
        · have hpi : ¬ y.r > 0 := hpos
          have hst := HST.out
          rw [if_neg hpos, List.append_nil] at hst
          have HST2 := Hid.mk hst
          have HW4 := Hid.mk (HW'.out.all HBU2.out)
          have HO4 := Hid.mk (ownO_keep HO.out (fun g hg hl => HBU2.out.block g hl))
          rw [← HST2.out] at HO4
          clear hst HW' HO HBU2 HOB2
          go_wp2_with fail
          exact ⟨⟨j + 1, ta, tn, tc, by omega, by simp, HW4.out, HO4.out⟩, by simp [intOf]; omega⟩
    · have hji : ¬ (j : Int) < n := by omega
      have hO := HO.out
      rw [List.take_of_length_le (by rw [← HL.out]; omega)] at hO
      obtain ⟨a', c', hv', hls, hnw⟩ := ownO_ls hO (withL_lens 0 HH.out.lens)
      cases hv'
      have HLS := Hid.mk hls
      have HNW := Hid.mk hnw
      obtain ⟨m', hm'⟩ : ∃ m', (withL k r 0 L).length = m' := ⟨_, rfl⟩
      rw [hm'] at HLS HW'
      clear hO hls hnw hm' HO
      go_upto_region 10 with fail
      rename_i KK hkk
      refine wp_region_lit ?_
      refine wl_pure 39 (.agg #[.int .i64 most, .slice ta m' tc]) rfl (by kernel_rfl) (rd_loadS rfl (by kernel_rfl) HW'.out.tb) ?_
      refine wl_skip rfl (by kernel_rfl) (rd_store 28 _ _ rfl (w.heap.size + 1) #[.int .i64 most, .slice ta m' tc] (by kernel_rfl) (by kernel_rfl) 28 #[.int .i64 0, .slice none 0 0] HW'.out.rb (by kernel_rfl) rfl (s_one _ _ _ _)) ?_
      refine hkk _ _ ?_
      clear hkk
      go_frame
      go_wp2_with fail
      refine bodyPost_ret (results_cell_row Try.results32 _ _ (w.heap.size + 1) 28 _ (0, 0) _ rfl (setRow_heap _ _ _ _ _ _ HW'.out.rb) Try.underlying28 rfl (by kernel_rfl)) rfl ?_
      exact ⟨⟨ta, m', tc, rfl, HLS.out.keep (fun g off e _ => setRow_other _ _ _ _ (by have := HNW.out g off e; omega)), fun g off e => by have := HNW.out g off e; omega⟩, Below.setRow HW'.out.bel (by omega) _⟩
end Go.Proofs.Ytjpcfdhkgfaeeaa
