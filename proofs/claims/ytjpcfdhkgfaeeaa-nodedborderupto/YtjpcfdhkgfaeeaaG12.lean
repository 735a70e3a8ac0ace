/- Calls in memory; the digest of which a call is. -/
import Derived.Test.YtjpcfdhkgfaeeaaG11
import Derived.Test.YtjpcfdhkgfaeeaaG02
namespace Go.Proofs.Ytjpcfdhkgfaeeaa
open Go.RowKit
open Di (dref dref_len)
set_option linter.unusedVariables false
set_option maxRecDepth 100000
/-- A call. -/
structure Cl where
  k : Int
  s : ByteArray
  o : Bool
  d : List Int
def Cl.cells (x : Cl) : List Value := [.int .i64 x.k, .string x.s, .bool x.o] ++ x.d.map (Value.int .u8)
theorem Cl.clen {x : Cl} (h : x.d.length = 32) : x.cells.length = 35 := by simp [Cl.cells, h]
theorem Cl.one (x : Cl) : ∀ u ∈ x.cells, u.oneCell' = true := by
  intro u hu
  simp only [Cl.cells, List.mem_cons, List.mem_append, List.mem_map, List.not_mem_nil, or_false] at hu
  rcases hu with (rfl | rfl | rfl) | ⟨y, _, rfl⟩ <;> rfl
/-- The digest of which a call is. -/
def Cl.nm (x : Cl) : List Int := if x.o then x.d else dref (nums x.s)
theorem Cl.nml {x : Cl} (h : x.d.length = 32) : x.nm.length = 32 := by
  unfold Cl.nm
  split
  · exact h
  · exact dref_len _
/-- A box that holds a call. -/
def CBx (g : Nat) (v : World) (x : Cl) : Prop := v.heap[g]? = some (.cells x.cells.toArray 32)
theorem CBx.go {g : Nat} {v v' : World} {x : Cl} (h : CBx g v x) (hb : Below v.heap.size v v') : CBx g v' x := Below.row hb h
theorem CBx.all {g : Nat} {v : World} {x : Cl} (h : CBx g v x) : v.rangeAt g 0 x.cells := fun j u hu => by
  rw [cell_of_row _ _ _ _ _ _ h, Nat.zero_add, List.getElem?_toArray]; exact hu
theorem CBx.c0 {g : Nat} {v : World} {x : Cl} (h : CBx g v x) : v.cell? ⟨g, 0, none⟩ = some (.int .i64 x.k) := by rw [cell_of_row _ _ _ _ _ _ h]; rfl
theorem CBx.c1 {g : Nat} {v : World} {x : Cl} (h : CBx g v x) : v.cell? ⟨g, 1, none⟩ = some (.string x.s) := by rw [cell_of_row _ _ _ _ _ _ h]; rfl
theorem CBx.c2 {g : Nat} {v : World} {x : Cl} (h : CBx g v x) : v.cell? ⟨g, 2, none⟩ = some (.bool x.o) := by rw [cell_of_row _ _ _ _ _ _ h]; rfl
theorem CBx.dg {g : Nat} {v : World} {x : Cl} (h : CBx g v x) : v.rangeAt g 3 (x.d.map (Value.int .u8)) := fun j u hu => by
  have := h.all (3 + j) u (by
    rw [Cl.cells, List.getElem?_append_right (by simp)]
    simpa using hu)
  rwa [Nat.zero_add] at this
theorem rd_loadb {a : Act} {w : World} {x : Operand} {p : Addr} {v : Value} {o : Oper} (ho : o.op = .load 4 x) (hx : a.eval x = .pointer (some p)) (hc : w.cell? p = some v) : (execOp a.eval o).run Try.prog w = .ok (.value v) w := by
  unfold execOp
  rw [ho]
  simp only [hx]
  go_simp
theorem rd_loadC {a : Act} {w : World} {x : Operand} {o : Oper} (ho : o.op = .load 32 x) {b off : Nat} (hx : a.eval x = .pointer (some ⟨b, off, none⟩)) {y : Cl} (hl : y.d.length = 32) (hc : w.rangeAt b off y.cells) : (execOp a.eval o).run Try.prog w = .ok (.value (.agg y.cells.toArray)) w :=
  rd_loadRow 32 x ho b off hx y.cells _ hc Try.underlying32 rfl (by rw [Cl.clen hl]; kernel_rfl)
/-- The boxes, while name goes on. -/
structure Nw (w v : World) (x : Cl) : Prop where
  cb : CBx w.heap.size v x
  rb : DBx (w.heap.size + 1) v z32
  bel : Below w.heap.size w v
theorem Nw.go {w v v' : World} {x : Cl} (h : Nw w v x) (hb : Below v.heap.size v v') : Nw w v' x := ⟨h.cb.go hb, h.rb.go hb, below_go h.bel hb⟩
theorem nw_new (w : World) (x : Cl) : Nw w ((w.alloc (.cells x.cells.toArray 32)).alloc (.cells (B8 z32) 30)) x := by
  have s1 : (w.alloc (.cells x.cells.toArray 32)).heap.size = w.heap.size + 1 := by simp
  have h2 := dbx_new (w.alloc (.cells x.cells.toArray 32)) z32 rfl
  rw [s1] at h2
  exact ⟨CBx.go (heap_alloc_new _ _) (below_new _ _), h2, below_go (below_new w _) (below_new _ _)⟩
set_option maxHeartbeats 4000000 in
theorem name_any (x : Cl) (hd : x.d.length = 32) (hs : x.s.size ≤ 140737488351232) (w : World) :
    Calls Try.prog 25 #[.agg x.cells.toArray] w fun e w' => e = .returned (.agg (B8 x.nm)) ∧ Below w.heap.size w w' := by
  have HN0 := Hid.mk (nw_new w x)
  have HNL := Hid.mk (Cl.nml hd)
  have HDL := Hid.mk hd
  have HSS := Hid.mk hs
  clear hd hs
  go_enter Try.func25, Try.ntmps25
  go_upto_region 1 with fail
  refine gen_w (p := fun v => Code.wp _ _ _ _ v) (q := fun v => Nw w v x) HN0.out ?_
  clear HN0
  intro v hN
  have c2 := hN.cb.c2
  have HN := Hid.mk hN
  clear hN
  obtain ⟨q, hq⟩ : ∃ q, x.o = q := ⟨_, rfl⟩
  rw [hq] at c2
  have HQ := Hid.mk hq
  clear hq
  rename_i KK hkk
  refine wp_region_lit ?_
  refine wl_pure 3 (.pointer (some ⟨w.heap.size, 2, none⟩)) rfl (by kernel_rfl) (by kernel_rfl) ?_
  refine wl_pure 4 (.bool q) rfl (by kernel_rfl) (rd_loadb rfl (by kernel_rfl) c2) ?_
  refine hkk _ _ ?_
  clear hkk c2
  go_frame
  cases q with
  | true =>
    have HNM := Hid.mk (show x.nm = x.d from by unfold Cl.nm; rw [HQ.out]; rfl)
    go_upto_region 2 with fail
    rename_i KK hkk
    refine wp_region_lit ?_
    refine wl_pure 5 (.pointer (some ⟨w.heap.size, 3, none⟩)) rfl (by kernel_rfl) (by kernel_rfl) ?_
    refine wl_pure 6 (.agg (B8 x.d)) rfl (by kernel_rfl) (rd_loadDD rfl (by kernel_rfl) HDL.out HN.out.cb.dg) ?_
    refine wl_skip rfl (by kernel_rfl) (rd_store 30 _ _ rfl (w.heap.size + 1) (B8 x.d) (by kernel_rfl) (by kernel_rfl) 30 (B8 z32) HN.out.rb.row (infoD x.d HDL.out) (z8_size HDL.out) (B8_ones _)) ?_
    refine hkk _ _ ?_
    clear hkk
    go_frame
    go_wp2_with fail
    refine bodyPost_ret (results_cell_row Try.results25 _ _ (w.heap.size + 1) 30 _ (0, 0) _ rfl (setRow_heap _ _ _ _ _ _ HN.out.rb.row) Try.underlying30 rfl (infoD x.d HDL.out)) rfl ?_
    exact ⟨by rw [HNM.out], Below.setRow HN.out.bel (by omega) _⟩
  | false =>
    obtain ⟨d, hd⟩ : ∃ d, dref (nums x.s) = d := ⟨_, rfl⟩
    have HNM := Hid.mk (show x.nm = d from by unfold Cl.nm; rw [HQ.out, ← hd]; rfl)
    have HD := Hid.mk hd
    have HL := Hid.mk (show d.length = 32 from by rw [← hd]; exact dref_len _)
    clear hd
    go_upto_region 3 with fail
    rename_i KK hkk
    refine wp_region_lit ?_
    refine wl_pure 7 (.pointer (some ⟨w.heap.size, 1, none⟩)) rfl (by kernel_rfl) (by kernel_rfl) ?_
    refine wl_pure 8 (.string x.s) rfl (by kernel_rfl) (rd_loads rfl (by kernel_rfl) HN.out.cb.c1) ?_
    refine wl_run 9 (.slice (some ⟨v.heap.size, 0, none⟩) x.s.size (grownCap v x.s.size 0 5)) rfl (by kernel_rfl) (rd_convX rfl (by kernel_rfl) (str_conv v x.s)) ?_
    have hag := bytes_ag v x.s HSS.out
    refine wl_call 10 rfl (by kernel_rfl) 20 #[.slice (some ⟨v.heap.size, 0, none⟩) x.s.size (grownCap v x.s.size 0 5)] (by kernel_rfl) (R := fun val w' => val = .agg (B8 d) ∧ Below (Lib.bytesWorld v 5 x.s).heap.size (Lib.bytesWorld v 5 x.s) w') ((Di.rof_any _ _ _ (nums x.s) _ (ag_inB hag) (nums_b x.s) (by rw [nums_len]; exact HSS.out)).mono (fun e w' h => ⟨_, h.1, by rw [← HD.out]; rfl, h.2⟩)) ?_
    rintro val v2 ⟨rfl, hb2⟩
    have HN2 := Hid.mk (HN.out.go (below_go (bytes_below v x.s) hb2))
    refine wl_skip rfl (by kernel_rfl) (rd_store 30 _ _ rfl (w.heap.size + 1) (B8 d) (by kernel_rfl) (by kernel_rfl) 30 (B8 z32) HN2.out.rb.row (infoD d HL.out) (z8_size HL.out) (B8_ones _)) ?_
    refine hkk _ _ ?_
    clear hkk hag hb2
    go_frame
    go_wp2_with fail
    refine bodyPost_ret (results_cell_row Try.results25 _ _ (w.heap.size + 1) 30 _ (0, 0) _ rfl (setRow_heap _ _ _ _ _ _ HN2.out.rb.row) Try.underlying30 rfl (infoD d HL.out)) rfl ?_
    exact ⟨by rw [HNM.out], Below.setRow HN2.out.bel (by omega) _⟩
end Go.Proofs.Ytjpcfdhkgfaeeaa
/- What digest.Less and the document's Less answer: one and the same order of rows of 32 bytes. -/
namespace Go.Proofs.Ytjpcfdhkgfaeeaa.Di
set_option maxRecDepth 100000
open Go.RowKit
/-- The order of rows of bytes of one length. -/
def lt32 : List Int → List Int → Bool
  | x :: xs, y :: ys => if x = y then lt32 xs ys else decide (x < y)
  | _, _ => false
theorem drop_getD (xs : List Int) (k : Nat) (h : k < xs.length) : xs.drop k = xs.getD k 0 :: xs.drop (k + 1) := by
  rw [List.drop_eq_getElem_cons h]
  simp [List.getD, List.getElem?_eq_getElem h]
theorem lt32_end (xs ys : List Int) (k : Nat) (h : xs.length = k) : lt32 (xs.drop k) (ys.drop k) = false := by
  rw [List.drop_eq_nil_of_le (by omega)]
  simp [lt32]
theorem lt32_same (xs ys : List Int) (k : Nat) (x : Int) (hx : k < xs.length) (hy : k < ys.length) (ex : xs.getD k 0 = x) (ey : ys.getD k 0 = x) : lt32 (xs.drop (k + 1)) (ys.drop (k + 1)) = lt32 (xs.drop k) (ys.drop k) := by
  rw [drop_getD xs k hx, drop_getD ys k hy, ex, ey]
  simp [lt32]
theorem lt32_diff (xs ys : List Int) (k : Nat) (x y : Int) (hx : k < xs.length) (hy : k < ys.length) (ex : xs.getD k 0 = x) (ey : ys.getD k 0 = y) (hne : ¬ x = y) : lt32 (xs.drop k) (ys.drop k) = decide (x < y) := by
  rw [drop_getD xs k hx, drop_getD ys k hy, ex, ey]
  simp [lt32, hne]
theorem duo_new (w : World) (A B : Obj) : ((w.alloc A).alloc B).heap[w.heap.size]? = some A ∧ ((w.alloc A).alloc B).heap[w.heap.size + 1]? = some B ∧ Below w.heap.size w ((w.alloc A).alloc B) :=
  ⟨heap_alloc2_old w A B, heap_alloc2_new w A B, ((Below.refl _ _).alloc (Nat.le_refl _) _).alloc (by simp) _⟩
theorem ret_bool {a b : Bool} (h : a = b) : Ending.returned (.bool a) = .returned (.bool b) := by rw [h]
set_option maxHeartbeats 400000 in
theorem less_any (xs ys : List Int) (hx : xs.length = 32) (hy : ys.length = 32) (w : World) :
    Calls Try.prog 40 #[.agg (B8 xs), .agg (B8 ys)] w fun e w' => e = .returned (.bool (lt32 xs ys)) ∧ Below w.heap.size w w' := by
  obtain ⟨h0, h1, hb⟩ := duo_new w (.cells (B8 xs) 30) (.cells (B8 ys) 30)
  have HX := Hid.mk h0
  have HY := Hid.mk h1
  have HI : Hid ((Try.prog.info? 30).map (·.size) = some (B8 xs).size) := by unfold Hid; rw [B8_size, hx]; kernel_rfl
  clear h0 h1
  go_enter Try.func40, Try.ntmps40
  go_wp2_with (first | refine wpList_load_row rfl 30 _ rfl _ rfl 30 _ _ _ HX.out Try.underlying30 rfl HI.out ?_)
  go_loop [8] (fun i => ∃ k : Nat, k ≤ 32 ∧ i = .int .i64 k ∧ Hid (lt32 (xs.drop k) (ys.drop k) = lt32 xs ys)) (fun i => 32 - (intOf i).toNat)
  case atStart => exact ⟨0, by omega, rfl, rfl⟩
  case round =>
    obtain ⟨k, hk, rfl, HL⟩ := hrel
    by_cases hlt : k < 32
    · have hix := fun v => run_index_arr (P := Try.prog) 30 5 32 .u8 Try.underlying30 (by kernel_rfl) Try.underlying5 (B8 xs) (k : Int) _ (by omega) (by omega) (B8_get xs k (by omega)) v
      have hcy := B8_cell HY.out k (by omega)
      obtain ⟨x, ex⟩ : ∃ x, xs.getD k 0 = x := ⟨_, rfl⟩
      obtain ⟨y, ey⟩ : ∃ y, ys.getD k 0 = y := ⟨_, rfl⟩
      rw [ex] at hix
      rw [ey] at hcy
      by_cases hxy : x = y
      · subst hxy
        have HS := Hid.mk ((lt32_same xs ys k x (by omega) (by omega) ex ey).trans HL.out)
        clear ex ey HL
        go_wp2
        go_round
        case rel => exact ⟨k + 1, by omega, by go_num, HS⟩
        case measure => simp [intOf]; omega
      · have HS := Hid.mk ((lt32_diff xs ys k x y (by omega) (by omega) ex ey hxy).symm.trans HL.out)
        have hb2 : (x != y) = true := by rw [bne_iff_ne]; exact hxy
        clear ex ey HL hxy
        go_wp2
        go_ret
        exact ⟨ret_bool HS.out, hb⟩
    · have hk2 : k = 32 := by omega
      subst hk2
      have HS := Hid.mk ((lt32_end xs ys 32 hx).symm.trans HL.out)
      clear HL
      go_wp2
      go_ret
      exact ⟨ret_bool HS.out, hb⟩
set_option maxHeartbeats 400000 in
theorem rless_any (xs ys : List Int) (hx : xs.length = 32) (hy : ys.length = 32) (w : World) :
    Calls Try.prog 30 #[.agg (B8 xs), .agg (B8 ys)] w fun e w' => e = .returned (.bool (lt32 xs ys)) ∧ Below w.heap.size w w' := by
  obtain ⟨h0, h1, hb⟩ := duo_new w (.cells (B8 xs) 30) (.cells (B8 ys) 30)
  have HX := Hid.mk h0
  have HY := Hid.mk h1
  clear h0 h1
  go_enter Try.func30, Try.ntmps30
  go_wp2_with fail
  go_loopw [5] (fun i v => ∃ k : Nat, k ≤ 32 ∧ i = .int .i64 k ∧ Hid (lt32 (xs.drop k) (ys.drop k) = lt32 xs ys) ∧ v.heap[w.heap.size]? = some (.cells (B8 xs) 30) ∧ v.heap[w.heap.size + 1]? = some (.cells (B8 ys) 30) ∧ Below w.heap.size w v) (fun i _ => 32 - (intOf i).toNat)
  case atStart => exact ⟨0, by omega, rfl, rfl, HX.out, HY.out, hb⟩
  case round =>
    clear hb HX HY
    obtain ⟨k, hk, rfl, HL, h0, h1, hb⟩ := hrel
    have HX := Hid.mk h0
    have HY := Hid.mk h1
    clear h0 h1
    by_cases hlt : k < 32
    · have hki : (k : Int) < 32 := by omega
      have hcx := B8_cell HX.out k (by omega)
      have hcy := B8_cell HY.out k (by omega)
      obtain ⟨x, ex⟩ : ∃ x, xs.getD k 0 = x := ⟨_, rfl⟩
      obtain ⟨y, ey⟩ : ∃ y, ys.getD k 0 = y := ⟨_, rfl⟩
      rw [ex] at hcx
      rw [ey] at hcy
      by_cases hxy : x = y
      · subst hxy
        have HS := Hid.mk ((lt32_same xs ys k x (by omega) (by omega) ex ey).trans HL.out)
        clear ex ey HL
        go_wp2_with fail
        go_quiet (fail)
        go_wp2_with fail
        refine ⟨⟨k + 1, by omega, by go_num, HS, HX.out, HY.out, ?_⟩, by simp [intOf]; omega⟩
        repeat (first | exact hb | refine below_drewN ?_ _)
      · have HS := Hid.mk ((lt32_diff xs ys k x y (by omega) (by omega) ex ey hxy).symm.trans HL.out)
        have hb2 : (x != y) = true := by rw [bne_iff_ne]; exact hxy
        clear ex ey HL hxy
        go_wp2_with fail
        go_quiet (fail)
        go_wp2_with fail
        go_quiet (fail)
        go_wp2_with fail
        go_ret
        refine ⟨ret_bool HS.out, ?_⟩
        repeat (first | exact hb | refine below_drewN ?_ _)
    · have hk2 : k = 32 := by omega
      subst hk2
      have HS := Hid.mk ((lt32_end xs ys 32 hx).symm.trans HL.out)
      clear HL
      go_wp2
      go_ret
      exact ⟨ret_bool HS.out, hb⟩
end Go.Proofs.Ytjpcfdhkgfaeeaa.Di
