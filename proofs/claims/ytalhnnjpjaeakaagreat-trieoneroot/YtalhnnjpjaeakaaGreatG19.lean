/- What EmptyRoot and EmptyCode answer, the program's and the document's. -/
import Derived.Test.YtalhnnjpjaeakaaGreatG17
import Derived.Test.YtalhnnjpjaeakaaGreatG18
import Derived.Test.YtalhnnjpjaeakaaGreatG06
import Derived.Lib.SlBytesConst
import Derived.Test.YtalhnnjpjaeakaaGreatG01
namespace Go.Proofs.YtalhnnjpjaeakaaGreat
open Go.RowKit
open Di (dref)
set_option linter.unusedVariables false
set_option maxRecDepth 100000
theorem z8_size {ds : List Int} (h : ds.length = 32) : (B8 z32).size = (B8 ds).size := by rw [B8_size, B8_size, h]; rfl
theorem infoD' {ds : List Int} (h : ds.length = 32) : (Tryz.prog.info? 49).map (·.size) = some (B8 ds).size := by rw [infoD, B8_size, h]
theorem B8_one (bs : List Int) : (B8 bs).all (·.oneCell') = true := all_oneCell_toArray (B8_one2 bs)
theorem enc_t0 : encP t0 = ([128], 0) := by decide +kernel
set_option maxHeartbeats 2000000 in
theorem remptyRoot_any (w : World) : Calls Tryz.prog 25 #[] w fun e w' => e = .returned (.agg (B8 (dref [128]))) ∧ Below w.heap.size w w' := by
  have HOF := Hid.mk (fun (v : World) => rdof_any (some ⟨v.heap.size, 0, none⟩) 1 1 [128] (v.alloc (.cells #[.int .u8 128] 5)) (Ni.row_ag (show Ni.Row v.heap.size (v.alloc (.cells #[.int .u8 128] 5)) [128] from heap_alloc_new _ _) rfl (fun x hx => by simp at hx; omega) (show (1 : Nat) ≤ 9223372036854775807 by decide)) (by omega))
  have HDL := Hid.mk (dref_len [128])
  obtain ⟨ds, hds⟩ : ∃ ds, dref [128] = ds := ⟨_, rfl⟩
  rw [hds] at HOF HDL ⊢
  clear hds
  go_enter Tryz.func25, Tryz.ntmps25
  go_upto_region 1 with fail
  refine gen_w (p := fun v => Code.wp _ _ _ _ v) (q := fun v => v.heap[w.heap.size]? = some (.cells (B8 z32) 49) ∧ Below w.heap.size w v) ⟨heap_alloc_new _ _, below_new _ _⟩ ?_
  rintro v ⟨hrow, hb⟩
  have HROW := Hid.mk hrow
  have HB := Hid.mk hb
  clear hrow hb
  go_wp2_with fail
  refine (HOF.out v).mono ?_
  rintro e w1 ⟨rfl, hb1⟩
  have HR1 := Hid.mk (Below.row (below_go (below_new v _) hb1) HROW.out)
  have HB1 := Hid.mk (below_go HB.out (below_go (below_new v _) hb1))
  clear hb1
  go_wp2_with (first | refine wpList_store_row rfl 49 _ _ rfl _ (B8 ds) rfl rfl 49 _ HR1.out (infoD' HDL.out) (z8_size HDL.out) (B8_one _) ?_)
  refine bodyPost_ret (results_cell_row Tryz.results25 _ _ w.heap.size 49 (B8 ds) (0, 0) _ rfl (setRow_heap _ _ _ _ _ _ HR1.out) Tryz.underlying49 rfl (infoD' HDL.out)) rfl ?_
  exact ⟨rfl, Below.setRow HB1.out (Nat.le_refl _) _⟩
set_option maxHeartbeats 2000000 in
theorem emptyRoot_any (w : World) : Calls Tryz.prog 38 #[] w fun e w' => e = .returned (.agg (B8 (dref [128]))) ∧ Below w.heap.size w w' := by
  have HDL := Hid.mk (dref_len [128])
  have HOF := Hid.mk (fun (v : World) (a : Option Addr) (c : Nat) (h : Ag v a 1 c [128]) => dof_any a 1 c [128] v h (by omega))
  obtain ⟨ds, hds⟩ : ∃ ds, dref [128] = ds := ⟨_, rfl⟩
  rw [hds] at HOF HDL ⊢
  clear hds
  have HTX := Hid.mk (fun v => text_any none 0 0 [] v ⟨.inl ⟨rfl, rfl⟩, fun _ => ⟨rfl, rfl⟩, rfl, fun x hx => by cases hx⟩ (by omega))
  go_enter Tryz.func38, Tryz.ntmps38
  go_upto_region 1 with fail
  refine gen_w (p := fun v => Code.wp _ _ _ _ v) (q := fun v => v.heap[w.heap.size]? = some (.cells (B8 z32) 49) ∧ Below w.heap.size w v) ⟨heap_alloc_new _ _, below_new _ _⟩ ?_
  rintro v ⟨hrow, hb⟩
  have HROW := Hid.mk hrow
  have HB := Hid.mk hb
  clear hrow hb
  go_wp2_with fail
  refine (HTX.out v).mono ?_
  rintro e w1 ⟨rfl, hr1, hb1⟩
  have hlies := liesP_lies _ _ (liesP_txt (P := fun _ => True) (n := 0) hr1 rfl (fun x hx => by cases hx) (by omega) trivial)
  have hen := encode_own (.mk false [] []) ⟨false, some ⟨v.heap.size + 1, 0, none⟩, 0, 0, none, 0, 0⟩ w1 hlies
  rw [show encP (.mk false [] []) = ([128], 0) from enc_t0] at hen
  have HEN := Hid.mk hen
  have HB1 := Hid.mk (below_go HB.out hb1)
  have HR1 := Hid.mk (Below.row hb1 HROW.out)
  clear hr1 hb1 hlies hen HROW HB
  go_wp2_with fail
  refine HEN.out.mono ?_
  rintro e w2 ⟨⟨a, m, c, rfl, hag, -⟩, hb2⟩
  have hm : m = 1 := hag.l.symm
  subst hm
  have HO2 := Hid.mk (HOF.out w2 a c hag)
  have HB2 := Hid.mk (below_go HB1.out hb2)
  have HR2 := Hid.mk (Below.row hb2 HR1.out)
  clear hag hb2
  go_wp2_with fail
  refine HO2.out.mono ?_
  rintro e w3 ⟨rfl, hb3⟩
  have HR3 := Hid.mk (Below.row hb3 HR2.out)
  have HB3 := Hid.mk (below_go HB2.out hb3)
  clear hb3
  go_wp2_with (first | refine wpList_store_row rfl 49 _ _ rfl _ (B8 ds) rfl rfl 49 _ HR3.out (infoD' HDL.out) (z8_size HDL.out) (B8_one _) ?_)
  refine bodyPost_ret (results_cell_row Tryz.results38 _ _ w.heap.size 49 (B8 ds) (0, 0) _ rfl (setRow_heap _ _ _ _ _ _ HR3.out) Tryz.underlying49 rfl (infoD' HDL.out)) rfl ?_
  exact ⟨rfl, Below.setRow HB3.out (Nat.le_refl _) _⟩
end Go.Proofs.YtalhnnjpjaeakaaGreat
/- An empty trie's root; what is done ahead of the statements. -/
namespace Go.Proofs.YtalhnnjpjaeakaaGreat
open Go.RowKit
open Tr
open Di (dref)
set_option linter.unusedVariables false
set_option maxRecDepth 100000
theorem results_d {fn : Func} {p : Tmp} {f : Nat → Value} (h : fn.results = #[.cell p 49]) (w : World) (g : Nat) (ds : List Int) (hl : ds.length = 32) (hp : f p = .pointer (some ⟨g, 0, none⟩)) (hg : Rw g w (B8 ds) 49) : (resF f fn.results).run Tryz.prog w = .ok (.agg (B8 ds)) w := by
  have := run_loadVar_row (P := Tryz.prog) w g 49 49 _ _ _ hg Tryz.underlying49 rfl (infoD' hl)
  unfold resF
  rw [h]
  simp [hp, this, asAddr]
theorem ol_eqD {ρ : Operand → Value} {w : World} {x y : Operand} {o : Oper} {ds : List Int} (ho : o.op = .binOp .eql 49 x y 49) (hx : ρ x = .agg (B8 ds)) (hy : ρ y = .agg (B8 ds)) (hl : ds.length = 32) : (execOp ρ o).run Tryz.prog w = .ok (.value (.bool true)) w := by
  have e := eqD ds ds hl hl w
  simp at e
  unfold execOp
  rw [ho]
  simp only [hx, hy]
  go_simp
/-- '[]byte("a")' -/
theorem const_a {w1 w2 : World} {g : Nat} {x : Int} (hx : 0 ≤ x ∧ x < 256) (hn : New w1 w2 g #[.int .u8 x] 5) {K : Nat → Prop} (hK : ∀ b, w1.heap.size ≤ b → K b) : ∃ w3, (∀ (ρ : Operand → Value) (o : Oper) (y : Operand), o.op = .convert 27 27 y → ρ y = .slice (some ⟨g, 0, none⟩) 1 1 → (execOp ρ o).run Tryz.prog w2 = .ok (.value (.slice (some ⟨g, 0, none⟩) 1 1)) w3) ∧ Below w1.heap.size w1 w3 ∧ Sk K w3 (some ⟨g, 0, none⟩) 1 1 [x] := by
  obtain ⟨rfl, rfl⟩ := hn
  refine ⟨w1.alloc (.cells #[.int .u8 x] 5 (1, 2)), ?_, (Below.refl _ _).alloc (Nat.le_refl _) _, ?_⟩
  · intro ρ o y ho hy
    have := Lib.run_convert_bytes_const (P := Tryz.prog) w1 27 5 #[.int .u8 x] 1 1 Tryz.underlying27 Tryz.underlying5
    unfold execOp
    simp only [ho, hy, Sem.run_bind, this, Result.andThen_ok, Sem.run_pure]
    rfl
  · refine ⟨⟨.inr ⟨w1.heap.size, 0, rfl, rfl, by omega, by omega, by unfold maxLen; omega, fun j hj => ?_⟩, (fun e => by cases e), rfl, fun y hy => by rw [List.mem_singleton.1 hy]; exact hx⟩, fun y hy _ => ?_⟩
    · have : j = 0 := by simpa using hj
      subst this
      rw [cell_of_row _ _ _ _ _ _ (heap_alloc_new w1 _)]; rfl
    · cases hy
      exact hK _ (Nat.le_refl _)
theorem Tri.lt {K : Nat → Prop} {w : World} {g : Nat} {t : Tr} (h : Tri K w g t) : g < w.heap.size := by
  obtain ⟨⟨v, h1, _⟩, _⟩ := h
  exact lt_of_get h1
theorem Rw.touch {g g' : Nat} {w w' : World} {cells : Array Value} {T : TypeId} (h : Rw g w cells T) (ht : Touch g' w w') (hne : g ≠ g') : Rw g w' cells T := (ht.block g (lt_of_get h) hne).trans h
theorem tget_ok {K : Nat → Prop} {w : World} {g : Nat} {t : Tr} {a : Option Addr} {n c : Nat} {k : List Int} (h : Tri K w g t) {K1 : Nat → Prop} (hk : Sk K1 w a n c k) (hn : n ≤ 32) (hK : ∀ b, w.heap.size ≤ b → K b) :
    Calls Tryz.prog 22 #[.pointer (some ⟨g, 0, none⟩), .slice a n c] w fun e w' => ∃ u, e = .returned u ∧ (∃ a2 n2 c2 b, u = .tuple #[.slice a2 n2 c2, .bool b, .int .i64 0] ∧ b = decide (Tr.get t (Ni.nib k) ≠ []) ∧ Sk (fun b => w.heap.size ≤ b) w' a2 n2 c2 (Tr.get t (Ni.nib k))) ∧ Bl w w' := by
  obtain ⟨⟨v, h1, h2⟩, h3⟩ := h
  exact get_ok h1 h2 h3 hk hn hK
/-- What a Put does to the tree, what it answers. -/
def putT (t : Tr) (k x : List Int) : Tr := if k.length ≤ 32 ∧ 0 < x.length ∧ x.length ≤ 256 then put t (Ni.nib k) x else t
def putE (k x : List Int) : Int := if k.length ≤ 32 then (if 0 < x.length ∧ x.length ≤ 256 then 0 else 71) else 70
def delT (t : Tr) (k : List Int) : Tr := if k.length ≤ 32 ∧ Tr.get t (Ni.nib k) ≠ [] then del t (Ni.nib k) else t
theorem tput_any {K K0 : Nat → Prop} {w : World} {g : Nat} {t : Tr} {a : Option Addr} {n c : Nat} {k : List Int} (h : Tri K w g t) {K1 : Nat → Prop} (hk : Sk K1 w a n c k) {ax : Option Addr} {nx cx : Nat} {x : List Int} (hx : Sk K0 w ax nx cx x) (hK : ∀ b, w.heap.size ≤ b → K b) :
    Calls Tryz.prog 11 #[.pointer (some ⟨g, 0, none⟩), .slice a n c, .slice ax nx cx] w fun e w' => ∃ u, e = .returned u ∧ u = .int .i64 (putE k x) ∧ Tri K w' g (putT t k x) ∧ Touch g w w' := by
  have lk := hk.len
  have lx := hx.len
  unfold putE putT
  rw [lk, lx]
  by_cases hn : n ≤ 32
  · by_cases h0 : 0 < nx
    · by_cases h2 : nx ≤ 256
      · rw [if_pos hn, if_pos ⟨h0, h2⟩, if_pos ⟨hn, h0, h2⟩]
        obtain ⟨⟨v, h1, h2'⟩, h3⟩ := h
        exact tput_ok h1 h2' h3 hk hn hx h2 h0 hK
      · rw [if_pos hn, if_neg (fun q => h2 q.2), if_neg (fun q => h2 q.2.2)]
        exact (tput_vf hk hx hn (by omega)).mono (fun e w' ⟨u, e1, e2, e3⟩ => ⟨u, e1, e2, h.go e3, Touch.of_below e3⟩)
    · rw [if_pos hn, if_neg (fun q => h0 q.1), if_neg (fun q => h0 q.2.1)]
      exact (tput_v0 hk hx hn (by omega)).mono (fun e w' ⟨u, e1, e2, e3⟩ => ⟨u, e1, e2, h.go e3, Touch.of_below e3⟩)
  · rw [if_neg hn, if_neg (fun q => hn q.1)]
    exact (tput_k hk hx (by omega)).mono (fun e w' ⟨u, e1, e2, e3⟩ => ⟨u, e1, e2, h.go e3, Touch.of_below e3⟩)
theorem tdel_any {K : Nat → Prop} {w : World} {g : Nat} {t : Tr} {a : Option Addr} {n c : Nat} {k : List Int} (h : Tri K w g t) {K1 : Nat → Prop} (hk : Sk K1 w a n c k) (hK : ∀ b, w.heap.size ≤ b → K b) :
    Calls Tryz.prog 12 #[.pointer (some ⟨g, 0, none⟩), .slice a n c] w fun e w' => ∃ u, e = .returned u ∧ (∃ b z, u = .tuple #[.bool b, .int .i64 z]) ∧ Tri K w' g (delT t k) ∧ Touch g w w' := by
  have lk := hk.len
  unfold delT
  rw [lk]
  by_cases hn : n ≤ 32
  · by_cases hg : Tr.get t (Ni.nib k) = []
    · rw [if_neg (fun q => q.2 hg)]
      have h' := h
      obtain ⟨⟨v, h1, h2⟩, h3⟩ := h'
      exact (delete_none h1 h2 h3 hk hn hK hg).mono (fun e w' ⟨u, e1, e2, e3⟩ => ⟨u, e1, ⟨_, _, e2⟩, h.go e3, Touch.of_below e3⟩)
    · rw [if_pos ⟨hn, hg⟩]
      obtain ⟨⟨v, h1, h2⟩, h3⟩ := h
      exact (delete_some h1 h2 h3 hk hn hK hg).mono (fun e w' ⟨u, e1, e2, e3, e4⟩ => ⟨u, e1, ⟨_, _, e2⟩, e3, e4⟩)
  · rw [if_neg (fun q => hn q.1)]
    exact (delete_k hk (by omega)).mono (fun e w' ⟨u, e1, e2, e3⟩ => ⟨u, e1, ⟨_, _, e2⟩, h.go e3, Touch.of_below e3⟩)
set_option maxHeartbeats 2000000 in
theorem root_no {w : World} {g : Nat} (hr : Rw g w #[.nilIface] 67) :
    Calls Tryz.prog 18 #[.pointer (some ⟨g, 0, none⟩)] w fun e w' => ∃ u, e = .returned u ∧ (fun u w' => u = .agg (B8 (dref [128])) ∧ Bl w w') u w' := by
  have hB := Bl.refl w
  have hdl := dref_len [128]
  obtain ⟨ds, hds⟩ : ∃ ds, dref [128] = ds := ⟨_, rfl⟩
  rw [hds] at hdl ⊢
  refine cw_enter Tryz.func18 rfl 16 rfl ?_
  show CW _ _ _ _ _ _ _ [(0, .pointer (some ⟨g, 0, none⟩))] _
  refine cw_seq ?_
  refine cw_region ?_
  refine rw_new 2 (B8 z32) 49 (fun _ => by kernel_rfl) (fun _ => by kernel_rfl) ?_
  intro w1 g2 hn3
  replace hB := hB.go hn3.below
  replace hr := hr.go hn3.below
  have hr4 : Rw g2 w1 (B8 z32) 49 := hn3.row
  have hgd := hn3.hg
  refine rw_nil ?_
  refine nw_then ?_
  refine cw_seq ?_
  refine cw_seq ?_
  refine cw_region ?_
  refine rp 3 (.pointer (some ⟨g, 0, none⟩)) ?_
  refine rp 4 (.pointer (some ⟨g, 0, none⟩)) ?_
  refine rp 5 (.pointer (some ⟨g, 0, none⟩)) ?_
  refine rv 6 (.nilIface) (fun _ => ol_cell 65 _ ⟨g, 0, none⟩ _ _ rfl (by kernel_rfl) (by rw [cell_of_row _ _ _ _ _ _ hr]; rfl) Tryz.underlying65 rfl) ?_
  refine rp 7 (.bool true) ?_
  refine rw_nil ?_
  refine nw_then ?_
  refine cw_cond_t (fun _ => by kernel_rfl) ?_
  refine cw_seq ?_
  refine cw_region ?_
  refine rw_call 8 38 #[] (fun _ => by kernel_rfl) (fun _ => by kernel_rfl) (R := fun u w' => u = .agg (B8 ds) ∧ Bl (w1) w') ((emptyRoot_any (w1)).mono (fun e w' h => ⟨_, by rw [h.1, hds], rfl, h.2⟩)) ?_
  rintro _ u5 ⟨rfl, hb6⟩
  replace hB := hB.go hb6
  replace hr := hr.go hb6
  replace hr4 := hr4.go hb6
  refine rw_put g2 (B8 ds) (fun _ => by kernel_rfl) (fun _ => ol_store 49 _ _ _ _ _ _ rfl (by kernel_rfl) (by kernel_rfl) hr4 (infoD' hdl) (z8_size hdl) (B8_one _)) ?_
  intro uE hpE
  replace hB : Bl w uE := hpE.below hB (by omega) hB.size
  have hrE : Rw g2 uE (B8 ds) 49 := hpE.row hr4
  refine rw_nil ?_
  refine nw_then ?_
  refine cw_ret ?_
  refine nw_ret_then ?_
  exact nw_ret_body (.agg (B8 ds)) (fun _ => results_d Tryz.results18 _ g2 ds hdl (by kernel_rfl) hrE) ⟨_, rfl, rfl, hB⟩
theorem tdel_a {K : Nat → Prop} {w : World} {g : Nat} {a : Option Addr} {n c : Nat} (h : Tri K w g (put no (Ni.nib [97]) [1])) (hk : Sk K w a n c [97]) (hK : ∀ b, w.heap.size ≤ b → K b) :
    Calls Tryz.prog 12 #[.pointer (some ⟨g, 0, none⟩), .slice a n c] w fun e w' => ∃ u, e = .returned u ∧ u = .tuple #[.bool true, .int .i64 0] ∧ Tri K w' g no ∧ Touch g w w' := by
  obtain ⟨⟨v, h1, h2⟩, h3⟩ := h
  have hn : n = 1 := hk.len.symm
  exact delete_some h1 h2 h3 hk (by omega) hK (by decide +kernel)
set_option maxHeartbeats 4000000 in
theorem begun_any {K : Nat → Prop} {w : World} (hK : ∀ b, w.heap.size ≤ b → K b) :
    Calls Tryz.prog 8 #[] w fun e w' => ∃ u, e = .returned u ∧ (fun u w' => (∃ g, u = .tuple #[.pointer (some ⟨g, 0, none⟩), .bool true] ∧ w.heap.size ≤ g ∧ Tri K w' g no) ∧ Bl w w') u w' := by
  have hB := Bl.refl w
  have hdl := dref_len [128]
  obtain ⟨ds, hds⟩ : ∃ ds, dref [128] = ds := ⟨_, rfl⟩
  rw [hds] at hdl
  refine cw_enter Tryz.func8 rfl 60 rfl ?_
  show CW _ _ _ _ _ _ _ [] _
  refine cw_seq ?_
  refine cw_region ?_
  refine rp 0 (.pointer none) ?_
  refine rp 1 (.bool false) ?_
  refine rw_nil ?_
  refine nw_then ?_
  refine cw_seq ?_
  refine cw_region ?_
  refine rw_call 9 15 #[] (fun _ => by kernel_rfl) (fun _ => by kernel_rfl) (R := fun u w' => (∃ g, u = .pointer (some ⟨g, 0, none⟩) ∧ (w).heap.size ≤ g ∧ Tri K w' g no) ∧ Bl (w) w') (new_any (K := K)) ?_
  rintro _ u1 ⟨⟨g1, rfl, hg1, hT1⟩, hb2⟩
  have hsz1 := hB.size
  replace hB := hB.go hb2
  refine rp 2 (.pointer (some ⟨g1, 0, none⟩)) ?_
  refine rw_nil ?_
  refine nw_then ?_
  refine cw_seq ?_
  refine cw_seq ?_
  refine cw_region ?_
  refine rp 10 (.pointer (some ⟨g1, 0, none⟩)) ?_
  refine rp 11 (.bool false) ?_
  refine rw_nil ?_
  refine nw_then ?_
  refine cw_cond_f (fun _ => by kernel_rfl) ?_
  refine cw_skip ?_
  refine nw_then ?_
  refine cw_seq ?_
  refine cw_region ?_
  refine rp 12 (.pointer (some ⟨g1, 0, none⟩)) ?_
  refine rw_newS 13 #[.int .u8 97] 5 1 (fun _ => by kernel_rfl) (fun _ => by kernel_rfl) ?_
  intro w3 ga4 hn5
  have hszhn5 := hB.size
  obtain ⟨w6, hr7, hb8, hs9⟩ := const_a (x := 97) (by omega) hn5 (K := K) (fun b hb => hK b (Nat.le_trans hszhn5 hb))
  refine rw_v 14 (.slice (some ⟨ga4, 0, none⟩) 1 1) (fun _ => by kernel_rfl) (fun _ => hr7 _ _ _ rfl (by kernel_rfl)) ?_
  replace hB := hB.go hb8
  replace hT1 := hT1.go hb8
  refine rw_newS 15 #[.int .u8 1] 5 1 (fun _ => by kernel_rfl) (fun _ => by kernel_rfl) ?_
  intro w10 g11 hn12
  have hzhn12 := hB.size
  replace hB := hB.go hn12.below
  replace hT1 := hT1.go hn12.below
  replace hs9 := hs9.go hn12.below
  have hs13 : Sk K w10 (some ⟨g11, 0, none⟩) 1 1 [1] := one_sk (by omega) hn12 (fun b hb => hK b (Nat.le_trans hzhn12 hb))
  refine rw_call 16 11 #[.pointer (some ⟨g1, 0, none⟩), .slice (some ⟨ga4, 0, none⟩) 1 1, .slice (some ⟨g11, 0, none⟩) 1 1] (fun _ => by kernel_rfl) (fun _ => by kernel_rfl) (R := fun u w' => u = .int .i64 (putE [97] [1]) ∧ Tri K w' g1 (putT no [97] [1]) ∧ Touch g1 (w10) w') ((tput_any hT1 hs9 hs13 (fun b hb => hK b (Nat.le_trans hB.size hb)))) ?_
  rintro _ u14 ⟨rfl, hTn, hto1⟩
  replace hB : Bl w u14 := hto1.below hB (by omega) hB.size
  replace hs9 := hs9.touch hto1 hT1
  replace hs13 := hs13.touch hto1 hT1
  replace hT1 : Tri K u14 g1 (put no (Ni.nib [97]) [1]) := hTn
  refine rp 3 (.int .i64 0) ?_
  refine rw_nil ?_
  refine nw_then ?_
  refine cw_seq ?_
  refine cw_region ?_
  refine rp 18 (.pointer (some ⟨g1, 0, none⟩)) ?_
  refine rw_newS 19 #[.int .u8 97] 5 1 (fun _ => by kernel_rfl) (fun _ => by kernel_rfl) ?_
  intro w15 ga16 hn17
  have hszhn17 := hB.size
  obtain ⟨w18, hr19, hb20, hs21⟩ := const_a (x := 97) (by omega) hn17 (K := K) (fun b hb => hK b (Nat.le_trans hszhn17 hb))
  refine rw_v 20 (.slice (some ⟨ga16, 0, none⟩) 1 1) (fun _ => by kernel_rfl) (fun _ => hr19 _ _ _ rfl (by kernel_rfl)) ?_
  replace hB := hB.go hb20
  replace hT1 := hT1.go hb20
  replace hs9 := hs9.go hb20
  replace hs13 := hs13.go hb20
  refine rw_call 21 22 #[.pointer (some ⟨g1, 0, none⟩), .slice (some ⟨ga16, 0, none⟩) 1 1] (fun _ => by kernel_rfl) (fun _ => by kernel_rfl) (R := fun u w' => (∃ a2 n2 c2 b, u = .tuple #[.slice a2 n2 c2, .bool b, .int .i64 0] ∧ b = decide (Tr.get (put no (Ni.nib [97]) [1]) (Ni.nib [97]) ≠ []) ∧ Sk (fun b => (w18).heap.size ≤ b) w' a2 n2 c2 (Tr.get (put no (Ni.nib [97]) [1]) (Ni.nib [97]))) ∧ Bl (w18) w') ((tget_ok hT1 hs21 (by omega) (fun b hb => hK b (Nat.le_trans hB.size hb)))) ?_
  rintro _ u22 ⟨⟨a2, n2, c2, b2, rfl, eb2, hs2⟩, hb23⟩
  obtain rfl : b2 = true := by rw [eb2]; decide +kernel
  replace hs2 : Sk (fun b => (w18).heap.size ≤ b) u22 a2 n2 c2 [1] := hs2
  replace hB := hB.go hb23
  replace hT1 := hT1.go hb23
  replace hs9 := hs9.go hb23
  replace hs13 := hs13.go hb23
  replace hs21 := hs21.go hb23
  refine rp 17 (.tuple #[.slice a2 n2 c2, .bool true, .int .i64 0]) ?_
  refine rp 22 (.slice a2 n2 c2) ?_
  refine rp 23 (.bool true) ?_
  refine rp 24 (.int .i64 0) ?_
  refine rp 4 (.slice a2 n2 c2) ?_
  refine rp 5 (.bool true) ?_
  refine rp 6 (.int .i64 0) ?_
  refine rw_nil ?_
  refine nw_then ?_
  refine cw_seq ?_
  refine cw_region ?_
  refine rp 26 (.pointer (some ⟨g1, 0, none⟩)) ?_
  refine rw_newS 27 #[.int .u8 97] 5 1 (fun _ => by kernel_rfl) (fun _ => by kernel_rfl) ?_
  intro w24 ga25 hn26
  have hszhn26 := hB.size
  obtain ⟨w27, hr28, hb29, hs30⟩ := const_a (x := 97) (by omega) hn26 (K := K) (fun b hb => hK b (Nat.le_trans hszhn26 hb))
  refine rw_v 28 (.slice (some ⟨ga25, 0, none⟩) 1 1) (fun _ => by kernel_rfl) (fun _ => hr28 _ _ _ rfl (by kernel_rfl)) ?_
  replace hB := hB.go hb29
  replace hT1 := hT1.go hb29
  replace hs9 := hs9.go hb29
  replace hs13 := hs13.go hb29
  replace hs21 := hs21.go hb29
  replace hs2 := hs2.go hb29
  refine rw_call 29 12 #[.pointer (some ⟨g1, 0, none⟩), .slice (some ⟨ga25, 0, none⟩) 1 1] (fun _ => by kernel_rfl) (fun _ => by kernel_rfl) (R := fun u w' => u = .tuple #[.bool true, .int .i64 0] ∧ Tri K w' g1 no ∧ Touch g1 (w27) w') ((tdel_a hT1 hs30 (fun b hb => hK b (Nat.le_trans hB.size hb)))) ?_
  rintro _ u31 ⟨rfl, hTn, hto2⟩
  replace hB : Bl w u31 := hto2.below hB (by omega) hB.size
  replace hs9 := hs9.touch hto2 hT1
  replace hs13 := hs13.touch hto2 hT1
  replace hs21 := hs21.touch hto2 hT1
  replace hs2 := hs2.touch hto2 hT1
  replace hs30 := hs30.touch hto2 hT1
  replace hT1 := hTn
  refine rp 25 (.tuple #[.bool true, .int .i64 0]) ?_
  refine rp 30 (.bool true) ?_
  refine rp 31 (.int .i64 0) ?_
  refine rp 7 (.bool true) ?_
  refine rp 8 (.int .i64 0) ?_
  refine rw_nil ?_
  refine nw_then ?_
  refine cw_seq ?_
  have hS : Sk (fun _ => True) u31 a2 n2 c2 [1] := hs2.mono (fun _ _ => trivial)
  refine cw_draw (fun v => Sk (fun _ => True) v a2 n2 c2 [1]) (by kernel_rfl) (hS.drew) ?_
  replace hB := hB.drew
  replace hT1 := hT1.drew
  replace hs9 := hs9.drew
  replace hs13 := hs13.drew
  replace hs21 := hs21.drew
  replace hs2 := hs2.drew
  replace hs30 := hs30.drew
  replace hS := hS.drew
  refine dt 1 33 (.int .i64 0) (fun v hv _ => by kernel_rfl) hS ?_
  refine dt 2 34 (.bool true) (fun v hv _ => by kernel_rfl) hS ?_
  refine dw_ready [0] (by kernel_rfl) (by simp) ?_
  refine ar_call 0 32 15 #[] rfl (fun _ => by kernel_rfl) (fun _ => by kernel_rfl) (R := fun u w' => (∃ g, u = .pointer (some ⟨g, 0, none⟩) ∧ (u31.drew).heap.size ≤ g ∧ Tri K w' g no) ∧ Bl (u31.drew) w') (new_any (K := K)) (fun u w' h => hS.go h.2) ?_ ar_nil
  rintro _ u32 ⟨⟨g2, rfl, hg2, hT2⟩, hb33⟩
  have hsz2 := hB.size
  replace hB := hB.go hb33
  replace hT1 := hT1.go hb33
  replace hs9 := hs9.go hb33
  replace hs13 := hs13.go hb33
  replace hs21 := hs21.go hb33
  replace hs2 := hs2.go hb33
  replace hs30 := hs30.go hb33
  replace hS := hS.go hb33
  refine dt 3 35 (.bool true) (fun v hv _ => by kernel_rfl) hS ?_
  refine dt 4 36 (.bool true) (fun v hv _ => by kernel_rfl) hS ?_
  refine dt 5 37 (.bool true) (fun v hv _ => by kernel_rfl) hS ?_
  refine dt 6 38 (.bool true) (fun v hv _ => by kernel_rfl) hS ?_
  refine dt 7 39 (.int .i64 0) (fun v hv _ => by kernel_rfl) hS ?_
  refine dt 8 40 (.bool true) (fun v hv _ => by kernel_rfl) hS ?_
  refine dt 9 41 (.bool true) (fun v hv _ => by kernel_rfl) hS ?_
  refine dt 10 42 (.bool true) (fun v hv _ => by kernel_rfl) hS ?_
  refine dt 11 43 (.slice a2 n2 c2) (fun v hv _ => by kernel_rfl) hS ?_
  refine dt 12 44 (.string (strOfNums [1])) (fun v hv _ => hv.run_str _ _ _ rfl (by kernel_rfl)) hS ?_
  refine dt 13 45 (.bool true) (fun v hv _ => ol_eqs 9 _ _ _ (strOfNums [1]) ⟨#[1]⟩ rfl (by kernel_rfl) (by kernel_rfl) (by decide +kernel)) hS ?_
  refine dt 14 46 (.bool true) (fun v hv _ => by kernel_rfl) hS ?_
  refine dt 15 47 (.bool true) (fun v hv _ => by kernel_rfl) hS ?_
  refine dt 16 48 (.bool true) (fun v hv _ => by kernel_rfl) hS ?_
  refine dt 17 49 (.bool true) (fun v hv _ => by kernel_rfl) hS ?_
  refine dt 18 50 (.bool true) (fun v hv _ => by kernel_rfl) hS ?_
  refine dt 19 51 (.int .i64 0) (fun v hv _ => by kernel_rfl) hS ?_
  refine dt 20 52 (.bool true) (fun v hv _ => by kernel_rfl) hS ?_
  refine dt 21 53 (.bool true) (fun v hv _ => by kernel_rfl) hS ?_
  refine dt 22 54 (.bool true) (fun v hv _ => by kernel_rfl) hS ?_
  refine dt 23 55 (.pointer (some ⟨g1, 0, none⟩)) (fun v hv _ => by kernel_rfl) hS ?_
  refine dw_ready [24] (by kernel_rfl) (by simp) ?_
  refine ar_call 24 56 18 #[.pointer (some ⟨g1, 0, none⟩)] rfl (fun _ => by kernel_rfl) (fun _ => by kernel_rfl) (R := fun u w' => u = .agg (B8 ds) ∧ Bl (u32) w') ((by obtain ⟨⟨vT, hrT, htT⟩, _⟩ := hT1; rw [show vT = .nilIface from htT] at hrT; rw [← hds]; exact root_no hrT)) (fun u w' h => hS.go h.2) ?_ ar_nil
  rintro _ u34 ⟨rfl, hb35⟩
  replace hB := hB.go hb35
  replace hT1 := hT1.go hb35
  replace hs9 := hs9.go hb35
  replace hs13 := hs13.go hb35
  replace hs21 := hs21.go hb35
  replace hs2 := hs2.go hb35
  replace hs30 := hs30.go hb35
  replace hS := hS.go hb35
  replace hT2 := hT2.go hb35
  refine dw_ready [25] (by kernel_rfl) (by simp) ?_
  refine ar_call 25 57 25 #[] rfl (fun _ => by kernel_rfl) (fun _ => by kernel_rfl) (R := fun u w' => u = .agg (B8 ds) ∧ Bl (u34) w') (((remptyRoot_any (u34)).mono (fun e w' h => ⟨_, by rw [h.1, hds], rfl, h.2⟩))) (fun u w' h => hS.go h.2) ?_ ar_nil
  rintro _ u36 ⟨rfl, hb37⟩
  replace hB := hB.go hb37
  replace hT1 := hT1.go hb37
  replace hs9 := hs9.go hb37
  replace hs13 := hs13.go hb37
  replace hs21 := hs21.go hb37
  replace hs2 := hs2.go hb37
  replace hs30 := hs30.go hb37
  replace hS := hS.go hb37
  replace hT2 := hT2.go hb37
  refine dt 26 58 (.bool true) (fun v hv _ => ol_eqD rfl (by kernel_rfl) (by kernel_rfl) hdl) hS ?_
  refine dt 27 59 (.bool true) (fun v hv _ => by kernel_rfl) hS ?_
  refine dt 28 0 (.pointer (some ⟨g2, 0, none⟩)) (fun v hv _ => by kernel_rfl) hS ?_
  refine dt 29 1 (.bool true) (fun v hv _ => by kernel_rfl) hS ?_
  refine dw_done (by kernel_rfl) ?_
  refine nw_then ?_
  refine cw_ret ?_
  exact nw_ret_body (.tuple #[.pointer (some ⟨g2, 0, none⟩), .bool true]) (fun _ => by kernel_rfl) ⟨_, rfl, ⟨g2, rfl, Nat.le_trans hsz2 hg2, hT2⟩, hB⟩
end Go.Proofs.YtalhnnjpjaeakaaGreat
/- Calls on a trie, told as a list. -/
namespace Go.Proofs.YtalhnnjpjaeakaaGreat
open Go.RowKit
open Tr
set_option linter.unusedVariables false
set_option maxRecDepth 100000
/-- A call that is told: its kind, its key, its value, where they lie. -/
structure Opx where
  z : Int
  ka : Option Addr
  kn : Nat
  kc : Nat
  va : Option Addr
  vn : Nat
  vc : Nat
  k : List Int
  x : List Int
def Opx.cells (y : Opx) : Array Value := #[.int .i64 y.z, .slice y.ka y.kn y.kc, .slice y.va y.vn y.vc]
def An : Nat → Prop := fun _ => True
structure OAt (w : World) (a : Option Addr) (n : Nat) (xs : List Opx) : Prop where
  len : xs.length = n
  row : ∀ j y, xs[j]? = some y → ∃ g off, a = some ⟨g, off, none⟩ ∧ w.rangeAt g (off + j * 3) y.cells.toList
  k : ∀ y ∈ xs, Ag w y.ka y.kn y.kc y.k
  x : ∀ y ∈ xs, Ag w y.va y.vn y.vc y.x
theorem Ag.an {w : World} {a : Option Addr} {n c : Nat} {bs : List Int} (h : Ag w a n c bs) : Sk An w a n c bs := ⟨h, fun _ _ _ => trivial⟩
theorem rng_go {w w' : World} {g off : Nat} {cs : List Value} (h : w.rangeAt g off cs) (hb : Bl w w') : w'.rangeAt g off cs := fun j v hj => (hb.cell (p := ⟨g, off + j, none⟩) (block_lt_of_cell (h j v hj))).trans (h j v hj)
end Go.Proofs.YtalhnnjpjaeakaaGreat
/- What is old; what a block that is written over leaves alone. -/
namespace Go.Proofs.YtalhnnjpjaeakaaGreat
open Go.RowKit
open Tr
set_option linter.unusedVariables false
set_option maxRecDepth 100000
/-- All that a tree has is old. -/
theorem TA.old {K : Nat → Prop} {w : World} : ∀ {t : Tr} {v : Value}, TA K w t v → TA (fun b => b < w.heap.size) w t v := by
  have hs : ∀ {a : Option Addr} {n c : Nat} {bs : List Int}, Sk K w a n c bs → Sk (fun b => b < w.heap.size) w a n c bs := fun h => ⟨h.ag, fun x hx hn => h.old hx hn⟩
  intro t
  induction t with
  | no => intro v h; exact h
  | leaf p x => rintro v ⟨a, n, c, a', n', c', h1, h2, h3, h4⟩; exact ⟨a, n, c, a', n', c', h1, hs h2, hs h3, h4⟩
  | ext p t ih => rintro v ⟨a, n, c, u, h1, h2, h3⟩; exact ⟨a, n, c, u, h1, hs h2, ih h3⟩
  | br k x ih => rintro v ⟨vs, a, n, c, h1, h2, h3, h4⟩; exact ⟨vs, a, n, c, h1, fun i hi => ih i (h2 i hi), hs h3, h4⟩
theorem TA.mono {K K' : Nat → Prop} {w : World} (hK : ∀ b, K b → K' b) : ∀ {t : Tr} {v : Value}, TA K w t v → TA K' w t v := by
  intro t
  induction t with
  | no => intro v h; exact h
  | leaf p x => rintro v ⟨a, n, c, a', n', c', h1, h2, h3, h4⟩; exact ⟨a, n, c, a', n', c', h1, h2.mono hK, h3.mono hK, h4⟩
  | ext p t ih => rintro v ⟨a, n, c, u, h1, h2, h3⟩; exact ⟨a, n, c, u, h1, h2.mono hK, ih h3⟩
  | br k x ih => rintro v ⟨vs, a, n, c, h1, h2, h3, h4⟩; exact ⟨vs, a, n, c, h1, fun i hi => ih i (h2 i hi), h3.mono hK, h4⟩
theorem Sk.tou {K : Nat → Prop} {w w' : World} {g : Nat} {a : Option Addr} {n c : Nat} {bs : List Int} (h : Sk K w a n c bs) (t : Touch g w w') (hg : ¬ K g) : Sk K w' a n c bs := by
  refine ⟨⟨?_, h.ag.nil, h.ag.l, h.ag.b⟩, h.k⟩
  rcases h.ag.i with h1 | ⟨gb, off, h1, h2, h3, h4, h5, h7⟩
  · exact .inl h1
  · refine .inr ⟨gb, off, h1, h2, h3, h4, h5, fun j hj => ?_⟩
    rw [← h7 j hj]
    have hk := h.k _ h1 h3
    exact World.cell?_of_block (t.block gb (block_lt_of_cell (h7 j hj)) (fun e => hg (e ▸ hk)))
end Go.Proofs.YtalhnnjpjaeakaaGreat
