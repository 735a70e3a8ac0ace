/- What EmptyRoot and EmptyCode answer, the program's and the document's. -/
import Derived.Test.YtdkpilgelgjieaaGreatG17
import Derived.Test.YtdkpilgelgjieaaGreatG18
import Derived.Test.YtdkpilgelgjieaaGreatG06
import Derived.Lib.SlBytesConst
import Derived.Test.YtdkpilgelgjieaaGreatG01
import Derived.Maps.AppendAt
import Derived.Deep.DeepAppendWide
namespace Go.Proofs.YtdkpilgelgjieaaGreat
open Go.RowKit
open Di (dref)
set_option linter.unusedVariables false
set_option maxRecDepth 100000
theorem z8_size {ds : List Int} (h : ds.length = 32) : (B8 z32).size = (B8 ds).size := by rw [B8_size, B8_size, h]; rfl
theorem infoD' {ds : List Int} (h : ds.length = 32) : (Tryz.prog.info? 24).map (·.size) = some (B8 ds).size := by rw [infoD, B8_size, h]
theorem B8_one (bs : List Int) : (B8 bs).all (·.oneCell') = true := all_oneCell_toArray (B8_one2 bs)
theorem enc_t0 : encP t0 = ([128], 0) := by decide +kernel
set_option maxHeartbeats 2000000 in
theorem remptyRoot_any (w : World) : Calls Tryz.prog 24 #[] w fun e w' => e = .returned (.agg (B8 (dref [128]))) ∧ Below w.heap.size w w' := by
  have HOF := Hid.mk (fun (v : World) => rdof_any (some ⟨v.heap.size, 0, none⟩) 1 1 [128] (v.alloc (.cells #[.int .u8 128] 5)) (Ni.row_ag (show Ni.Row v.heap.size (v.alloc (.cells #[.int .u8 128] 5)) [128] from heap_alloc_new _ _) rfl (fun x hx => by simp at hx; omega) (show (1 : Nat) ≤ 9223372036854775807 by decide)) (by omega))
  have HDL := Hid.mk (dref_len [128])
  obtain ⟨ds, hds⟩ : ∃ ds, dref [128] = ds := ⟨_, rfl⟩
  rw [hds] at HOF HDL ⊢
  clear hds
  go_enter Tryz.func24, Tryz.ntmps24
  go_upto_region 1 with fail
  refine gen_w (p := fun v => Code.wp _ _ _ _ v) (q := fun v => v.heap[w.heap.size]? = some (.cells (B8 z32) 24) ∧ Below w.heap.size w v) ⟨heap_alloc_new _ _, below_new _ _⟩ ?_
  rintro v ⟨hrow, hb⟩
  have HROW := Hid.mk hrow
  have HB := Hid.mk hb
  clear hrow hb
  go_wp2_with fail
  refine (HOF.out v).mono ?_
  rintro e w1 ⟨rfl, hb1⟩
  have HR1 := Hid.mk (Below.row (below_go (below_new v _) hb1) HROW.out)
  have HB1 := Hid.mk (below_go HB.out (below_go (below_new v _) hb1))
  clear hb1
  go_wp2_with (first | refine wpList_store_row rfl 24 _ _ rfl _ (B8 ds) rfl rfl 24 _ HR1.out (infoD' HDL.out) (z8_size HDL.out) (B8_one _) ?_)
  refine bodyPost_ret (results_cell_row Tryz.results24 _ _ w.heap.size 24 (B8 ds) (0, 0) _ rfl (setRow_heap _ _ _ _ _ _ HR1.out) Tryz.underlying24 rfl (infoD' HDL.out)) rfl ?_
  exact ⟨rfl, Below.setRow HB1.out (Nat.le_refl _) _⟩
set_option maxHeartbeats 2000000 in
theorem emptyRoot_any (w : World) : Calls Tryz.prog 32 #[] w fun e w' => e = .returned (.agg (B8 (dref [128]))) ∧ Below w.heap.size w w' := by
  have HDL := Hid.mk (dref_len [128])
  have HOF := Hid.mk (fun (v : World) (a : Option Addr) (c : Nat) (h : Ag v a 1 c [128]) => dof_any a 1 c [128] v h (by omega))
  obtain ⟨ds, hds⟩ : ∃ ds, dref [128] = ds := ⟨_, rfl⟩
  rw [hds] at HOF HDL ⊢
  clear hds
  have HTX := Hid.mk (fun v => text_any none 0 0 [] v ⟨.inl ⟨rfl, rfl⟩, fun _ => ⟨rfl, rfl⟩, rfl, fun x hx => by cases hx⟩ (by omega))
  go_enter Tryz.func32, Tryz.ntmps32
  go_upto_region 1 with fail
  refine gen_w (p := fun v => Code.wp _ _ _ _ v) (q := fun v => v.heap[w.heap.size]? = some (.cells (B8 z32) 24) ∧ Below w.heap.size w v) ⟨heap_alloc_new _ _, below_new _ _⟩ ?_
  rintro v ⟨hrow, hb⟩
  have HROW := Hid.mk hrow
  have HB := Hid.mk hb
  clear hrow hb
  go_wp2_with fail
  refine (HTX.out v).mono ?_
  rintro e w1 ⟨rfl, hr1, hb1⟩
  have hlies := liesP_lies _ _ (liesP_txt (P := fun _ => True) (n := 0) hr1 rfl (fun x hx => by cases hx) (by omega) trivial)
  have hen := encode_own (.mk false [] []) ⟨false, some ⟨v.heap.size + 1, 0, none⟩, 0, 0, none, 0, 0⟩ w1 hlies
  rw [show encP (.mk false [] []) = ([128], 0) from enc_t0] at hen
  have HEN := Hid.mk hen
  have HB1 := Hid.mk (below_go HB.out hb1)
  have HR1 := Hid.mk (Below.row hb1 HROW.out)
  clear hr1 hb1 hlies hen HROW HB
  go_wp2_with fail
  refine HEN.out.mono ?_
  rintro e w2 ⟨⟨a, m, c, rfl, hag, -⟩, hb2⟩
  have hm : m = 1 := hag.l.symm
  subst hm
  have HO2 := Hid.mk (HOF.out w2 a c hag)
  have HB2 := Hid.mk (below_go HB1.out hb2)
  have HR2 := Hid.mk (Below.row hb2 HR1.out)
  clear hag hb2
  go_wp2_with fail
  refine HO2.out.mono ?_
  rintro e w3 ⟨rfl, hb3⟩
  have HR3 := Hid.mk (Below.row hb3 HR2.out)
  have HB3 := Hid.mk (below_go HB2.out hb3)
  clear hb3
  go_wp2_with (first | refine wpList_store_row rfl 24 _ _ rfl _ (B8 ds) rfl rfl 24 _ HR3.out (infoD' HDL.out) (z8_size HDL.out) (B8_one _) ?_)
  refine bodyPost_ret (results_cell_row Tryz.results32 _ _ w.heap.size 24 (B8 ds) (0, 0) _ rfl (setRow_heap _ _ _ _ _ _ HR3.out) Tryz.underlying24 rfl (infoD' HDL.out)) rfl ?_
  exact ⟨rfl, Below.setRow HB3.out (Nat.le_refl _) _⟩
end Go.Proofs.YtdkpilgelgjieaaGreat
/- An empty trie's root; what is done ahead of the statements. -/
namespace Go.Proofs.YtdkpilgelgjieaaGreat
open Go.RowKit
open Tr
open Di (dref)
set_option linter.unusedVariables false
set_option maxRecDepth 100000
theorem results_d {fn : Func} {p : Tmp} {f : Nat → Value} (h : fn.results = #[.cell p 24]) (w : World) (g : Nat) (ds : List Int) (hl : ds.length = 32) (hp : f p = .pointer (some ⟨g, 0, none⟩)) (hg : Rw g w (B8 ds) 24) : (resF f fn.results).run Tryz.prog w = .ok (.agg (B8 ds)) w := by
  have := run_loadVar_row (P := Tryz.prog) w g 24 24 _ _ _ hg Tryz.underlying24 rfl (infoD' hl)
  unfold resF
  rw [h]
  simp [hp, this, asAddr]
theorem ol_eqD {ρ : Operand → Value} {w : World} {x y : Operand} {o : Oper} {ds : List Int} (ho : o.op = .binOp .eql 24 x y 24) (hx : ρ x = .agg (B8 ds)) (hy : ρ y = .agg (B8 ds)) (hl : ds.length = 32) : (execOp ρ o).run Tryz.prog w = .ok (.value (.bool true)) w := by
  have e := eqD ds ds hl hl w
  simp at e
  unfold execOp
  rw [ho]
  simp only [hx, hy]
  go_simp
/-- '[]byte("a")' -/
theorem const_a {w1 w2 : World} {g : Nat} {x : Int} (hx : 0 ≤ x ∧ x < 256) (hn : New w1 w2 g #[.int .u8 x] 5) {K : Nat → Prop} (hK : ∀ b, w1.heap.size ≤ b → K b) : ∃ w3, (∀ (ρ : Operand → Value) (o : Oper) (y : Operand), o.op = .convert 32 32 y → ρ y = .slice (some ⟨g, 0, none⟩) 1 1 → (execOp ρ o).run Tryz.prog w2 = .ok (.value (.slice (some ⟨g, 0, none⟩) 1 1)) w3) ∧ Below w1.heap.size w1 w3 ∧ Sk K w3 (some ⟨g, 0, none⟩) 1 1 [x] := by
  obtain ⟨rfl, rfl⟩ := hn
  refine ⟨w1.alloc (.cells #[.int .u8 x] 5 (1, 2)), ?_, (Below.refl _ _).alloc (Nat.le_refl _) _, ?_⟩
  · intro ρ o y ho hy
    have := Lib.run_convert_bytes_const (P := Tryz.prog) w1 32 5 #[.int .u8 x] 1 1 Tryz.underlying32 Tryz.underlying5
    unfold execOp
    simp only [ho, hy, Sem.run_bind, this, Result.andThen_ok, Sem.run_pure]
    rfl
  · refine ⟨⟨.inr ⟨w1.heap.size, 0, rfl, rfl, by omega, by omega, by unfold maxLen; omega, fun j hj => ?_⟩, (fun e => by cases e), rfl, fun y hy => by rw [List.mem_singleton.1 hy]; exact hx⟩, fun y hy _ => ?_⟩
    · have : j = 0 := by simpa using hj
      subst this
      rw [cell_of_row _ _ _ _ _ _ (heap_alloc_new w1 _)]; rfl
    · cases hy
      exact hK _ (Nat.le_refl _)
theorem Tri.lt {K : Nat → Prop} {w : World} {g : Nat} {t : Tr} (h : Tri K w g t) : g < w.heap.size := by
  obtain ⟨⟨v, h1, _⟩, _⟩ := h
  exact lt_of_get h1
/-- What a Put does to the tree, what it answers. -/
def putT (t : Tr) (k x : List Int) : Tr := if k.length ≤ 32 ∧ 0 < x.length ∧ x.length ≤ 256 then put t (Ni.nib k) x else t
def putE (k x : List Int) : Int := if k.length ≤ 32 then (if 0 < x.length ∧ x.length ≤ 256 then 0 else 71) else 70
def delT (t : Tr) (k : List Int) : Tr := if k.length ≤ 32 ∧ Tr.get t (Ni.nib k) ≠ [] then del t (Ni.nib k) else t
theorem tput_any {K K0 : Nat → Prop} {w : World} {g : Nat} {t : Tr} {a : Option Addr} {n c : Nat} {k : List Int} (h : Tri K w g t) {K1 : Nat → Prop} (hk : Sk K1 w a n c k) {ax : Option Addr} {nx cx : Nat} {x : List Int} (hx : Sk K0 w ax nx cx x) (hK : ∀ b, w.heap.size ≤ b → K b) :
    Calls Tryz.prog 18 #[.pointer (some ⟨g, 0, none⟩), .slice a n c, .slice ax nx cx] w fun e w' => ∃ u, e = .returned u ∧ u = .int .i64 (putE k x) ∧ Tri K w' g (putT t k x) ∧ Touch g w w' := by
  have lk := hk.len
  have lx := hx.len
  unfold putE putT
  rw [lk, lx]
  by_cases hn : n ≤ 32
  · by_cases h0 : 0 < nx
    · by_cases h2 : nx ≤ 256
      · rw [if_pos hn, if_pos ⟨h0, h2⟩, if_pos ⟨hn, h0, h2⟩]
        obtain ⟨⟨v, h1, h2'⟩, h3⟩ := h
        exact tput_ok h1 h2' h3 hk hn hx h2 h0 hK
      · rw [if_pos hn, if_neg (fun q => h2 q.2), if_neg (fun q => h2 q.2.2)]
        exact (tput_vf hk hx hn (by omega)).mono (fun e w' ⟨u, e1, e2, e3⟩ => ⟨u, e1, e2, h.go e3, Touch.of_below e3⟩)
    · rw [if_pos hn, if_neg (fun q => h0 q.1), if_neg (fun q => h0 q.2.1)]
      exact (tput_v0 hk hx hn (by omega)).mono (fun e w' ⟨u, e1, e2, e3⟩ => ⟨u, e1, e2, h.go e3, Touch.of_below e3⟩)
  · rw [if_neg hn, if_neg (fun q => hn q.1)]
    exact (tput_k hk hx (by omega)).mono (fun e w' ⟨u, e1, e2, e3⟩ => ⟨u, e1, e2, h.go e3, Touch.of_below e3⟩)
set_option maxHeartbeats 2000000 in
theorem root_no {w : World} {g : Nat} (hr : Rw g w #[.nilIface] 72) :
    Calls Tryz.prog 19 #[.pointer (some ⟨g, 0, none⟩)] w fun e w' => ∃ u, e = .returned u ∧ (fun u w' => u = .agg (B8 (dref [128])) ∧ Bl w w') u w' := by
  have hB := Bl.refl w
  have hdl := dref_len [128]
  obtain ⟨ds, hds⟩ : ∃ ds, dref [128] = ds := ⟨_, rfl⟩
  rw [hds] at hdl ⊢
  refine cw_enter Tryz.func19 rfl 16 rfl ?_
  show CW _ _ _ _ _ _ _ [(0, .pointer (some ⟨g, 0, none⟩))] _
  refine cw_seq ?_
  refine cw_region ?_
  refine rw_new 2 (B8 z32) 24 (fun _ => by kernel_rfl) (fun _ => by kernel_rfl) ?_
  intro w1 g2 hn3
  replace hB := hB.go hn3.below
  replace hr := hr.go hn3.below
  have hr4 : Rw g2 w1 (B8 z32) 24 := hn3.row
  have hgd := hn3.hg
  refine rw_nil ?_
  refine nw_then ?_
  refine cw_seq ?_
  refine cw_seq ?_
  refine cw_region ?_
  refine rp 3 (.pointer (some ⟨g, 0, none⟩)) ?_
  refine rp 4 (.pointer (some ⟨g, 0, none⟩)) ?_
  refine rp 5 (.pointer (some ⟨g, 0, none⟩)) ?_
  refine rv 6 (.nilIface) (fun _ => ol_cell 70 _ ⟨g, 0, none⟩ _ _ rfl (by kernel_rfl) (by rw [cell_of_row _ _ _ _ _ _ hr]; rfl) Tryz.underlying70 rfl) ?_
  refine rp 7 (.bool true) ?_
  refine rw_nil ?_
  refine nw_then ?_
  refine cw_cond_t (fun _ => by kernel_rfl) ?_
  refine cw_seq ?_
  refine cw_region ?_
  refine rw_call 8 32 #[] (fun _ => by kernel_rfl) (fun _ => by kernel_rfl) (R := fun u w' => u = .agg (B8 ds) ∧ Bl (w1) w') ((emptyRoot_any (w1)).mono (fun e w' h => ⟨_, by rw [h.1, hds], rfl, h.2⟩)) ?_
  rintro _ u5 ⟨rfl, hb6⟩
  replace hB := hB.go hb6
  replace hr := hr.go hb6
  replace hr4 := hr4.go hb6
  refine rw_put g2 (B8 ds) (fun _ => by kernel_rfl) (fun _ => ol_store 24 _ _ _ _ _ _ rfl (by kernel_rfl) (by kernel_rfl) hr4 (infoD' hdl) (z8_size hdl) (B8_one _)) ?_
  intro uE hpE
  replace hB : Bl w uE := hpE.below hB (by omega) hB.size
  have hrE : Rw g2 uE (B8 ds) 24 := hpE.row hr4
  refine rw_nil ?_
  refine nw_then ?_
  refine cw_ret ?_
  refine nw_ret_then ?_
  exact nw_ret_body (.agg (B8 ds)) (fun _ => results_d Tryz.results19 _ g2 ds hdl (by kernel_rfl) hrE) ⟨_, rfl, rfl, hB⟩
end Go.Proofs.YtdkpilgelgjieaaGreat
/- What is old; what a block that is written over leaves alone. -/
namespace Go.Proofs.YtdkpilgelgjieaaGreat
open Go.RowKit
open Tr
set_option linter.unusedVariables false
set_option maxRecDepth 100000
/-- All that a tree has is old. -/
theorem TA.old {K : Nat → Prop} {w : World} : ∀ {t : Tr} {v : Value}, TA K w t v → TA (fun b => b < w.heap.size) w t v := by
  have hs : ∀ {a : Option Addr} {n c : Nat} {bs : List Int}, Sk K w a n c bs → Sk (fun b => b < w.heap.size) w a n c bs := fun h => ⟨h.ag, fun x hx hn => h.old hx hn⟩
  intro t
  induction t with
  | no => intro v h; exact h
  | leaf p x => rintro v ⟨a, n, c, a', n', c', h1, h2, h3, h4⟩; exact ⟨a, n, c, a', n', c', h1, hs h2, hs h3, h4⟩
  | ext p t ih => rintro v ⟨a, n, c, u, h1, h2, h3⟩; exact ⟨a, n, c, u, h1, hs h2, ih h3⟩
  | br k x ih => rintro v ⟨vs, a, n, c, h1, h2, h3, h4⟩; exact ⟨vs, a, n, c, h1, fun i hi => ih i (h2 i hi), hs h3, h4⟩
theorem TA.mono {K K' : Nat → Prop} {w : World} (hK : ∀ b, K b → K' b) : ∀ {t : Tr} {v : Value}, TA K w t v → TA K' w t v := by
  intro t
  induction t with
  | no => intro v h; exact h
  | leaf p x => rintro v ⟨a, n, c, a', n', c', h1, h2, h3, h4⟩; exact ⟨a, n, c, a', n', c', h1, h2.mono hK, h3.mono hK, h4⟩
  | ext p t ih => rintro v ⟨a, n, c, u, h1, h2, h3⟩; exact ⟨a, n, c, u, h1, h2.mono hK, ih h3⟩
  | br k x ih => rintro v ⟨vs, a, n, c, h1, h2, h3, h4⟩; exact ⟨vs, a, n, c, h1, fun i hi => ih i (h2 i hi), h3.mono hK, h4⟩
end Go.Proofs.YtdkpilgelgjieaaGreat
/- An append onto a row of one's own, up to the greatest that the machine grants: where its result lies. -/
namespace Go.Proofs.YtdkpilgelgjieaaGreat
open Go.RowKit
set_option linter.unusedVariables false
theorem app_at_wide {P : Program} (w : World) (base : Nat) (t ty e : TypeId) (i : TypeInfo) (z : Value) (size bytes : Nat) (ht : P.underlying t = some (.slice e)) (hi : P.info? e = some i) (hz : i.zero = some z)
    (hsize : i.size = size) (hby : i.bytes = bytes) (hzs : z.cells.size = size) (hsz : 0 < size)
    (v : Value) (n : Nat) (xs : List Value) (hown : w.ownsRow base e size v n xs)
    (a : Addr) (m c : Nat) (news : List Value) (hl : news.length = m * size) (hnews : ∀ j u, news[j]? = some u → w.cell? (a.add j) = some u) (h1 : ∀ u ∈ news, u.oneCell' = true) (hm0 : 0 < m)
    (h63 : n + m ≤ maxLen) (hbytes : ((n + m) + (n + m) / 4 + 192) * bytes ≤ 281474976710656) (hbase : base ≤ w.heap.size) :
    ∃ v' w', (Builtin.append_ #[t, t] ty #[v, .slice (some a) m c]).run P w = .ok v' w' ∧ w'.ownsRow base e size v' (n + m) (xs ++ news) ∧ w.grownBy w' v.ownBlock ∧
      (v' = .slice none 0 0 ↔ v = .slice none 0 0 ∧ m = 0) ∧ (v'.ownBlock = v.ownBlock ∨ v'.ownBlock = some w.heap.size) := by
  obtain ⟨v', w', r1, r2, r3, r4⟩ := run_append_own_wide w base t ty e i z size bytes ht hi hz hsize hby hzs hsz v n xs hown a m c news hl hnews h1 h63 hbytes hbase
  refine ⟨v', w', r1, r2, r3, r4, ?_⟩
  subst hsize
  subst hby
  have hsmall : n + m ≤ 9223372036854775807 := by simp only [maxLen] at h63; omega
  rcases hown.2 with ⟨rfl, rfl⟩ | ⟨g, cap, cur, rfl, hbg, hg, hnc, hcm, hcs, htake⟩
  · have hr := run_append_nil (P := P) w t ty e i z ht hi hz a m c news hl hnews hm0 (by omega) (by
      have h2 : m * i.bytes ≤ (0 + m + (0 + m) / 4 + 192) * i.bytes := Nat.mul_le_mul_right _ (by omega)
      omega)
    rw [hr] at r1
    cases r1
    exact .inr rfl
  · by_cases hroom : n + m ≤ cap
    · have hfit : n * i.size + news.length ≤ cur.size := by rw [hl, hcs, ← Nat.add_mul]; exact Nat.mul_le_mul_right _ hroom
      have hr := run_append_room (P := P) w t ty e i ht hi g n cap cur hg a m c news hl hnews h1 hroom hfit
      rw [hr] at r1
      cases r1
      exact .inl rfl
    · have holds : ∀ j u, xs[j]? = some u → w.cell? ((⟨g, 0, none⟩ : Addr).add j) = some u := hown.cells (g := g) rfl
      have hr := run_append_grow (P := P) w t ty e i z ht hi hz ⟨g, 0, none⟩ n cap xs hown.1 holds a m c news hl hnews (by omega) (by omega) (growslice_fits_wide (by omega) hbytes)
      rw [hr] at r1
      cases r1
      exact .inr rfl
end Go.Proofs.YtdkpilgelgjieaaGreat
