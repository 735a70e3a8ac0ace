/- The statements' own spoilt: it writes over a node's lists, and over nothing else. -/
import Derived.Test.YtamibjgahcpkcaaG35
import Derived.Laws.IdiomCopy
import Derived.Test.YtamibjgahcpkcaaG20
import Derived.Test.YtamibjgahcpkcaaG13
import Derived.Test.YtamibjgahcpkcaaG18
namespace Go.Proofs.Ytamibjgahcpkcaa
open Go.RowKit
set_option linter.unusedVariables false
set_option maxRecDepth 100000
theorem setCells_other (b k : Nat) (hk : k ≠ b) : ∀ (vs : List Value) (o : Nat) (w : World), (w.setCells b o vs).heap[k]? = w.heap[k]?
  | [], _, _ => rfl
  | v :: r, o, w => (setCells_other b k hk r (o + 1) _).trans (heap_setCell_other _ _ _ _ hk)
theorem setCells_same (b : Nat) : ∀ (vs : List Value) (o : Nat) (w : World), (w.setCells b o vs).os = w.os ∧ (w.setCells b o vs).tape = w.tape ∧ (w.setCells b o vs).output = w.output ∧ (w.setCells b o vs).heap.size = w.heap.size
  | [], _, _ => ⟨rfl, rfl, rfl, rfl⟩
  | v :: r, o, w => by
    obtain ⟨h1, h2, h3, h4⟩ := setCells_same b r (o + 1) (w.setCell ⟨b, o, none⟩ v)
    exact ⟨h1, h2, h3, h4.trans (by simp)⟩
theorem setCells_some (b : Nat) {q : Addr} {u : Value} : ∀ (vs : List Value) (o : Nat) (w : World), w.cell? q = some u → ∃ u', (w.setCells b o vs).cell? q = some u'
  | [], _, _, h => ⟨u, h⟩
  | v :: r, o, w, h => by
    obtain ⟨u', h'⟩ := cell?_setCell_some (p := ⟨b, o, none⟩) (x := v) h
    exact setCells_some b r (o + 1) _ h'
/-- What writing over what lies from a place up to another leaves. -/
structure Sp (lo hi : Nat) (w u : World) : Prop where
  os : u.os = w.os
  tape : u.tape = w.tape
  output : u.output = w.output
  size : u.heap.size = w.heap.size
  out : ∀ k, ¬ (lo ≤ k ∧ k < hi) → u.heap[k]? = w.heap[k]?
  ex : ∀ g o v, w.cell? ⟨g, o, none⟩ = some v → ∃ v', u.cell? ⟨g, o, none⟩ = some v'
  fz : ∀ g o, u.frozen? ⟨g, o, none⟩ = w.frozen? ⟨g, o, none⟩
theorem Sp.refl (lo hi : Nat) (w : World) : Sp lo hi w w := ⟨rfl, rfl, rfl, rfl, fun _ _ => rfl, fun _ _ v h => ⟨v, h⟩, fun _ _ => rfl⟩
theorem Sp.put {lo hi : Nat} {w u : World} (h : Sp lo hi w u) {g o : Nat} (h1 : lo ≤ g) (h2 : g < hi) (x : Value) : Sp lo hi w (u.setCell ⟨g, o, none⟩ x) :=
  ⟨h.os, h.tape, h.output, by simpa using h.size, fun k hk => (heap_setCell_other _ _ _ _ (by show k ≠ g; intro e; subst e; exact hk ⟨h1, h2⟩)).trans (h.out k hk), fun g' o' v hv => by
    obtain ⟨v', hv'⟩ := h.ex g' o' v hv
    exact cell?_setCell_some hv', fun g' o' => by rw [World.frozen?_setCell]; exact h.fz g' o'⟩
theorem Sp.puts {lo hi : Nat} {w u : World} (h : Sp lo hi w u) {g o : Nat} (h1 : lo ≤ g) (h2 : g < hi) (vs : List Value) : Sp lo hi w (u.setCells g o vs) := by
  obtain ⟨e1, e2, e3, e4⟩ := setCells_same g vs o u
  exact ⟨e1.trans h.os, e2.trans h.tape, e3.trans h.output, e4.trans h.size, fun k hk => (setCells_other g k (by intro e; subst e; exact hk ⟨h1, h2⟩) vs o u).trans (h.out k hk), fun g' o' v hv => by
    obtain ⟨v', hv'⟩ := h.ex g' o' v hv
    exact setCells_some g vs o u hv', fun g' o' => by rw [World.frozen?_setCells]; exact h.fz g' o'⟩
/-- The headers of the kids' lists, from one kid on, stand. -/
def Ks (w u : World) (ka : Option Addr) (i : Nat) : Prop := ∀ g off j a n c, ka = some ⟨g, off, none⟩ → i ≤ j → w.cell? ⟨g, off + j * 34 + 33, none⟩ = some (.slice a n c) → u.cell? ⟨g, off + j * 34 + 33, none⟩ = some (.slice a n c)
theorem Ks.refl (w : World) (ka : Option Addr) : Ks w w ka 0 := fun _ _ _ _ _ _ _ _ h => h
theorem Ks.put {w u : World} {ka : Option Addr} {i g o : Nat} (h : Ks w u ka i) {z : Int} (hz : w.cell? ⟨g, o, none⟩ = some (.int .u8 z)) (x : Value) : Ks w (u.setCell ⟨g, o, none⟩ x) ka i := fun g' off j a n c e hj hc => by
  rw [World.cell?_setCell_other _ _ _ _ (fun e2 => by rw [← e2, hz] at hc; cases hc)]
  exact h g' off j a n c e hj hc
theorem Ks.puts {w u : World} {g off i : Nat} (h : Ks w u (some ⟨g, off, none⟩) i) (vs : List Value) (hl : vs.length = 34) : Ks w (u.setCells g (off + i * 34) vs) (some ⟨g, off, none⟩) (i + 1) := fun g' off' j a n c e hj hc => by
  cases e
  rw [World.cell?_setCells_out g vs (off + i * 34) u _ (fun _ _ => by right; show off + i * 34 + vs.length ≤ off + j * 34 + 33; rw [hl]; have : (i + 1) * 34 ≤ j * 34 := Nat.mul_le_mul_right _ hj; omega)]
  exact h g off j a n c rfl (by omega) hc
/-- Bytes that lie from a place up to another and may be written. -/
theorem own_write {lo hi : Nat} {w : World} {a : Option Addr} {n c : Nat} {bs : List Int} (h : AgK (fun g => Own lo w g ∧ g < hi) w a n c bs) {j : Nat} (hj : j < n) : ∃ g off, a = some ⟨g, off, none⟩ ∧ lo ≤ g ∧ g < hi ∧ n ≤ c ∧ c ≤ maxLen ∧ (∀ o, w.frozen? ⟨g, o, none⟩ = false) ∧ ∃ z, w.cell? ⟨g, off + j, none⟩ = some (.int .u8 z) := by
  obtain ⟨g, off, e, h1, h2, hc⟩ := ag_head h.1 (by omega)
  have hk := h.2.2 g off e (by omega)
  exact ⟨g, off, e, hk.1.1, hk.2, h1, h2, hk.1.2, _, hc j hj⟩
section
variable {a : Act} {w : World}
theorem rd_storeC {x y : Operand} {o : Oper} (ho : o.op = .store 26 x y) (g off : Nat) (r : RV) (hl : r.d.length = 32) (hx : a.eval x = .pointer (some ⟨g, off, none⟩)) (hy : a.eval y = .agg r.cells.toArray)
    (hc : ∀ j, j < 34 → (w.cell? ⟨g, off + j, none⟩).isSome = true) (hf : ∀ o, w.frozen? ⟨g, o, none⟩ = false) :
    (execOp a.eval o).run Try.prog w = .ok .skip (w.setCells g off r.cells) := by
  have hst := run_storeCells_cells (P := Try.prog) g off r.cells 0 w (fun j hj => by rw [Nat.add_zero]; exact hc j (by rw [RV.len hl] at hj; exact hj)) (fun j _ => hf _) r.one
  have hi := infoR
  cases hq : Try.prog.info? 26 with
  | none => rw [hq] at hi; simp at hi
  | some i =>
    have hs : i.size = 34 := by rw [hq] at hi; simpa using hi
    have hsv : (storeVar 26 ⟨g, off, none⟩ (.agg r.cells.toArray)).run Try.prog w = .ok () (w.setCells g off r.cells) := by
      simp [storeVar, sizeOf, typeInfo, hq, Value.cells, hs, RV.len hl]
      simpa using hst
    unfold execOp
    rw [ho]
    simp only [hx, hy, Instr.storeAt, Instr.sureAddr, Sem.run_bind, Sem.run_pure, Result.andThen_ok, hsv]
end
theorem built_R9 : Try.prog.built 26 [(0, .int .i64 9)] = some (RV.cells ⟨9, z32, none, 0, 0⟩).toArray := by kernel_rfl
theorem bx_at {lo hi k : Nat} {W u : World} {x : NV} (h : NBx k W x) (hk : hi ≤ k) (hs : Sp lo hi W u) : NBx k u x := ⟨(hs.out k (by omega)).trans h.row, h.l⟩
set_option maxHeartbeats 16000000 in
theorem spoilt_any (lo hi : Nat) (x : NV) (n : PN) (w : World) (h : NodeAt (fun g => Own lo w g ∧ g < hi) w x n) (hhi : hi ≤ w.heap.size) :
    Calls Try.prog 18 #[.agg x.cells.toArray] w fun e w' => e = .returned (.tuple #[]) ∧ ∃ W, Below w.heap.size w W ∧ Sp lo hi W w' := by
  have HH := Hid.mk h
  have hBX := nbx_new w x h.c.len
  obtain ⟨xm1, xm2, xm3, xm4, xm5⟩ := h.m
  unfold maxLen at xm3
  have hpn := h.p.2.1
  have hvn := h.v.2.1
  have hcn := h.c.2.2.2.2.2.1
  have HXM := Hid.mk (show x.kn = n.ks.length ∧ True from ⟨xm1, trivial⟩)
  have HBW := Hid.mk (below_new w (.cells x.cells.toArray 29))
  clear h xm1 xm5
  go_enter Try.func18, Try.ntmps18
  go_upto_region 1 with fail
  refine gen_w (p := fun v => Code.wp _ _ _ _ v) (q := fun v => NBx w.heap.size v x ∧ Below w.heap.size w v) ⟨hBX, HBW.out⟩ ?_
  clear hBX HBW
  rintro W ⟨hBX, hbW⟩
  have HBX := Hid.mk hBX
  have HEND := Hid.mk hbW
  have HCE := Hid.mk (show ∀ g o v, w.cell? ⟨g, o, none⟩ = some v → W.cell? ⟨g, o, none⟩ = some v from fun g o v hv => below_cell hbW hv)
  have HFZ := Hid.mk (show ∀ g o, g < w.heap.size → W.frozen? ⟨g, o, none⟩ = w.frozen? ⟨g, o, none⟩ from fun g o hg => World.frozen?_of_block (w := w) (hbW.block g hg))
  have HS := Hid.mk (Sp.refl lo hi W)
  have HK := Hid.mk (Ks.refl W x.ka)
  clear hbW
  have c1 := hBX.c1
  clear hBX
  go_wp2_with fail
  clear c1
  go_loopw [10] (fun s u => ∃ j : Nat, j ≤ x.pn ∧ s = .int .i64 j ∧ Sp lo hi W u ∧ Ks W u x.ka 0) (fun s _ => x.pn - (intOf s).toNat)
  case atStart => exact ⟨0, by omega, rfl, HS.out, HK.out⟩
  case round =>
    obtain ⟨j, hj, rfl, hs, hk⟩ := hrel
    have HS' := Hid.mk hs
    have HK' := Hid.mk hk
    have c1 := (bx_at HBX.out hhi hs).c1
    clear hs hk HS HK
    by_cases hlt : j < x.pn
    · have hji : (j : Int) < x.pn := by omega
      obtain ⟨g, off, ha, g1, g2, g3, g4, hfz, z, hz⟩ := own_write HH.out.p hlt
      unfold maxLen at g4
      rw [ha] at c1
      obtain ⟨ov, hov⟩ := HS'.out.ex g (off + j) _ (HCE.out _ _ _ hz)
      have hf : ∀ o, wr.frozen? ⟨g, o, none⟩ = false := fun o => (HS'.out.fz g o).trans ((HFZ.out g o (Nat.lt_of_lt_of_le g2 hhi)).trans (hfz o))
      have HPS := Hid.mk (HS'.out.put (o := off + j) g1 g2 (.int .u8 99))
      have HPK := Hid.mk (HK'.out.put (HCE.out _ _ _ hz) (.int .u8 99))
      clear hz hfz g1 g2
      go_wp2_with fail
      exact ⟨⟨j + 1, by omega, by simp, HPS.out, HPK.out⟩, by simp [intOf]; omega⟩
    · have hji : ¬ (j : Int) < x.pn := by omega
      have HS := HS'
      have HK := HK'
      clear HS' HK' c1
      generalize wr = u0 at HS HK ⊢
      have hBX := bx_at HBX.out hhi HS.out
      have c2 := hBX.c2
      clear hBX
      go_wp2_with fail
      clear c2
      go_loopw [21] (fun s u => ∃ j : Nat, j ≤ x.vn ∧ s = .int .i64 j ∧ Sp lo hi W u ∧ Ks W u x.ka 0) (fun s _ => x.vn - (intOf s).toNat)
      case atStart => exact ⟨0, by omega, rfl, HS.out, HK.out⟩
      case round =>
        obtain ⟨j, hj, rfl, hs, hk⟩ := hrel
        have HS' := Hid.mk hs
        have HK' := Hid.mk hk
        have c2 := (bx_at HBX.out hhi hs).c2
        clear hs hk HS HK
        by_cases hlt : j < x.vn
        · have hji : (j : Int) < x.vn := by omega
          obtain ⟨g, off, ha, g1, g2, g3, g4, hfz, z, hz⟩ := own_write HH.out.v hlt
          unfold maxLen at g4
          rw [ha] at c2
          obtain ⟨ov, hov⟩ := HS'.out.ex g (off + j) _ (HCE.out _ _ _ hz)
          have hf : ∀ o, wr.frozen? ⟨g, o, none⟩ = false := fun o => (HS'.out.fz g o).trans ((HFZ.out g o (Nat.lt_of_lt_of_le g2 hhi)).trans (hfz o))
          have HPS := Hid.mk (HS'.out.put (o := off + j) g1 g2 (.int .u8 99))
          have HPK := Hid.mk (HK'.out.put (HCE.out _ _ _ hz) (.int .u8 99))
          clear hz hfz g1 g2
          go_wp2_with fail
          exact ⟨⟨j + 1, by omega, by simp, HPS.out, HPK.out⟩, by simp [intOf]; omega⟩
        · have hji : ¬ (j : Int) < x.vn := by omega
          have HS := HS'
          have HK := HK'
          clear HS' HK' c2
          generalize wr = u0 at HS HK ⊢
          have hBX := bx_at HBX.out hhi HS.out
          have c36 := hBX.c36
          clear hBX
          go_wp2_with fail
          clear c36
          go_loopw [33] (fun s u => ∃ j : Nat, j ≤ x.c.n ∧ s = .int .i64 j ∧ Sp lo hi W u ∧ Ks W u x.ka 0) (fun s _ => x.c.n - (intOf s).toNat)
          case atStart => exact ⟨0, by omega, rfl, HS.out, HK.out⟩
          case round =>
            obtain ⟨j, hj, rfl, hs, hk⟩ := hrel
            have HS' := Hid.mk hs
            have HK' := Hid.mk hk
            have c36 := (bx_at HBX.out hhi hs).c36
            clear hs hk HS HK
            by_cases hlt : j < x.c.n
            · have hji : (j : Int) < x.c.n := by omega
              obtain ⟨g, off, ha, g1, g2, g3, g4, hfz, z, hz⟩ := own_write HH.out.c.2.2.2.2 hlt
              unfold maxLen at g4
              rw [ha] at c36
              obtain ⟨ov, hov⟩ := HS'.out.ex g (off + j) _ (HCE.out _ _ _ hz)
              have hf : ∀ o, wr.frozen? ⟨g, o, none⟩ = false := fun o => (HS'.out.fz g o).trans ((HFZ.out g o (Nat.lt_of_lt_of_le g2 hhi)).trans (hfz o))
              have HPS := Hid.mk (HS'.out.put (o := off + j) g1 g2 (.int .u8 99))
              have HPK := Hid.mk (HK'.out.put (HCE.out _ _ _ hz) (.int .u8 99))
              clear hz hfz g1 g2
              go_wp2_with fail
              exact ⟨⟨j + 1, by omega, by simp, HPS.out, HPK.out⟩, by simp [intOf]; omega⟩
            · have hji : ¬ (j : Int) < x.c.n := by omega
              have HS := HS'
              have HK := HK'
              clear HS' HK' c36
              generalize wr = u0 at HS HK ⊢
              have hBX := bx_at HBX.out hhi HS.out
              have c37 := hBX.c37
              clear hBX
              go_wp2_with fail
              clear c37
              go_loopw [45] (fun s u => ∃ i : Nat, i ≤ x.kn ∧ s = .int .i64 i ∧ Sp lo hi W u ∧ Ks W u x.ka i) (fun s _ => x.kn - (intOf s).toNat)
              case atStart => exact ⟨0, by omega, rfl, HS.out, HK.out⟩
              case round =>
                obtain ⟨i, hile, rfl, hs, hk⟩ := hrel
                have HS' := Hid.mk hs
                have HK' := Hid.mk hk
                have c4 := (bx_at HBX.out hhi hs).c37
                clear hs hk HS HK
                by_cases hlt : i < x.kn
                · have hii : (i : Int) < x.kn := by omega
                  obtain ⟨r, hr⟩ : ∃ r, n.ks[i]? = some r := ⟨_, List.getElem?_eq_getElem (by rw [← HXM.out.1]; exact hlt)⟩
                  obtain ⟨gk, offk, y, hka, hgk, hrg, hy⟩ := HH.out.ks i r hr
                  have HKA := Hid.mk hka
                  have HRG := Hid.mk hrg
                  have HYL := Hid.mk hy.len
                  have HYR := Hid.mk hy.2.2.2.2
                  have HGK := Hid.mk (show lo ≤ gk ∧ gk < hi ∧ ∀ o, w.frozen? ⟨gk, o, none⟩ = false from ⟨hgk.1.1, hgk.2, hgk.1.2⟩)
                  have HY33 := Hid.mk (show W.cell? ⟨gk, offk + i * 34 + 33, none⟩ = some (.slice y.a y.n y.c) from HCE.out _ _ _ (hrg 33 _ (RV.last hy.len)))
                  have k4 := HK'.out gk offk i y.a y.n y.c hka (Nat.le_refl _) HY33.out
                  have hyn := hy.2.2.2.2.2.1
                  rw [hka] at c4
                  clear hrg hy hr hka hgk
                  go_wp2_with fail
                  go_loopw [55] (fun s u => ∃ j : Nat, j ≤ y.n ∧ s = .int .i64 j ∧ Sp lo hi W u ∧ Ks W u x.ka i) (fun s _ => y.n - (intOf s).toNat)
                  case atStart => exact ⟨0, by omega, rfl, HS'.out, HK'.out⟩
                  case round =>
                    obtain ⟨j, hj, rfl, hs, hk⟩ := hrel
                    have HS2 := Hid.mk hs
                    have HK2 := Hid.mk hk
                    have c5 := (bx_at HBX.out hhi hs).c37
                    rw [HKA.out] at c5
                    have k5 := hk gk offk i y.a y.n y.c HKA.out (Nat.le_refl _) HY33.out
                    clear hs hk HS' HK' c4 k4
                    by_cases hlt2 : j < y.n
                    · have hji : (j : Int) < y.n := by omega
                      obtain ⟨g, off, ha, g1, g2, g3, g4, hfz, z, hz⟩ := own_write HYR.out hlt2
                      unfold maxLen at g4
                      rw [ha] at k5
                      obtain ⟨ov, hov⟩ := HS2.out.ex g (off + j) _ (HCE.out _ _ _ hz)
                      have hf : ∀ o, wr.frozen? ⟨g, o, none⟩ = false := fun o => (HS2.out.fz g o).trans ((HFZ.out g o (Nat.lt_of_lt_of_le g2 hhi)).trans (hfz o))
                      have HPS := Hid.mk (HS2.out.put (o := off + j) g1 g2 (.int .u8 99))
                      have HPK := Hid.mk (HK2.out.put (HCE.out _ _ _ hz) (.int .u8 99))
                      clear hz hfz g1 g2
                      go_wp2_with fail
                      exact ⟨⟨j + 1, by omega, by simp, HPS.out, HPK.out⟩, by simp [intOf]; omega⟩
                    · have hji : ¬ (j : Int) < y.n := by omega
                      go_upto_region 24 with fail
                      rename_i K2 hkk K3 Q3 K4 h4
                      refine wp_region_lit ?_
                      refine wl_pure 67 (.pointer (some ⟨w.heap.size, 37, none⟩)) rfl (by kernel_rfl) (by kernel_rfl) ?_
                      refine wl_pure 68 (.slice (some ⟨gk, offk, none⟩) x.kn x.kc) rfl (by kernel_rfl) (rd_loadK rfl (by kernel_rfl) c5) ?_
                      refine wl_pure 69 (.int .i64 i) rfl (by kernel_rfl) (by kernel_rfl) ?_
                      refine wl_pure 70 (.agg (RV.cells ⟨9, z32, none, 0, 0⟩).toArray) rfl (by kernel_rfl) (rd_build 26 _ rfl [(0, .int .i64 9)] (by kernel_rfl) _ built_R9) ?_
                      refine wl_pure 71 (.pointer (some ⟨gk, offk + i * 34, none⟩)) rfl (by kernel_rfl) (rd_indexR (m := x.kn) (c := x.kc) rfl (by kernel_rfl) (by kernel_rfl) hlt) ?_
                      refine wl_skip rfl (by kernel_rfl) (rd_storeC rfl gk (offk + i * 34) ⟨9, z32, none, 0, 0⟩ rfl (by kernel_rfl) (by kernel_rfl) (fun j hj => by
                        obtain ⟨v', hv'⟩ := HS2.out.ex gk (offk + i * 34 + j) _ (HCE.out _ _ _ (HRG.out j _ (List.getElem?_eq_getElem (by rw [RV.len HYL.out]; exact hj))))
                        rw [hv']; rfl) (fun o => (HS2.out.fz gk o).trans ((HFZ.out gk o (Nat.lt_of_lt_of_le HGK.out.2.1 hhi)).trans (HGK.out.2.2 o)))) ?_
                      refine hkk _ _ ?_
                      have HPS := Hid.mk (HS2.out.puts (o := offk + i * 34) HGK.out.1 HGK.out.2.1 (RV.cells ⟨9, z32, none, 0, 0⟩))
                      have hks := HK2.out
                      rw [HKA.out] at hks
                      have hks2 := hks.puts (RV.cells ⟨9, z32, none, 0, 0⟩) (RV.len rfl)
                      rw [← HKA.out] at hks2
                      have HPK := Hid.mk hks2
                      clear hkk hks hks2 HS2 HK2 c5 k5
                      go_frame
                      go_wp2_with fail
                      exact ⟨⟨i + 1, by omega, by simp, HPS.out, HPK.out⟩, by simp [intOf]; omega⟩
                · have hii : ¬ (i : Int) < x.kn := by omega
                  go_wp2_with fail
                  first | go_ret | refine bodyPost_end (results_none rfl _ _ _) rfl ?_
                  exact ⟨rfl, W, HEND.out, HS'.out⟩
end Go.Proofs.Ytamibjgahcpkcaa
/- What alive answers. -/
namespace Go.Proofs.Ytamibjgahcpkcaa
open Go.RowKit
set_option linter.unusedVariables false
set_option maxRecDepth 100000
def nA : PN := ⟨1, [1, 2], [5], r0, []⟩
def nB : PN := ⟨1, [], [5], r0, []⟩
theorem nA_right : NR nA = true := by decide +kernel
theorem nB_right : NR nB = true := by decide +kernel
theorem nA_enc : NE nA = [196, 130, 32, 18, 5] := by decide +kernel
theorem nB_enc : NE nB = [194, 32, 5] := by decide +kernel
theorem isB_lit {b : List Int} (h : (b.all fun x => decide (0 ≤ x) && decide (x < 256)) = true) : isB b := fun x hx => by
  have := List.all_eq_true.1 h x hx
  simp at this
  exact this
theorem nA_ep : NEP nA = ([196, 130, 32, 18, 5], 0) := by unfold NEP; rw [if_pos nA_right, nA_enc]
theorem okN_nB : okN nB := ⟨isB_lit rfl, isB_lit rfl, ⟨isB_lit rfl, rfl, isB_lit rfl⟩, fun r hr => by cases hr⟩
theorem nB_dec : ND [194, 32, 5] = some nB := by
  have h := NE_isB okN_nB nB_right (by rw [nB_enc]; exact isB_lit rfl)
  rw [nB_enc] at h
  exact h
theorem agk_true {w : World} {a : Option Addr} {n c : Nat} {bs : List Int} (h : Ag w a n c bs) (hn : n ≤ 140737488351232) : AgK (fun _ => True) w a n c bs := ⟨h, hn, fun _ _ _ _ => trivial⟩
set_option maxHeartbeats 4000000 in
theorem alive_any (w : World) : Calls Try.prog 11 #[] w fun e w' => e = .returned (.bool true) ∧ Below w.heap.size w w' := by
  have hw1 : Ag ((w.alloc (.cells #[.int .u8 1, .int .u8 2] 5)).alloc (.cells #[.int .u8 5] 5)) (some ⟨w.heap.size, 0, none⟩) 2 2 [1, 2] :=
    (Ni.row_ag (show Ni.Row w.heap.size (w.alloc (.cells #[.int .u8 1, .int .u8 2] 5)) [1, 2] from heap_alloc_new _ _) rfl (isB_lit rfl) (show (2 : Nat) ≤ 9223372036854775807 by decide)).at (below_new _ _)
  have hw2 : Ag ((w.alloc (.cells #[.int .u8 1, .int .u8 2] 5)).alloc (.cells #[.int .u8 5] 5)) (some ⟨w.heap.size + 1, 0, none⟩) 1 1 [5] := by
    have s1 : (w.alloc (.cells #[.int .u8 1, .int .u8 2] 5)).heap.size = w.heap.size + 1 := by simp
    rw [← s1]
    exact Ni.row_ag (show Ni.Row _ ((w.alloc (.cells #[.int .u8 1, .int .u8 2] 5)).alloc (.cells #[.int .u8 5] 5)) [5] from heap_alloc_new _ _) rfl (isB_lit rfl) (show (1 : Nat) ≤ 9223372036854775807 by decide)
  have hb0 : Below w.heap.size w ((w.alloc (.cells #[.int .u8 1, .int .u8 2] 5)).alloc (.cells #[.int .u8 5] 5)) := below_go (below_new _ _) (below_new _ _)
  have hE := nencode_any (fun _ => True) ⟨1, some ⟨w.heap.size, 0, none⟩, 2, 2, some ⟨w.heap.size + 1, 0, none⟩, 1, 1, rz, none, 0, 0⟩ nA _ ⟨rfl, agk_true hw1 (show (2 : Nat) ≤ 140737488351232 by decide), agk_true hw2 (show (1 : Nat) ≤ 140737488351232 by decide), refAt_zero _ _, ⟨rfl, Nat.le_refl _, Nat.zero_le _, Nat.zero_le _, fun _ => ⟨rfl, rfl⟩⟩, kids_nil _ _ _⟩
  rw [nA_ep] at hE
  have HE := Hid.mk hE
  have HB0 := Hid.mk hb0
  clear hw1 hw2 hb0 hE
  go_enter Try.func11, Try.ntmps11
  go_wp2_with fail
  refine HE.out.mono ?_
  rintro e w1 ⟨⟨a, m, c, rfl, hag, -⟩, hb1⟩
  have hm : m = 5 := hag.l.symm
  subst hm
  have HA := Hid.mk hag
  have HB1 := Hid.mk (below_go HB0.out hb1)
  have HD := Hid.mk (ndecode_any [194, 32, 5] (some ⟨w1.heap.size, 0, none⟩) 3 3 (w1.alloc (.cells #[.int .u8 194, .int .u8 32, .int .u8 5] 5)) (Ni.row_ag (show Ni.Row w1.heap.size (w1.alloc (.cells #[.int .u8 194, .int .u8 32, .int .u8 5] 5)) [194, 32, 5] from heap_alloc_new _ _) rfl (isB_lit rfl) (show (3 : Nat) ≤ 9223372036854775807 by decide)) (show (3 : Nat) ≤ 140737488351232 by decide))
  rw [nB_dec] at HD
  clear hag hb1 HE HB0
  go_wp2_with fail
  refine HD.out.mono ?_
  rintro e w2 ⟨hb2, y, rfl, hy⟩
  have HL := Hid.mk hy.c.len
  have HY := Hid.mk hy
  have HB2 := Hid.mk (below_go (below_go HB1.out (below_new _ _)) hb2)
  have HA2 := Hid.mk (HA.out.at (below_go (below_new _ _) hb2))
  clear hy hb2 HD
  go_upto_region 3 with (first | refine wpList_store_row rfl 29 _ _ rfl _ y.cells.toArray rfl rfl 29 _ (heap_alloc_new _ _) (infoN' HL.out) (nz_size HL.out) (all_oneCell_toArray (NV.one _)) ?_)
  refine gen_w (p := fun v => Code.wp _ _ _ _ v) (q := fun v => NBx w2.heap.size v y ∧ Below w2.heap.size w2 v) ⟨⟨setRow_heap _ _ _ _ _ _ (heap_alloc_new _ _), HL.out⟩, Below.setRow (below_new w2 _) (Nat.le_refl _) _⟩ ?_
  rintro v3 ⟨B3, b3⟩
  have c0 := B3.c0
  have c1 := B3.c1
  have c2 := B3.c2
  have hk : y.k = 1 := HY.out.k
  have hp : y.pn = 0 := HY.out.p.l.symm
  have hv : y.vn = 1 := HY.out.v.l.symm
  have k1 := conv_any (HA2.out.at b3).i
  have k2 := conv_any (HY.out.v.1.at b3).i
  have e1 : strOfNums [196, 130, 32, 18, 5] = ⟨#[196, 130, 32, 18, 5]⟩ := by rfl
  have e2 : strOfNums nB.v = ⟨#[5]⟩ := by rfl
  rw [e1] at k1
  rw [e2, hv] at k2
  rw [hk] at c0
  rw [hp] at c1
  rw [hv] at c2
  have HB3 := Hid.mk (below_go HB2.out b3)
  clear B3 b3 hk hp hv e1 e2
  go_wp2_with fail
  go_ret
  first | exact ⟨rfl, HB3.out⟩ | (refine ⟨congrArg (fun b => Ending.returned (Value.bool b)) ?_, HB3.out⟩; decide +kernel)
end Go.Proofs.Ytamibjgahcpkcaa
/- What EmptyRoot and EmptyCode answer, the program's and the document's. -/
namespace Go.Proofs.Ytamibjgahcpkcaa
open Go.RowKit
open Di (dref)
set_option linter.unusedVariables false
set_option maxRecDepth 100000
theorem z8_size {ds : List Int} (h : ds.length = 32) : (B8 z32).size = (B8 ds).size := by rw [B8_size, B8_size, h]; rfl
theorem infoD' {ds : List Int} (h : ds.length = 32) : (Try.prog.info? 24).map (·.size) = some (B8 ds).size := by rw [infoD, B8_size, h]
theorem B8_one (bs : List Int) : (B8 bs).all (·.oneCell') = true := all_oneCell_toArray (B8_one2 bs)
theorem enc_t0 : encP t0 = ([128], 0) := by decide +kernel
set_option maxHeartbeats 2000000 in
theorem emptyCode_any (w : World) : Calls Try.prog 24 #[] w fun e w' => e = .returned (.agg (B8 (dref []))) ∧ Below w.heap.size w w' := by
  have HOF := Hid.mk (fun v => dof_any none 0 0 [] v ⟨.inl ⟨rfl, rfl⟩, fun _ => ⟨rfl, rfl⟩, rfl, fun x hx => by cases hx⟩ (by omega))
  have HDL := Hid.mk (dref_len [])
  obtain ⟨ds, hds⟩ : ∃ ds, dref [] = ds := ⟨_, rfl⟩
  rw [hds] at HOF HDL ⊢
  clear hds
  go_enter Try.func24, Try.ntmps24
  go_upto_region 1 with fail
  refine gen_w (p := fun v => Code.wp _ _ _ _ v) (q := fun v => v.heap[w.heap.size]? = some (.cells (B8 z32) 24) ∧ Below w.heap.size w v) ⟨heap_alloc_new _ _, below_new _ _⟩ ?_
  rintro v ⟨hrow, hb⟩
  have HROW := Hid.mk hrow
  have HB := Hid.mk hb
  clear hrow hb
  go_wp2_with fail
  refine (HOF.out v).mono ?_
  rintro e w1 ⟨rfl, hb1⟩
  have HR1 := Hid.mk (Below.row hb1 HROW.out)
  have HB1 := Hid.mk (below_go HB.out hb1)
  clear hb1
  go_wp2_with (first | refine wpList_store_row rfl 24 _ _ rfl _ (B8 ds) rfl rfl 24 _ HR1.out (infoD' HDL.out) (z8_size HDL.out) (B8_one _) ?_)
  refine bodyPost_ret (results_cell_row Try.results24 _ _ w.heap.size 24 (B8 ds) (0, 0) _ rfl (setRow_heap _ _ _ _ _ _ HR1.out) Try.underlying24 rfl (infoD' HDL.out)) rfl ?_
  exact ⟨rfl, Below.setRow HB1.out (Nat.le_refl _) _⟩
set_option maxHeartbeats 2000000 in
theorem remptyCode_any (w : World) : Calls Try.prog 25 #[] w fun e w' => e = .returned (.agg (B8 (dref []))) ∧ Below w.heap.size w w' := by
  have HOF := Hid.mk (fun v => rdof_any none 0 0 [] v ⟨.inl ⟨rfl, rfl⟩, fun _ => ⟨rfl, rfl⟩, rfl, fun x hx => by cases hx⟩ (by omega))
  have HDL := Hid.mk (dref_len [])
  obtain ⟨ds, hds⟩ : ∃ ds, dref [] = ds := ⟨_, rfl⟩
  rw [hds] at HOF HDL ⊢
  clear hds
  go_enter Try.func25, Try.ntmps25
  go_upto_region 1 with fail
  refine gen_w (p := fun v => Code.wp _ _ _ _ v) (q := fun v => v.heap[w.heap.size]? = some (.cells (B8 z32) 24) ∧ Below w.heap.size w v) ⟨heap_alloc_new _ _, below_new _ _⟩ ?_
  rintro v ⟨hrow, hb⟩
  have HROW := Hid.mk hrow
  have HB := Hid.mk hb
  clear hrow hb
  go_wp2_with fail
  refine (HOF.out v).mono ?_
  rintro e w1 ⟨rfl, hb1⟩
  have HR1 := Hid.mk (Below.row hb1 HROW.out)
  have HB1 := Hid.mk (below_go HB.out hb1)
  clear hb1
  go_wp2_with (first | refine wpList_store_row rfl 24 _ _ rfl _ (B8 ds) rfl rfl 24 _ HR1.out (infoD' HDL.out) (z8_size HDL.out) (B8_one _) ?_)
  refine bodyPost_ret (results_cell_row Try.results25 _ _ w.heap.size 24 (B8 ds) (0, 0) _ rfl (setRow_heap _ _ _ _ _ _ HR1.out) Try.underlying24 rfl (infoD' HDL.out)) rfl ?_
  exact ⟨rfl, Below.setRow HB1.out (Nat.le_refl _) _⟩
set_option maxHeartbeats 2000000 in
theorem remptyRoot_any (w : World) : Calls Try.prog 23 #[] w fun e w' => e = .returned (.agg (B8 (dref [128]))) ∧ Below w.heap.size w w' := by
  have HOF := Hid.mk (fun (v : World) => rdof_any (some ⟨v.heap.size, 0, none⟩) 1 1 [128] (v.alloc (.cells #[.int .u8 128] 5)) (Ni.row_ag (show Ni.Row v.heap.size (v.alloc (.cells #[.int .u8 128] 5)) [128] from heap_alloc_new _ _) rfl (fun x hx => by simp at hx; omega) (show (1 : Nat) ≤ 9223372036854775807 by decide)) (by omega))
  have HDL := Hid.mk (dref_len [128])
  obtain ⟨ds, hds⟩ : ∃ ds, dref [128] = ds := ⟨_, rfl⟩
  rw [hds] at HOF HDL ⊢
  clear hds
  go_enter Try.func23, Try.ntmps23
  go_upto_region 1 with fail
  refine gen_w (p := fun v => Code.wp _ _ _ _ v) (q := fun v => v.heap[w.heap.size]? = some (.cells (B8 z32) 24) ∧ Below w.heap.size w v) ⟨heap_alloc_new _ _, below_new _ _⟩ ?_
  rintro v ⟨hrow, hb⟩
  have HROW := Hid.mk hrow
  have HB := Hid.mk hb
  clear hrow hb
  go_wp2_with fail
  refine (HOF.out v).mono ?_
  rintro e w1 ⟨rfl, hb1⟩
  have HR1 := Hid.mk (Below.row (below_go (below_new v _) hb1) HROW.out)
  have HB1 := Hid.mk (below_go HB.out (below_go (below_new v _) hb1))
  clear hb1
  go_wp2_with (first | refine wpList_store_row rfl 24 _ _ rfl _ (B8 ds) rfl rfl 24 _ HR1.out (infoD' HDL.out) (z8_size HDL.out) (B8_one _) ?_)
  refine bodyPost_ret (results_cell_row Try.results23 _ _ w.heap.size 24 (B8 ds) (0, 0) _ rfl (setRow_heap _ _ _ _ _ _ HR1.out) Try.underlying24 rfl (infoD' HDL.out)) rfl ?_
  exact ⟨rfl, Below.setRow HB1.out (Nat.le_refl _) _⟩
set_option maxHeartbeats 2000000 in
theorem emptyRoot_any (w : World) : Calls Try.prog 22 #[] w fun e w' => e = .returned (.agg (B8 (dref [128]))) ∧ Below w.heap.size w w' := by
  have HDL := Hid.mk (dref_len [128])
  have HOF := Hid.mk (fun (v : World) (a : Option Addr) (c : Nat) (h : Ag v a 1 c [128]) => dof_any a 1 c [128] v h (by omega))
  obtain ⟨ds, hds⟩ : ∃ ds, dref [128] = ds := ⟨_, rfl⟩
  rw [hds] at HOF HDL ⊢
  clear hds
  have HTX := Hid.mk (fun v => text_any none 0 0 [] v ⟨.inl ⟨rfl, rfl⟩, fun _ => ⟨rfl, rfl⟩, rfl, fun x hx => by cases hx⟩ (by omega))
  go_enter Try.func22, Try.ntmps22
  go_upto_region 1 with fail
  refine gen_w (p := fun v => Code.wp _ _ _ _ v) (q := fun v => v.heap[w.heap.size]? = some (.cells (B8 z32) 24) ∧ Below w.heap.size w v) ⟨heap_alloc_new _ _, below_new _ _⟩ ?_
  rintro v ⟨hrow, hb⟩
  have HROW := Hid.mk hrow
  have HB := Hid.mk hb
  clear hrow hb
  go_wp2_with fail
  refine (HTX.out v).mono ?_
  rintro e w1 ⟨rfl, hr1, hb1⟩
  have hlies := liesP_lies _ _ (liesP_txt (P := fun _ => True) (n := 0) hr1 rfl (fun x hx => by cases hx) (by omega) trivial)
  have hen := encode_own (.mk false [] []) ⟨false, some ⟨v.heap.size + 1, 0, none⟩, 0, 0, none, 0, 0⟩ w1 hlies
  rw [show encP (.mk false [] []) = ([128], 0) from enc_t0] at hen
  have HEN := Hid.mk hen
  have HB1 := Hid.mk (below_go HB.out hb1)
  have HR1 := Hid.mk (Below.row hb1 HROW.out)
  clear hr1 hb1 hlies hen HROW HB
  go_wp2_with fail
  refine HEN.out.mono ?_
  rintro e w2 ⟨⟨a, m, c, rfl, hag, -⟩, hb2⟩
  have hm : m = 1 := hag.l.symm
  subst hm
  have HO2 := Hid.mk (HOF.out w2 a c hag)
  have HB2 := Hid.mk (below_go HB1.out hb2)
  have HR2 := Hid.mk (Below.row hb2 HR1.out)
  clear hag hb2
  go_wp2_with fail
  refine HO2.out.mono ?_
  rintro e w3 ⟨rfl, hb3⟩
  have HR3 := Hid.mk (Below.row hb3 HR2.out)
  have HB3 := Hid.mk (below_go HB2.out hb3)
  clear hb3
  go_wp2_with (first | refine wpList_store_row rfl 24 _ _ rfl _ (B8 ds) rfl rfl 24 _ HR3.out (infoD' HDL.out) (z8_size HDL.out) (B8_one _) ?_)
  refine bodyPost_ret (results_cell_row Try.results22 _ _ w.heap.size 24 (B8 ds) (0, 0) _ rfl (setRow_heap _ _ _ _ _ _ HR3.out) Try.underlying24 rfl (infoD' HDL.out)) rfl ?_
  exact ⟨rfl, Below.setRow HB3.out (Nat.le_refl _) _⟩
end Go.Proofs.Ytamibjgahcpkcaa
