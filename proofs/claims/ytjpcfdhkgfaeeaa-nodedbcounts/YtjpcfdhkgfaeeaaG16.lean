/- What Drop of a store answers. -/
import Derived.Test.YtjpcfdhkgfaeeaaG15
namespace Go.Proofs.Ytjpcfdhkgfaeeaa
open Go.RowKit
open Go.ChangeMaps (setBlock)
set_option linter.unusedVariables false
set_option maxRecDepth 100000
section
variable {md : Region.Mode} {ops : Array Oper} {Q : Exit → Act → World → Prop} {S : World → Prop} {fuel : Nat} {listed : Array Bool} {a : Act} {w : World}
/-- An operation whose value nobody takes (a delete). -/
theorem rd_runN (i : Nat) (v : Value) {rs : List Nat} {w' : World} {o : Oper} (ho : ops[i]? = some o) (hd : o.dst = none) (hg : Region.wanted o (yielded ops a.tmps) = true) (hrun : (execOp a.eval o).run Try.prog w = .ok (.value v) w') (hS : S w')
    (h : wpAnyH Try.prog md ops Q S fuel (listed.setIfInBounds i true) a w') (hs : AllReadyH Try.prog md ops Q S fuel listed a w rs) : AllReadyH Try.prog md ops Q S fuel listed a w (i :: rs) :=
  AllReadyH.cons ho (fun K hK => by
    rw [if_pos hg]
    unfold Oper.wp
    rw [hrun, Oper.upon_value]
    exact hK _ _ hS (fun _ => by rw [hd]; exact h)) hs
theorem rd_upd {x y z : Operand} {m d v : Value} {w' : World} {o : Oper} (ho : o.op = .mapUpdate 67 x y z) (hx : a.eval x = m) (hy : a.eval y = d) (hz : a.eval z = v) (hr : (Instr.mapUpdate 67 m d v).run Try.prog w = .ok () w') : (execOp a.eval o).run Try.prog w = .ok .skip w' := by
  unfold execOp
  rw [ho]
  simp only [hx, hy, hz, Sem.run_bind, hr, Result.andThen_ok, Sem.run_pure]
theorem rd_del {x y : Operand} {m d v : Value} {w' : World} {o : Oper} (ho : o.op = .call { callee := .builtin .delete, args := #[x, y], argTypes := #[67, 30] }) (hx : a.eval x = m) (hy : a.eval y = d) (hr : (Builtin.delete_ #[67, 30] o.type #[m, d]).run Try.prog w = .ok v w') : (execOp a.eval o).run Try.prog w = .ok (.value v) w' := by
  simp [execOp, ho, resolve, invoke, builtin, hx, hy, hr, Result.andThen]
theorem rd_loadE {x : Operand} {g : Nat} {s : ByteArray} {r : Int} {o : Oper} (ho : o.op = .load 72 x) (hx : a.eval x = .pointer (some ⟨g, 0, none⟩)) (hc : EBx g w s r) : (execOp a.eval o).run Try.prog w = .ok (.value (.agg #[.string s, .int .i64 r])) w :=
  rd_loadRow 72 x ho g 0 hx [.string s, .int .i64 r] _ (fun j u hu => by rw [cell_of_row _ _ _ _ _ _ hc, Nat.zero_add]; simpa using hu) Try.underlying72 rfl (by kernel_rfl)
end
/-- What Drop does. -/
def dropT (d : List Int) (L : List Th) : List Th × Bool × Int := match findT d L with
  | none => (L, false, 61)
  | some (_, y) => if 0 < y.r - 1 then (putT ⟨d, y.s, y.r - 1⟩ L, false, 0) else (delT d L, true, 0)
/-- Counts are counts. -/
def Rng (L : List Th) : Prop := ∀ x ∈ L, 1 ≤ x.r ∧ x.r ≤ 4294967295
theorem Rng.find {L : List Th} (h : Rng L) {d : List Int} {j : Nat} {y : Th} (hf : findT d L = some (j, y)) : 1 ≤ y.r ∧ y.r ≤ 4294967295 := h y (List.mem_of_getElem? (findT_some hf).1)
theorem Sto.set {w : World} {g m : Nat} {most : Int} {L L' : List Th} {o : Obj} (h : Sto w g m most L) (hm : MapAt (setBlock w m o) m L') : Sto (setBlock w m o) g m most L' := ⟨(setBlock_other h.ne).trans h.row, hm, h.ne⟩
theorem EBx.put {g : Nat} {v : World} {s : ByteArray} {r r' : Int} (h : EBx g v s r) : EBx g (v.setCell ⟨g, 1, none⟩ (.int .i64 r')) s r' := by
  unfold EBx at h ⊢
  rw [heap_setCell_same v g 1 _ 72 _ h]
  rfl
theorem EBx.puts {g : Nat} {v : World} {s s' : ByteArray} {r : Int} (h : EBx g v s r) : EBx g (v.setCell ⟨g, 0, none⟩ (.string s')) s' r := by
  unfold EBx at h ⊢
  rw [heap_setCell_same v g 0 _ 72 _ h]
  rfl
/-- A store, a box of a digest and one of an entry, while a call goes on. -/
structure Sd (w v : World) (g m : Nat) (most : Int) (L : List Th) (gD gE : Nat) (d : List Int) (s : ByteArray) (r : Int) : Prop where
  st : Sto v g m most L
  db : DBx gD v d
  eb : EBx gE v s r
  bel : Below w.heap.size w v
  gd : w.heap.size ≤ gD
  ge : gD < gE
  gl : g < w.heap.size ∧ m < w.heap.size
theorem Sd.go {w v v' : World} {g m : Nat} {most : Int} {L : List Th} {gD gE : Nat} {d : List Int} {s : ByteArray} {r : Int} (h : Sd w v g m most L gD gE d s r) (hb : Below v.heap.size v v') : Sd w v' g m most L gD gE d s r := ⟨h.st.go hb, h.db.go hb, h.eb.go hb, below_go h.bel hb, h.gd, h.ge, h.gl⟩
theorem Sto.other {w : World} {g m : Nat} {most : Int} {L : List Th} (h : Sto w g m most L) {k o : Nat} {x : Value} (h1 : k ≠ g) (h2 : k ≠ m) : Sto (w.setCell ⟨k, o, none⟩ x) g m most L := ⟨(heap_setCell_other _ _ _ _ (by show g ≠ k; exact Ne.symm h1)).trans h.row, h.mp.keep (fun _ => heap_setCell_other _ _ _ _ (by show m ≠ k; exact Ne.symm h2)), h.ne⟩
theorem Sd.put {w v : World} {g m : Nat} {most : Int} {L : List Th} {gD gE : Nat} {d : List Int} {s : ByteArray} {r r' : Int} (h : Sd w v g m most L gD gE d s r) : Sd w (v.setCell ⟨gE, 1, none⟩ (.int .i64 r')) g m most L gD gE d s r' := by
  have h1 := h.gd
  have h2 := h.ge
  have h3 := h.gl
  exact ⟨h.st.other (by omega) (by omega), ⟨(heap_setCell_other _ _ _ _ (by show gD ≠ gE; omega)).trans h.db.row, h.db.l⟩, h.eb.put, h.bel.setCell (by show w.heap.size ≤ gE; omega) _, h.gd, h.ge, h.gl⟩
theorem Sd.puts {w v : World} {g m : Nat} {most : Int} {L : List Th} {gD gE : Nat} {d : List Int} {s s' : ByteArray} {r : Int} (h : Sd w v g m most L gD gE d s r) : Sd w (v.setCell ⟨gE, 0, none⟩ (.string s')) g m most L gD gE d s' r := by
  have h1 := h.gd
  have h2 := h.ge
  have h3 := h.gl
  exact ⟨h.st.other (by omega) (by omega), ⟨(heap_setCell_other _ _ _ _ (by show gD ≠ gE; omega)).trans h.db.row, h.db.l⟩, h.eb.puts, h.bel.setCell (by show w.heap.size ≤ gE; omega) _, h.gd, h.ge, h.gl⟩
/-- What is read ahead of a change of the map. -/
def Sx (g m gD gE : Nat) (d : List Int) (s : ByteArray) (r : Int) (v : World) : Prop := v.cell? ⟨g, 1, none⟩ = some (.map (some m)) ∧ DBx gD v d ∧ EBx gE v s r
theorem Sd.sx {w v : World} {g m : Nat} {most : Int} {L : List Th} {gD gE : Nat} {d : List Int} {s : ByteArray} {r : Int} (h : Sd w v g m most L gD gE d s r) : Sx g m gD gE d s r v := ⟨h.st.c1, h.db, h.eb⟩
theorem Sd.set {w v : World} {g m : Nat} {most : Int} {L : List Th} {gD gE : Nat} {d : List Int} {s : ByteArray} {r : Int} (h : Sd w v g m most L gD gE d s r) (o : Obj) : Sx g m gD gE d s r (setBlock v m o) := by
  have h1 := h.gd
  have h2 := h.ge
  have h3 := h.gl
  exact ⟨(World.cell?_of_block (w := v) (setBlock_other h.st.ne)).trans h.st.c1, ⟨(setBlock_other (by omega)).trans h.db.row, h.db.l⟩, (setBlock_other (show gE ≠ m by omega)).trans h.eb⟩
theorem Sd.touch {w v : World} {g m : Nat} {most : Int} {L : List Th} {gD gE : Nat} {d : List Int} {s : ByteArray} {r : Int} (h : Sd w v g m most L gD gE d s r) (o : Obj) : Touch m w (setBlock v m o) := (Touch.of_below h.bel).trans (setBlock_touch _ _ _)
set_option maxHeartbeats 4000000 in
theorem drop_any {w : World} {g m : Nat} {most : Int} {L : List Th} (h : Sto w g m most L) (hr : Rng L) (d : List Int) (hd : d.length = 32) : Calls Try.prog 21 #[.pointer (some ⟨g, 0, none⟩), .agg (B8 d)] w fun e w' => e = .returned (.tuple #[.bool (dropT d L).2.1, .int .i64 (dropT d L).2.2]) ∧ Sto w' g m most (dropT d L).1 ∧ Touch m w w' := by
  obtain ⟨⟨eS, eR, eB⟩, hget⟩ : ∃ x, getT d L = x := ⟨_, rfl⟩
  have HLK := Hid.mk (show ∀ v, Sto v g m most L → (Instr.lookup 67 (.map (some m)) (.agg (B8 d)) true).run Try.prog v = .ok (.tuple #[.agg #[.string eS, .int .i64 eR], .bool eB]) v from fun v hv => by have := look_get hv.mp d hd; rwa [hget] at this)
  have HST := Hid.mk (h.go (below_new w (.cells (B8 d) 30)))
  have HBD := Hid.mk (dbx_new w d hd)
  have HBE := Hid.mk (below_new w (.cells (B8 d) 30))
  have HGET := Hid.mk hget
  have HRN := Hid.mk hr
  have HGL := Hid.mk h.lts
  have HD := Hid.mk hd
  obtain ⟨⟨L', b', e'⟩, hdr⟩ : ∃ x, dropT d L = x := ⟨_, rfl⟩
  rw [hdr]
  have HDR := Hid.mk hdr
  clear h hget hd hr hdr
  simp only
  go_enter Try.func21, Try.ntmps21
  go_upto_region 1 with fail
  refine gen_w (p := fun v => Code.wp _ _ _ _ v) (q := fun v => Sto v g m most L ∧ DBx w.heap.size v d ∧ Below w.heap.size w v) ⟨HST.out, HBD.out, HBE.out⟩ ?_
  clear HST HBD HBE
  rintro v ⟨hst, hbd, hbe⟩
  have HST := Hid.mk hst
  have HBD := Hid.mk hbd
  have HBE := Hid.mk hbe
  clear hst hbd hbe
  rename_i KK hkk
  refine wp_region_held_drew (S := fun v' => Sto v' g m most L ∧ DBx w.heap.size v' d) (by kernel_rfl) ⟨HST.out.go (Below.refl _ _).drew, HBD.out.go (Below.refl _ _).drew⟩ (fun hS => ?_)
  refine rd_take 0 9 (.pointer (some ⟨g, 0, none⟩)) rfl rfl (by kernel_rfl) (by kernel_rfl) (by kernel_rfl) (fun _ _ _ h => h) (by kernel_rfl) (fun v _ => by kernel_rfl) hS ?_
  refine rd_take 1 10 (.pointer (some ⟨g, 0, none⟩)) rfl rfl (by kernel_rfl) (by kernel_rfl) (by kernel_rfl) (fun _ _ _ h => h) (by kernel_rfl) (fun v _ => by kernel_rfl) hS ?_
  refine rd_take 2 11 (.pointer (some ⟨g, 1, none⟩)) rfl rfl (by kernel_rfl) (by kernel_rfl) (by kernel_rfl) (fun _ _ _ h => h) (by kernel_rfl) (fun v _ => by kernel_rfl) hS ?_
  refine rd_take 3 12 (.map (some m)) rfl rfl (by kernel_rfl) (by kernel_rfl) (by kernel_rfl) (fun _ _ _ h => h) (by kernel_rfl) (fun v' hv => rd_loadM rfl (by kernel_rfl) hv.1.c1) hS ?_
  refine rd_take 4 13 (.agg (B8 d)) rfl rfl (by kernel_rfl) (by kernel_rfl) (by kernel_rfl) (fun _ _ _ h => h) (by kernel_rfl) (fun v' hv => rd_loadDd rfl (by kernel_rfl) hv.2) hS ?_
  refine rd_take 5 14 (.tuple #[.agg #[.string eS, .int .i64 eR], .bool eB]) rfl rfl (by kernel_rfl) (by kernel_rfl) (by kernel_rfl) (fun _ _ _ h => h) (by kernel_rfl) (fun v' hv => rd_look rfl (by kernel_rfl) (by kernel_rfl) (HLK.out v' hv.1)) hS ?_
  refine rd_take 6 8 (.tuple #[.agg #[.string eS, .int .i64 eR], .bool eB]) rfl rfl (by kernel_rfl) (by kernel_rfl) (by kernel_rfl) (fun _ _ _ h => h) (by kernel_rfl) (fun v _ => by kernel_rfl) hS ?_
  refine rd_take 7 15 (.agg #[.string eS, .int .i64 eR]) rfl rfl (by kernel_rfl) (by kernel_rfl) (by kernel_rfl) (fun _ _ _ h => h) (by kernel_rfl) (fun v _ => by kernel_rfl) hS ?_
  refine rd_take 8 16 (.bool eB) rfl rfl (by kernel_rfl) (by kernel_rfl) (by kernel_rfl) (fun _ _ _ h => h) (by kernel_rfl) (fun v _ => by kernel_rfl) hS ?_
  refine wpAnyH_ready (rs := [9]) (by kernel_rfl) (by simp) ?_
  refine rd_run 9 6 (.pointer (some ⟨v.heap.size, 0, none⟩)) rfl rfl (by kernel_rfl) (rd_allocE rfl) ⟨hS.1.go (below_new _ _), hS.2.go (below_new _ _)⟩ ?_ AllReadyH.nil
  refine wpAnyH_ready (rs := [10]) (by kernel_rfl) (by simp) ?_
  refine rd_run0 10 rfl rfl (by kernel_rfl) (rd_store 72 _ _ rfl v.heap.size #[.string eS, .int .i64 eR] (by kernel_rfl) (by kernel_rfl) 72 #[.string ByteArray.empty, .int .i64 0] (heap_alloc_new v.drew _) (by kernel_rfl) rfl (e_one _ _)) ⟨hS.1.go (ebox_below _ _ _), hS.2.go (ebox_below _ _ _)⟩ ?_ AllReadyH.nil
  refine rd_take 11 7 (.bool eB) rfl rfl (by kernel_rfl) (by kernel_rfl) (by kernel_rfl) (fun _ _ _ h => h) (by kernel_rfl) (fun v _ => by kernel_rfl) ⟨hS.1.go (ebox_below _ _ _), hS.2.go (ebox_below _ _ _)⟩ ?_
  refine wpAnyH_done (by kernel_rfl) ?_ _
  refine hkk _ _ ?_
  have hE : EBx v.heap.size ((v.drew.alloc (.cells #[.string ByteArray.empty, .int .i64 0] 72)).setRow v.heap.size #[.string eS, .int .i64 eR]) eS eR := setRow_heap _ _ _ _ _ _ (heap_alloc_new v.drew _)
  have hb : Below v.heap.size v ((v.drew.alloc (.cells #[.string ByteArray.empty, .int .i64 0] 72)).setRow v.heap.size #[.string eS, .int .i64 eR]) := below_go (Below.refl _ _).drew (ebox_below v.drew _ _)
  generalize (v.drew.alloc (.cells #[.string ByteArray.empty, .int .i64 0] 72)).setRow v.heap.size #[.string eS, .int .i64 eR] = u at hE hb ⊢
  clear hS hkk
  go_frame
  have HSD := Hid.mk (show Sd w u g m most L w.heap.size v.heap.size d eS eR from ⟨HST.out.go hb, HBD.out.go hb, hE, below_go HBE.out hb, Nat.le_refl _, lt_of_get HBD.out.row, HGL.out⟩)
  clear hE hb HST HBD HBE HLK
  obtain ⟨gE, hgE⟩ : ∃ gE, v.heap.size = gE := ⟨_, rfl⟩
  rw [hgE] at HSD ⊢
  clear hgE
  cases hf : findT d L with
  | none =>
    have hg := HGET.out
    have hdr := HDR.out
    unfold getT at hg
    unfold dropT at hdr
    rw [hf] at hg hdr
    cases hg
    cases hdr
    clear hf
    go_wp2_with fail
    go_ret2
    exact ⟨rfl, HSD.out.st, Touch.of_below HSD.out.bel⟩
  | some p =>
    obtain ⟨j, y⟩ := p
    have hg := HGET.out
    have hdr := HDR.out
    unfold getT at hg
    unfold dropT at hdr
    rw [hf] at hg hdr
    cases hg
    obtain ⟨hr1, hr2⟩ := HRN.out.find hf
    have HDR2 := Hid.mk hdr
    clear hf HGET HDR HRN hdr
    obtain ⟨yd, ys, yr⟩ := y
    simp only at HSD hr1 hr2 HDR2 ⊢
    have c1 := HSD.out.eb.c1
    have cf := HSD.out.eb.fz
    go_upto_region 5 with fail
    have HS2 := Hid.mk (HSD.out.put (r' := yr - 1))
    refine gen_w (p := fun v => Code.wp _ _ _ _ v) (q := fun v => Sd w v g m most L w.heap.size gE d ys (yr - 1)) HS2.out ?_
    clear HS2 HSD c1 cf
    intro u2 hs2
    have c1 := hs2.eb.c1
    have HS2 := Hid.mk hs2
    clear hs2
    by_cases hgt : 0 < yr - 1
    · have hgi : yr - 1 > 0 := hgt
      have hdr := HDR2.out
      rw [if_pos hgt] at hdr
      cases hdr
      go_upto_region 6 with fail
      rename_i KK hkk
      refine wp_region_held_drew (S := Sx g m w.heap.size gE d ys (yr - 1)) (by kernel_rfl) (HS2.out.go (Below.refl _ _).drew).sx (fun hS => ?_)
      have hd2 := HS2.out.go (Below.refl _ _).drew
      obtain ⟨ob, hup, hma⟩ := upd_run hd2.st.mp ⟨d, ys, yr - 1⟩ HD.out
      refine rd_take 0 26 (.pointer (some ⟨g, 0, none⟩)) rfl rfl (by kernel_rfl) (by kernel_rfl) (by kernel_rfl) (fun _ _ _ h => h) (by kernel_rfl) (fun v _ => by kernel_rfl) hS ?_
      refine rd_take 1 27 (.pointer (some ⟨g, 0, none⟩)) rfl rfl (by kernel_rfl) (by kernel_rfl) (by kernel_rfl) (fun _ _ _ h => h) (by kernel_rfl) (fun v _ => by kernel_rfl) hS ?_
      refine rd_take 2 28 (.pointer (some ⟨g, 1, none⟩)) rfl rfl (by kernel_rfl) (by kernel_rfl) (by kernel_rfl) (fun _ _ _ h => h) (by kernel_rfl) (fun v _ => by kernel_rfl) hS ?_
      refine rd_take 3 29 (.map (some m)) rfl rfl (by kernel_rfl) (by kernel_rfl) (by kernel_rfl) (fun _ _ _ h => h) (by kernel_rfl) (fun v' hv => rd_loadM rfl (by kernel_rfl) hv.1) hS ?_
      refine rd_take 4 30 (.agg (B8 d)) rfl rfl (by kernel_rfl) (by kernel_rfl) (by kernel_rfl) (fun _ _ _ h => h) (by kernel_rfl) (fun v' hv => rd_loadDd rfl (by kernel_rfl) hv.2.1) hS ?_
      refine rd_take 5 31 (.agg #[.string ys, .int .i64 (yr - 1)]) rfl rfl (by kernel_rfl) (by kernel_rfl) (by kernel_rfl) (fun _ _ _ h => h) (by kernel_rfl) (fun v' hv => rd_loadE rfl (by kernel_rfl) hv.2.2) hS ?_
      refine wpAnyH_ready (rs := [6]) (by kernel_rfl) (by simp) ?_
      refine rd_run0 6 rfl rfl (by kernel_rfl) (rd_upd rfl (by kernel_rfl) (by kernel_rfl) (by kernel_rfl) hup) (hd2.set ob) ?_ AllReadyH.nil
      refine wpAnyH_done (by kernel_rfl) ?_ _
      refine hkk _ _ ?_
      have HEND := Hid.mk (show Sto (setBlock u2.drew m ob) g m most (putT ⟨d, ys, yr - 1⟩ L) ∧ Touch m w (setBlock u2.drew m ob) from ⟨hd2.st.set hma, hd2.touch ob⟩)
      clear hkk hS hd2 hup hma
      go_frame
      go_wp2_with fail
      go_ret2
      exact ⟨rfl, HEND.out.1, HEND.out.2⟩
    · have hgi : ¬ yr - 1 > 0 := hgt
      have hdr := HDR2.out
      rw [if_neg hgt] at hdr
      cases hdr
      go_upto_region 8 with fail
      rename_i KK hkk
      refine wp_region_held_drew (S := Sx g m w.heap.size gE d ys (yr - 1)) (by kernel_rfl) (HS2.out.go (Below.refl _ _).drew).sx (fun hS => ?_)
      have hd2 := HS2.out.go (Below.refl _ _).drew
      obtain ⟨ob, hup, hma⟩ := del_run hd2.st.mp d HD.out 0
      refine rd_take 0 32 (.pointer (some ⟨g, 0, none⟩)) rfl rfl (by kernel_rfl) (by kernel_rfl) (by kernel_rfl) (fun _ _ _ h => h) (by kernel_rfl) (fun v _ => by kernel_rfl) hS ?_
      refine rd_take 1 33 (.pointer (some ⟨g, 0, none⟩)) rfl rfl (by kernel_rfl) (by kernel_rfl) (by kernel_rfl) (fun _ _ _ h => h) (by kernel_rfl) (fun v _ => by kernel_rfl) hS ?_
      refine rd_take 2 34 (.pointer (some ⟨g, 1, none⟩)) rfl rfl (by kernel_rfl) (by kernel_rfl) (by kernel_rfl) (fun _ _ _ h => h) (by kernel_rfl) (fun v _ => by kernel_rfl) hS ?_
      refine rd_take 3 35 (.map (some m)) rfl rfl (by kernel_rfl) (by kernel_rfl) (by kernel_rfl) (fun _ _ _ h => h) (by kernel_rfl) (fun v' hv => rd_loadM rfl (by kernel_rfl) hv.1) hS ?_
      refine rd_take 4 36 (.agg (B8 d)) rfl rfl (by kernel_rfl) (by kernel_rfl) (by kernel_rfl) (fun _ _ _ h => h) (by kernel_rfl) (fun v' hv => rd_loadDd rfl (by kernel_rfl) hv.2.1) hS ?_
      refine wpAnyH_ready (rs := [5]) (by kernel_rfl) (by simp) ?_
      refine rd_runN 5 _ rfl rfl (by kernel_rfl) (rd_del rfl (by kernel_rfl) (by kernel_rfl) hup) (hd2.set ob) ?_ AllReadyH.nil
      refine wpAnyH_done (by kernel_rfl) ?_ _
      refine hkk _ _ ?_
      have HEND := Hid.mk (show Sto (setBlock u2.drew m ob) g m most (delT d L) ∧ Touch m w (setBlock u2.drew m ob) from ⟨hd2.st.set hma, hd2.touch ob⟩)
      clear hkk hS hd2 hup hma
      go_frame
      go_wp2_with fail
      go_ret2
      exact ⟨rfl, HEND.out.1, HEND.out.2⟩
end Go.Proofs.Ytjpcfdhkgfaeeaa
