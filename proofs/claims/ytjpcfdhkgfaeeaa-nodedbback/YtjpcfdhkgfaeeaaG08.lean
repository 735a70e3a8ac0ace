/- What Drop of a store answers. -/
import Derived.Test.YtjpcfdhkgfaeeaaG07
namespace Go.Proofs.Ytjpcfdhkgfaeeaa
open Go.RowKit
open Go.ChangeMaps (setBlock)
set_option linter.unusedVariables false
set_option maxRecDepth 100000
section
variable {md : Region.Mode} {ops : Array Oper} {Q : Exit → Act → World → Prop} {S : World → Prop} {fuel : Nat} {listed : Array Bool} {a : Act} {w : World}
/-- An operation whose value nobody takes (a delete). -/
theorem rd_runN (i : Nat) (v : Value) {rs : List Nat} {w' : World} {o : Oper} (ho : ops[i]? = some o) (hd : o.dst = none) (hg : Region.wanted o (yielded ops a.tmps) = true) (hrun : (execOp a.eval o).run Try.prog w = .ok (.value v) w') (hS : S w')
    (h : wpAnyH Try.prog md ops Q S fuel (listed.setIfInBounds i true) a w') (hs : AllReadyH Try.prog md ops Q S fuel listed a w rs) : AllReadyH Try.prog md ops Q S fuel listed a w (i :: rs) :=
  AllReadyH.cons ho (fun K hK => by
    rw [if_pos hg]
    unfold Oper.wp
    rw [hrun, Oper.upon_value]
    exact hK _ _ hS (fun _ => by rw [hd]; exact h)) hs
theorem rd_upd {x y z : Operand} {m d v : Value} {w' : World} {o : Oper} (ho : o.op = .mapUpdate 67 x y z) (hx : a.eval x = m) (hy : a.eval y = d) (hz : a.eval z = v) (hr : (Instr.mapUpdate 67 m d v).run Try.prog w = .ok () w') : (execOp a.eval o).run Try.prog w = .ok .skip w' := by
  unfold execOp
  rw [ho]
  simp only [hx, hy, hz, Sem.run_bind, hr, Result.andThen_ok, Sem.run_pure]
theorem rd_del {x y : Operand} {m d v : Value} {w' : World} {o : Oper} (ho : o.op = .call { callee := .builtin .delete, args := #[x, y], argTypes := #[67, 30] }) (hx : a.eval x = m) (hy : a.eval y = d) (hr : (Builtin.delete_ #[67, 30] o.type #[m, d]).run Try.prog w = .ok v w') : (execOp a.eval o).run Try.prog w = .ok (.value v) w' := by
  simp [execOp, ho, resolve, invoke, builtin, hx, hy, hr, Result.andThen]
theorem rd_loadE {x : Operand} {g : Nat} {s : ByteArray} {r : Int} {o : Oper} (ho : o.op = .load 72 x) (hx : a.eval x = .pointer (some ⟨g, 0, none⟩)) (hc : EBx g w s r) : (execOp a.eval o).run Try.prog w = .ok (.value (.agg #[.string s, .int .i64 r])) w :=
  rd_loadRow 72 x ho g 0 hx [.string s, .int .i64 r] _ (fun j u hu => by rw [cell_of_row _ _ _ _ _ _ hc, Nat.zero_add]; simpa using hu) Try.underlying72 rfl (by kernel_rfl)
end
/-- What Drop does. -/
def dropT (d : List Int) (L : List Th) : List Th × Bool × Int := match findT d L with
  | none => (L, false, 61)
  | some (_, y) => if 0 < y.r - 1 then (putT ⟨d, y.s, y.r - 1⟩ L, false, 0) else (delT d L, true, 0)
/-- Counts are counts. -/
def Rng (L : List Th) : Prop := ∀ x ∈ L, 1 ≤ x.r ∧ x.r ≤ 4294967295
theorem Rng.find {L : List Th} (h : Rng L) {d : List Int} {j : Nat} {y : Th} (hf : findT d L = some (j, y)) : 1 ≤ y.r ∧ y.r ≤ 4294967295 := h y (List.mem_of_getElem? (findT_some hf).1)
theorem Sto.set {w : World} {g m : Nat} {most : Int} {L L' : List Th} {o : Obj} (h : Sto w g m most L) (hm : MapAt (setBlock w m o) m L') : Sto (setBlock w m o) g m most L' := ⟨(setBlock_other h.ne).trans h.row, hm, h.ne⟩
theorem EBx.put {g : Nat} {v : World} {s : ByteArray} {r r' : Int} (h : EBx g v s r) : EBx g (v.setCell ⟨g, 1, none⟩ (.int .i64 r')) s r' := by
  unfold EBx at h ⊢
  rw [heap_setCell_same v g 1 _ 72 _ h]
  rfl
theorem EBx.puts {g : Nat} {v : World} {s s' : ByteArray} {r : Int} (h : EBx g v s r) : EBx g (v.setCell ⟨g, 0, none⟩ (.string s')) s' r := by
  unfold EBx at h ⊢
  rw [heap_setCell_same v g 0 _ 72 _ h]
  rfl
/-- A store, a box of a digest and one of an entry, while a call goes on. -/
structure Sd (w v : World) (g m : Nat) (most : Int) (L : List Th) (gD gE : Nat) (d : List Int) (s : ByteArray) (r : Int) : Prop where
  st : Sto v g m most L
  db : DBx gD v d
  eb : EBx gE v s r
  bel : Below w.heap.size w v
  gd : w.heap.size ≤ gD
  ge : gD < gE
  gl : g < w.heap.size ∧ m < w.heap.size
theorem Sd.go {w v v' : World} {g m : Nat} {most : Int} {L : List Th} {gD gE : Nat} {d : List Int} {s : ByteArray} {r : Int} (h : Sd w v g m most L gD gE d s r) (hb : Below v.heap.size v v') : Sd w v' g m most L gD gE d s r := ⟨h.st.go hb, h.db.go hb, h.eb.go hb, below_go h.bel hb, h.gd, h.ge, h.gl⟩
theorem Sto.other {w : World} {g m : Nat} {most : Int} {L : List Th} (h : Sto w g m most L) {k o : Nat} {x : Value} (h1 : k ≠ g) (h2 : k ≠ m) : Sto (w.setCell ⟨k, o, none⟩ x) g m most L := ⟨(heap_setCell_other _ _ _ _ (by show g ≠ k; exact Ne.symm h1)).trans h.row, h.mp.keep (fun _ => heap_setCell_other _ _ _ _ (by show m ≠ k; exact Ne.symm h2)), h.ne⟩
theorem Sd.put {w v : World} {g m : Nat} {most : Int} {L : List Th} {gD gE : Nat} {d : List Int} {s : ByteArray} {r r' : Int} (h : Sd w v g m most L gD gE d s r) : Sd w (v.setCell ⟨gE, 1, none⟩ (.int .i64 r')) g m most L gD gE d s r' := by
  have h1 := h.gd
  have h2 := h.ge
  have h3 := h.gl
  exact ⟨h.st.other (by omega) (by omega), ⟨(heap_setCell_other _ _ _ _ (by show gD ≠ gE; omega)).trans h.db.row, h.db.l⟩, h.eb.put, h.bel.setCell (by show w.heap.size ≤ gE; omega) _, h.gd, h.ge, h.gl⟩
theorem Sd.puts {w v : World} {g m : Nat} {most : Int} {L : List Th} {gD gE : Nat} {d : List Int} {s s' : ByteArray} {r : Int} (h : Sd w v g m most L gD gE d s r) : Sd w (v.setCell ⟨gE, 0, none⟩ (.string s')) g m most L gD gE d s' r := by
  have h1 := h.gd
  have h2 := h.ge
  have h3 := h.gl
  exact ⟨h.st.other (by omega) (by omega), ⟨(heap_setCell_other _ _ _ _ (by show gD ≠ gE; omega)).trans h.db.row, h.db.l⟩, h.eb.puts, h.bel.setCell (by show w.heap.size ≤ gE; omega) _, h.gd, h.ge, h.gl⟩
/-- What is read ahead of a change of the map. -/
def Sx (g m gD gE : Nat) (d : List Int) (s : ByteArray) (r : Int) (v : World) : Prop := v.cell? ⟨g, 1, none⟩ = some (.map (some m)) ∧ DBx gD v d ∧ EBx gE v s r
theorem Sd.sx {w v : World} {g m : Nat} {most : Int} {L : List Th} {gD gE : Nat} {d : List Int} {s : ByteArray} {r : Int} (h : Sd w v g m most L gD gE d s r) : Sx g m gD gE d s r v := ⟨h.st.c1, h.db, h.eb⟩
theorem Sd.set {w v : World} {g m : Nat} {most : Int} {L : List Th} {gD gE : Nat} {d : List Int} {s : ByteArray} {r : Int} (h : Sd w v g m most L gD gE d s r) (o : Obj) : Sx g m gD gE d s r (setBlock v m o) := by
  have h1 := h.gd
  have h2 := h.ge
  have h3 := h.gl
  exact ⟨(World.cell?_of_block (w := v) (setBlock_other h.st.ne)).trans h.st.c1, ⟨(setBlock_other (by omega)).trans h.db.row, h.db.l⟩, (setBlock_other (show gE ≠ m by omega)).trans h.eb⟩
theorem Sd.touch {w v : World} {g m : Nat} {most : Int} {L : List Th} {gD gE : Nat} {d : List Int} {s : ByteArray} {r : Int} (h : Sd w v g m most L gD gE d s r) (o : Obj) : Touch m w (setBlock v m o) := (Touch.of_below h.bel).trans (setBlock_touch _ _ _)
set_option maxHeartbeats 4000000 in
theorem drop_any {w : World} {g m : Nat} {most : Int} {L : List Th} (h : Sto w g m most L) (hr : Rng L) (d : List Int) (hd : d.length = 32) : Calls Try.prog 21 #[.pointer (some ⟨g, 0, none⟩), .agg (B8 d)] w fun e w' => e = .returned (.tuple #[.bool (dropT d L).2.1, .int .i64 (dropT d L).2.2]) ∧ Sto w' g m most (dropT d L).1 ∧ Touch m w w' := by
  obtain ⟨⟨eS, eR, eB⟩, hget⟩ : ∃ x, getT d L = x := ⟨_, rfl⟩
  have HLK := Hid.mk (show ∀ v, Sto v g m most L → (Instr.lookup 67 (.map (some m)) (.agg (B8 d)) true).run Try.prog v = .ok (.tuple #[.agg #[.string eS, .int .i64 eR], .bool eB]) v from fun v hv => by have := look_get hv.mp d hd; rwa [hget] at this)
  have HST := Hid.mk (h.go (below_new w (.cells (B8 d) 30)))
  have HBD := Hid.mk (dbx_new w d hd)
  have HBE := Hid.mk (below_new w (.cells (B8 d) 30))
  have HGET := Hid.mk hget
  have HRN := Hid.mk hr
  have HGL := Hid.mk h.lts
  have HD := Hid.mk hd
  obtain ⟨⟨L', b', e'⟩, hdr⟩ : ∃ x, dropT d L = x := ⟨_, rfl⟩
  rw [hdr]
  have HDR := Hid.mk hdr
  clear h hget hd hr hdr
  simp only
  go_enter Try.func21, Try.ntmps21
  go_upto_region 1 with fail
  refine gen_w (p := fun v => Code.wp _ _ _ _ v) (q := fun v => Sto v g m most L ∧ DBx w.heap.size v d ∧ Below w.heap.size w v) ⟨HST.out, HBD.out, HBE.out⟩ ?_
  clear HST HBD HBE
  rintro v ⟨hst, hbd, hbe⟩
  have HST := Hid.mk hst
  have HBD := Hid.mk hbd
  have HBE := Hid.mk hbe
  clear hst hbd hbe
  rename_i KK hkk
  refine wp_region_held_drew (S := fun v' => Sto v' g m most L ∧ DBx w.heap.size v' d) (by kernel_rfl) ⟨HST.out.go (Below.refl _ _).drew, HBD.out.go (Below.refl _ _).drew⟩ (fun hS => ?_)
  refine rd_take 0 9 (.pointer (some ⟨g, 0, none⟩)) rfl rfl (by kernel_rfl) (by kernel_rfl) (by kernel_rfl) (fun _ _ _ h => h) (by kernel_rfl) (fun v _ => by kernel_rfl) hS ?_
  refine rd_take 1 10 (.pointer (some ⟨g, 0, none⟩)) rfl rfl (by kernel_rfl) (by kernel_rfl) (by kernel_rfl) (fun _ _ _ h => h) (by kernel_rfl) (fun v _ => by kernel_rfl) hS ?_
  refine rd_take 2 11 (.pointer (some ⟨g, 1, none⟩)) rfl rfl (by kernel_rfl) (by kernel_rfl) (by kernel_rfl) (fun _ _ _ h => h) (by kernel_rfl) (fun v _ => by kernel_rfl) hS ?_
  refine rd_take 3 12 (.map (some m)) rfl rfl (by kernel_rfl) (by kernel_rfl) (by kernel_rfl) (fun _ _ _ h => h) (by kernel_rfl) (fun v' hv => rd_loadM rfl (by kernel_rfl) hv.1.c1) hS ?_
  refine rd_take 4 13 (.agg (B8 d)) rfl rfl (by kernel_rfl) (by kernel_rfl) (by kernel_rfl) (fun _ _ _ h => h) (by kernel_rfl) (fun v' hv => rd_loadDd rfl (by kernel_rfl) hv.2) hS ?_
  refine rd_take 5 14 (.tuple #[.agg #[.string eS, .int .i64 eR], .bool eB]) rfl rfl (by kernel_rfl) (by kernel_rfl) (by kernel_rfl) (fun _ _ _ h => h) (by kernel_rfl) (fun v' hv => rd_look rfl (by kernel_rfl) (by kernel_rfl) (HLK.out v' hv.1)) hS ?_
  refine rd_take 6 8 (.tuple #[.agg #[.string eS, .int .i64 eR], .bool eB]) rfl rfl (by kernel_rfl) (by kernel_rfl) (by kernel_rfl) (fun _ _ _ h => h) (by kernel_rfl) (fun v _ => by kernel_rfl) hS ?_
  refine rd_take 7 15 (.agg #[.string eS, .int .i64 eR]) rfl rfl (by kernel_rfl) (by kernel_rfl) (by kernel_rfl) (fun _ _ _ h => h) (by kernel_rfl) (fun v _ => by kernel_rfl) hS ?_
  refine rd_take 8 16 (.bool eB) rfl rfl (by kernel_rfl) (by kernel_rfl) (by kernel_rfl) (fun _ _ _ h => h) (by kernel_rfl) (fun v _ => by kernel_rfl) hS ?_
  refine wpAnyH_ready (rs := [9]) (by kernel_rfl) (by simp) ?_
  refine rd_run 9 6 (.pointer (some ⟨v.heap.size, 0, none⟩)) rfl rfl (by kernel_rfl) (rd_allocE rfl) ⟨hS.1.go (below_new _ _), hS.2.go (below_new _ _)⟩ ?_ AllReadyH.nil
  refine wpAnyH_ready (rs := [10]) (by kernel_rfl) (by simp) ?_
  refine rd_run0 10 rfl rfl (by kernel_rfl) (rd_store 72 _ _ rfl v.heap.size #[.string eS, .int .i64 eR] (by kernel_rfl) (by kernel_rfl) 72 #[.string ByteArray.empty, .int .i64 0] (heap_alloc_new v.drew _) (by kernel_rfl) rfl (e_one _ _)) ⟨hS.1.go (ebox_below _ _ _), hS.2.go (ebox_below _ _ _)⟩ ?_ AllReadyH.nil
  refine rd_take 11 7 (.bool eB) rfl rfl (by kernel_rfl) (by kernel_rfl) (by kernel_rfl) (fun _ _ _ h => h) (by kernel_rfl) (fun v _ => by kernel_rfl) ⟨hS.1.go (ebox_below _ _ _), hS.2.go (ebox_below _ _ _)⟩ ?_
  refine wpAnyH_done (by kernel_rfl) ?_ _
  refine hkk _ _ ?_
  have hE : EBx v.heap.size ((v.drew.alloc (.cells #[.string ByteArray.empty, .int .i64 0] 72)).setRow v.heap.size #[.string eS, .int .i64 eR]) eS eR := setRow_heap _ _ _ _ _ _ (heap_alloc_new v.drew _)
  have hb : Below v.heap.size v ((v.drew.alloc (.cells #[.string ByteArray.empty, .int .i64 0] 72)).setRow v.heap.size #[.string eS, .int .i64 eR]) := below_go (Below.refl _ _).drew (ebox_below v.drew _ _)
  generalize (v.drew.alloc (.cells #[.string ByteArray.empty, .int .i64 0] 72)).setRow v.heap.size #[.string eS, .int .i64 eR] = u at hE hb ⊢
  clear hS hkk
  go_frame
  have HSD := Hid.mk (show Sd w u g m most L w.heap.size v.heap.size d eS eR from ⟨HST.out.go hb, HBD.out.go hb, hE, below_go HBE.out hb, Nat.le_refl _, lt_of_get HBD.out.row, HGL.out⟩)
  clear hE hb HST HBD HBE HLK
  obtain ⟨gE, hgE⟩ : ∃ gE, v.heap.size = gE := ⟨_, rfl⟩
  rw [hgE] at HSD ⊢
  clear hgE
  cases hf : findT d L with
  | none =>
    have hg := HGET.out
    have hdr := HDR.out
    unfold getT at hg
    unfold dropT at hdr
    rw [hf] at hg hdr
    cases hg
    cases hdr
    clear hf
    go_wp2_with fail
    go_ret2
    exact ⟨rfl, HSD.out.st, Touch.of_below HSD.out.bel⟩
  | some p =>
    obtain ⟨j, y⟩ := p
    have hg := HGET.out
    have hdr := HDR.out
    unfold getT at hg
    unfold dropT at hdr
    rw [hf] at hg hdr
    cases hg
    obtain ⟨hr1, hr2⟩ := HRN.out.find hf
    have HDR2 := Hid.mk hdr
    clear hf HGET HDR HRN hdr
    obtain ⟨yd, ys, yr⟩ := y
    simp only at HSD hr1 hr2 HDR2 ⊢
    have c1 := HSD.out.eb.c1
    have cf := HSD.out.eb.fz
    go_upto_region 5 with fail
    have HS2 := Hid.mk (HSD.out.put (r' := yr - 1))
    refine gen_w (p := fun v => Code.wp _ _ _ _ v) (q := fun v => Sd w v g m most L w.heap.size gE d ys (yr - 1)) HS2.out ?_
    clear HS2 HSD c1 cf
    intro u2 hs2
    have c1 := hs2.eb.c1
    have HS2 := Hid.mk hs2
    clear hs2
    by_cases hgt : 0 < yr - 1
    · have hgi : yr - 1 > 0 := hgt
      have hdr := HDR2.out
      rw [if_pos hgt] at hdr
      cases hdr
      go_upto_region 6 with fail
      rename_i KK hkk
      refine wp_region_held_drew (S := Sx g m w.heap.size gE d ys (yr - 1)) (by kernel_rfl) (HS2.out.go (Below.refl _ _).drew).sx (fun hS => ?_)
      have hd2 := HS2.out.go (Below.refl _ _).drew
      obtain ⟨ob, hup, hma⟩ := upd_run hd2.st.mp ⟨d, ys, yr - 1⟩ HD.out
      refine rd_take 0 26 (.pointer (some ⟨g, 0, none⟩)) rfl rfl (by kernel_rfl) (by kernel_rfl) (by kernel_rfl) (fun _ _ _ h => h) (by kernel_rfl) (fun v _ => by kernel_rfl) hS ?_
      refine rd_take 1 27 (.pointer (some ⟨g, 0, none⟩)) rfl rfl (by kernel_rfl) (by kernel_rfl) (by kernel_rfl) (fun _ _ _ h => h) (by kernel_rfl) (fun v _ => by kernel_rfl) hS ?_
      refine rd_take 2 28 (.pointer (some ⟨g, 1, none⟩)) rfl rfl (by kernel_rfl) (by kernel_rfl) (by kernel_rfl) (fun _ _ _ h => h) (by kernel_rfl) (fun v _ => by kernel_rfl) hS ?_
      refine rd_take 3 29 (.map (some m)) rfl rfl (by kernel_rfl) (by kernel_rfl) (by kernel_rfl) (fun _ _ _ h => h) (by kernel_rfl) (fun v' hv => rd_loadM rfl (by kernel_rfl) hv.1) hS ?_
      refine rd_take 4 30 (.agg (B8 d)) rfl rfl (by kernel_rfl) (by kernel_rfl) (by kernel_rfl) (fun _ _ _ h => h) (by kernel_rfl) (fun v' hv => rd_loadDd rfl (by kernel_rfl) hv.2.1) hS ?_
      refine rd_take 5 31 (.agg #[.string ys, .int .i64 (yr - 1)]) rfl rfl (by kernel_rfl) (by kernel_rfl) (by kernel_rfl) (fun _ _ _ h => h) (by kernel_rfl) (fun v' hv => rd_loadE rfl (by kernel_rfl) hv.2.2) hS ?_
      refine wpAnyH_ready (rs := [6]) (by kernel_rfl) (by simp) ?_
      refine rd_run0 6 rfl rfl (by kernel_rfl) (rd_upd rfl (by kernel_rfl) (by kernel_rfl) (by kernel_rfl) hup) (hd2.set ob) ?_ AllReadyH.nil
      refine wpAnyH_done (by kernel_rfl) ?_ _
      refine hkk _ _ ?_
      have HEND := Hid.mk (show Sto (setBlock u2.drew m ob) g m most (putT ⟨d, ys, yr - 1⟩ L) ∧ Touch m w (setBlock u2.drew m ob) from ⟨hd2.st.set hma, hd2.touch ob⟩)
      clear hkk hS hd2 hup hma
      go_frame
      go_wp2_with fail
      go_ret2
      exact ⟨rfl, HEND.out.1, HEND.out.2⟩
    · have hgi : ¬ yr - 1 > 0 := hgt
      have hdr := HDR2.out
      rw [if_neg hgt] at hdr
      cases hdr
      go_upto_region 8 with fail
      rename_i KK hkk
      refine wp_region_held_drew (S := Sx g m w.heap.size gE d ys (yr - 1)) (by kernel_rfl) (HS2.out.go (Below.refl _ _).drew).sx (fun hS => ?_)
      have hd2 := HS2.out.go (Below.refl _ _).drew
      obtain ⟨ob, hup, hma⟩ := del_run hd2.st.mp d HD.out 0
      refine rd_take 0 32 (.pointer (some ⟨g, 0, none⟩)) rfl rfl (by kernel_rfl) (by kernel_rfl) (by kernel_rfl) (fun _ _ _ h => h) (by kernel_rfl) (fun v _ => by kernel_rfl) hS ?_
      refine rd_take 1 33 (.pointer (some ⟨g, 0, none⟩)) rfl rfl (by kernel_rfl) (by kernel_rfl) (by kernel_rfl) (fun _ _ _ h => h) (by kernel_rfl) (fun v _ => by kernel_rfl) hS ?_
      refine rd_take 2 34 (.pointer (some ⟨g, 1, none⟩)) rfl rfl (by kernel_rfl) (by kernel_rfl) (by kernel_rfl) (fun _ _ _ h => h) (by kernel_rfl) (fun v _ => by kernel_rfl) hS ?_
      refine rd_take 3 35 (.map (some m)) rfl rfl (by kernel_rfl) (by kernel_rfl) (by kernel_rfl) (fun _ _ _ h => h) (by kernel_rfl) (fun v' hv => rd_loadM rfl (by kernel_rfl) hv.1) hS ?_
      refine rd_take 4 36 (.agg (B8 d)) rfl rfl (by kernel_rfl) (by kernel_rfl) (by kernel_rfl) (fun _ _ _ h => h) (by kernel_rfl) (fun v' hv => rd_loadDd rfl (by kernel_rfl) hv.2.1) hS ?_
      refine wpAnyH_ready (rs := [5]) (by kernel_rfl) (by simp) ?_
      refine rd_runN 5 _ rfl rfl (by kernel_rfl) (rd_del rfl (by kernel_rfl) (by kernel_rfl) hup) (hd2.set ob) ?_ AllReadyH.nil
      refine wpAnyH_done (by kernel_rfl) ?_ _
      refine hkk _ _ ?_
      have HEND := Hid.mk (show Sto (setBlock u2.drew m ob) g m most (delT d L) ∧ Touch m w (setBlock u2.drew m ob) from ⟨hd2.st.set hma, hd2.touch ob⟩)
      clear hkk hS hd2 hup hma
      go_frame
      go_wp2_with fail
      go_ret2
      exact ⟨rfl, HEND.out.1, HEND.out.2⟩
end Go.Proofs.Ytjpcfdhkgfaeeaa
/- What Put of a store answers. -/
namespace Go.Proofs.Ytjpcfdhkgfaeeaa
open Go.RowKit
open Di (dref dref_len)
open Go.ChangeMaps (setBlock)
set_option linter.unusedVariables false
set_option maxRecDepth 100000
section
variable {a : Act} {w : World}
theorem rd_convX {t u : TypeId} {x : Operand} {v r : Value} {w' : World} {o : Oper} (ho : o.op = .convert t u x) (hx : a.eval x = v) (hc : (convert t u v).run Try.prog w = .ok r w') : (execOp a.eval o).run Try.prog w = .ok (.value r) w' := by
  simp [execOp, ho, hx, hc, Result.andThen]
theorem rd_geqi {p q : Int} {r : TypeId} {x y : Operand} {b : Bool} {o : Oper} (ho : o.op = .binOp .geq 3 x y r) (hx : a.eval x = .int .i64 p) (hy : a.eval y = .int .i64 q) (hb : decide (p ≥ q) = b) : (execOp a.eval o).run Try.prog w = .ok (.value (.bool b)) w := by
  subst hb
  unfold execOp
  rw [ho]
  simp only [hx, hy]
  go_simp
theorem rd_neqS {p q : ByteArray} {r : TypeId} {x y : Operand} {b : Bool} {o : Oper} (ho : o.op = .binOp .neq 9 x y r) (hx : a.eval x = .string p) (hy : a.eval y = .string q) (hb : (!(p.toList == q.toList)) = b) : (execOp a.eval o).run Try.prog w = .ok (.value (.bool b)) w := by
  subst hb
  unfold execOp
  rw [ho]
  simp only [hx, hy]
  go_simp
end
theorem rd_lenL {a : Act} {w : World} {x : Operand} {m : Nat} {L : List Th} {o : Oper} (ho : o.op = .call { callee := .builtin .len, args := #[x], argTypes := #[67] }) (hx : a.eval x = .map (some m)) (h : MapAt w m L) : (execOp a.eval o).run Try.prog w = .ok (.value (.int .i64 L.length)) w := by
  obtain ⟨_, es, clock, hm, he, _⟩ := h
  have hl := he.len
  rw [Array.length_toList] at hl
  rw [← hl]
  exact rd_lenM ho hx hm
theorem text_ne {p q : ByteArray} : (!(p.toList == q.toList)) = decide (p ≠ q) := by
  by_cases h : p = q
  · simp [h]
  · have : ¬ p.toList = q.toList := fun e => h (by
      rw [← str_nums p, ← str_nums q]
      have : p.data.toList = q.data.toList := by rw [ByteArray.toList_eq, ByteArray.toList_eq] at e; exact e
      unfold nums
      rw [this])
    simp [h, this]
/-- What Put does. -/
def putP (most : Int) (s : ByteArray) (L : List Th) : List Th × List Int × Int := match findT (dref (nums s)) L with
  | none => if most ≤ L.length then (L, z32, 62) else (putT ⟨dref (nums s), s, 1⟩ L, dref (nums s), 0)
  | some (_, y) => if y.s ≠ s then (L, z32, 60) else if 4294967295 ≤ y.r then (L, z32, 62) else (putT ⟨dref (nums s), s, y.r + 1⟩ L, dref (nums s), 0)
/-- Texts are no longer than may be. -/
def Szs (L : List Th) : Prop := ∀ x ∈ L, x.s.size ≤ 140737488351232
theorem putP_len (most : Int) (s : ByteArray) (L : List Th) : (putP most s L).2.1.length = 32 := by
  unfold putP
  split
  · split
    · rfl
    · exact dref_len _
  · split
    · rfl
    · split
      · rfl
      · exact dref_len _
/-- The store, the result's box and the digest's, while Put goes on. -/
structure Pd (w v : World) (g m : Nat) (most : Int) (L : List Th) (gD : Nat) (d : List Int) : Prop where
  st : Sto v g m most L
  rb : DBx w.heap.size v z32
  db : DBx gD v d
  bel : Below w.heap.size w v
  gd : w.heap.size < gD
  gl : g < w.heap.size ∧ m < w.heap.size
theorem Pd.go {w v v' : World} {g m : Nat} {most : Int} {L : List Th} {gD : Nat} {d : List Int} (h : Pd w v g m most L gD d) (hb : Below v.heap.size v v') : Pd w v' g m most L gD d := ⟨h.st.go hb, h.rb.go hb, h.db.go hb, below_go h.bel hb, h.gd, h.gl⟩
theorem Pd.sd {w v : World} {g m : Nat} {most : Int} {L : List Th} {gD gE : Nat} {d : List Int} {s : ByteArray} {r : Int} (h : Pd w v g m most L gD d) (he : EBx gE v s r) (hge : gD < gE) : Sd w v g m most L gD gE d s r := ⟨h.st, h.db, he, h.bel, Nat.le_of_lt h.gd, hge, h.gl⟩
/-- The same, and the entry's. -/
structure Pe (w v : World) (g m : Nat) (most : Int) (L : List Th) (gD gE : Nat) (d : List Int) (s : ByteArray) (r : Int) : Prop where
  sd : Sd w v g m most L gD gE d s r
  rb : DBx w.heap.size v z32
  lt : w.heap.size < gD
theorem Pe.go {w v v' : World} {g m : Nat} {most : Int} {L : List Th} {gD gE : Nat} {d : List Int} {s : ByteArray} {r : Int} (h : Pe w v g m most L gD gE d s r) (hb : Below v.heap.size v v') : Pe w v' g m most L gD gE d s r := ⟨h.sd.go hb, h.rb.go hb, h.lt⟩
theorem Pe.put {w v : World} {g m : Nat} {most : Int} {L : List Th} {gD gE : Nat} {d : List Int} {s : ByteArray} {r r' : Int} (h : Pe w v g m most L gD gE d s r) : Pe w (v.setCell ⟨gE, 1, none⟩ (.int .i64 r')) g m most L gD gE d s r' := ⟨h.sd.put, ⟨(heap_setCell_other _ _ _ _ (by show w.heap.size ≠ gE; have := h.lt; have := h.sd.ge; omega)).trans h.rb.row, h.rb.l⟩, h.lt⟩
theorem Pe.puts {w v : World} {g m : Nat} {most : Int} {L : List Th} {gD gE : Nat} {d : List Int} {s s' : ByteArray} {r : Int} (h : Pe w v g m most L gD gE d s r) : Pe w (v.setCell ⟨gE, 0, none⟩ (.string s')) g m most L gD gE d s' r := ⟨h.sd.puts, ⟨(heap_setCell_other _ _ _ _ (by show w.heap.size ≠ gE; have := h.lt; have := h.sd.ge; omega)).trans h.rb.row, h.rb.l⟩, h.lt⟩
theorem Sto.res {w : World} {g m k : Nat} {most : Int} {L : List Th} {C : Array Value} (h : Sto w g m most L) (h1 : k ≠ g) (h2 : k ≠ m) : Sto (w.setRow k C) g m most L := ⟨(setRow_other _ _ _ _ (Ne.symm h1)).trans h.row, h.mp.keep (fun _ => setRow_other _ _ _ _ (Ne.symm h2)), h.ne⟩
theorem results_dig {fn : Func} {p u : Tmp} (h : fn.results = #[.cell p 30, .tmp u]) (tmps : Array Value) (w : World) (g : Nat) (d : List Int) (hl : d.length = 32) (hp : tmps.getD p undef = .pointer (some ⟨g, 0, none⟩)) (hg : w.heap[g]? = some (.cells (B8 d) 30)) :
    (results fn tmps).run Try.prog w = .ok (.tuple #[.agg (B8 d), tmps.getD u undef]) w := by
  have hp' : tmps[p]?.getD undef = .pointer (some ⟨g, 0, none⟩) := by simpa using hp
  have hr := run_loadVar_row (P := Try.prog) w g 30 30 (B8 d) (0, 0) _ hg Try.underlying30 rfl (infoD d hl)
  simp [results, h, hp', asAddr, hr]
set_option maxHeartbeats 8000000 in
theorem put_any {w : World} {g m : Nat} {most : Int} {L : List Th} (h : Sto w g m most L) (hr : Rng L) (hz : Szs L) (s : ByteArray) (hs : s.size ≤ 140737488351232) : Calls Try.prog 17 #[.pointer (some ⟨g, 0, none⟩), .string s] w fun e w' => e = .returned (.tuple #[.agg (B8 (putP most s L).2.1), .int .i64 (putP most s L).2.2]) ∧ Sto w' g m most (putP most s L).1 ∧ Touch m w w' := by
  have HST := Hid.mk (h.go (below_new w (.cells (B8 z32) 30)))
  have HBD := Hid.mk (dbx_new w z32 rfl)
  have HBE := Hid.mk (below_new w (.cells (B8 z32) 30))
  have HRN := Hid.mk hr
  have HSZ := Hid.mk hz
  have HGL := Hid.mk h.lts
  have HSS := Hid.mk hs
  obtain ⟨d, hd⟩ : ∃ d, dref (nums s) = d := ⟨_, rfl⟩
  have hdl : d.length = 32 := by rw [← hd]; exact dref_len _
  obtain ⟨⟨L', d', e'⟩, hpr⟩ : ∃ x, putP most s L = x := ⟨_, rfl⟩
  rw [hpr]
  unfold putP at hpr
  rw [hd] at hpr
  have HPR := Hid.mk hpr
  have HD := Hid.mk hd
  have HDL := Hid.mk hdl
  obtain ⟨⟨eS, eR, eB⟩, hget⟩ : ∃ x, getT d L = x := ⟨_, rfl⟩
  have HLK := Hid.mk (show ∀ v, Sto v g m most L → (Instr.lookup 67 (.map (some m)) (.agg (B8 d)) true).run Try.prog v = .ok (.tuple #[.agg #[.string eS, .int .i64 eR], .bool eB]) v from fun v hv => by have := look_get hv.mp d hdl; rwa [hget] at this)
  have HGET := Hid.mk hget
  clear h hr hz hs hd hdl hpr hget
  simp only
  go_enter Try.func17, Try.ntmps17
  go_upto_region 1 with fail
  refine gen_w (p := fun v => Code.wp _ _ _ _ v) (q := fun v => Sto v g m most L ∧ DBx w.heap.size v z32 ∧ Below w.heap.size w v) ⟨HST.out, HBD.out, HBE.out⟩ ?_
  clear HST HBD HBE
  rintro v0 ⟨hst, hbd, hbe⟩
  have HST := Hid.mk hst
  have HRB := Hid.mk hbd
  have HBE := Hid.mk hbe
  clear hst hbd hbe
  rename_i KK hkk
  refine wp_region_lit ?_
  refine wl_pure 10 (.string s) rfl (by kernel_rfl) (by kernel_rfl) ?_
  refine wl_pure 11 (.iface 34 (.string s)) rfl (by kernel_rfl) (by kernel_rfl) ?_
  refine wl_call 12 rfl (by kernel_rfl) 23 #[.string s] (by kernel_rfl) (R := fun val w' => val = .slice (some ⟨v0.heap.size, 0, none⟩) s.size (grownCap v0 s.size 0 5) ∧ w' = Lib.bytesWorld v0 5 s) ((bytes_any s v0).mono (fun e w' h => ⟨_, h.1, rfl, h.2⟩)) ?_
  rintro val v1' ⟨rfl, rfl⟩
  refine wl_pure 13 (.string s) rfl (by kernel_rfl) (rd_convX rfl (by kernel_rfl) (ag_str (bytes_ag v0 s HSS.out))) ?_
  refine wl_pure 6 (.string s) rfl (by kernel_rfl) (by kernel_rfl) ?_
  refine hkk _ _ ?_
  have hb1 := bytes_below v0 s
  have hst1 := HST.out.go hb1
  have hrb1 := HRB.out.go hb1
  have hbe1 := below_go HBE.out hb1
  obtain ⟨cc, hcc⟩ : ∃ cc, grownCap v0 s.size 0 5 = cc := ⟨_, rfl⟩
  rw [hcc]
  generalize Lib.bytesWorld v0 5 s = v1 at hst1 hrb1 hbe1 ⊢
  clear HST HRB HBE hb1 hkk hcc
  have HST := Hid.mk hst1
  have HRB := Hid.mk hrb1
  have HBE := Hid.mk hbe1
  clear hst1 hrb1 hbe1
  go_frame
  go_upto_region 2 with fail
  rename_i KK hkk
  refine wp_region_lit ?_
  refine wl_pure 14 (.string s) rfl (by kernel_rfl) (by kernel_rfl) ?_
  refine wl_run 15 (.slice (some ⟨v1.heap.size, 0, none⟩) s.size (grownCap v1 s.size 0 5)) rfl (by kernel_rfl) (rd_convX rfl (by kernel_rfl) (str_conv v1 s)) ?_
  have hag := bytes_ag v1 s HSS.out
  refine wl_call 16 rfl (by kernel_rfl) 31 #[.slice (some ⟨v1.heap.size, 0, none⟩) s.size (grownCap v1 s.size 0 5)] (by kernel_rfl) (R := fun val w' => val = .agg (B8 d) ∧ Below (Lib.bytesWorld v1 5 s).heap.size (Lib.bytesWorld v1 5 s) w') ((Di.of_any _ _ _ (nums s) _ hag.i hag.l.symm (nums_b s) (by have := HSS.out; omega)).mono (fun e w' h => ⟨_, h.1, by rw [HD.out]; rfl, h.2⟩)) ?_
  rintro val v2 ⟨rfl, hb2⟩
  have hbb := below_go (bytes_below v1 s) hb2
  refine wl_run 7 (.pointer (some ⟨v2.heap.size, 0, none⟩)) rfl (by kernel_rfl) (rd_allocD rfl) ?_
  refine wl_skip rfl (by kernel_rfl) (rd_store 30 _ _ rfl v2.heap.size (B8 d) (by kernel_rfl) (by kernel_rfl) 30 (B8 z32) (heap_alloc_new _ _) (infoD d HDL.out) (z8_size HDL.out) (B8_ones _)) ?_
  refine hkk _ _ ?_
  have hb3 : Below v2.heap.size v2 ((v2.alloc (.cells (B8 z32) 30)).setRow v2.heap.size (B8 d)) := Below.setRow (below_new _ _) (Nat.le_refl _) _
  have hb4 := below_go hbb hb3
  have HPD := Hid.mk (show Pd w ((v2.alloc (.cells (B8 z32) 30)).setRow v2.heap.size (B8 d)) g m most L v2.heap.size d from ⟨HST.out.go hb4, HRB.out.go hb4, ⟨setRow_heap _ _ _ _ _ _ (heap_alloc_new _ _), HDL.out⟩, below_go HBE.out hb4, by have h1 := lt_of_get HRB.out.row; have h2 := hbb.size; omega, HGL.out⟩)
  generalize (v2.alloc (.cells (B8 z32) 30)).setRow v2.heap.size (B8 d) = v at HPD ⊢
  obtain ⟨gD, hgD⟩ : ∃ gD, v2.heap.size = gD := ⟨_, rfl⟩
  rw [hgD] at HPD ⊢
  obtain ⟨c2, hc2⟩ : ∃ c2, grownCap v1 s.size 0 5 = c2 := ⟨_, rfl⟩
  rw [hc2]
  clear HST HRB HBE hb2 hb3 hb4 hbb hag hkk hgD hc2
  go_frame
  go_upto_region 3 with fail
  have HST := Hid.mk HPD.out.st
  have HBD := Hid.mk HPD.out.db
  rename_i KK hkk
  refine wp_region_held_drew (S := fun v' => Sto v' g m most L ∧ DBx gD v' d) (by kernel_rfl) ⟨HST.out.go (Below.refl _ _).drew, HBD.out.go (Below.refl _ _).drew⟩ (fun hS => ?_)
  refine rd_take 0 18 (.pointer (some ⟨g, 0, none⟩)) rfl rfl (by kernel_rfl) (by kernel_rfl) (by kernel_rfl) (fun _ _ _ h => h) (by kernel_rfl) (fun v _ => by kernel_rfl) hS ?_
  refine rd_take 1 19 (.pointer (some ⟨g, 0, none⟩)) rfl rfl (by kernel_rfl) (by kernel_rfl) (by kernel_rfl) (fun _ _ _ h => h) (by kernel_rfl) (fun v _ => by kernel_rfl) hS ?_
  refine rd_take 2 20 (.pointer (some ⟨g, 1, none⟩)) rfl rfl (by kernel_rfl) (by kernel_rfl) (by kernel_rfl) (fun _ _ _ h => h) (by kernel_rfl) (fun v _ => by kernel_rfl) hS ?_
  refine rd_take 3 21 (.map (some m)) rfl rfl (by kernel_rfl) (by kernel_rfl) (by kernel_rfl) (fun _ _ _ h => h) (by kernel_rfl) (fun v' hv => rd_loadM rfl (by kernel_rfl) hv.1.c1) hS ?_
  refine rd_take 4 22 (.agg (B8 d)) rfl rfl (by kernel_rfl) (by kernel_rfl) (by kernel_rfl) (fun _ _ _ h => h) (by kernel_rfl) (fun v' hv => rd_loadDd rfl (by kernel_rfl) hv.2) hS ?_
  refine rd_take 5 23 (.tuple #[.agg #[.string eS, .int .i64 eR], .bool eB]) rfl rfl (by kernel_rfl) (by kernel_rfl) (by kernel_rfl) (fun _ _ _ h => h) (by kernel_rfl) (fun v' hv => rd_look rfl (by kernel_rfl) (by kernel_rfl) (HLK.out v' hv.1)) hS ?_
  refine rd_take 6 17 (.tuple #[.agg #[.string eS, .int .i64 eR], .bool eB]) rfl rfl (by kernel_rfl) (by kernel_rfl) (by kernel_rfl) (fun _ _ _ h => h) (by kernel_rfl) (fun v _ => by kernel_rfl) hS ?_
  refine rd_take 7 24 (.agg #[.string eS, .int .i64 eR]) rfl rfl (by kernel_rfl) (by kernel_rfl) (by kernel_rfl) (fun _ _ _ h => h) (by kernel_rfl) (fun v _ => by kernel_rfl) hS ?_
  refine rd_take 8 25 (.bool eB) rfl rfl (by kernel_rfl) (by kernel_rfl) (by kernel_rfl) (fun _ _ _ h => h) (by kernel_rfl) (fun v _ => by kernel_rfl) hS ?_
  refine wpAnyH_ready (rs := [9]) (by kernel_rfl) (by simp) ?_
  refine rd_run 9 8 (.pointer (some ⟨v.heap.size, 0, none⟩)) rfl rfl (by kernel_rfl) (rd_allocE rfl) ⟨hS.1.go (below_new _ _), hS.2.go (below_new _ _)⟩ ?_ AllReadyH.nil
  refine wpAnyH_ready (rs := [10]) (by kernel_rfl) (by simp) ?_
  refine rd_run0 10 rfl rfl (by kernel_rfl) (rd_store 72 _ _ rfl v.heap.size #[.string eS, .int .i64 eR] (by kernel_rfl) (by kernel_rfl) 72 #[.string ByteArray.empty, .int .i64 0] (heap_alloc_new v.drew _) (by kernel_rfl) rfl (e_one _ _)) ⟨hS.1.go (ebox_below _ _ _), hS.2.go (ebox_below _ _ _)⟩ ?_ AllReadyH.nil
  refine rd_take 11 9 (.bool eB) rfl rfl (by kernel_rfl) (by kernel_rfl) (by kernel_rfl) (fun _ _ _ h => h) (by kernel_rfl) (fun v _ => by kernel_rfl) ⟨hS.1.go (ebox_below _ _ _), hS.2.go (ebox_below _ _ _)⟩ ?_
  refine wpAnyH_done (by kernel_rfl) ?_ _
  refine hkk _ _ ?_
  have hE : EBx v.heap.size ((v.drew.alloc (.cells #[.string ByteArray.empty, .int .i64 0] 72)).setRow v.heap.size #[.string eS, .int .i64 eR]) eS eR := setRow_heap _ _ _ _ _ _ (heap_alloc_new v.drew _)
  have hb : Below v.heap.size v ((v.drew.alloc (.cells #[.string ByteArray.empty, .int .i64 0] 72)).setRow v.heap.size #[.string eS, .int .i64 eR]) := below_go (Below.refl _ _).drew (ebox_below v.drew _ _)
  generalize (v.drew.alloc (.cells #[.string ByteArray.empty, .int .i64 0] 72)).setRow v.heap.size #[.string eS, .int .i64 eR] = u at hE hb ⊢
  clear hS hkk
  go_frame
  have HPE := Hid.mk (show Pe w u g m most L gD v.heap.size d eS eR from ⟨(HPD.out.go hb).sd hE (lt_of_get HPD.out.db.row), HPD.out.rb.go hb, HPD.out.gd⟩)
  clear hE hb HST HBD HPD HLK
  obtain ⟨gE, hgE⟩ : ∃ gE, v.heap.size = gE := ⟨_, rfl⟩
  rw [hgE] at HPE ⊢
  clear hgE
  cases hf : findT d L with
  | none =>
    have hg := HGET.out
    have hpr := HPR.out
    unfold getT at hg
    rw [hf] at hg hpr
    cases hg
    simp only at hpr
    have HPR2 := Hid.mk hpr
    clear hf HPR HGET hpr
    go_upto_region 7 with fail
    rename_i KK hkk
    by_cases hfull : most ≤ L.length
    · have hpr := HPR2.out
      rw [if_pos hfull] at hpr
      cases hpr
      refine wp_region_held_drew (S := fun v' => Sto v' g m most L) (by kernel_rfl) (HPE.out.sd.st.go (Below.refl _ _).drew) (fun hS => ?_)
      refine rd_take 0 45 (.bool false) rfl rfl (by kernel_rfl) (by kernel_rfl) (by kernel_rfl) (fun _ _ _ h => h) (by kernel_rfl) (fun v _ => by kernel_rfl) hS ?_
      refine rd_take 1 46 (.bool true) rfl rfl (by kernel_rfl) (by kernel_rfl) (by kernel_rfl) (fun _ _ _ h => h) (by kernel_rfl) (fun v _ => by kernel_rfl) hS ?_
      refine rd_take 2 47 (.bool true) rfl rfl (by kernel_rfl) (by kernel_rfl) (by kernel_rfl) (fun _ _ _ h => h) (by kernel_rfl) (fun v _ => by kernel_rfl) hS ?_
      refine rd_take 3 48 (.pointer (some ⟨g, 0, none⟩)) rfl rfl (by kernel_rfl) (by kernel_rfl) (by kernel_rfl) (fun _ _ _ h => h) (by kernel_rfl) (fun v _ => by kernel_rfl) hS ?_
      refine rd_take 4 49 (.pointer (some ⟨g, 0, none⟩)) rfl rfl (by kernel_rfl) (by kernel_rfl) (by kernel_rfl) (fun _ _ _ h => h) (by kernel_rfl) (fun v _ => by kernel_rfl) hS ?_
      refine rd_take 5 50 (.pointer (some ⟨g, 1, none⟩)) rfl rfl (by kernel_rfl) (by kernel_rfl) (by kernel_rfl) (fun _ _ _ h => h) (by kernel_rfl) (fun v _ => by kernel_rfl) hS ?_
      refine rd_take 6 51 (.map (some m)) rfl rfl (by kernel_rfl) (by kernel_rfl) (by kernel_rfl) (fun _ _ _ h => h) (by kernel_rfl) (fun v' hv => rd_loadM rfl (by kernel_rfl) hv.c1) hS ?_
      refine rd_take 7 52 (.int .i64 L.length) rfl rfl (by kernel_rfl) (by kernel_rfl) (by kernel_rfl) (fun _ _ _ h => h) (by kernel_rfl) (fun v' hv => rd_lenL rfl (by kernel_rfl) hv.mp) hS ?_
      refine rd_take 8 53 (.pointer (some ⟨g, 0, none⟩)) rfl rfl (by kernel_rfl) (by kernel_rfl) (by kernel_rfl) (fun _ _ _ h => h) (by kernel_rfl) (fun v _ => by kernel_rfl) hS ?_
      refine rd_take 9 54 (.pointer (some ⟨g, 0, none⟩)) rfl rfl (by kernel_rfl) (by kernel_rfl) (by kernel_rfl) (fun _ _ _ h => h) (by kernel_rfl) (fun v _ => by kernel_rfl) hS ?_
      refine rd_take 10 55 (.pointer (some ⟨g, 0, none⟩)) rfl rfl (by kernel_rfl) (by kernel_rfl) (by kernel_rfl) (fun _ _ _ h => h) (by kernel_rfl) (fun v _ => by kernel_rfl) hS ?_
      refine rd_take 11 56 (.int .i64 most) rfl rfl (by kernel_rfl) (by kernel_rfl) (by kernel_rfl) (fun _ _ _ h => h) (by kernel_rfl) (fun v' hv => rd_loadi rfl (by kernel_rfl) hv.c0) hS ?_
      refine rd_take 12 57 (.bool true) rfl rfl (by kernel_rfl) (by kernel_rfl) (by kernel_rfl) (fun _ _ _ h => h) (by kernel_rfl) (fun v' _ => rd_geqi rfl (by kernel_rfl) (by kernel_rfl) (decide_eq_true hfull)) hS ?_
      refine rd_take 13 58 (.bool true) rfl rfl (by kernel_rfl) (by kernel_rfl) (by kernel_rfl) (fun _ _ _ h => h) (by kernel_rfl) (fun v _ => by kernel_rfl) hS ?_
      refine rd_take 14 38 (.bool true) rfl rfl (by kernel_rfl) (by kernel_rfl) (by kernel_rfl) (fun _ _ _ h => h) (by kernel_rfl) (fun v _ => by kernel_rfl) hS ?_
      refine wpAnyH_done (by kernel_rfl) ?_ _
      refine hkk _ _ ?_
      have hPE := HPE.out.go (Below.refl _ _).drew
      clear HPE hS hkk
      generalize u.drew = u at hPE ⊢
      have HPE := Hid.mk hPE
      clear hPE
      go_frame
      go_upto_region 8 with fail
      go_wp2_with (first | refine wpList_store_row rfl 30 _ _ rfl _ (B8 z32) rfl rfl 30 _ HPE.out.rb.row (infoD z32 rfl) (z8_size rfl) (B8_ones _) ?_)
      refine bodyPost_ret (results_dig Try.results17 _ _ w.heap.size z32 rfl rfl (setRow_heap _ _ _ _ _ _ HPE.out.rb.row)) rfl ?_
      exact ⟨rfl, HPE.out.sd.st.res (by have := HGL.out; omega) (by have := HGL.out; omega), Touch.of_below (Below.setRow HPE.out.sd.bel (Nat.le_refl _) _)⟩
    · have hpr := HPR2.out
      rw [if_neg hfull] at hpr
      cases hpr
      refine wp_region_held_drew (S := fun v' => Sto v' g m most L) (by kernel_rfl) (HPE.out.sd.st.go (Below.refl _ _).drew) (fun hS => ?_)
      refine rd_take 0 45 (.bool false) rfl rfl (by kernel_rfl) (by kernel_rfl) (by kernel_rfl) (fun _ _ _ h => h) (by kernel_rfl) (fun v _ => by kernel_rfl) hS ?_
      refine rd_take 1 46 (.bool true) rfl rfl (by kernel_rfl) (by kernel_rfl) (by kernel_rfl) (fun _ _ _ h => h) (by kernel_rfl) (fun v _ => by kernel_rfl) hS ?_
      refine rd_take 2 47 (.bool true) rfl rfl (by kernel_rfl) (by kernel_rfl) (by kernel_rfl) (fun _ _ _ h => h) (by kernel_rfl) (fun v _ => by kernel_rfl) hS ?_
      refine rd_take 3 48 (.pointer (some ⟨g, 0, none⟩)) rfl rfl (by kernel_rfl) (by kernel_rfl) (by kernel_rfl) (fun _ _ _ h => h) (by kernel_rfl) (fun v _ => by kernel_rfl) hS ?_
      refine rd_take 4 49 (.pointer (some ⟨g, 0, none⟩)) rfl rfl (by kernel_rfl) (by kernel_rfl) (by kernel_rfl) (fun _ _ _ h => h) (by kernel_rfl) (fun v _ => by kernel_rfl) hS ?_
      refine rd_take 5 50 (.pointer (some ⟨g, 1, none⟩)) rfl rfl (by kernel_rfl) (by kernel_rfl) (by kernel_rfl) (fun _ _ _ h => h) (by kernel_rfl) (fun v _ => by kernel_rfl) hS ?_
      refine rd_take 6 51 (.map (some m)) rfl rfl (by kernel_rfl) (by kernel_rfl) (by kernel_rfl) (fun _ _ _ h => h) (by kernel_rfl) (fun v' hv => rd_loadM rfl (by kernel_rfl) hv.c1) hS ?_
      refine rd_take 7 52 (.int .i64 L.length) rfl rfl (by kernel_rfl) (by kernel_rfl) (by kernel_rfl) (fun _ _ _ h => h) (by kernel_rfl) (fun v' hv => rd_lenL rfl (by kernel_rfl) hv.mp) hS ?_
      refine rd_take 8 53 (.pointer (some ⟨g, 0, none⟩)) rfl rfl (by kernel_rfl) (by kernel_rfl) (by kernel_rfl) (fun _ _ _ h => h) (by kernel_rfl) (fun v _ => by kernel_rfl) hS ?_
      refine rd_take 9 54 (.pointer (some ⟨g, 0, none⟩)) rfl rfl (by kernel_rfl) (by kernel_rfl) (by kernel_rfl) (fun _ _ _ h => h) (by kernel_rfl) (fun v _ => by kernel_rfl) hS ?_
      refine rd_take 10 55 (.pointer (some ⟨g, 0, none⟩)) rfl rfl (by kernel_rfl) (by kernel_rfl) (by kernel_rfl) (fun _ _ _ h => h) (by kernel_rfl) (fun v _ => by kernel_rfl) hS ?_
      refine rd_take 11 56 (.int .i64 most) rfl rfl (by kernel_rfl) (by kernel_rfl) (by kernel_rfl) (fun _ _ _ h => h) (by kernel_rfl) (fun v' hv => rd_loadi rfl (by kernel_rfl) hv.c0) hS ?_
      refine rd_take 12 57 (.bool false) rfl rfl (by kernel_rfl) (by kernel_rfl) (by kernel_rfl) (fun _ _ _ h => h) (by kernel_rfl) (fun v' _ => rd_geqi rfl (by kernel_rfl) (by kernel_rfl) (decide_eq_false hfull)) hS ?_
      refine rd_take 13 58 (.bool false) rfl rfl (by kernel_rfl) (by kernel_rfl) (by kernel_rfl) (fun _ _ _ h => h) (by kernel_rfl) (fun v _ => by kernel_rfl) hS ?_
      refine rd_take 14 38 (.bool false) rfl rfl (by kernel_rfl) (by kernel_rfl) (by kernel_rfl) (fun _ _ _ h => h) (by kernel_rfl) (fun v _ => by kernel_rfl) hS ?_
      refine wpAnyH_done (by kernel_rfl) ?_ _
      refine hkk _ _ ?_
      have hPE := HPE.out.go (Below.refl _ _).drew
      clear HPE hS hkk
      generalize u.drew = u at hPE ⊢
      have HPE := Hid.mk hPE
      clear hPE
      go_frame
      have c0 := HPE.out.sd.eb.c0
      have cf := HPE.out.sd.eb.fz
      go_upto_region 11 with fail
      have hP2 := HPE.out.puts (s' := s)
      refine gen_w (p := fun v => Code.wp _ _ _ _ v) (q := fun v => Pe w v g m most L gD gE d s 0) hP2 ?_
      clear HPE hP2 c0 cf
      intro u2' hp2
      have HPE := Hid.mk hp2
      clear hp2
      have c1 := HPE.out.sd.eb.c1
      have cf := HPE.out.sd.eb.fz
      go_upto_region 12 with fail
      have hP2 := HPE.out.put (r' := 0 + 1)
      refine gen_w (p := fun v => Code.wp _ _ _ _ v) (q := fun v => Pe w v g m most L gD gE d s (0 + 1)) hP2 ?_
      clear HPE hP2 c1 cf
      intro u2 hp2
      have HPE := Hid.mk hp2
      clear hp2
      rename_i KK hkk
      refine wp_region_held_drew (S := Sx g m gD gE d s (0 + 1)) (by kernel_rfl) (HPE.out.sd.go (Below.refl _ _).drew).sx (fun hS => ?_)
      have hd2 := HPE.out.sd.go (Below.refl _ _).drew
      obtain ⟨ob, hup, hma⟩ := upd_run hd2.st.mp ⟨d, s, 0 + 1⟩ HDL.out
      refine rd_take 0 69 (.pointer (some ⟨g, 0, none⟩)) rfl rfl (by kernel_rfl) (by kernel_rfl) (by kernel_rfl) (fun _ _ _ h => h) (by kernel_rfl) (fun v _ => by kernel_rfl) hS ?_
      refine rd_take 1 70 (.pointer (some ⟨g, 0, none⟩)) rfl rfl (by kernel_rfl) (by kernel_rfl) (by kernel_rfl) (fun _ _ _ h => h) (by kernel_rfl) (fun v _ => by kernel_rfl) hS ?_
      refine rd_take 2 71 (.pointer (some ⟨g, 1, none⟩)) rfl rfl (by kernel_rfl) (by kernel_rfl) (by kernel_rfl) (fun _ _ _ h => h) (by kernel_rfl) (fun v _ => by kernel_rfl) hS ?_
      refine rd_take 3 72 (.map (some m)) rfl rfl (by kernel_rfl) (by kernel_rfl) (by kernel_rfl) (fun _ _ _ h => h) (by kernel_rfl) (fun v' hv => rd_loadM rfl (by kernel_rfl) hv.1) hS ?_
      refine rd_take 4 73 (.agg (B8 d)) rfl rfl (by kernel_rfl) (by kernel_rfl) (by kernel_rfl) (fun _ _ _ h => h) (by kernel_rfl) (fun v' hv => rd_loadDd rfl (by kernel_rfl) hv.2.1) hS ?_
      refine rd_take 5 74 (.agg #[.string s, .int .i64 (0 + 1)]) rfl rfl (by kernel_rfl) (by kernel_rfl) (by kernel_rfl) (fun _ _ _ h => h) (by kernel_rfl) (fun v' hv => rd_loadE rfl (by kernel_rfl) hv.2.2) hS ?_
      refine wpAnyH_ready (rs := [6]) (by kernel_rfl) (by simp) ?_
      refine rd_run0 6 rfl rfl (by kernel_rfl) (rd_upd rfl (by kernel_rfl) (by kernel_rfl) (by kernel_rfl) hup) (hd2.set ob) ?_ AllReadyH.nil
      refine wpAnyH_done (by kernel_rfl) ?_ _
      refine hkk _ _ ?_
      have HEND := Hid.mk (show Sto (setBlock u2.drew m ob) g m most (putT ⟨d, s, 0 + 1⟩ L) ∧ Touch m w (setBlock u2.drew m ob) ∧ DBx w.heap.size (setBlock u2.drew m ob) z32 ∧ DBx gD (setBlock u2.drew m ob) d from ⟨hd2.st.set hma, hd2.touch ob, ⟨(setBlock_other (by have := HGL.out; omega)).trans HPE.out.rb.row, rfl⟩, (hd2.set ob).2.1⟩)
      clear hkk hS hd2 hup hma HPE
      generalize setBlock u2.drew m ob = u3 at HEND ⊢
      go_frame
      go_upto_region 13 with fail
      go_wp2_with (first | refine wpl_loadD rfl _ rfl gD 0 rfl d HDL.out HEND.out.2.2.2.all ?_ | refine wpList_store_row rfl 30 _ _ rfl _ (B8 d) rfl rfl 30 _ HEND.out.2.2.1.row (infoD d HDL.out) (z8_size HDL.out) (B8_ones _) ?_)
      refine bodyPost_ret (results_dig Try.results17 _ _ w.heap.size d HDL.out rfl (setRow_heap _ _ _ _ _ _ HEND.out.2.2.1.row)) rfl ?_
      exact ⟨by first | rfl | (rw [HD.out]), by first | exact HEND.out.1.res (by have := HGL.out; omega) (by have := HGL.out; omega) | (rw [HD.out]; exact HEND.out.1.res (by have := HGL.out; omega) (by have := HGL.out; omega)), ⟨HEND.out.2.1.os, HEND.out.2.1.tape, HEND.out.2.1.output, by simpa using HEND.out.2.1.size, fun k hk hkm => (setRow_other _ _ _ _ (by omega)).trans (HEND.out.2.1.block k hk hkm)⟩⟩
  | some p =>
    obtain ⟨j, y⟩ := p
    have hg := HGET.out
    have hpr := HPR.out
    unfold getT at hg
    rw [hf] at hg hpr
    cases hg
    obtain ⟨hr1, hr2⟩ := HRN.out.find hf
    have HYS := Hid.mk (HSZ.out y (List.mem_of_getElem? (findT_some hf).1))
    simp only at hpr
    have HPR2 := Hid.mk hpr
    clear hf HPR HGET HRN HSZ hpr
    obtain ⟨yd, ys, yr⟩ := y
    simp only at HPE hr1 hr2 HPR2 HYS ⊢
    go_upto_region 4 with fail
    have c0 := HPE.out.sd.eb.c0
    go_wp2_with fail
    refine (bytes_any ys u).mono ?_
    rintro e u1' ⟨rfl, rfl⟩
    have k1 := ag_str (bytes_ag u ys HYS.out)
    have hPE := HPE.out.go (bytes_below u ys)
    clear HPE c0
    obtain ⟨cu, hcu⟩ : ∃ cu, grownCap u ys.size 0 5 = cu := ⟨_, rfl⟩
    rw [hcu] at k1 ⊢
    obtain ⟨gu, hgu⟩ : ∃ gu, u.heap.size = gu := ⟨_, rfl⟩
    rw [hgu] at k1 ⊢
    generalize Lib.bytesWorld u 5 ys = u1 at hPE k1 ⊢
    have HPE := Hid.mk hPE
    clear hPE hcu hgu
    by_cases hne : ys ≠ s
    · have hpr := HPR2.out
      rw [if_pos hne] at hpr
      cases hpr
      have hss : (!ys.toList == s.toList) = true := by rw [text_ne, decide_eq_true hne]
      go_upto_region 5 with fail
      go_wp2_with (first | refine wpList_store_row rfl 30 _ _ rfl _ (B8 z32) rfl rfl 30 _ HPE.out.rb.row (infoD z32 rfl) (z8_size rfl) (B8_ones _) ?_)
      refine bodyPost_ret (results_dig Try.results17 _ _ w.heap.size z32 rfl rfl (setRow_heap _ _ _ _ _ _ HPE.out.rb.row)) rfl ?_
      exact ⟨rfl, HPE.out.sd.st.res (by have := HGL.out; omega) (by have := HGL.out; omega), Touch.of_below (Below.setRow HPE.out.sd.bel (Nat.le_refl _) _)⟩
    · have heq : ys = s := Decidable.byContradiction hne
      subst heq
      have hss : (!ys.toList == ys.toList) = false := by simp
      have hpr := HPR2.out
      rw [if_neg hne] at hpr
      have c1 := HPE.out.sd.eb.c1
      by_cases hmax : 4294967295 ≤ yr
      · have hmi : yr ≥ 4294967295 := hmax
        rw [if_pos hmax] at hpr
        cases hpr
        go_upto_region 8 with fail
        go_wp2_with (first | refine wpList_store_row rfl 30 _ _ rfl _ (B8 z32) rfl rfl 30 _ HPE.out.rb.row (infoD z32 rfl) (z8_size rfl) (B8_ones _) ?_)
        refine bodyPost_ret (results_dig Try.results17 _ _ w.heap.size z32 rfl rfl (setRow_heap _ _ _ _ _ _ HPE.out.rb.row)) rfl ?_
        exact ⟨rfl, HPE.out.sd.st.res (by have := HGL.out; omega) (by have := HGL.out; omega), Touch.of_below (Below.setRow HPE.out.sd.bel (Nat.le_refl _) _)⟩
      · have hmi : ¬ yr ≥ 4294967295 := hmax
        rw [if_neg hmax] at hpr
        cases hpr
        go_upto_region 7 with fail
        rename_i K2 hkk KK2
        refine wp_region_held_drew (S := fun v' => True) (by kernel_rfl) trivial (fun hS => ?_)
        refine rd_take 0 45 (.bool true) rfl rfl (by kernel_rfl) (by kernel_rfl) (by kernel_rfl) (fun _ _ _ h => h) (by kernel_rfl) (fun v _ => by kernel_rfl) hS ?_
        refine rd_take 1 46 (.bool false) rfl rfl (by kernel_rfl) (by kernel_rfl) (by kernel_rfl) (fun _ _ _ h => h) (by kernel_rfl) (fun v _ => by kernel_rfl) hS ?_
        refine rd_take 2 47 (.bool false) rfl rfl (by kernel_rfl) (by kernel_rfl) (by kernel_rfl) (fun _ _ _ h => h) (by kernel_rfl) (fun v _ => by kernel_rfl) hS ?_
        refine rd_skip 3 48 rfl rfl (by kernel_rfl) (by kernel_rfl) (by kernel_rfl) (fun _ _ _ h => h) (by kernel_rfl) hS ?_
        refine rd_skip 4 49 rfl rfl (by kernel_rfl) (by kernel_rfl) (by kernel_rfl) (fun _ _ _ h => h) (by kernel_rfl) hS ?_
        refine rd_skip 5 50 rfl rfl (by kernel_rfl) (by kernel_rfl) (by kernel_rfl) (fun _ _ _ h => h) (by kernel_rfl) hS ?_
        refine rd_skip 6 51 rfl rfl (by kernel_rfl) (by kernel_rfl) (by kernel_rfl) (fun _ _ _ h => h) (by kernel_rfl) hS ?_
        refine rd_skip 7 52 rfl rfl (by kernel_rfl) (by kernel_rfl) (by kernel_rfl) (fun _ _ _ h => h) (by kernel_rfl) hS ?_
        refine rd_skip 8 53 rfl rfl (by kernel_rfl) (by kernel_rfl) (by kernel_rfl) (fun _ _ _ h => h) (by kernel_rfl) hS ?_
        refine rd_skip 9 54 rfl rfl (by kernel_rfl) (by kernel_rfl) (by kernel_rfl) (fun _ _ _ h => h) (by kernel_rfl) hS ?_
        refine rd_skip 10 55 rfl rfl (by kernel_rfl) (by kernel_rfl) (by kernel_rfl) (fun _ _ _ h => h) (by kernel_rfl) hS ?_
        refine rd_skip 11 56 rfl rfl (by kernel_rfl) (by kernel_rfl) (by kernel_rfl) (fun _ _ _ h => h) (by kernel_rfl) hS ?_
        refine rd_skip 12 57 rfl rfl (by kernel_rfl) (by kernel_rfl) (by kernel_rfl) (fun _ _ _ h => h) (by kernel_rfl) hS ?_
        refine rd_take 13 58 (.bool false) rfl rfl (by kernel_rfl) (by kernel_rfl) (by kernel_rfl) (fun _ _ _ h => h) (by kernel_rfl) (fun v _ => by kernel_rfl) hS ?_
        refine rd_take 14 38 (.bool false) rfl rfl (by kernel_rfl) (by kernel_rfl) (by kernel_rfl) (fun _ _ _ h => h) (by kernel_rfl) (fun v _ => by kernel_rfl) hS ?_
        refine wpAnyH_done (by kernel_rfl) ?_ _
        refine hkk _ _ ?_
        have hPE := HPE.out.go (Below.refl _ _).drew
        clear HPE hS hkk c1
        generalize u1.drew = u at hPE ⊢
        have HPE := Hid.mk hPE
        clear hPE
        go_frame
        have c1 := HPE.out.sd.eb.c1
        have cf := HPE.out.sd.eb.fz
        go_upto_region 12 with fail
        have hP2 := HPE.out.put (r' := yr + 1)
        refine gen_w (p := fun v => Code.wp _ _ _ _ v) (q := fun v => Pe w v g m most L gD gE d ys (yr + 1)) hP2 ?_
        clear HPE hP2 c1 cf
        intro u2 hp2
        have HPE := Hid.mk hp2
        clear hp2
        rename_i KK hkk
        refine wp_region_held_drew (S := Sx g m gD gE d ys (yr + 1)) (by kernel_rfl) (HPE.out.sd.go (Below.refl _ _).drew).sx (fun hS => ?_)
        have hd2 := HPE.out.sd.go (Below.refl _ _).drew
        obtain ⟨ob, hup, hma⟩ := upd_run hd2.st.mp ⟨d, ys, yr + 1⟩ HDL.out
        refine rd_take 0 69 (.pointer (some ⟨g, 0, none⟩)) rfl rfl (by kernel_rfl) (by kernel_rfl) (by kernel_rfl) (fun _ _ _ h => h) (by kernel_rfl) (fun v _ => by kernel_rfl) hS ?_
        refine rd_take 1 70 (.pointer (some ⟨g, 0, none⟩)) rfl rfl (by kernel_rfl) (by kernel_rfl) (by kernel_rfl) (fun _ _ _ h => h) (by kernel_rfl) (fun v _ => by kernel_rfl) hS ?_
        refine rd_take 2 71 (.pointer (some ⟨g, 1, none⟩)) rfl rfl (by kernel_rfl) (by kernel_rfl) (by kernel_rfl) (fun _ _ _ h => h) (by kernel_rfl) (fun v _ => by kernel_rfl) hS ?_
        refine rd_take 3 72 (.map (some m)) rfl rfl (by kernel_rfl) (by kernel_rfl) (by kernel_rfl) (fun _ _ _ h => h) (by kernel_rfl) (fun v' hv => rd_loadM rfl (by kernel_rfl) hv.1) hS ?_
        refine rd_take 4 73 (.agg (B8 d)) rfl rfl (by kernel_rfl) (by kernel_rfl) (by kernel_rfl) (fun _ _ _ h => h) (by kernel_rfl) (fun v' hv => rd_loadDd rfl (by kernel_rfl) hv.2.1) hS ?_
        refine rd_take 5 74 (.agg #[.string ys, .int .i64 (yr + 1)]) rfl rfl (by kernel_rfl) (by kernel_rfl) (by kernel_rfl) (fun _ _ _ h => h) (by kernel_rfl) (fun v' hv => rd_loadE rfl (by kernel_rfl) hv.2.2) hS ?_
        refine wpAnyH_ready (rs := [6]) (by kernel_rfl) (by simp) ?_
        refine rd_run0 6 rfl rfl (by kernel_rfl) (rd_upd rfl (by kernel_rfl) (by kernel_rfl) (by kernel_rfl) hup) (hd2.set ob) ?_ AllReadyH.nil
        refine wpAnyH_done (by kernel_rfl) ?_ _
        refine hkk _ _ ?_
        have HEND := Hid.mk (show Sto (setBlock u2.drew m ob) g m most (putT ⟨d, ys, yr + 1⟩ L) ∧ Touch m w (setBlock u2.drew m ob) ∧ DBx w.heap.size (setBlock u2.drew m ob) z32 ∧ DBx gD (setBlock u2.drew m ob) d from ⟨hd2.st.set hma, hd2.touch ob, ⟨(setBlock_other (by have := HGL.out; omega)).trans HPE.out.rb.row, rfl⟩, (hd2.set ob).2.1⟩)
        clear hkk hS hd2 hup hma HPE
        generalize setBlock u2.drew m ob = u3 at HEND ⊢
        go_frame
        go_upto_region 13 with fail
        go_wp2_with (first | refine wpl_loadD rfl _ rfl gD 0 rfl d HDL.out HEND.out.2.2.2.all ?_ | refine wpList_store_row rfl 30 _ _ rfl _ (B8 d) rfl rfl 30 _ HEND.out.2.2.1.row (infoD d HDL.out) (z8_size HDL.out) (B8_ones _) ?_)
        refine bodyPost_ret (results_dig Try.results17 _ _ w.heap.size d HDL.out rfl (setRow_heap _ _ _ _ _ _ HEND.out.2.2.1.row)) rfl ?_
        exact ⟨by first | rfl | (rw [HD.out]), by first | exact HEND.out.1.res (by have := HGL.out; omega) (by have := HGL.out; omega) | (rw [HD.out]; exact HEND.out.1.res (by have := HGL.out; omega) (by have := HGL.out; omega)), ⟨HEND.out.2.1.os, HEND.out.2.1.tape, HEND.out.2.1.output, by simpa using HEND.out.2.1.size, fun k hk hkm => (setRow_other _ _ _ _ (by omega)).trans (HEND.out.2.1.block k hk hkm)⟩⟩
end Go.Proofs.Ytjpcfdhkgfaeeaa
