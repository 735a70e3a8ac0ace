/- The digests that are collected of a store's map. -/
import Derived.Test.YtjpcfdhkgfaeeaaG18
import Derived.Shelf.SlSortCmp.WholeK
import Derived.Ground.SlsfProg
import Derived.Test.YtjpcfdhkgfaeeaaProg
namespace Go.Proofs.Ytjpcfdhkgfaeeaa
open Go.RowKit
set_option linter.unusedVariables false
set_option maxRecDepth 100000
theorem ol_store1 {P : Program} {ρ : Operand → Value} {w : World} {o : Oper} (T : TypeId) (x y : Operand) (g : Nat) (v old : Value) (t : TypeId) (ho : o.op = .store T x y) (hx : ρ x = .pointer (some ⟨g, 0, none⟩)) (hy : ρ y = v) (hg : w.heap[g]? = some (.cells #[old] t (0, 0))) (hi : (P.info? T).map (·.size) = some 1) (h1 : v.oneCell' = true) :
    (execOp ρ o).run P w = .ok .skip (w.setRow g #[v]) := by
  unfold execOp
  rw [ho]
  simp only [hx, hy, Instr.storeAt, Instr.sureAddr, Sem.run_bind, Sem.run_pure, Result.andThen_ok, run_storeVar_one w g t T old v hg hi h1]
theorem app_digs2 {w : World} {base : Nat} {v : Value} {ys zs : List (List Int)} (hown : OwnD w base v ys) (hz : LenD zs) (ad : Addr) (c : Nat) (hnews : ∀ j u, (flatD zs)[j]? = some u → w.cell? (ad.add j) = some u) (hbase : base ≤ w.heap.size) (hlen : ys.length + zs.length ≤ 2199023255550) (ty : TypeId) :
    ∃ v' w', (Builtin.append_ #[38, 38] ty #[v, .slice (some ad) zs.length c]).run Try.prog w = .ok v' w' ∧ OwnD w' base v' (ys ++ zs) ∧ Below base w w' ∧ KeepsOthers w w' := by
  obtain ⟨i, hi, hz0, hsz, hby⟩ := infoDz
  have hone : ∀ u ∈ flatD zs, u.oneCell' = true := fun u hu => by
    unfold flatD at hu
    obtain ⟨y, hy, hu⟩ := List.mem_flatMap.1 hu
    obtain ⟨b, _, rfl⟩ := List.mem_map.1 hu
    rfl
  obtain ⟨v', w', hrun, hown', hgr, _⟩ := run_append_own (P := Try.prog) w base 38 ty 30 i _ 32 32 Try.underlying38 hi hz0 hsz hby rfl (by decide) v ys.length (flatD ys) hown ad zs.length c (flatD zs) (flatD_len hz) hnews hone (by unfold maxLen; omega) (by omega) hbase
  refine ⟨v', w', hrun, ?_, ⟨hgr.os, hgr.tape, hgr.output, hgr.size, fun k hk => hgr.block k (by omega) (fun e => ?_)⟩, KeepsOthers.of_grownBy hgr (fun j o e hj => ?_)⟩
  · unfold OwnD
    rw [flatD_app, List.length_append]
    exact hown'
  · have := (ownD_lt hown e.symm).1
    omega
  · rcases hown.2 with ⟨rfl, _⟩ | ⟨g, cap, cur, rfl, _, hgb, _⟩
    · cases e
    · obtain rfl : g = j := by simpa [Value.ownBlock] using e
      rw [hgb] at hj
      cases hj
      rfl
theorem ol_app {P : Program} {ρ : Operand → Value} {w w' : World} {o : Oper} (T : TypeId) (s x : Operand) (v u : Value) {v' : Value} (ho : o.op = .call { callee := .builtin .append, args := #[s, x], argTypes := #[T, T] }) (hd : ρ s = v) (hx : ρ x = u)
    (hr : (Builtin.append_ #[T, T] o.type #[v, u]).run P w = .ok v' w') : (execOp ρ o).run P w = .ok (.value v') w' := by
  simp [execOp, ho, resolve, invoke, builtin, hd, hx, hr, Result.andThen]
theorem ol_buildD {ρ : Operand → Value} {w : World} {x : Operand} {o : Oper} (ho : o.op = .buildSlice 38 1 #[(0, x)]) (r : List Int) (hl : r.length = 32) (hx : ρ x = .agg (B8 r)) :
    (execOp ρ o).run Try.prog w = .ok (.value (.slice (some ⟨w.heap.size, 0, none⟩) 1 1)) (w.alloc (.cells (B8 r) 30)) := by
  unfold execOp
  rw [ho]
  simp only [List.map_toArray, List.map_cons, List.map_nil, hx, Sem.run_bind, run_buildD w r hl, Result.andThen_ok, Sem.run_pure]
/-- What has been collected. -/
def Col (w : World) (gB : Nat) (xs : List Dg) (W : World) : Prop := (∃ v, W.heap[gB]? = some (.cells #[v] 38 (0, 0)) ∧ OwnD W (gB + 1) v (vals xs)) ∧ Below w.heap.size w W
theorem col_own {w : World} {gB : Nat} (B : Nat) (hB : w.heap.size ≤ B) : OwnFrom B (Col w gB) := fun s X Y row hs hg hrow => by
  obtain ⟨⟨v, hv, hr⟩, hb⟩ := hs
  refine ⟨⟨v, (hg.block gB (lt_of_get hv) (fun e' => ?_)).trans hv, World.ownsRow.kept hr hg ?_⟩, hb.grown hg hb.size (fun k e => Nat.le_trans hB (hrow k e).1)⟩
  · obtain ⟨o, ho, hc⟩ := (hrow gB e'.symm).2
    rw [hv] at ho; cases ho; cases hc
  · rcases hr.2 with ⟨rfl, _⟩ | ⟨g, cap, cur, rfl, _, hgb, _⟩
    · exact .inl rfl
    · refine .inr fun e' => ?_
      obtain ⟨o, ho, hc⟩ := (hrow g (by simpa [Value.ownBlock] using e'.symm)).2
      rw [hgb] at ho; cases ho; cases hc
theorem dbx_own (B g : Nat) (d : List Int) : OwnFrom B (fun (_ : Unit) (W : World) => W.heap[g]? = some (.cells (B8 d) 30 (0, 0))) := fun s X Y row hs hg hrow => (hg.block g (lt_of_get hs) (fun e' => by
  obtain ⟨o, ho, hc⟩ := (hrow g e'.symm).2
  rw [hs] at ho; cases ho; cases hc)).trans hs
theorem ownsRow_base' {W : World} {base base' : Nat} {e : TypeId} {size : Nat} {v : Value} {k : Nat} {xs : List Value} (h : W.ownsRow base e size v k xs) (hb : base' ≤ base) : W.ownsRow base' e size v k xs := by
  refine ⟨h.1, ?_⟩
  rcases h.2 with hn | ⟨g, cap, cur, hv, hbg, rest⟩
  · exact .inl hn
  · exact .inr ⟨g, cap, cur, hv, Nat.le_trans hb hbg, rest⟩
set_option maxHeartbeats 4000000 in
theorem appseq_any {w : World} {m Bm : Nat} {L : List Th} (hmp : MapAt w m L) (hbx : w.cell? ⟨Bm, 0, none⟩ = some (.map (some m))) (hL : L.length ≤ 2199023255549) :
    Calls Try.prog 44 #[.slice none 0 0, .func (.func 39) #[] #[.pointer (some ⟨Bm, 0, none⟩)]] w fun e w' => ∃ v ys, e = .returned v ∧ ys.Perm (L.map Th.d) ∧ LenD ys ∧ OwnD w' w.heap.size v ys ∧ Below w.heap.size w w' := by
  refine cw_enterM Try.func44 rfl 13 rfl ?_
  show CW _ _ _ _ _ _ _ [(0, .slice none 0 0), (1, .func (.func 39) #[] #[.pointer (some ⟨Bm, 0, none⟩)])] _
  refine cw_seq ?_
  refine cw_region ?_
  refine rw_new 2 (#[.slice none 0 0]) 38 (fun _ => by kernel_rfl) (fun _ => by kernel_rfl) ?_
  intro w1 g2 hn3
  refine rw_p 4 (.slice none 0 0) (fun _ => by kernel_rfl) (fun _ => by kernel_rfl) ?_
  refine rw_nil ?_
  have hgB : g2 = w.heap.size := hn3.hg
  refine nw_then ?_
  refine cw_seq ?_
  refine cw_seq ?_
  refine cw_region ?_
  refine rw_p 6 (.func (.func 39) #[] #[.pointer (some ⟨Bm, 0, none⟩)]) (fun _ => by kernel_rfl) (fun _ => by kernel_rfl) ?_
  refine rw_nil ?_
  refine nw_then ?_
  refine cw_block ?_
  refine cw_sub [(2, .pointer (some ⟨g2, 0, none⟩)), (6, .func (.func 39) #[] #[.pointer (some ⟨Bm, 0, none⟩)])] (by exact ⟨fun _ => by kernel_rfl, ⟨fun _ => by kernel_rfl, trivial⟩⟩) ?_
  refine cw_range1 (α := Dg) (enc := fun d => .agg (B8 d.1)) 39 #[.pointer (some ⟨Bm, 0, none⟩)] (fun _ => by kernel_rfl) (by decide) (by decide) (fun args w => by kernel_rfl) (keys_stops 19 hmp hbx) walksK_t walksK_b hn3.below (Col w g2) (col_own _ (by rw [hn3.size]; omega)) ⟨⟨_, hn3.row, by exact ownD_nil _ _⟩, hn3.below⟩ (fun x e W => ∃ gx, e = [(2, .pointer (some ⟨g2, 0, none⟩)), (5, .pointer (some ⟨gx, 0, none⟩))] ∧ W.heap[gx]? = some (.cells (B8 x.1) 30 (0, 0)) ∧ g2 < gx) ?_ ?_ ?_ ?_
  · rintro x e _ X Y row ⟨gx, he, hx, hlt⟩ hg hrow
    exact ⟨gx, he, dbx_own _ gx x.1 () X Y row hx hg hrow, hlt⟩
  · rintro lp pre ⟨x, hx⟩ W hI
    refine cw_region ?_
    refine rw_new 5 (B8 z32) 30 (fun _ => by kernel_rfl) (fun _ => by kernel_rfl) ?_
    intro V2 gb hn
    refine rw_put gb (B8 x) (fun _ => by kernel_rfl) (fun _ => ol_store 30 _ _ _ _ _ _ rfl (by kernel_rfl) (by kernel_rfl) hn.row (infoD x hx) (z8_size hx) (B8_ones _)) ?_
    intro V3 hp3
    have hnb := hn.put hp3
    refine rw_nil ?_
    exact fun a ha => ⟨hnb.keeps.from _, hnb.keeps.walks, col_own _ (Nat.le_refl _) _ _ _ none hI (by rw [hnb.hw]; exact World.grownBy_alloc _ _ _) (fun r q => by cases q), _, ha.sub (env' := [(2, .pointer (some ⟨g2, 0, none⟩)), (5, .pointer (some ⟨gb, 0, none⟩))]) (by exact ⟨fun _ => by kernel_rfl, ⟨fun _ => by kernel_rfl, trivial⟩⟩), gb, rfl, hnb.row, by obtain ⟨⟨v, hv, _⟩, _⟩ := hI; have h1 := lt_of_get hv; have h2 := hnb.hg; omega⟩
  · rintro lp pre ⟨x, hx⟩ e W hlp hI ⟨gx, rfl, hgx, hlt⟩ hlen
    obtain ⟨⟨v, hv, how⟩, hbl⟩ := hI
    refine cw_block ?_
    refine cw_region ?_
    refine rw_p 8 (v) (fun _ => by kernel_rfl) (fun _ => ol_cell 38 _ ⟨g2, 0, none⟩ _ _ rfl (by kernel_rfl) (by rw [cell_of_row _ _ _ _ _ _ hv]; rfl) Try.underlying38 rfl) ?_
    refine rw_p 9 (.agg (B8 x)) (fun _ => by kernel_rfl) (fun _ => ol_row 30 _ _ _ _ _ _ rfl (by kernel_rfl) hgx Try.underlying30 rfl (infoD x hx)) ?_
    refine rw_v 10 (.slice (some ⟨W.heap.size, 0, none⟩) 1 1) (fun _ => by kernel_rfl) (fun _ => ol_buildD rfl x hx (by kernel_rfl)) ?_
    have hW1 : New W (W.alloc (.cells (B8 x) 30)) W.heap.size (B8 x) 30 := ⟨rfl, rfl⟩
    obtain ⟨gS, hgS⟩ : ∃ gS, W.heap.size = gS := ⟨_, rfl⟩
    rw [hgS] at hW1 ⊢
    generalize W.alloc (.cells (B8 x) 30) = W1 at hW1 ⊢
    obtain ⟨v', W2, hrun, how2, hb2, hk2⟩ := app_digs2 (ys := vals pre) (zs := [x]) (w := W1) (base := g2 + 1) (v := v) (ownD_keep how (fun g _ hl => hW1.below.block g hl)) (fun d hd => by simp at hd; rw [hd]; exact hx) ⟨gS, 0, none⟩ 1 (fun j u hu => by rw [flatD_one] at hu; rw [addr_add, Nat.zero_add, cell_of_row _ _ _ _ _ _ hW1.row]; simpa [B8] using hu) (by have h1 := lt_of_get hv; have h2 := hW1.size; omega) (by rw [vals_length]; simp only [List.length_singleton]; omega) 38
    refine rw_v 11 v' (fun _ => by kernel_rfl) (fun _ => ol_app 38 _ _ _ _ rfl (by kernel_rfl) (by kernel_rfl) hrun) ?_
    have hv2 : W2.heap[g2]? = some (.cells #[v] 38 (0, 0)) := (hb2.block g2 (by omega)).trans (Below.row hW1.below hv)
    have h1c : v'.oneCell' = true := by rcases how2.2 with ⟨rfl, _⟩ | ⟨g, cap, cur, rfl, _⟩ <;> rfl
    refine rw_put g2 #[v'] (fun _ => by kernel_rfl) (fun _ => ol_store1 38 _ _ _ _ _ _ rfl (by kernel_rfl) (by kernel_rfl) hv2 (by kernel_rfl) h1c) ?_
    intro W3 hp
    refine rw_nil ?_
    refine nw_block ?_
    have hko : KeepsOthers W W3 := (hW1.keeps.trans hk2).trans hp.keeps
    have hbW : Below w.heap.size w W1 := hbl.trans (hW1.below.mono hbl.size)
    have hbW2 : Below w.heap.size w W2 := hbW.trans (hb2.mono (by omega))
    refine nw_own (hko.from _) hko.walks ⟨⟨v', hp.row hv2, ?_⟩, hp.below hbW2 (by omega) hbW2.size⟩
    rw [vals_app]
    exact ownD_keep how2 (fun g hg _ => hp.other (by omega))
  intro D xs W hD hS hI hdd
  obtain ⟨⟨v, hv, how⟩, hbl⟩ := hI
  refine nw_block ?_
  refine nw_then ?_
  refine cw_seq ?_
  refine cw_region ?_
  refine rw_p 12 (v) (fun _ => by kernel_rfl) (fun _ => ol_cell 38 _ ⟨g2, 0, none⟩ _ _ rfl (by kernel_rfl) (by rw [cell_of_row _ _ _ _ _ _ hv]; rfl) Try.underlying38 rfl) ?_
  refine rw_p 4 (v) (fun _ => by kernel_rfl) (fun _ => by kernel_rfl) ?_
  refine rw_nil ?_
  refine nw_then ?_
  refine cw_ret ?_
  exact nw_ret_marks hdd v (fun _ => by kernel_rfl) ⟨v, vals xs, rfl, hS, vals_len xs, ownsRow_base' (ownsRow_putObj how _ hdd rfl) (by omega), hbl.grown (grownBy_putObj' _ _ _) hbl.size (fun k e => by cases e; have := hn3.size; omega)⟩
end Go.Proofs.Ytjpcfdhkgfaeeaa
/- The shelf's sort, laid at this program. -/
namespace Go.Proofs.Ytjpcfdhkgfaeeaa
open Go.Shelf
def sortD_ren : Go.Shelf.Ren := ⟨fun | 6 => 38 | 15 => 46 | 14 => 45 | 28 => 58 | 29 => 59 | 20 => 50 | 21 => 51 | 22 => 52 | 23 => 53 | 24 => 54 | 25 => 55 | 26 => 56 | 27 => 57 | 46 => 62 | 47 => 63 | 48 => 64 | 49 => 65 | 50 => 66 | 57 => 68 | n => n, fun | 22 => 38 | 24 => 30 | 25 => 80 | 3 => 3 | 39 => 102 | 0 => 0 | 53 => 116 | 55 => 85 | 4 => 4 | 46 => 109 | 45 => 108 | 50 => 113 | 5 => 5 | 9 => 9 | 66 => 118 | 70 => 122 | 76 => 125 | 77 => 126 | n => n, fun | n => n⟩
theorem sortD : Go.Proofs.SlLaysF0.n6 Try.prog sortD_ren := {
  mixed := by kernel_rfl
  f6 := ⟨Try.f38.name, by decide, Try.func38.trans (congrArg some (by kernel_rfl))⟩
  f14 := ⟨Try.f45.name, by decide, Try.func45.trans (congrArg some (by kernel_rfl))⟩
  f15 := Try.func46.trans (congrArg some (by kernel_rfl))
  f20 := ⟨Try.f50.name, by decide, Try.func50.trans (congrArg some (by kernel_rfl))⟩
  f21 := ⟨Try.f51.name, by decide, Try.func51.trans (congrArg some (by kernel_rfl))⟩
  f22 := ⟨Try.f52.name, by decide, Try.func52.trans (congrArg some (by kernel_rfl))⟩
  f23 := ⟨Try.f53.name, by decide, Try.func53.trans (congrArg some (by kernel_rfl))⟩
  f24 := ⟨Try.f54.name, by decide, Try.func54.trans (congrArg some (by kernel_rfl))⟩
  f25 := ⟨Try.f55.name, by decide, Try.func55.trans (congrArg some (by kernel_rfl))⟩
  f26 := ⟨Try.f56.name, by decide, Try.func56.trans (congrArg some (by kernel_rfl))⟩
  f27 := ⟨Try.f57.name, by decide, Try.func57.trans (congrArg some (by kernel_rfl))⟩
  f28 := Try.func58.trans (congrArg some (by kernel_rfl))
  f29 := Try.func59.trans (congrArg some (by kernel_rfl))
  f46 := ⟨Try.f62.name, by decide, Try.func62.trans (congrArg some (by kernel_rfl))⟩
  f47 := Try.func63.trans (congrArg some (by kernel_rfl))
  f48 := Try.func64.trans (congrArg some (by kernel_rfl))
  f49 := ⟨Try.f65.name, by decide, Try.func65.trans (congrArg some (by kernel_rfl))⟩
  f50 := ⟨Try.f66.name, by decide, Try.func66.trans (congrArg some (by kernel_rfl))⟩
  f57 := ⟨Try.f68.name, by decide, Try.func68.trans (congrArg some (by kernel_rfl))⟩
  t0 := Try.underlying0
  a0 := Try.isAgg0
  z0 := Try.sizeOf0
  v0 := Try.zeroValue0
  t3 := Try.underlying3
  a3 := Try.isAgg3
  z3 := Try.sizeOf3
  v3 := Try.zeroValue3
  t4 := Try.underlying4
  a4 := Try.isAgg4
  z4 := Try.sizeOf4
  v4 := Try.zeroValue4
  t5 := Try.underlying5
  a5 := Try.isAgg5
  z5 := Try.sizeOf5
  v5 := Try.zeroValue5
  t9 := Try.underlying9
  a9 := Try.isAgg9
  z9 := Try.sizeOf9
  v9 := Try.zeroValue9
  t22 := Try.underlying38
  a22 := Try.isAgg38
  z22 := Try.sizeOf38
  v22 := Try.zeroValue38
  t25 := Try.underlying80
  a25 := Try.isAgg80
  z25 := Try.sizeOf80
  v25 := Try.zeroValue80
  t39 := Try.underlying102
  a39 := Try.isAgg102
  z39 := Try.sizeOf102
  v39 := Try.zeroValue102
  t45 := Try.underlying108
  a45 := Try.isAgg108
  z45 := Try.sizeOf108
  v45 := Try.zeroValue108
  t46 := Try.underlying109
  a46 := Try.isAgg109
  z46 := Try.sizeOf109
  v46 := Try.zeroValue109
  t50 := Try.underlying113
  a50 := Try.isAgg113
  z50 := Try.sizeOf113
  v50 := Try.zeroValue113
  t53 := Try.underlying116
  a53 := Try.isAgg116
  z53 := Try.sizeOf116
  v53 := Try.zeroValue116
  t55 := Try.underlying85
  a55 := Try.isAgg85
  z55 := Try.sizeOf85
  v55 := Try.zeroValue85
  t66 := Try.underlying118
  a66 := Try.isAgg118
  z66 := Try.sizeOf118
  v66 := Try.zeroValue118
  t70 := Try.underlying122
  a70 := Try.isAgg122
  z70 := Try.sizeOf122
  v70 := Try.zeroValue122
  t76 := Try.underlying125
  a76 := Try.isAgg125
  z76 := Try.sizeOf125
  v76 := Try.zeroValue125
  t77 := Try.underlying126
  a77 := Try.isAgg126
  z77 := Try.sizeOf126
  v77 := Try.zeroValue126 }
end Go.Proofs.Ytjpcfdhkgfaeeaa
