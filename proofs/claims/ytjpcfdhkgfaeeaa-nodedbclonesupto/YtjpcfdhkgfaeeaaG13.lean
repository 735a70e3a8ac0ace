/- The order of digests; rows of digests that grow; what nodedb.order answers. -/
import Derived.Test.YtjpcfdhkgfaeeaaG12
namespace Go.Proofs.Ytjpcfdhkgfaeeaa
open Go.RowKit
open Di (lt32 less_any rless_any)
set_option linter.unusedVariables false
set_option maxRecDepth 100000
theorem lt32_irr : ∀ a : List Int, lt32 a a = false
  | [] => by simp [lt32]
  | x :: t => by simp [lt32, lt32_irr t]
theorem lt32_trans : ∀ a b c : List Int, lt32 a b = true → lt32 b c = true → lt32 a c = true
  | [], b, c, h, _ => by simp [lt32] at h
  | x :: t, [], c, h, _ => by simp [lt32] at h
  | x :: t, y :: u, [], _, h => by simp [lt32] at h
  | x :: t, y :: u, z :: v, h1, h2 => by
    unfold lt32 at h1 h2 ⊢
    by_cases e1 : x = y
    · subst e1
      rw [if_pos rfl] at h1
      by_cases e2 : x = z
      · subst e2
        rw [if_pos rfl] at h2 ⊢
        exact lt32_trans t u v h1 h2
      · rw [if_neg e2] at h2 ⊢
        exact h2
    · rw [if_neg e1] at h1
      have h1 := of_decide_eq_true h1
      by_cases e2 : y = z
      · subst e2
        rw [if_neg e1]
        exact decide_eq_true h1
      · rw [if_neg e2] at h2
        have h2 := of_decide_eq_true h2
        rw [if_neg (by omega)]
        exact decide_eq_true (by omega)
theorem lt32_tot : ∀ a b : List Int, a.length = b.length → a ≠ b → lt32 a b = false → lt32 b a = true
  | [], [], _, h, _ => absurd rfl h
  | [], y :: u, h, _, _ => by simp at h
  | x :: t, [], h, _, _ => by simp at h
  | x :: t, y :: u, hl, hne, h => by
    unfold lt32 at h ⊢
    by_cases e : x = y
    · subst e
      rw [if_pos rfl] at h ⊢
      exact lt32_tot t u (by simpa using hl) (fun q => hne (by rw [q])) h
    · rw [if_neg e] at h
      have h := of_decide_eq_false h
      rw [if_neg (fun q => e q.symm)]
      exact decide_eq_true (by omega)
theorem lt32_asym {a b : List Int} (h : lt32 a b = true) : lt32 b a = false := by
  cases hq : lt32 b a with
  | false => rfl
  | true =>
    have := lt32_trans a b a h hq
    rw [lt32_irr] at this
    cases this
/-- Sorted, and no two alike. -/
def Srt (M : List (List Int)) : Prop := M.Pairwise (fun a b => lt32 a b = true)
theorem srt_eq : ∀ {M N : List (List Int)}, Srt M → Srt N → M.Perm N → M = N
  | [], N, _, _, h => by rw [h.symm.eq_nil]
  | x :: t, [], _, _, h => by have := h.length_eq; simp at this
  | x :: t, y :: u, hM, hN, h => by
    obtain ⟨h1, h2⟩ := List.pairwise_cons.1 hM
    obtain ⟨h3, h4⟩ := List.pairwise_cons.1 hN
    have e : x = y := by
      have hx : x ∈ y :: u := h.mem_iff.1 (by simp)
      have hy : y ∈ x :: t := h.mem_iff.2 (by simp)
      rcases List.mem_cons.1 hx with e | hx
      · exact e
      · rcases List.mem_cons.1 hy with e | hy
        · exact e.symm
        · have a1 := h1 y hy
          have a2 := h3 x hx
          rw [lt32_asym a1] at a2
          cases a2
    subst e
    rw [srt_eq h2 h4 ((List.perm_cons x).1 h)]
/-- What nodedb.order tells. -/
def ordT (a b : List Int) : Int := if lt32 a b then -1 else if lt32 b a then 1 else 0
def flatD (ys : List (List Int)) : List Value := ys.flatMap (fun d => d.map (Value.int .u8))
def LenD (M : List (List Int)) : Prop := ∀ d ∈ M, d.length = 32
theorem flatD_len : ∀ {ys : List (List Int)}, LenD ys → (flatD ys).length = ys.length * 32
  | [], _ => rfl
  | y :: r, h => by
    have ih := flatD_len (ys := r) fun z hz => h z (List.mem_cons_of_mem _ hz)
    unfold flatD at ih ⊢
    rw [List.flatMap_cons, List.length_append, ih, List.length_map, h y (by simp), List.length_cons]
    omega
theorem flatD_app (a b : List (List Int)) : flatD (a ++ b) = flatD a ++ flatD b := by unfold flatD; rw [List.flatMap_append]
theorem flatD_one (y : List Int) : flatD [y] = y.map (Value.int .u8) := by unfold flatD; rw [List.flatMap_cons, List.flatMap_nil, List.append_nil]
theorem flatD_at {pre : List (List Int)} {y : List Int} {post : List (List Int)} (hp : LenD pre) {j : Nat} {u : Value} (h : (y.map (Value.int .u8))[j]? = some u) : (flatD (pre ++ y :: post))[pre.length * 32 + j]? = some u := by
  have e : flatD (pre ++ y :: post) = flatD pre ++ (y.map (Value.int .u8) ++ flatD post) := by
    rw [flatD_app, show y :: post = [y] ++ post from rfl, flatD_app, flatD_one]
  rw [e, List.getElem?_append_right (by rw [flatD_len hp]; omega), flatD_len hp, show pre.length * 32 + j - pre.length * 32 = j from by omega, List.getElem?_append_left (List.getElem?_eq_some_iff.1 h).1]
  exact h
theorem infoDz : ∃ i, Try.prog.info? 30 = some i ∧ i.zero = some (.agg (B8 z32)) ∧ i.size = 32 ∧ i.bytes = 32 := by
  have h : (Try.prog.info? 30).map (fun i => (i.zero, i.size, i.bytes)) = some (some (.agg (B8 z32)), 32, 32) := by kernel_rfl
  cases hq : Try.prog.info? 30 with
  | none => rw [hq] at h; simp at h
  | some i => rw [hq] at h; simp at h; exact ⟨i, rfl, h.1, h.2.1, h.2.2⟩
def OwnD (w : World) (base : Nat) (v : Value) (ys : List (List Int)) : Prop := w.ownsRow base 30 32 v ys.length (flatD ys)
theorem ownD_nil (w : World) (base : Nat) : OwnD w base (.slice none 0 0) [] := World.ownsRow_nil _ _ _ _
theorem ownD_lt {w : World} {base : Nat} {v : Value} {ys : List (List Int)} (h : OwnD w base v ys) {g : Nat} (hg : v.ownBlock = some g) : base ≤ g ∧ g < w.heap.size := World.ownsRow.lt h g hg
theorem ownD_keep {w w' : World} {base : Nat} {v : Value} {ys : List (List Int)} (h : OwnD w base v ys) (hk : ∀ g, base ≤ g → g < w.heap.size → w'.heap[g]? = w.heap[g]?) : OwnD w' base v ys := by
  refine ⟨h.1, ?_⟩
  rcases h.2 with h2 | ⟨g, cap, cur, hv, hb, hh, r⟩
  · exact .inl h2
  · exact .inr ⟨g, cap, cur, hv, hb, (hk g hb (lt_of_get hh)).trans hh, r⟩
/-- A row of digests, and more appended. -/
theorem app_digs {w : World} {base : Nat} {v : Value} {ys zs : List (List Int)} (hown : OwnD w base v ys) (hz : LenD zs) (ad : Addr) (c : Nat) (hnews : ∀ j u, (flatD zs)[j]? = some u → w.cell? (ad.add j) = some u) (hbase : base ≤ w.heap.size) (hlen : ys.length + zs.length ≤ 2199023255550) (ty : TypeId) :
    ∃ v' w', (Builtin.append_ #[38, 38] ty #[v, .slice (some ad) zs.length c]).run Try.prog w = .ok v' w' ∧ OwnD w' base v' (ys ++ zs) ∧ Below base w w' := by
  obtain ⟨i, hi, hz0, hsz, hby⟩ := infoDz
  have hone : ∀ u ∈ flatD zs, u.oneCell' = true := fun u hu => by
    unfold flatD at hu
    obtain ⟨y, hy, hu⟩ := List.mem_flatMap.1 hu
    obtain ⟨b, _, rfl⟩ := List.mem_map.1 hu
    rfl
  obtain ⟨v', w', hrun, hown', hgr, _⟩ := run_append_own (P := Try.prog) w base 38 ty 30 i _ 32 32 Try.underlying38 hi hz0 hsz hby rfl (by decide) v ys.length (flatD ys) hown ad zs.length c (flatD zs) (flatD_len hz) hnews hone (by unfold maxLen; omega) (by omega) hbase
  refine ⟨v', w', hrun, ?_, ⟨hgr.os, hgr.tape, hgr.output, hgr.size, fun k hk => hgr.block k (by omega) (fun e => ?_)⟩⟩
  · unfold OwnD
    rw [flatD_app, List.length_append]
    exact hown'
  · have := (ownD_lt hown e.symm).1
    omega
theorem run_buildD (w : World) (r : List Int) (hl : r.length = 32) : (Instr.buildSlice 38 1 #[(0, .agg (B8 r))]).run Try.prog w = .ok (.slice (some ⟨w.heap.size, 0, none⟩) 1 1) (w.alloc (.cells (B8 r) 30)) := by
  obtain ⟨i, hi, hz, hsz, hby⟩ := infoDz
  refine run_buildSlice w 38 30 1 _ (B8 r) i _ Try.underlying38 hi hz (by rw [hsz]; omega) (by rw [hsz]; omega) ?_
  rw [hsz]
  have h := Great.fill_whole (s := 32) (by omega) [.agg (B8 r)] ((Array.range (1 * 32)).map ((Value.agg (B8 z32)).cells[· % (Value.agg (B8 z32)).cells.size]!)) (fun v hv => by
    simp only [List.mem_cons, List.not_mem_nil, or_false] at hv
    subst hv
    show (B8 r).size = 32
    rw [B8_size, hl]) (by simp)
  refine h.trans ?_
  simp [Value.cells]
section
variable {a : Act} {w : World}
theorem rd_buildDL {x : Operand} {o : Oper} (ho : o.op = .buildSlice 38 1 #[(0, x)]) (r : List Int) (hl : r.length = 32) (hx : a.eval x = .agg (B8 r)) :
    (execOp a.eval o).run Try.prog w = .ok (.value (.slice (some ⟨w.heap.size, 0, none⟩) 1 1)) (w.alloc (.cells (B8 r) 30)) := by
  unfold execOp
  rw [ho]
  simp only [List.map_toArray, List.map_cons, List.map_nil, hx, Sem.run_bind, run_buildD w r hl, Result.andThen_ok, Sem.run_pure]
theorem rd_appDL {w' : World} {s x : Operand} {o : Oper} (ho : o.op = .call { callee := .builtin .append, args := #[s, x], argTypes := #[38, 38] }) (v u : Value) (hd : a.eval s = v) (hx : a.eval x = u) {v' : Value}
    (hr : (Builtin.append_ #[38, 38] o.type #[v, u]).run Try.prog w = .ok v' w') : (execOp a.eval o).run Try.prog w = .ok (.value v') w' := by
  simp [execOp, ho, resolve, invoke, builtin, hd, hx, hr, Result.andThen]
end
/-- A row of digests of its own is a list. -/
theorem ownD_ds {w : World} {base : Nat} {v : Value} {ys : List (List Int)} (h : OwnD w base v ys) (hl : LenD ys) : ∃ a c, v = .slice a ys.length c ∧ Ds w a ys.length c ys ∧ ∀ g off, a = some ⟨g, off, none⟩ → base ≤ g := by
  rcases h.2 with ⟨rfl, hn0⟩ | ⟨g, cap, cur, rfl, hbg, hg, hnc, hcm, hcs, htake⟩
  · have : ys = [] := List.eq_nil_of_length_eq_zero (by omega)
    subst this
    exact ⟨none, 0, rfl, ⟨rfl, ⟨Nat.le_refl _, by unfold maxLen; omega⟩, fun _ => ⟨rfl, rfl⟩, fun j x h => by simp at h, fun x hx => by cases hx⟩, fun g off e => by cases e⟩
  · refine ⟨some ⟨g, 0, none⟩, cap, rfl, ⟨rfl, ⟨hnc, hcm⟩, (fun e => by cases e), fun j x hj => ⟨g, 0, rfl, fun k u hu => ?_⟩, hl⟩, fun g' off e => by cases e; exact hbg⟩
    have hjl := (List.getElem?_eq_some_iff.1 hj).1
    have hx : ys[j] = x := (List.getElem?_eq_some_iff.1 hj).2
    have e : ys = ys.take j ++ x :: ys.drop (j + 1) := by rw [← hx, ← List.drop_eq_getElem_cons hjl, List.take_append_drop]
    have hl' : (ys.take j).length = j := by rw [List.length_take]; omega
    have hf := flatD_at (pre := ys.take j) (post := ys.drop (j + 1)) (fun z hz => hl z (List.mem_of_mem_take hz)) hu
    rw [hl', ← e] at hf
    have := World.ownsRow.cells h (g := g) rfl (j * 32 + k) u hf
    rw [addr_add] at this
    rw [show 0 + j * 32 + k = 0 + (j * 32 + k) from by omega]
    exact this
theorem duo_d (w : World) (xs ys : List Int) (hx : xs.length = 32) (hy : ys.length = 32) : DBx w.heap.size ((w.alloc (.cells (B8 xs) 30)).alloc (.cells (B8 ys) 30)) xs ∧ DBx (w.heap.size + 1) ((w.alloc (.cells (B8 xs) 30)).alloc (.cells (B8 ys) 30)) ys ∧ Below w.heap.size w ((w.alloc (.cells (B8 xs) 30)).alloc (.cells (B8 ys) 30)) := by
  have s1 : (w.alloc (.cells (B8 xs) 30)).heap.size = w.heap.size + 1 := by simp
  have h2 := dbx_new (w.alloc (.cells (B8 xs) 30)) ys hy
  rw [s1] at h2
  exact ⟨(dbx_new w xs hx).go (below_new _ _), h2, below_go (below_new w _) (below_new _ _)⟩
set_option maxHeartbeats 4000000 in
theorem order_any (xs ys : List Int) (hx : xs.length = 32) (hy : ys.length = 32) (w : World) :
    Calls Try.prog 29 #[.agg (B8 xs), .agg (B8 ys)] w fun e w' => e = .returned (.int .i64 (ordT xs ys)) ∧ Below w.heap.size w w' := by
  have HP0 := Hid.mk (duo_d w xs ys hx hy)
  obtain ⟨p, hp⟩ : ∃ p, lt32 xs ys = p := ⟨_, rfl⟩
  obtain ⟨q, hq⟩ : ∃ q, lt32 ys xs = q := ⟨_, rfl⟩
  have HO := Hid.mk (show ordT xs ys = if p then -1 else if q then 1 else 0 from by unfold ordT; rw [hp, hq])
  have HP := Hid.mk hp
  have HQ := Hid.mk hq
  clear hp hq
  go_enter Try.func29, Try.ntmps29
  go_upto_region 1 with fail
  refine gen_w (p := fun v => Code.wp _ _ _ _ v) (q := fun v => DBx w.heap.size v xs ∧ DBx (w.heap.size + 1) v ys ∧ Below w.heap.size w v) HP0.out ?_
  clear HP0
  intro u hD
  have HD := Hid.mk hD
  clear hD
  rename_i KK hkk
  refine wp_region_lit ?_
  refine wl_pure 6 (.agg (B8 xs)) rfl (by kernel_rfl) (rd_loadDd rfl (by kernel_rfl) HD.out.1) ?_
  refine wl_pure 7 (.agg (B8 ys)) rfl (by kernel_rfl) (rd_loadDd rfl (by kernel_rfl) HD.out.2.1) ?_
  refine wl_call 8 rfl (by kernel_rfl) 40 #[.agg (B8 xs), .agg (B8 ys)] (by kernel_rfl) (R := fun val w' => val = .bool p ∧ Below u.heap.size u w') ((less_any xs ys hx hy u).mono (fun e w' h => ⟨_, h.1, by rw [HP.out], h.2⟩)) ?_
  rintro val u1 ⟨rfl, hb1⟩
  refine wl_pure 5 (.bool p) rfl (by kernel_rfl) (by kernel_rfl) ?_
  refine hkk _ _ ?_
  have HD1 := Hid.mk (show DBx w.heap.size u1 xs ∧ DBx (w.heap.size + 1) u1 ys ∧ Below w.heap.size w u1 from ⟨HD.out.1.go hb1, HD.out.2.1.go hb1, below_go HD.out.2.2 hb1⟩)
  clear hkk hb1 HD
  go_frame
  cases p with
  | true =>
    go_wp2_with fail
    go_ret
    exact ⟨by rw [HO.out]; rfl, HD1.out.2.2⟩
  | false =>
    go_upto_region 3 with fail
    rename_i KK hkk
    refine wp_region_lit ?_
    refine wl_pure 10 (.agg (B8 ys)) rfl (by kernel_rfl) (rd_loadDd rfl (by kernel_rfl) HD1.out.2.1) ?_
    refine wl_pure 11 (.agg (B8 xs)) rfl (by kernel_rfl) (rd_loadDd rfl (by kernel_rfl) HD1.out.1) ?_
    refine wl_call 12 rfl (by kernel_rfl) 40 #[.agg (B8 ys), .agg (B8 xs)] (by kernel_rfl) (R := fun val w' => val = .bool q ∧ Below u1.heap.size u1 w') ((less_any ys xs hy hx u1).mono (fun e w' h => ⟨_, h.1, by rw [HQ.out], h.2⟩)) ?_
    rintro val u2 ⟨rfl, hb2⟩
    refine wl_pure 9 (.bool q) rfl (by kernel_rfl) (by kernel_rfl) ?_
    refine hkk _ _ ?_
    have HB2 := Hid.mk (below_go HD1.out.2.2 hb2)
    clear hkk hb2 HD1
    go_frame
    cases q with
    | true =>
      go_wp2_with fail
      go_ret
      exact ⟨by rw [HO.out]; rfl, HB2.out⟩
    | false =>
      go_wp2_with fail
      go_ret
      exact ⟨by rw [HO.out]; rfl, HB2.out⟩
end Go.Proofs.Ytjpcfdhkgfaeeaa
/- The reference's List: what is picked. -/
namespace Go.Proofs.Ytjpcfdhkgfaeeaa
open Go.RowKit
open Di (lt32 less_any rless_any)
set_option linter.unusedVariables false
set_option maxRecDepth 100000
/-- Does a digest lie behind the last one of a list? -/
def bh (M : List (List Int)) (x : List Int) : Bool := match M[M.length - 1]? with
  | none => true
  | some y => lt32 y x
theorem bh_nil (x : List Int) : bh [] x = true := rfl
theorem bh_last {M : List (List Int)} {y : List Int} (h : M[M.length - 1]? = some y) (x : List Int) : bh M x = lt32 y x := by unfold bh; rw [h]
/-- What is laid out, and what is left. -/
structure Gd (K M R : List (List Int)) : Prop where
  pm : (M ++ R).Perm K
  st : Srt M
  lt : ∀ y ∈ M, ∀ x ∈ R, lt32 y x = true
theorem gd_nil (K : List (List Int)) : Gd K [] K := ⟨List.Perm.refl _, List.Pairwise.nil, fun y hy => by cases hy⟩
theorem Gd.bh {K M R : List (List Int)} (h : Gd K M R) {x : List Int} (hx : x ∈ R) : bh M x = true := by
  cases hq : M[M.length - 1]? with
  | none => unfold Go.Proofs.Ytjpcfdhkgfaeeaa.bh; rw [hq]
  | some y => rw [bh_last hq]; exact h.lt y (List.mem_of_getElem? hq) x hx
theorem srt_last : ∀ {M : List (List Int)} {y : List Int}, Srt M → M[M.length - 1]? = some y → ∀ x ∈ M, x = y ∨ lt32 x y = true := by
  intro M y hs hy x hx
  obtain ⟨i, hi, rfl⟩ := List.mem_iff_getElem.1 hx
  obtain ⟨hl, rfl⟩ := List.getElem?_eq_some_iff.1 hy
  by_cases e : i = M.length - 1
  · subst e
    exact .inl rfl
  · exact .inr (List.pairwise_iff_getElem.1 hs i (M.length - 1) hi hl (by omega))
theorem Gd.no {K M R : List (List Int)} (h : Gd K M R) {x : List Int} (hx : x ∈ M) : Go.Proofs.Ytjpcfdhkgfaeeaa.bh M x = false := by
  have hl : M.length - 1 < M.length := by have := List.length_pos_of_mem hx; omega
  have hy : M[M.length - 1]? = some (M[M.length - 1]) := List.getElem?_eq_getElem hl
  rw [bh_last hy]
  rcases srt_last h.st hy x hx with e | e
  · rw [← e]; exact lt32_irr _
  · exact lt32_asym e
/-- The best one so far. -/
def Bst (M : List (List Int)) (L : List Th) (j : Nat) (b : Int) : Prop :=
  (b = -1 ∧ ∀ i x, i < j → L[i]? = some x → bh M x.d = false) ∨
  (∃ k y, b = ((k : Nat) : Int) ∧ k < j ∧ L[k]? = some y ∧ bh M y.d = true ∧ ∀ i x, i < j → L[i]? = some x → bh M x.d = true → lt32 x.d y.d = false)
theorem bst_nil (M : List (List Int)) (L : List Th) : Bst M L 0 (-1) := .inl ⟨rfl, fun i x h => by omega⟩
theorem Bst.skip {M : List (List Int)} {L : List Th} {j : Nat} {b : Int} {x : Th} (h : Bst M L j b) (hx : L[j]? = some x) (hb : bh M x.d = false) : Bst M L (j + 1) b := by
  rcases h with ⟨e, h⟩ | ⟨k, y, e, hk, hy, h1, h2⟩
  · refine .inl ⟨e, fun i z hi hz => ?_⟩
    by_cases q : i = j
    · subst q; rw [hx] at hz; cases hz; exact hb
    · exact h i z (by omega) hz
  · refine .inr ⟨k, y, e, by omega, hy, h1, fun i z hi hz hzb => ?_⟩
    by_cases q : i = j
    · subst q; rw [hx] at hz; cases hz; rw [hb] at hzb; cases hzb
    · exact h2 i z (by omega) hz hzb
theorem Bst.first {M : List (List Int)} {L : List Th} {j : Nat} {x : Th} (h : ∀ i z, i < j → L[i]? = some z → bh M z.d = false) (hx : L[j]? = some x) (hb : bh M x.d = true) : Bst M L (j + 1) j := by
  refine .inr ⟨j, x, rfl, by omega, hx, hb, fun i z hi hz hzb => ?_⟩
  by_cases q : i = j
  · subst q; rw [hx] at hz; cases hz; exact lt32_irr _
  · rw [h i z (by omega) hz] at hzb; cases hzb
theorem Bst.next {M : List (List Int)} {L : List Th} {j : Nat} {y x : Th} (h : ∀ i z, i < j → L[i]? = some z → bh M z.d = true → lt32 z.d y.d = false) (hx : L[j]? = some x) (hb : bh M x.d = true) (hl : lt32 x.d y.d = true) : Bst M L (j + 1) j := by
  refine .inr ⟨j, x, rfl, by omega, hx, hb, fun i z hi hz hzb => ?_⟩
  by_cases q : i = j
  · subst q; rw [hx] at hz; cases hz; exact lt32_irr _
  · cases hq : lt32 z.d x.d with
    | false => rfl
    | true =>
      have h1 := lt32_trans _ _ _ hq hl
      rw [h i z (by omega) hz hzb] at h1
      cases h1
theorem Bst.stay {M : List (List Int)} {L : List Th} {j k : Nat} {y x : Th} (hk : k < j) (hy : L[k]? = some y) (h1 : bh M y.d = true) (h : ∀ i z, i < j → L[i]? = some z → bh M z.d = true → lt32 z.d y.d = false) (hx : L[j]? = some x) (hl : lt32 x.d y.d = false) : Bst M L (j + 1) k := by
  refine .inr ⟨k, y, rfl, by omega, hy, h1, fun i z hi hz hzb => ?_⟩
  by_cases q : i = j
  · subst q; rw [hx] at hz; cases hz; exact hl
  · exact h i z (by omega) hz hzb
/-- The least of those left is picked. -/
theorem Gd.pick {L : List Th} {M R : List (List Int)} {b : Int} (h : Gd (L.map Th.d) M R) (hl : Lens L) (hnd : (L.map Th.d).Nodup) (hlt : M.length < L.length) (hb : Bst M L L.length b) : ∃ k y, b = ((k : Nat) : Int) ∧ L[k]? = some y ∧ Gd (L.map Th.d) (M ++ [y.d]) (R.erase y.d) := by
  have hlen := h.pm.length_eq
  rw [List.length_append, List.length_map] at hlen
  have idx : ∀ x ∈ R, ∃ i z, i < L.length ∧ L[i]? = some z ∧ z.d = x := fun x hx => by
    have : x ∈ L.map Th.d := h.pm.mem_iff.1 (List.mem_append.2 (.inr hx))
    obtain ⟨z, hz, e⟩ := List.mem_map.1 this
    obtain ⟨i, hi, e2⟩ := List.mem_iff_getElem.1 hz
    exact ⟨i, z, hi, by rw [List.getElem?_eq_getElem hi, e2], e⟩
  rcases hb with ⟨e, hb⟩ | ⟨k, y, e, hk, hy, h1, h2⟩
  · exfalso
    cases R with
    | nil => simp at hlen; omega
    | cons x t =>
      obtain ⟨i, z, hi, hz, e2⟩ := idx x (by simp)
      have := hb i z hi hz
      rw [e2, h.bh (by simp)] at this
      cases this
  · refine ⟨k, y, e, hy, ?_⟩
    have hyR : y.d ∈ R := by
      have : y.d ∈ M ++ R := h.pm.mem_iff.2 (List.mem_map.2 ⟨y, List.mem_of_getElem? hy, rfl⟩)
      rcases List.mem_append.1 this with hm | hm
      · rw [h.no hm] at h1; cases h1
      · exact hm
    have hnR : R.Nodup := (List.nodup_append.1 (h.pm.symm.nodup hnd)).2.1
    refine ⟨?_, ?_, ?_⟩
    · rw [List.append_assoc]
      exact ((List.Perm.append_left M (List.perm_cons_erase hyR)).symm).trans h.pm
    · exact List.pairwise_append.2 ⟨h.st, List.pairwise_singleton _ _, fun a ha c hc => by
        rw [List.mem_singleton.1 hc]
        exact h.lt a ha _ hyR⟩
    · intro a ha x hx
      have hxR := List.mem_of_mem_erase hx
      rcases List.mem_append.1 ha with ha | ha
      · exact h.lt a ha x hxR
      · rw [List.mem_singleton.1 ha]
        obtain ⟨i, z, hi, hz, e2⟩ := idx x hxR
        have h3 := h2 i z hi hz (by rw [e2]; exact h.bh hxR)
        rw [e2] at h3
        have hne : x ≠ y.d := fun q => by rw [q] at hx; exact (hnR.not_mem_erase) hx
        refine lt32_tot x y.d ?_ hne h3
        rw [← e2, hl z (List.mem_of_getElem? hz), hl y (List.mem_of_getElem? hy)]
theorem Gd.done {L : List Th} {M R : List (List Int)} (h : Gd (L.map Th.d) M R) (hl : L.length ≤ M.length) : M.Perm (L.map Th.d) := by
  have hlen := h.pm.length_eq
  rw [List.length_append, List.length_map] at hlen
  have : R = [] := List.eq_nil_of_length_eq_zero (by omega)
  subst this
  have := h.pm
  rwa [List.append_nil] at this
theorem Gd.lens {L : List Th} {M R : List (List Int)} (h : Gd (L.map Th.d) M R) (hl : Lens L) : LenD M := fun d hd => by
  have : d ∈ L.map Th.d := h.pm.mem_iff.1 (List.mem_append.2 (.inl hd))
  obtain ⟨z, hz, e⟩ := List.mem_map.1 this
  rw [← e]
  exact hl z hz
section
variable {a : Act} {w : World}
theorem rd_lenDL {x : Operand} {p : Option Addr} {n c : Nat} {o : Oper} (ho : o.op = .call { callee := .builtin .len, args := #[x], argTypes := #[38] }) (hx : a.eval x = .slice p n c) : (execOp a.eval o).run Try.prog w = .ok (.value (.int .i64 n)) w := by
  simp [execOp, ho, resolve, invoke, builtin, hx, Builtin.len_, run_underlying Try.underlying38, Result.andThen, goInt]
theorem rd_lenOE {x : Operand} {p : Option Addr} {n c : Nat} {o : Oper} (ho : o.op = .call { callee := .builtin .len, args := #[x], argTypes := #[26] }) (hx : a.eval x = .slice p n c) : (execOp a.eval o).run Try.prog w = .ok (.value (.int .i64 n)) w := by
  simp [execOp, ho, resolve, invoke, builtin, hx, Builtin.len_, run_underlying Try.underlying26, Result.andThen, goInt]
theorem rd_subn {x : Operand} {n : Nat} {o : Oper} (ho : o.op = .binOp .sub 3 x (.const (.int .i64 1)) 3) (hx : a.eval x = .int .i64 n) (h1 : 1 ≤ n) (h2 : n ≤ 2199023255550) : (execOp a.eval o).run Try.prog w = .ok (.value (.int .i64 ((n - 1 : Nat) : Int))) w := by
  unfold execOp
  rw [ho]
  have hw : IntKind.i64.wrap ((n : Int) - 1) = ((n - 1 : Nat) : Int) := by unfold IntKind.wrap; simp [IntKind.bits, IntKind.signed]; omega
  simp only [hx]
  go_simp
theorem rd_lssi {p q : Int} {r : TypeId} {x y : Operand} {b : Bool} {o : Oper} (ho : o.op = .binOp .lss 3 x y r) (hx : a.eval x = .int .i64 p) (hy : a.eval y = .int .i64 q) (hb : decide (p < q) = b) : (execOp a.eval o).run Try.prog w = .ok (.value (.bool b)) w := by
  subst hb
  unfold execOp
  rw [ho]
  simp only [hx, hy]
  go_simp
end
end Go.Proofs.Ytjpcfdhkgfaeeaa
