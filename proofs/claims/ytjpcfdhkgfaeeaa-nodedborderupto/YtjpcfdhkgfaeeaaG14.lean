/- The reference's List tells its digests in their order. -/
import Derived.Test.YtjpcfdhkgfaeeaaG13
namespace Go.Proofs.Ytjpcfdhkgfaeeaa
open Go.RowKit
open Di (lt32 less_any rless_any)
set_option linter.unusedVariables false
set_option maxRecDepth 100000
def slen : Value → Nat
  | .slice _ n _ => n
  | _ => 0
/-- While List goes on. -/
structure Lx (w v : World) (most : Int) (a : Option Addr) (n c : Nat) (ta : Option Addr) (tm tc : Nat) (M : List (List Int)) : Prop where
  sb : SBx w.heap.size v most a n c
  bel : Below w.heap.size w v
  sz : w.heap.size + 1 ≤ v.heap.size
  own : OwnD v (w.heap.size + 1) (.slice ta tm tc) M
theorem Lx.go {w v v' : World} {most : Int} {a : Option Addr} {n c : Nat} {ta : Option Addr} {tm tc : Nat} {M : List (List Int)} (h : Lx w v most a n c ta tm tc M) (hb : Below v.heap.size v v') : Lx w v' most a n c ta tm tc M := ⟨h.sb.go hb, below_go h.bel hb, Nat.le_trans h.sz hb.size, ownD_keep h.own (fun g _ hl => hb.block g hl)⟩
theorem Lx.drew {w v : World} {most : Int} {a : Option Addr} {n c : Nat} {ta : Option Addr} {tm tc : Nat} {M : List (List Int)} (h : Lx w v most a n c ta tm tc M) : Lx w v.drew most a n c ta tm tc M := h.go (Below.refl _ _).drew
theorem Lx.ds {w v : World} {most : Int} {a : Option Addr} {n c : Nat} {ta : Option Addr} {tm tc : Nat} {M : List (List Int)} (h : Lx w v most a n c ta tm tc M) (hl : LenD M) : Ds v ta tm tc M := by
  obtain ⟨a', c', e, hd, _⟩ := ownD_ds h.own hl
  cases e
  exact hd
theorem lx_new (w : World) (most : Int) (a : Option Addr) (n c : Nat) : Lx w (w.alloc (.cells #[.int .i64 most, .slice a n c] 28)) most a n c none 0 0 [] := ⟨heap_alloc_new _ _, below_new _ _, by simp, ownD_nil _ _⟩
set_option maxHeartbeats 16000000 in
theorem rlist_any (most : Int) (a : Option Addr) (n c : Nat) (L : List Th) (w : World) (h : Ls w a n c L) (hnd : (L.map Th.d).Nodup) (hn : n ≤ 2199023255549) :
    Calls Try.prog 14 #[.agg #[.int .i64 most, .slice a n c]] w fun e w' => (∃ a' n' c' M, e = .returned (.slice a' n' c') ∧ Ds w' a' n' c' M ∧ Srt M ∧ M.Perm (L.map Th.d)) ∧ Below w.heap.size w w' := by
  have HH := Hid.mk h
  have HL := Hid.mk h.l
  have HND := Hid.mk hnd
  have HP0 := Hid.mk (lx_new w most a n c)
  clear h hnd
  go_enter Try.func14, Try.ntmps14
  go_upto_region 1 with fail
  refine gen_w (p := fun v => Code.wp _ _ _ _ v) (q := fun v => Lx w v most a n c none 0 0 []) HP0.out ?_
  clear HP0
  intro v hX
  have HX0 := Hid.mk hX
  clear hX
  go_wp2_with fail
  go_loopw [3] (fun s3 u => ∃ (ta : Option Addr) (tm tc : Nat) (M R : List (List Int)), s3 = .slice ta tm tc ∧ tm = M.length ∧ Gd (L.map Th.d) M R ∧ Lx w u most a n c ta tm tc M) (fun s3 _ => n - slen s3)
  case atStart => exact ⟨none, 0, 0, [], L.map Th.d, rfl, rfl, gd_nil _, HX0.out⟩
  case round =>
    obtain ⟨ta, tm, tc, M, R, rfl, htm, hgd, hX⟩ := hrel
    have HX := Hid.mk hX
    have HGD := Hid.mk hgd
    have HTM := Hid.mk htm
    have c1 := hX.sb.c1
    clear hX hgd htm HX0
    by_cases hlt : tm < n
    · have hti : (tm : Int) < n := by omega
      go_wp2_with fail
      go_loopw [4, 5] (fun s4 s5 u => ∃ (b : Int) (j : Nat), j ≤ n ∧ s4 = .int .i64 b ∧ s5 = .int .i64 j ∧ Bst M L j b ∧ Lx w u most a n c ta tm tc M) (fun _ s5 _ => n - (intOf s5).toNat)
      case atStart => exact ⟨-1, 0, by omega, rfl, rfl, bst_nil _ _, HX.out⟩
      case round =>
        clear c1 HX
        obtain ⟨b, j, hj, rfl, rfl, hb, hX⟩ := hrel
        have HX := Hid.mk hX
        have HB := Hid.mk hb
        have c1 := hX.sb.c1
        clear hX hb
        by_cases hjl : j < n
        · have hji : (j : Int) < n := by omega
          obtain ⟨x, hx⟩ : ∃ x, L[j]? = some x := ⟨_, List.getElem?_eq_getElem (by rw [← HL.out]; exact hjl)⟩
          obtain ⟨g, off, ha, hr⟩ := HH.out.rows j x hx
          have HXL := Hid.mk (HH.out.lens x (List.mem_of_getElem? hx))
          have HR := Hid.mk hr
          have HXX := Hid.mk hx
          subst ha
          clear hr hx
          cases hM : M[M.length - 1]? with
          | none =>
            have hM0 : M = [] := by
              have := List.getElem?_eq_none_iff.1 hM
              exact List.eq_nil_of_length_eq_zero (by omega)
            subst hM0
            have ht0 : tm = 0 := HTM.out
            subst ht0
            have HBH := Hid.mk (bh_nil x.d)
            clear hM
            go_upto_region 7 with fail
            rename_i KK7 hkk
            refine wp_region_held_drew (S := fun v' => Lx w v' most (some ⟨g, off, none⟩) n c ta 0 tc []) (by kernel_rfl) HX.out.drew (fun hS => ?_)
            refine rd_take 0 20 (.slice ta 0 tc) rfl rfl (by kernel_rfl) (by kernel_rfl) (by kernel_rfl) (fun _ _ _ h => h) (by kernel_rfl) (fun v _ => by kernel_rfl) hS ?_
            refine rd_take 1 21 (.int .i64 ((0 : Nat) : Int)) rfl rfl (by kernel_rfl) (by kernel_rfl) (by kernel_rfl) (fun _ _ _ h => h) (by kernel_rfl) (fun v' _ => rd_lenDL (p := ta) (c := tc) rfl (by kernel_rfl)) hS ?_
            refine rd_take 2 22 (.bool true) rfl rfl (by kernel_rfl) (by kernel_rfl) (by kernel_rfl) (fun _ _ _ h => h) (by kernel_rfl) (fun v' _ => rd_eqi rfl (by kernel_rfl) (by kernel_rfl) (show (((0 : Nat) : Int) == 0) = true from rfl)) hS ?_
            refine rd_take 3 23 (.bool true) rfl rfl (by kernel_rfl) (by kernel_rfl) (by kernel_rfl) (fun _ _ _ h => h) (by kernel_rfl) (fun v _ => by kernel_rfl) hS ?_
            refine rd_skip 4 24 rfl rfl (by kernel_rfl) (by kernel_rfl) (by kernel_rfl) (fun _ _ _ h => h) (by kernel_rfl) hS ?_
            refine rd_skip 5 25 rfl rfl (by kernel_rfl) (by kernel_rfl) (by kernel_rfl) (fun _ _ _ h => h) (by kernel_rfl) hS ?_
            refine rd_skip 6 26 rfl rfl (by kernel_rfl) (by kernel_rfl) (by kernel_rfl) (fun _ _ _ h => h) (by kernel_rfl) hS ?_
            refine rd_skip 7 27 rfl rfl (by kernel_rfl) (by kernel_rfl) (by kernel_rfl) (fun _ _ _ h => h) (by kernel_rfl) hS ?_
            refine rd_skip 8 28 rfl rfl (by kernel_rfl) (by kernel_rfl) (by kernel_rfl) (fun _ _ _ h => h) (by kernel_rfl) hS ?_
            refine rd_skip 9 29 rfl rfl (by kernel_rfl) (by kernel_rfl) (by kernel_rfl) (fun _ _ _ h => h) (by kernel_rfl) hS ?_
            refine rd_skip 10 30 rfl rfl (by kernel_rfl) (by kernel_rfl) (by kernel_rfl) (fun _ _ _ h => h) (by kernel_rfl) hS ?_
            refine rd_skip 11 31 rfl rfl (by kernel_rfl) (by kernel_rfl) (by kernel_rfl) (fun _ _ _ h => h) (by kernel_rfl) hS ?_
            refine rd_skip 12 32 rfl rfl (by kernel_rfl) (by kernel_rfl) (by kernel_rfl) (fun _ _ _ h => h) (by kernel_rfl) hS ?_
            refine rd_skip 13 33 rfl rfl (by kernel_rfl) (by kernel_rfl) (by kernel_rfl) (fun _ _ _ h => h) (by kernel_rfl) hS ?_
            refine rd_skip 14 34 rfl rfl (by kernel_rfl) (by kernel_rfl) (by kernel_rfl) (fun _ _ _ h => h) (by kernel_rfl) hS ?_
            refine rd_skip 15 35 rfl rfl (by kernel_rfl) (by kernel_rfl) (by kernel_rfl) (fun _ _ _ h => h) (by kernel_rfl) hS ?_
            refine rd_skip 16 36 rfl rfl (by kernel_rfl) (by kernel_rfl) (by kernel_rfl) (fun _ _ _ h => h) (by kernel_rfl) hS ?_
            refine rd_take 17 37 (.bool true) rfl rfl (by kernel_rfl) (by kernel_rfl) (by kernel_rfl) (fun _ _ _ h => h) (by kernel_rfl) (fun v _ => by kernel_rfl) hS ?_
            refine rd_take 18 6 (.bool true) rfl rfl (by kernel_rfl) (by kernel_rfl) (by kernel_rfl) (fun _ _ _ h => h) (by kernel_rfl) (fun v _ => by kernel_rfl) hS ?_
            refine wpAnyH_done (by kernel_rfl) ?_ _
            refine hkk _ _ ?_
            clear hkk HX
            have HX := Hid.mk hS
            clear hS
            generalize wr.drew = u at HX ⊢
            go_frame
            rcases HB.out with ⟨hb0, hbs⟩ | ⟨k, z, hbk, hkj, hz, hzb, hbs⟩
            · subst hb0
              have HB0 := Hid.mk hbs
              clear hbs HB
              go_upto_region 8 with fail
              rename_i KK8 hkk
              refine wp_region_held_drew (S := fun v' => Lx w v' most (some ⟨g, off, none⟩) n c ta 0 tc []) (by kernel_rfl) HX.out.drew (fun hS => ?_)
              refine rd_take 0 38 (.bool true) rfl rfl (by kernel_rfl) (by kernel_rfl) (by kernel_rfl) (fun _ _ _ h => h) (by kernel_rfl) (fun v _ => by kernel_rfl) hS ?_
              refine rd_take 1 39 (.bool true) rfl rfl (by kernel_rfl) (by kernel_rfl) (by kernel_rfl) (fun _ _ _ h => h) (by kernel_rfl) (fun v _ => by kernel_rfl) hS ?_
              refine rd_take 2 40 (.int .i64 (-1)) rfl rfl (by kernel_rfl) (by kernel_rfl) (by kernel_rfl) (fun _ _ _ h => h) (by kernel_rfl) (fun v _ => by kernel_rfl) hS ?_
              refine rd_take 3 41 (.bool true) rfl rfl (by kernel_rfl) (by kernel_rfl) (by kernel_rfl) (fun _ _ _ h => h) (by kernel_rfl) (fun v' _ => rd_lssi rfl (by kernel_rfl) (by kernel_rfl) (show decide ((-1 : Int) < 0) = true from rfl)) hS ?_
              refine rd_take 4 42 (.bool true) rfl rfl (by kernel_rfl) (by kernel_rfl) (by kernel_rfl) (fun _ _ _ h => h) (by kernel_rfl) (fun v _ => by kernel_rfl) hS ?_
              refine rd_skip 5 43 rfl rfl (by kernel_rfl) (by kernel_rfl) (by kernel_rfl) (fun _ _ _ h => h) (by kernel_rfl) hS ?_
              refine rd_skip 6 44 rfl rfl (by kernel_rfl) (by kernel_rfl) (by kernel_rfl) (fun _ _ _ h => h) (by kernel_rfl) hS ?_
              refine rd_skip 7 45 rfl rfl (by kernel_rfl) (by kernel_rfl) (by kernel_rfl) (fun _ _ _ h => h) (by kernel_rfl) hS ?_
              refine rd_skip 8 46 rfl rfl (by kernel_rfl) (by kernel_rfl) (by kernel_rfl) (fun _ _ _ h => h) (by kernel_rfl) hS ?_
              refine rd_skip 9 47 rfl rfl (by kernel_rfl) (by kernel_rfl) (by kernel_rfl) (fun _ _ _ h => h) (by kernel_rfl) hS ?_
              refine rd_skip 10 48 rfl rfl (by kernel_rfl) (by kernel_rfl) (by kernel_rfl) (fun _ _ _ h => h) (by kernel_rfl) hS ?_
              refine rd_skip 11 49 rfl rfl (by kernel_rfl) (by kernel_rfl) (by kernel_rfl) (fun _ _ _ h => h) (by kernel_rfl) hS ?_
              refine rd_skip 12 50 rfl rfl (by kernel_rfl) (by kernel_rfl) (by kernel_rfl) (fun _ _ _ h => h) (by kernel_rfl) hS ?_
              refine rd_skip 13 51 rfl rfl (by kernel_rfl) (by kernel_rfl) (by kernel_rfl) (fun _ _ _ h => h) (by kernel_rfl) hS ?_
              refine rd_skip 14 52 rfl rfl (by kernel_rfl) (by kernel_rfl) (by kernel_rfl) (fun _ _ _ h => h) (by kernel_rfl) hS ?_
              refine rd_skip 15 53 rfl rfl (by kernel_rfl) (by kernel_rfl) (by kernel_rfl) (fun _ _ _ h => h) (by kernel_rfl) hS ?_
              refine rd_skip 16 54 rfl rfl (by kernel_rfl) (by kernel_rfl) (by kernel_rfl) (fun _ _ _ h => h) (by kernel_rfl) hS ?_
              refine rd_skip 17 55 rfl rfl (by kernel_rfl) (by kernel_rfl) (by kernel_rfl) (fun _ _ _ h => h) (by kernel_rfl) hS ?_
              refine rd_take 18 56 (.bool true) rfl rfl (by kernel_rfl) (by kernel_rfl) (by kernel_rfl) (fun _ _ _ h => h) (by kernel_rfl) (fun v _ => by kernel_rfl) hS ?_
              refine rd_take 19 57 (.bool true) rfl rfl (by kernel_rfl) (by kernel_rfl) (by kernel_rfl) (fun _ _ _ h => h) (by kernel_rfl) (fun v _ => by kernel_rfl) hS ?_
              refine wpAnyH_done (by kernel_rfl) ?_ _
              refine hkk _ _ ?_
              clear hkk HX
              have HX := Hid.mk hS
              clear hS
              generalize u.drew = u3 at HX ⊢
              go_frame
              go_wp2_with fail
              exact ⟨⟨j, j + 1, by omega, rfl, by simp, Bst.first HB0.out HXX.out HBH.out, HX.out⟩, by simp [intOf]; omega⟩
            · subst hbk
              have HB1 := Hid.mk hbs
              have HZB := Hid.mk hzb
              have HZZ := Hid.mk hz
              have HKJ := Hid.mk hkj
              have hkn : k < n := by omega
              have HZL := Hid.mk (HH.out.lens z (List.mem_of_getElem? hz))
              obtain ⟨g2, off2, ha2, hr2⟩ := HH.out.rows k z hz
              cases ha2
              have HRZ := Hid.mk hr2
              obtain ⟨p, hp⟩ : ∃ p, lt32 x.d z.d = p := ⟨_, rfl⟩
              have HPQ := Hid.mk hp
              have HK0 := Hid.mk (show decide ((k : Int) < 0) = false from decide_eq_false (by omega))
              clear hbs hzb hz hkj hr2 hp HB
              go_upto_region 8 with fail
              rename_i KK8 hkk
              refine wp_region_held_drew (S := fun v' => Lx w v' most (some ⟨g, off, none⟩) n c ta 0 tc []) (by kernel_rfl) HX.out.drew (fun hS => ?_)
              refine rd_take 0 38 (.bool true) rfl rfl (by kernel_rfl) (by kernel_rfl) (by kernel_rfl) (fun _ _ _ h => h) (by kernel_rfl) (fun v _ => by kernel_rfl) hS ?_
              refine rd_take 1 39 (.bool true) rfl rfl (by kernel_rfl) (by kernel_rfl) (by kernel_rfl) (fun _ _ _ h => h) (by kernel_rfl) (fun v _ => by kernel_rfl) hS ?_
              refine rd_take 2 40 (.int .i64 k) rfl rfl (by kernel_rfl) (by kernel_rfl) (by kernel_rfl) (fun _ _ _ h => h) (by kernel_rfl) (fun v _ => by kernel_rfl) hS ?_
              refine rd_take 3 41 (.bool false) rfl rfl (by kernel_rfl) (by kernel_rfl) (by kernel_rfl) (fun _ _ _ h => h) (by kernel_rfl) (fun v' _ => rd_lssi rfl (by kernel_rfl) (by kernel_rfl) HK0.out) hS ?_
              refine rd_take 4 42 (.bool false) rfl rfl (by kernel_rfl) (by kernel_rfl) (by kernel_rfl) (fun _ _ _ h => h) (by kernel_rfl) (fun v _ => by kernel_rfl) hS ?_
              refine rd_take 5 43 (.pointer (some ⟨w.heap.size, 1, none⟩)) rfl rfl (by kernel_rfl) (by kernel_rfl) (by kernel_rfl) (fun _ _ _ h => h) (by kernel_rfl) (fun v _ => by kernel_rfl) hS ?_
              refine rd_take 6 44 (.slice (some ⟨g, off, none⟩) n c) rfl rfl (by kernel_rfl) (by kernel_rfl) (by kernel_rfl) (fun _ _ _ h => h) (by kernel_rfl) (fun v' hv => rd_loadOL rfl (by kernel_rfl) hv.sb.c1) hS ?_
              refine rd_take 7 45 (.int .i64 j) rfl rfl (by kernel_rfl) (by kernel_rfl) (by kernel_rfl) (fun _ _ _ h => h) (by kernel_rfl) (fun v _ => by kernel_rfl) hS ?_
              refine rd_take 8 46 (.pointer (some ⟨g, off + j * 34, none⟩)) rfl rfl (by kernel_rfl) (by kernel_rfl) (by kernel_rfl) (fun _ _ _ h => h) (by kernel_rfl) (fun v' _ => rd_indexO (m := n) (c := c) rfl (by kernel_rfl) (by kernel_rfl) hjl) hS ?_
              refine rd_take 9 47 (.pointer (some ⟨g, off + j * 34, none⟩)) rfl rfl (by kernel_rfl) (by kernel_rfl) (by kernel_rfl) (fun _ _ _ h => h) (by kernel_rfl) (fun v _ => by kernel_rfl) hS ?_
              refine rd_take 10 48 (.agg (B8 x.d)) rfl rfl (by kernel_rfl) (by kernel_rfl) (by kernel_rfl) (fun _ _ _ h => h) (by kernel_rfl) (fun v' hv => rd_loadDr rfl (by kernel_rfl) HXL.out (range_keep HR.out (fun hl => hv.bel.block g hl))) hS ?_
              refine rd_take 11 49 (.pointer (some ⟨w.heap.size, 1, none⟩)) rfl rfl (by kernel_rfl) (by kernel_rfl) (by kernel_rfl) (fun _ _ _ h => h) (by kernel_rfl) (fun v _ => by kernel_rfl) hS ?_
              refine rd_take 12 50 (.slice (some ⟨g, off, none⟩) n c) rfl rfl (by kernel_rfl) (by kernel_rfl) (by kernel_rfl) (fun _ _ _ h => h) (by kernel_rfl) (fun v' hv => rd_loadOL rfl (by kernel_rfl) hv.sb.c1) hS ?_
              refine rd_take 13 51 (.int .i64 k) rfl rfl (by kernel_rfl) (by kernel_rfl) (by kernel_rfl) (fun _ _ _ h => h) (by kernel_rfl) (fun v _ => by kernel_rfl) hS ?_
              refine rd_take 14 52 (.pointer (some ⟨g, off + k * 34, none⟩)) rfl rfl (by kernel_rfl) (by kernel_rfl) (by kernel_rfl) (fun _ _ _ h => h) (by kernel_rfl) (fun v' _ => rd_indexO (m := n) (c := c) rfl (by kernel_rfl) (by kernel_rfl) hkn) hS ?_
              refine rd_take 15 53 (.pointer (some ⟨g, off + k * 34, none⟩)) rfl rfl (by kernel_rfl) (by kernel_rfl) (by kernel_rfl) (fun _ _ _ h => h) (by kernel_rfl) (fun v _ => by kernel_rfl) hS ?_
              refine rd_take 16 54 (.agg (B8 z.d)) rfl rfl (by kernel_rfl) (by kernel_rfl) (by kernel_rfl) (fun _ _ _ h => h) (by kernel_rfl) (fun v' hv => rd_loadDr rfl (by kernel_rfl) HZL.out (range_keep HRZ.out (fun hl => hv.bel.block g hl))) hS ?_
              refine wpAnyH_ready (rs := [17]) (by kernel_rfl) (by simp) ?_
              refine rd_call 17 55 rfl rfl (by kernel_rfl) 30 #[.agg (B8 x.d), .agg (B8 z.d)] (by kernel_rfl) (R := fun val w' => val = .bool p ∧ Below u.drew.heap.size u.drew w') ((rless_any x.d z.d HXL.out HZL.out u.drew).mono (fun e w' h => ⟨_, h.1, by rw [HPQ.out], h.2⟩)) (fun val w' h => hS.go h.2) ?_ AllReadyH.nil
              rintro val u3 ⟨rfl, hb2⟩
              have hS2 := hS.go hb2
              refine rd_take 18 56 (.bool p) rfl rfl (by kernel_rfl) (by kernel_rfl) (by kernel_rfl) (fun _ _ _ h => h) (by kernel_rfl) (fun v _ => by kernel_rfl) hS2 ?_
              refine rd_take 19 57 (.bool p) rfl rfl (by kernel_rfl) (by kernel_rfl) (by kernel_rfl) (fun _ _ _ h => h) (by kernel_rfl) (fun v _ => by kernel_rfl) hS2 ?_
              refine wpAnyH_done (by kernel_rfl) ?_ _
              refine hkk _ _ ?_
              clear hkk hS HX hb2
              have HX := Hid.mk hS2
              clear hS2
              go_frame
              cases p with
              | true =>
                go_wp2_with fail
                exact ⟨⟨j, j + 1, by omega, rfl, by simp, Bst.next HB1.out HXX.out HBH.out HPQ.out, HX.out⟩, by simp [intOf]; omega⟩
              | false =>
                go_wp2_with fail
                exact ⟨⟨k, j + 1, by omega, rfl, by simp, Bst.stay HKJ.out HZZ.out HZB.out HB1.out HXX.out HPQ.out, HX.out⟩, by simp [intOf]; omega⟩
          | some y =>
            have hml := (List.getElem?_eq_some_iff.1 hM).1
            have ht1 : 1 ≤ tm := by rw [HTM.out]; omega
            have ht2 : tm ≤ 2199023255550 := by omega
            have HT0 := Hid.mk (show ((tm : Int) == 0) = false from by simp; omega)
            have HLD := Hid.mk (HGD.out.lens HH.out.lens)
            have hM1 : M[tm - 1]? = some y := by rw [HTM.out]; exact hM
            obtain ⟨g', off', hta, -⟩ := (HX.out.ds HLD.out).rows (tm - 1) y hM1
            have HYL := Hid.mk (HLD.out y (List.mem_of_getElem? hM))
            subst hta
            have HROW := Hid.mk (show ∀ v', Lx w v' most (some ⟨g, off, none⟩) n c (some ⟨g', off', none⟩) tm tc M → v'.rangeAt g' (off' + (tm - 1) * 32) (y.map (Value.int .u8)) from fun v' hv => by
              obtain ⟨g3, off3, e3, hr3⟩ := (hv.ds HLD.out).rows (tm - 1) y hM1
              cases e3
              exact hr3)
            obtain ⟨q, hq⟩ : ∃ q, lt32 y x.d = q := ⟨_, rfl⟩
            have HQ := Hid.mk hq
            have HBH := Hid.mk (show bh M x.d = q from by rw [bh_last hM, hq])
            clear hM hM1 hq hml
            go_upto_region 7 with fail
            rename_i KK7 hkk
            refine wp_region_held_drew (S := fun v' => Lx w v' most (some ⟨g, off, none⟩) n c (some ⟨g', off', none⟩) tm tc M) (by kernel_rfl) HX.out.drew (fun hS => ?_)
            refine rd_take 0 20 (.slice (some ⟨g', off', none⟩) tm tc) rfl rfl (by kernel_rfl) (by kernel_rfl) (by kernel_rfl) (fun _ _ _ h => h) (by kernel_rfl) (fun v _ => by kernel_rfl) hS ?_
            refine rd_take 1 21 (.int .i64 tm) rfl rfl (by kernel_rfl) (by kernel_rfl) (by kernel_rfl) (fun _ _ _ h => h) (by kernel_rfl) (fun v' _ => rd_lenDL (p := some ⟨g', off', none⟩) (c := tc) rfl (by kernel_rfl)) hS ?_
            refine rd_take 2 22 (.bool false) rfl rfl (by kernel_rfl) (by kernel_rfl) (by kernel_rfl) (fun _ _ _ h => h) (by kernel_rfl) (fun v' _ => rd_eqi rfl (by kernel_rfl) (by kernel_rfl) HT0.out) hS ?_
            refine rd_take 3 23 (.bool false) rfl rfl (by kernel_rfl) (by kernel_rfl) (by kernel_rfl) (fun _ _ _ h => h) (by kernel_rfl) (fun v _ => by kernel_rfl) hS ?_
            refine rd_take 4 24 (.slice (some ⟨g', off', none⟩) tm tc) rfl rfl (by kernel_rfl) (by kernel_rfl) (by kernel_rfl) (fun _ _ _ h => h) (by kernel_rfl) (fun v _ => by kernel_rfl) hS ?_
            refine rd_take 5 25 (.slice (some ⟨g', off', none⟩) tm tc) rfl rfl (by kernel_rfl) (by kernel_rfl) (by kernel_rfl) (fun _ _ _ h => h) (by kernel_rfl) (fun v _ => by kernel_rfl) hS ?_
            refine rd_take 6 26 (.int .i64 tm) rfl rfl (by kernel_rfl) (by kernel_rfl) (by kernel_rfl) (fun _ _ _ h => h) (by kernel_rfl) (fun v' _ => rd_lenDL (p := some ⟨g', off', none⟩) (c := tc) rfl (by kernel_rfl)) hS ?_
            refine rd_take 7 27 (.int .i64 ((tm - 1 : Nat) : Int)) rfl rfl (by kernel_rfl) (by kernel_rfl) (by kernel_rfl) (fun _ _ _ h => h) (by kernel_rfl) (fun v' _ => rd_subn rfl (by kernel_rfl) ht1 ht2) hS ?_
            refine rd_take 8 28 (.pointer (some ⟨g', off' + (tm - 1) * 32, none⟩)) rfl rfl (by kernel_rfl) (by kernel_rfl) (by kernel_rfl) (fun _ _ _ h => h) (by kernel_rfl) (fun v' _ => rd_indexD (m := tm) (c := tc) rfl (by kernel_rfl) (by kernel_rfl) (by omega)) hS ?_
            refine rd_take 9 29 (.agg (B8 y)) rfl rfl (by kernel_rfl) (by kernel_rfl) (by kernel_rfl) (fun _ _ _ h => h) (by kernel_rfl) (fun v' hv => rd_loadDD rfl (by kernel_rfl) HYL.out (HROW.out v' hv)) hS ?_
            refine rd_take 10 30 (.pointer (some ⟨w.heap.size, 1, none⟩)) rfl rfl (by kernel_rfl) (by kernel_rfl) (by kernel_rfl) (fun _ _ _ h => h) (by kernel_rfl) (fun v _ => by kernel_rfl) hS ?_
            refine rd_take 11 31 (.slice (some ⟨g, off, none⟩) n c) rfl rfl (by kernel_rfl) (by kernel_rfl) (by kernel_rfl) (fun _ _ _ h => h) (by kernel_rfl) (fun v' hv => rd_loadOL rfl (by kernel_rfl) hv.sb.c1) hS ?_
            refine rd_take 12 32 (.int .i64 j) rfl rfl (by kernel_rfl) (by kernel_rfl) (by kernel_rfl) (fun _ _ _ h => h) (by kernel_rfl) (fun v _ => by kernel_rfl) hS ?_
            refine rd_take 13 33 (.pointer (some ⟨g, off + j * 34, none⟩)) rfl rfl (by kernel_rfl) (by kernel_rfl) (by kernel_rfl) (fun _ _ _ h => h) (by kernel_rfl) (fun v' _ => rd_indexO (m := n) (c := c) rfl (by kernel_rfl) (by kernel_rfl) hjl) hS ?_
            refine rd_take 14 34 (.pointer (some ⟨g, off + j * 34, none⟩)) rfl rfl (by kernel_rfl) (by kernel_rfl) (by kernel_rfl) (fun _ _ _ h => h) (by kernel_rfl) (fun v _ => by kernel_rfl) hS ?_
            refine rd_take 15 35 (.agg (B8 x.d)) rfl rfl (by kernel_rfl) (by kernel_rfl) (by kernel_rfl) (fun _ _ _ h => h) (by kernel_rfl) (fun v' hv => rd_loadDr rfl (by kernel_rfl) HXL.out (range_keep HR.out (fun hl => hv.bel.block g hl))) hS ?_
            refine wpAnyH_ready (rs := [16]) (by kernel_rfl) (by simp) ?_
            refine rd_call 16 36 rfl rfl (by kernel_rfl) 30 #[.agg (B8 y), .agg (B8 x.d)] (by kernel_rfl) (R := fun val w' => val = .bool q ∧ Below wr.drew.heap.size wr.drew w') ((rless_any y x.d HYL.out HXL.out wr.drew).mono (fun e w' h => ⟨_, h.1, by rw [HQ.out], h.2⟩)) (fun val w' h => hS.go h.2) ?_ AllReadyH.nil
            rintro val u ⟨rfl, hb2⟩
            have hS2 := hS.go hb2
            refine rd_take 17 37 (.bool q) rfl rfl (by kernel_rfl) (by kernel_rfl) (by kernel_rfl) (fun _ _ _ h => h) (by kernel_rfl) (fun v _ => by kernel_rfl) hS2 ?_
            refine rd_take 18 6 (.bool q) rfl rfl (by kernel_rfl) (by kernel_rfl) (by kernel_rfl) (fun _ _ _ h => h) (by kernel_rfl) (fun v _ => by kernel_rfl) hS2 ?_
            refine wpAnyH_done (by kernel_rfl) ?_ _
            refine hkk _ _ ?_
            clear hkk hS HX hb2
            have HX := Hid.mk hS2
            clear hS2
            go_frame
            cases q with
            | false =>
              go_upto_region 8 with fail
              rename_i KK8 hkk
              refine wp_region_held_drew (S := fun v' => Lx w v' most (some ⟨g, off, none⟩) n c (some ⟨g', off', none⟩) tm tc M) (by kernel_rfl) HX.out.drew (fun hS => ?_)
              refine rd_take 0 38 (.bool false) rfl rfl (by kernel_rfl) (by kernel_rfl) (by kernel_rfl) (fun _ _ _ h => h) (by kernel_rfl) (fun v _ => by kernel_rfl) hS ?_
              refine rd_take 1 39 (.bool false) rfl rfl (by kernel_rfl) (by kernel_rfl) (by kernel_rfl) (fun _ _ _ h => h) (by kernel_rfl) (fun v _ => by kernel_rfl) hS ?_
              refine rd_skip 2 40 rfl rfl (by kernel_rfl) (by kernel_rfl) (by kernel_rfl) (fun _ _ _ h => h) (by kernel_rfl) hS ?_
              refine rd_skip 3 41 rfl rfl (by kernel_rfl) (by kernel_rfl) (by kernel_rfl) (fun _ _ _ h => h) (by kernel_rfl) hS ?_
              refine rd_skip 4 42 rfl rfl (by kernel_rfl) (by kernel_rfl) (by kernel_rfl) (fun _ _ _ h => h) (by kernel_rfl) hS ?_
              refine rd_skip 5 43 rfl rfl (by kernel_rfl) (by kernel_rfl) (by kernel_rfl) (fun _ _ _ h => h) (by kernel_rfl) hS ?_
              refine rd_skip 6 44 rfl rfl (by kernel_rfl) (by kernel_rfl) (by kernel_rfl) (fun _ _ _ h => h) (by kernel_rfl) hS ?_
              refine rd_skip 7 45 rfl rfl (by kernel_rfl) (by kernel_rfl) (by kernel_rfl) (fun _ _ _ h => h) (by kernel_rfl) hS ?_
              refine rd_skip 8 46 rfl rfl (by kernel_rfl) (by kernel_rfl) (by kernel_rfl) (fun _ _ _ h => h) (by kernel_rfl) hS ?_
              refine rd_skip 9 47 rfl rfl (by kernel_rfl) (by kernel_rfl) (by kernel_rfl) (fun _ _ _ h => h) (by kernel_rfl) hS ?_
              refine rd_skip 10 48 rfl rfl (by kernel_rfl) (by kernel_rfl) (by kernel_rfl) (fun _ _ _ h => h) (by kernel_rfl) hS ?_
              refine rd_skip 11 49 rfl rfl (by kernel_rfl) (by kernel_rfl) (by kernel_rfl) (fun _ _ _ h => h) (by kernel_rfl) hS ?_
              refine rd_skip 12 50 rfl rfl (by kernel_rfl) (by kernel_rfl) (by kernel_rfl) (fun _ _ _ h => h) (by kernel_rfl) hS ?_
              refine rd_skip 13 51 rfl rfl (by kernel_rfl) (by kernel_rfl) (by kernel_rfl) (fun _ _ _ h => h) (by kernel_rfl) hS ?_
              refine rd_skip 14 52 rfl rfl (by kernel_rfl) (by kernel_rfl) (by kernel_rfl) (fun _ _ _ h => h) (by kernel_rfl) hS ?_
              refine rd_skip 15 53 rfl rfl (by kernel_rfl) (by kernel_rfl) (by kernel_rfl) (fun _ _ _ h => h) (by kernel_rfl) hS ?_
              refine rd_skip 16 54 rfl rfl (by kernel_rfl) (by kernel_rfl) (by kernel_rfl) (fun _ _ _ h => h) (by kernel_rfl) hS ?_
              refine rd_skip 17 55 rfl rfl (by kernel_rfl) (by kernel_rfl) (by kernel_rfl) (fun _ _ _ h => h) (by kernel_rfl) hS ?_
              refine rd_skip 18 56 rfl rfl (by kernel_rfl) (by kernel_rfl) (by kernel_rfl) (fun _ _ _ h => h) (by kernel_rfl) hS ?_
              refine rd_take 19 57 (.bool false) rfl rfl (by kernel_rfl) (by kernel_rfl) (by kernel_rfl) (fun _ _ _ h => h) (by kernel_rfl) (fun v _ => by kernel_rfl) hS ?_
              refine wpAnyH_done (by kernel_rfl) ?_ _
              refine hkk _ _ ?_
              clear hkk HX
              have HX := Hid.mk hS
              clear hS
              generalize u.drew = u3 at HX ⊢
              go_frame
              go_wp2_with fail
              exact ⟨⟨b, j + 1, by omega, rfl, by simp, HB.out.skip HXX.out HBH.out, HX.out⟩, by simp [intOf]; omega⟩
            | true =>
              rcases HB.out with ⟨hb0, hbs⟩ | ⟨k, z, hbk, hkj, hz, hzb, hbs⟩
              · subst hb0
                have HB0 := Hid.mk hbs
                clear hbs HB
                go_upto_region 8 with fail
                rename_i KK8 hkk
                refine wp_region_held_drew (S := fun v' => Lx w v' most (some ⟨g, off, none⟩) n c (some ⟨g', off', none⟩) tm tc M) (by kernel_rfl) HX.out.drew (fun hS => ?_)
                refine rd_take 0 38 (.bool true) rfl rfl (by kernel_rfl) (by kernel_rfl) (by kernel_rfl) (fun _ _ _ h => h) (by kernel_rfl) (fun v _ => by kernel_rfl) hS ?_
                refine rd_take 1 39 (.bool true) rfl rfl (by kernel_rfl) (by kernel_rfl) (by kernel_rfl) (fun _ _ _ h => h) (by kernel_rfl) (fun v _ => by kernel_rfl) hS ?_
                refine rd_take 2 40 (.int .i64 (-1)) rfl rfl (by kernel_rfl) (by kernel_rfl) (by kernel_rfl) (fun _ _ _ h => h) (by kernel_rfl) (fun v _ => by kernel_rfl) hS ?_
                refine rd_take 3 41 (.bool true) rfl rfl (by kernel_rfl) (by kernel_rfl) (by kernel_rfl) (fun _ _ _ h => h) (by kernel_rfl) (fun v' _ => rd_lssi rfl (by kernel_rfl) (by kernel_rfl) (show decide ((-1 : Int) < 0) = true from rfl)) hS ?_
                refine rd_take 4 42 (.bool true) rfl rfl (by kernel_rfl) (by kernel_rfl) (by kernel_rfl) (fun _ _ _ h => h) (by kernel_rfl) (fun v _ => by kernel_rfl) hS ?_
                refine rd_skip 5 43 rfl rfl (by kernel_rfl) (by kernel_rfl) (by kernel_rfl) (fun _ _ _ h => h) (by kernel_rfl) hS ?_
                refine rd_skip 6 44 rfl rfl (by kernel_rfl) (by kernel_rfl) (by kernel_rfl) (fun _ _ _ h => h) (by kernel_rfl) hS ?_
                refine rd_skip 7 45 rfl rfl (by kernel_rfl) (by kernel_rfl) (by kernel_rfl) (fun _ _ _ h => h) (by kernel_rfl) hS ?_
                refine rd_skip 8 46 rfl rfl (by kernel_rfl) (by kernel_rfl) (by kernel_rfl) (fun _ _ _ h => h) (by kernel_rfl) hS ?_
                refine rd_skip 9 47 rfl rfl (by kernel_rfl) (by kernel_rfl) (by kernel_rfl) (fun _ _ _ h => h) (by kernel_rfl) hS ?_
                refine rd_skip 10 48 rfl rfl (by kernel_rfl) (by kernel_rfl) (by kernel_rfl) (fun _ _ _ h => h) (by kernel_rfl) hS ?_
                refine rd_skip 11 49 rfl rfl (by kernel_rfl) (by kernel_rfl) (by kernel_rfl) (fun _ _ _ h => h) (by kernel_rfl) hS ?_
                refine rd_skip 12 50 rfl rfl (by kernel_rfl) (by kernel_rfl) (by kernel_rfl) (fun _ _ _ h => h) (by kernel_rfl) hS ?_
                refine rd_skip 13 51 rfl rfl (by kernel_rfl) (by kernel_rfl) (by kernel_rfl) (fun _ _ _ h => h) (by kernel_rfl) hS ?_
                refine rd_skip 14 52 rfl rfl (by kernel_rfl) (by kernel_rfl) (by kernel_rfl) (fun _ _ _ h => h) (by kernel_rfl) hS ?_
                refine rd_skip 15 53 rfl rfl (by kernel_rfl) (by kernel_rfl) (by kernel_rfl) (fun _ _ _ h => h) (by kernel_rfl) hS ?_
                refine rd_skip 16 54 rfl rfl (by kernel_rfl) (by kernel_rfl) (by kernel_rfl) (fun _ _ _ h => h) (by kernel_rfl) hS ?_
                refine rd_skip 17 55 rfl rfl (by kernel_rfl) (by kernel_rfl) (by kernel_rfl) (fun _ _ _ h => h) (by kernel_rfl) hS ?_
                refine rd_take 18 56 (.bool true) rfl rfl (by kernel_rfl) (by kernel_rfl) (by kernel_rfl) (fun _ _ _ h => h) (by kernel_rfl) (fun v _ => by kernel_rfl) hS ?_
                refine rd_take 19 57 (.bool true) rfl rfl (by kernel_rfl) (by kernel_rfl) (by kernel_rfl) (fun _ _ _ h => h) (by kernel_rfl) (fun v _ => by kernel_rfl) hS ?_
                refine wpAnyH_done (by kernel_rfl) ?_ _
                refine hkk _ _ ?_
                clear hkk HX
                have HX := Hid.mk hS
                clear hS
                generalize u.drew = u3 at HX ⊢
                go_frame
                go_wp2_with fail
                exact ⟨⟨j, j + 1, by omega, rfl, by simp, Bst.first HB0.out HXX.out HBH.out, HX.out⟩, by simp [intOf]; omega⟩
              · subst hbk
                have HB1 := Hid.mk hbs
                have HZB := Hid.mk hzb
                have HZZ := Hid.mk hz
                have HKJ := Hid.mk hkj
                have hkn : k < n := by omega
                have HZL := Hid.mk (HH.out.lens z (List.mem_of_getElem? hz))
                obtain ⟨g2, off2, ha2, hr2⟩ := HH.out.rows k z hz
                cases ha2
                have HRZ := Hid.mk hr2
                obtain ⟨p, hp⟩ : ∃ p, lt32 x.d z.d = p := ⟨_, rfl⟩
                have HPQ := Hid.mk hp
                have HK0 := Hid.mk (show decide ((k : Int) < 0) = false from decide_eq_false (by omega))
                clear hbs hzb hz hkj hr2 hp HB
                go_upto_region 8 with fail
                rename_i KK8 hkk
                refine wp_region_held_drew (S := fun v' => Lx w v' most (some ⟨g, off, none⟩) n c (some ⟨g', off', none⟩) tm tc M) (by kernel_rfl) HX.out.drew (fun hS => ?_)
                refine rd_take 0 38 (.bool true) rfl rfl (by kernel_rfl) (by kernel_rfl) (by kernel_rfl) (fun _ _ _ h => h) (by kernel_rfl) (fun v _ => by kernel_rfl) hS ?_
                refine rd_take 1 39 (.bool true) rfl rfl (by kernel_rfl) (by kernel_rfl) (by kernel_rfl) (fun _ _ _ h => h) (by kernel_rfl) (fun v _ => by kernel_rfl) hS ?_
                refine rd_take 2 40 (.int .i64 k) rfl rfl (by kernel_rfl) (by kernel_rfl) (by kernel_rfl) (fun _ _ _ h => h) (by kernel_rfl) (fun v _ => by kernel_rfl) hS ?_
                refine rd_take 3 41 (.bool false) rfl rfl (by kernel_rfl) (by kernel_rfl) (by kernel_rfl) (fun _ _ _ h => h) (by kernel_rfl) (fun v' _ => rd_lssi rfl (by kernel_rfl) (by kernel_rfl) HK0.out) hS ?_
                refine rd_take 4 42 (.bool false) rfl rfl (by kernel_rfl) (by kernel_rfl) (by kernel_rfl) (fun _ _ _ h => h) (by kernel_rfl) (fun v _ => by kernel_rfl) hS ?_
                refine rd_take 5 43 (.pointer (some ⟨w.heap.size, 1, none⟩)) rfl rfl (by kernel_rfl) (by kernel_rfl) (by kernel_rfl) (fun _ _ _ h => h) (by kernel_rfl) (fun v _ => by kernel_rfl) hS ?_
                refine rd_take 6 44 (.slice (some ⟨g, off, none⟩) n c) rfl rfl (by kernel_rfl) (by kernel_rfl) (by kernel_rfl) (fun _ _ _ h => h) (by kernel_rfl) (fun v' hv => rd_loadOL rfl (by kernel_rfl) hv.sb.c1) hS ?_
                refine rd_take 7 45 (.int .i64 j) rfl rfl (by kernel_rfl) (by kernel_rfl) (by kernel_rfl) (fun _ _ _ h => h) (by kernel_rfl) (fun v _ => by kernel_rfl) hS ?_
                refine rd_take 8 46 (.pointer (some ⟨g, off + j * 34, none⟩)) rfl rfl (by kernel_rfl) (by kernel_rfl) (by kernel_rfl) (fun _ _ _ h => h) (by kernel_rfl) (fun v' _ => rd_indexO (m := n) (c := c) rfl (by kernel_rfl) (by kernel_rfl) hjl) hS ?_
                refine rd_take 9 47 (.pointer (some ⟨g, off + j * 34, none⟩)) rfl rfl (by kernel_rfl) (by kernel_rfl) (by kernel_rfl) (fun _ _ _ h => h) (by kernel_rfl) (fun v _ => by kernel_rfl) hS ?_
                refine rd_take 10 48 (.agg (B8 x.d)) rfl rfl (by kernel_rfl) (by kernel_rfl) (by kernel_rfl) (fun _ _ _ h => h) (by kernel_rfl) (fun v' hv => rd_loadDr rfl (by kernel_rfl) HXL.out (range_keep HR.out (fun hl => hv.bel.block g hl))) hS ?_
                refine rd_take 11 49 (.pointer (some ⟨w.heap.size, 1, none⟩)) rfl rfl (by kernel_rfl) (by kernel_rfl) (by kernel_rfl) (fun _ _ _ h => h) (by kernel_rfl) (fun v _ => by kernel_rfl) hS ?_
                refine rd_take 12 50 (.slice (some ⟨g, off, none⟩) n c) rfl rfl (by kernel_rfl) (by kernel_rfl) (by kernel_rfl) (fun _ _ _ h => h) (by kernel_rfl) (fun v' hv => rd_loadOL rfl (by kernel_rfl) hv.sb.c1) hS ?_
                refine rd_take 13 51 (.int .i64 k) rfl rfl (by kernel_rfl) (by kernel_rfl) (by kernel_rfl) (fun _ _ _ h => h) (by kernel_rfl) (fun v _ => by kernel_rfl) hS ?_
                refine rd_take 14 52 (.pointer (some ⟨g, off + k * 34, none⟩)) rfl rfl (by kernel_rfl) (by kernel_rfl) (by kernel_rfl) (fun _ _ _ h => h) (by kernel_rfl) (fun v' _ => rd_indexO (m := n) (c := c) rfl (by kernel_rfl) (by kernel_rfl) hkn) hS ?_
                refine rd_take 15 53 (.pointer (some ⟨g, off + k * 34, none⟩)) rfl rfl (by kernel_rfl) (by kernel_rfl) (by kernel_rfl) (fun _ _ _ h => h) (by kernel_rfl) (fun v _ => by kernel_rfl) hS ?_
                refine rd_take 16 54 (.agg (B8 z.d)) rfl rfl (by kernel_rfl) (by kernel_rfl) (by kernel_rfl) (fun _ _ _ h => h) (by kernel_rfl) (fun v' hv => rd_loadDr rfl (by kernel_rfl) HZL.out (range_keep HRZ.out (fun hl => hv.bel.block g hl))) hS ?_
                refine wpAnyH_ready (rs := [17]) (by kernel_rfl) (by simp) ?_
                refine rd_call 17 55 rfl rfl (by kernel_rfl) 30 #[.agg (B8 x.d), .agg (B8 z.d)] (by kernel_rfl) (R := fun val w' => val = .bool p ∧ Below u.drew.heap.size u.drew w') ((rless_any x.d z.d HXL.out HZL.out u.drew).mono (fun e w' h => ⟨_, h.1, by rw [HPQ.out], h.2⟩)) (fun val w' h => hS.go h.2) ?_ AllReadyH.nil
                rintro val u3 ⟨rfl, hb2⟩
                have hS2 := hS.go hb2
                refine rd_take 18 56 (.bool p) rfl rfl (by kernel_rfl) (by kernel_rfl) (by kernel_rfl) (fun _ _ _ h => h) (by kernel_rfl) (fun v _ => by kernel_rfl) hS2 ?_
                refine rd_take 19 57 (.bool p) rfl rfl (by kernel_rfl) (by kernel_rfl) (by kernel_rfl) (fun _ _ _ h => h) (by kernel_rfl) (fun v _ => by kernel_rfl) hS2 ?_
                refine wpAnyH_done (by kernel_rfl) ?_ _
                refine hkk _ _ ?_
                clear hkk hS HX hb2
                have HX := Hid.mk hS2
                clear hS2
                go_frame
                cases p with
                | true =>
                  go_wp2_with fail
                  exact ⟨⟨j, j + 1, by omega, rfl, by simp, Bst.next HB1.out HXX.out HBH.out HPQ.out, HX.out⟩, by simp [intOf]; omega⟩
                | false =>
                  go_wp2_with fail
                  exact ⟨⟨k, j + 1, by omega, rfl, by simp, Bst.stay HKJ.out HZZ.out HZB.out HB1.out HXX.out HPQ.out, HX.out⟩, by simp [intOf]; omega⟩
        · have hji : ¬ (j : Int) < n := by omega
          have hjn : j = L.length := by rw [← HL.out]; omega
          have hb := HB.out
          rw [hjn] at hb
          obtain ⟨k, y, hbk, hy, hgd2⟩ := HGD.out.pick HH.out.lens HND.out (by rw [← HTM.out, ← HL.out]; exact hlt) hb
          subst hbk
          have hkn : k < n := by rw [HL.out]; exact (List.getElem?_eq_some_iff.1 hy).1
          obtain ⟨g, off, ha, hr⟩ := HH.out.rows k y hy
          subst ha
          have HYL := Hid.mk (HH.out.lens y (List.mem_of_getElem? hy))
          have HR := Hid.mk hr
          have HG2 := Hid.mk hgd2
          have htm2 := HTM.out
          clear hb hy hr hgd2 hjn HB
          obtain ⟨v', w3, hrun, hown3, hb3⟩ := app_digs (zs := [y.d]) (w := wr.alloc (.cells (B8 y.d) 30)) (ad := ⟨wr.heap.size, 0, none⟩) (c := 1) (ownD_keep HX.out.own (fun g hg hl => (below_new wr _).block g hl)) (fun z hz => by simp only [List.mem_cons, List.not_mem_nil, or_false] at hz; rw [hz]; exact HYL.out) (fun q t ht => by
            rw [flatD_one] at ht
            rw [addr_add, Nat.zero_add, cell_of_row _ _ _ _ _ _ (heap_alloc_new wr _), B8, List.getElem?_toArray]
            exact ht) (by have h2 := HX.out.sz; simp; omega) (by simp; omega) 38
          obtain ⟨ta', tc', hv', -, -⟩ := ownD_ds hown3 (HG2.out.lens HH.out.lens)
          obtain ⟨tn', htn⟩ : ∃ tn', (M ++ [y.d]).length = tn' := ⟨_, rfl⟩
          rw [htn] at hv'
          subst hv'
          have HRUN := Hid.mk hrun
          have HX3 := Hid.mk (show Lx w w3 most (some ⟨g, off, none⟩) n c ta' tn' tc' (M ++ [y.d]) from ⟨(hb3.block _ (by omega)).trans (HX.out.sb.go (below_new wr _)), (below_go HX.out.bel (below_new wr _)).trans (hb3.mono (by omega)), Nat.le_trans (by have := HX.out.sz; simp; omega) hb3.size, hown3⟩)
          have htn2 : tn' = tm + 1 := by rw [← htn, htm2]; simp
          have HTN := Hid.mk htn
          clear hrun hown3 hb3 htn htm2
          go_upto_region 10 with fail
          refine wp_region_lit ?_
          refine wl_pure 59 (.slice ta tm tc) rfl (by kernel_rfl) (by kernel_rfl) ?_
          refine wl_pure 60 (.pointer (some ⟨w.heap.size, 1, none⟩)) rfl (by kernel_rfl) (by kernel_rfl) ?_
          refine wl_pure 61 (.slice (some ⟨g, off, none⟩) n c) rfl (by kernel_rfl) (rd_loadOL rfl (by kernel_rfl) HX.out.sb.c1) ?_
          refine wl_pure 62 (.int .i64 k) rfl (by kernel_rfl) (by kernel_rfl) ?_
          refine wl_pure 63 (.pointer (some ⟨g, off + k * 34, none⟩)) rfl (by kernel_rfl) (rd_indexO (m := n) (c := c) rfl (by kernel_rfl) (by kernel_rfl) hkn) ?_
          refine wl_pure 64 (.pointer (some ⟨g, off + k * 34, none⟩)) rfl (by kernel_rfl) (by kernel_rfl) ?_
          refine wl_pure 65 (.agg (B8 y.d)) rfl (by kernel_rfl) (rd_loadDr rfl (by kernel_rfl) HYL.out (range_keep HR.out (fun hl => HX.out.bel.block g hl))) ?_
          refine wl_run 66 (.slice (some ⟨wr.heap.size, 0, none⟩) 1 1) rfl (by kernel_rfl) (rd_buildDL rfl y.d HYL.out (by kernel_rfl)) ?_
          refine wl_run 67 (.slice ta' tn' tc') rfl (by kernel_rfl) (rd_appDL rfl (.slice ta tm tc) (.slice (some ⟨wr.heap.size, 0, none⟩) 1 1) (by kernel_rfl) (by kernel_rfl) HRUN.out) ?_
          refine wl_pure 3 (.slice ta' tn' tc') rfl (by kernel_rfl) (by kernel_rfl) ?_
          clear HRUN HX c1
          go_wp2_with fail
          exact ⟨⟨ta', tn', tc', ⟨rfl, htn2.symm, rfl⟩, M ++ [y.d], HTN.out.symm, ⟨R.erase y.d, HG2.out⟩, HX3.out⟩, by simp [slen]; omega⟩
    · have hti : ¬ (tm : Int) < n := by omega
      have HDS := Hid.mk (HX.out.ds (HGD.out.lens HH.out.lens))
      have HPM := Hid.mk (HGD.out.done (by rw [← HTM.out, ← HL.out]; omega))
      go_wp2_with fail
      go_ret
      exact ⟨⟨ta, tm, tc, rfl, M, HDS.out, HGD.out.st, HPM.out⟩, HX.out.bel⟩
end Go.Proofs.Ytjpcfdhkgfaeeaa
/- What stands of the list of things, whatever is called. -/
namespace Go.Proofs.Ytjpcfdhkgfaeeaa
open Go.RowKit
open Di (dref dref_len)
set_option linter.unusedVariables false
set_option maxRecDepth 100000
/-- Counts are counts, texts are no longer than may be, digests are digests, no two alike. -/
structure Iv (L : List Th) : Prop where
  rng : Rng L
  szs : Szs L
  lens : Lens L
  nd : (L.map Th.d).Nodup
theorem iv_nil : Iv [] := ⟨(fun x hx => by cases hx), (fun x hx => by cases hx), (fun x hx => by cases hx), List.Pairwise.nil⟩
theorem findT_none {d : List Int} : ∀ {L : List Th}, findT d L = none → ∀ y ∈ L, y.d ≠ d
  | [], _, y, hy => by cases hy
  | x :: r, h, y, hy => by
    unfold findT at h
    by_cases e : x.d = d
    · rw [if_pos e] at h; cases h
    · rw [if_neg e] at h
      have h' : findT d r = none := by
        cases hq : findT d r with
        | none => rfl
        | some p => rw [hq] at h; cases h
      rcases List.mem_cons.1 hy with rfl | hy
      · exact e
      · exact findT_none h' y hy
theorem Iv.app {L : List Th} {x : Th} (h : Iv L) (hr : 1 ≤ x.r ∧ x.r ≤ 4294967295) (hs : x.s.size ≤ 140737488351232) (hd : x.d.length = 32) (hf : findT x.d L = none) : Iv (L ++ [x]) := by
  have hm : ∀ {p : Th → Prop}, (∀ y ∈ L, p y) → p x → ∀ y ∈ L ++ [x], p y := fun h1 h2 y hy => by
    rcases List.mem_append.1 hy with hy | hy
    · exact h1 y hy
    · rw [List.mem_singleton.1 hy]; exact h2
  refine ⟨hm h.rng hr, hm h.szs hs, hm h.lens hd, ?_⟩
  rw [List.map_append]
  refine List.nodup_append.2 ⟨h.nd, List.pairwise_singleton _ _, fun a ha b hb => ?_⟩
  obtain ⟨y, hy, rfl⟩ := List.mem_map.1 ha
  rw [List.map_cons, List.map_nil] at hb
  rw [List.mem_singleton.1 hb]
  exact findT_none hf y hy
theorem Iv.set {L : List Th} {x y : Th} {j : Nat} (h : Iv L) (hr : 1 ≤ x.r ∧ x.r ≤ 4294967295) (hs : x.s.size ≤ 140737488351232) (hj : L[j]? = some y) (hd : y.d = x.d) : Iv (L.set j x) := by
  have hm : ∀ {p : Th → Prop}, (∀ y ∈ L, p y) → p x → ∀ y ∈ L.set j x, p y := fun h1 h2 y hy => by
    rcases List.mem_or_eq_of_mem_set hy with hy | hy
    · exact h1 y hy
    · rw [hy]; exact h2
  refine ⟨hm h.rng hr, hm h.szs hs, hm h.lens (by rw [← hd]; exact h.lens y (List.mem_of_getElem? hj)), ?_⟩
  have e : (L.set j x).map Th.d = L.map Th.d := by
    rw [List.map_set, ← hd]
    refine List.ext_getElem? fun i => ?_
    rw [List.getElem?_set]
    by_cases q : j = i
    · subst q
      obtain ⟨h1, h2⟩ := List.getElem?_eq_some_iff.1 hj
      simp [h1, h2]
    · simp [q]
  rw [e]
  exact h.nd
theorem Iv.erase {L : List Th} (h : Iv L) (j : Nat) : Iv (L.eraseIdx j) := by
  have hm : ∀ {p : Th → Prop}, (∀ y ∈ L, p y) → ∀ y ∈ L.eraseIdx j, p y := fun h1 y hy => h1 y (List.mem_of_mem_eraseIdx hy)
  exact ⟨hm h.rng, hm h.szs, hm h.lens, h.nd.sublist ((List.eraseIdx_sublist L j).map Th.d)⟩
theorem Iv.put {L : List Th} {x : Th} (h : Iv L) (hr : 1 ≤ x.r ∧ x.r ≤ 4294967295) (hs : x.s.size ≤ 140737488351232) (hd : x.d.length = 32) : Iv (putT x L) := by
  unfold putT
  cases hf : findT x.d L with
  | none => exact h.app hr hs hd hf
  | some p =>
    obtain ⟨j, y⟩ := p
    obtain ⟨h1, h2⟩ := findT_some hf
    exact h.set hr hs h1 h2
theorem Iv.del {L : List Th} (h : Iv L) (d : List Int) : Iv (delT d L) := by
  unfold delT
  split
  · exact h
  · exact h.erase _
theorem Iv.putP {L : List Th} (h : Iv L) (most : Int) {s : ByteArray} (hs : s.size ≤ 140737488351232) : Iv (putP most s L).1 := by
  unfold Go.Proofs.Ytjpcfdhkgfaeeaa.putP
  split
  · split
    · exact h
    · exact h.put (x := ⟨_, s, 1⟩) ⟨by simp, by simp⟩ hs (dref_len _)
  · rename_i j y hf
    have hr := h.rng.find hf
    split
    · exact h
    · split
      · exact h
      · exact h.put (x := ⟨_, s, y.r + 1⟩) ⟨by simp only; omega, by simp only; omega⟩ hs (dref_len _)
theorem Iv.dropT {L : List Th} (h : Iv L) {d : List Int} (hd : d.length = 32) : Iv (dropT d L).1 := by
  unfold Go.Proofs.Ytjpcfdhkgfaeeaa.dropT
  split
  · exact h
  · rename_i j y hf
    have hr := h.rng.find hf
    split
    · exact h.put (x := ⟨d, y.s, y.r - 1⟩) ⟨by simp only; omega, by simp only; omega⟩ (h.szs y (List.mem_of_getElem? (findT_some hf).1)) hd
    · exact h.del d
theorem putT_len (x : Th) (L : List Th) : (putT x L).length ≤ L.length + 1 := by
  unfold putT
  split
  · simp
  · simp
theorem delT_len (d : List Int) (L : List Th) : (delT d L).length ≤ L.length := by
  unfold delT
  split
  · exact Nat.le_refl _
  · exact List.length_eraseIdx_le _ _
theorem putP_length (most : Int) (s : ByteArray) (L : List Th) : (putP most s L).1.length ≤ L.length + 1 := by
  unfold putP
  split
  · split
    · simp
    · exact putT_len _ _
  · split
    · simp
    · split
      · simp
      · exact putT_len _ _
theorem dropT_length (d : List Int) (L : List Th) : (dropT d L).1.length ≤ L.length := by
  unfold dropT
  split
  · exact Nat.le_refl _
  · rename_i j y hf
    split
    · have hl := (findT_some hf).1
      unfold putT
      simp only
      rw [hf]
      simp
    · exact delT_len _ _
end Go.Proofs.Ytjpcfdhkgfaeeaa
