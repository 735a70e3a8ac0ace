/- That NodedbCounts answers true. -/
import Derived.Test.YtjpcfdhkgfaeeaaG18
namespace Go.Proofs.Ytjpcfdhkgfaeeaa
open Go.RowKit
open Di (dref dref_len)
set_option linter.unusedVariables false
set_option maxRecDepth 100000
/-- One thing, so many times, or none. -/
def oneL (d : List Int) (s : ByteArray) (k : Int) : List Th := if 0 < k then [⟨d, s, k⟩] else []
theorem oneL_pos {d : List Int} {s : ByteArray} {k : Int} (h : 0 < k) : oneL d s k = [⟨d, s, k⟩] := if_pos h
theorem oneL_zero {d : List Int} {s : ByteArray} : oneL d s 0 = [] := rfl
theorem oneL_rng {d : List Int} {s : ByteArray} {k : Int} (h : k ≤ 200) : Rng (oneL d s k) := fun x hx => by
  unfold oneL at hx
  split at hx
  · simp only [List.mem_cons, List.not_mem_nil, or_false] at hx
    rw [hx]
    exact ⟨by show 1 ≤ k; omega, by show k ≤ 4294967295; omega⟩
  · cases hx
theorem oneL_szs {d : List Int} {s : ByteArray} {k : Int} (h : s.size ≤ 140737488351232) : Szs (oneL d s k) := fun x hx => by
  unfold oneL at hx
  split at hx
  · simp only [List.mem_cons, List.not_mem_nil, or_false] at hx
    rw [hx]
    exact h
  · cases hx
theorem put_one {s : ByteArray} {k : Int} (h0 : 0 ≤ k) (h : k ≤ 200) : putP 1 s (oneL (dref (nums s)) s k) = (oneL (dref (nums s)) s (k + 1), dref (nums s), 0) := by
  by_cases hk : 0 < k
  · rw [oneL_pos hk, oneL_pos (by omega)]
    unfold putP
    simp [findT, putT, show ¬ 4294967295 ≤ k from by omega]
  · have : k = 0 := by omega
    subst this
    rw [oneL_zero, show (0 : Int) + 1 = 1 from rfl, oneL_pos (by omega)]
    unfold putP
    simp [findT, putT]
theorem drop_one {d : List Int} {s : ByteArray} {k : Int} (h0 : 0 ≤ k) : dropT d (oneL d s k) = if k = 0 then ([], false, 61) else (oneL d s (k - 1), decide (k = 1), 0) := by
  by_cases hk : 0 < k
  · rw [oneL_pos hk, if_neg (by omega)]
    unfold dropT
    by_cases h1 : k = 1
    · subst h1
      simp [findT, delT, oneL]
    · simp [findT, putT, oneL_pos (show 0 < k - 1 by omega), h1]
      omega
  · have : k = 0 := by omega
    subst this
    rw [oneL_zero, if_pos rfl]
    rfl
theorem get_one {d : List Int} {s : ByteArray} {k : Int} (h0 : 0 ≤ k) : getT d (oneL d s k) = if 0 < k then (s, k, true) else (ByteArray.empty, 0, false) := by
  by_cases hk : 0 < k
  · rw [oneL_pos hk, if_pos hk]
    simp [getT, findT]
  · rw [if_neg hk]
    unfold oneL
    rw [if_neg hk]
    rfl
theorem ag_inB {w : World} {ad : Addr} {n c : Nat} {bs : List Int} (h : Ag w (some ad) n c bs) : Di.InB w (some ad) n c bs := by
  rcases h.i with ⟨h0, rfl⟩ | ⟨gb, off, e, h2, h3, h4, h5, hc⟩
  · exact .inr ⟨_, rfl, h.l, fun j u hu => by simp at hu⟩
  · cases e
    refine .inr ⟨_, rfl, h.l, fun j u hu => ?_⟩
    have hj : j < bs.length := by
      have := (List.getElem?_eq_some_iff.1 hu).1
      simpa using this
    rw [addr_add, hc j hj]
    rw [List.getElem?_map, List.getElem?_eq_getElem hj] at hu
    rw [← hu]
    simp [List.getD, List.getElem?_eq_getElem hj]
/-- A store of its own, and a box that holds the digest. -/
structure Ct (w u : World) (g m gD : Nat) (d : List Int) (s : ByteArray) (k : Int) : Prop where
  st : Sto u g m 1 (oneL d s k)
  db : DBx gD u d
  bel : Below w.heap.size w u
theorem Ct.go {w u u' : World} {g m gD : Nat} {d : List Int} {s : ByteArray} {k : Int} (h : Ct w u g m gD d s k) (hb : Below u.heap.size u u') : Ct w u' g m gD d s k := ⟨h.st.go hb, h.db.go hb, below_go h.bel hb⟩
theorem Ct.touch {w u u' : World} {g m gD : Nat} {d : List Int} {s : ByteArray} {k k' : Int} (h : Ct w u g m gD d s k) (hs : Sto u' g m 1 (oneL d s k')) (t : Touch m u u') (hm : w.heap.size ≤ m) (hne : gD ≠ m) : Ct w u' g m gD d s k' := ⟨hs, ⟨(t.block gD (lt_of_get h.db.row) hne).trans h.db.row, h.db.l⟩, touch_below h.bel t hm⟩
set_option maxHeartbeats 8000000 in
theorem counts_law (s : ByteArray) (puts drops : Int) (hs : s.size ≤ 140737488351232) (hp : -9223372036854775808 ≤ puts ∧ puts ≤ 9223372036854775807) (hd : -9223372036854775808 ≤ drops ∧ drops ≤ 9223372036854775807) (w : World) : Calls Try.prog 5 #[.string s, .int .i64 puts, .int .i64 drops] w fun e w' => e = .returned (.bool true) ∧ Below w.heap.size w w' := by
  obtain ⟨hp1, hp2⟩ := hp
  obtain ⟨hd1, hd2⟩ := hd
  go_enter Try.func5, Try.ntmps5
  go_wp2_with fail
  refine (begun_any 1 w).mono ?_
  rintro e w1 ⟨⟨g, m, rfl, hst, hg, hm⟩, hb1⟩
  have HST := Hid.mk hst
  have HM := Hid.mk hm
  have HB1 := Hid.mk hb1
  clear hst hg hm hb1
  by_cases c1 : puts < 0
  · go_wp2_with fail
    go_ret
    exact ⟨rfl, HB1.out⟩
  by_cases c2 : drops < 0
  · have c1' : ¬ puts < 0 := c1
    go_wp2_with fail
    go_ret
    exact ⟨rfl, HB1.out⟩
  by_cases c3 : puts > 200
  · go_wp2_with fail
    go_ret
    exact ⟨rfl, HB1.out⟩
  by_cases c4 : drops > 200
  · go_wp2_with fail
    go_ret
    exact ⟨rfl, HB1.out⟩
  obtain ⟨d, hdd⟩ : ∃ d, dref (nums s) = d := ⟨_, rfl⟩
  have HD := Hid.mk hdd
  have HDL := Hid.mk (show d.length = 32 from by rw [← hdd]; exact dref_len _)
  have HS := Hid.mk hs
  obtain ⟨P, hP⟩ : ∃ P : Nat, puts = P := ⟨puts.toNat, by omega⟩
  obtain ⟨Dn, hDn⟩ : ∃ Dn : Nat, drops = Dn := ⟨drops.toNat, by omega⟩
  subst hP hDn
  have hP200 : P ≤ 200 := by omega
  have hD200 : Dn ≤ 200 := by omega
  have k0 := str_conv w1 s
  have hag := bytes_ag w1 s hs
  have hbb := bytes_below w1 s
  have HAG := Hid.mk hag
  obtain ⟨cc, hcc⟩ : ∃ cc, grownCap w1 s.size 0 5 = cc := ⟨_, rfl⟩
  rw [hcc] at k0 HAG
  have HS2 := Hid.mk (HST.out.go hbb)
  have HB2 := Hid.mk (below_go HB1.out hbb)
  clear hdd hag hbb hs hcc
  go_wp2_with fail
  obtain ⟨v2, hv2⟩ : ∃ v2, Lib.bytesWorld w1 5 s = v2 := ⟨_, rfl⟩
  rw [hv2] at HS2 HB2 HAG ⊢
  clear hv2 k0
  refine (Di.rof_any _ _ _ (nums s) _ (ag_inB HAG.out) (nums_b s) (by rw [nums_len]; exact HS.out)).mono ?_
  rintro e w3 ⟨rfl, hb3⟩
  have hdg : B8 d = Di.B8 (Di.dig (Di.stOf (Di.padded (nums s)) ((Di.padded (nums s)).length / 32))) := by rw [← HD.out]; rfl
  rw [← hdg]
  have HS3 := Hid.mk (HS2.out.go hb3)
  have HB3 := Hid.mk (below_go HB2.out hb3)
  clear hb3 HS2 HB2 HAG HST HB1 hdg
  go_upto_region 5 with (first | refine wpList_store_row rfl 30 _ _ rfl _ (B8 d) rfl rfl 30 _ (heap_alloc_new _ _) (infoD d HDL.out) (z8_size HDL.out) (B8_ones _) ?_)
  refine gen_w (p := fun v => Code.wp _ _ _ _ v) (q := fun v => DBx w3.heap.size v d ∧ Below w3.heap.size w3 v) ⟨⟨setRow_heap _ _ _ _ _ _ (heap_alloc_new _ _), HDL.out⟩, Below.setRow (below_new w3 _) (Nat.le_refl _) _⟩ ?_
  rintro v4 ⟨D4, b4⟩
  have HC := Hid.mk (show Ct w v4 g m w3.heap.size d s 0 from ⟨HS3.out.go b4, D4, below_go HB3.out b4⟩)
  have HNE := Hid.mk (show w3.heap.size ≠ m from by have := HS3.out.lts.2; omega)
  clear D4 b4 HS3 HB3
  obtain ⟨gD, hgD⟩ : ∃ gD, w3.heap.size = gD := ⟨_, rfl⟩
  rw [hgD] at HC HNE ⊢
  clear hgD
  go_wp2_with fail
  go_loopw [10] (fun s10 u => ∃ j : Nat, j ≤ P ∧ s10 = .int .i64 j ∧ Ct w u g m gD d s j) (fun s10 _ => P - (intOf s10).toNat)
  case atStart => exact ⟨0, by omega, rfl, HC.out⟩
  case round =>
    obtain ⟨j, hj, rfl, hc⟩ := hrel
    have HC' := Hid.mk hc
    clear hc HC
    by_cases hlt : j < P
    · have hji : (j : Int) < P := by omega
      go_wp2_with fail
      refine (put_any HC'.out.st (oneL_rng (by omega)) (oneL_szs HS.out) s HS.out).mono ?_
      have hpo := put_one (s := s) (k := (j : Int)) (by omega) (by omega)
      rw [HD.out] at hpo
      rw [hpo]
      simp only
      rintro e w5 ⟨rfl, hst5, ht5⟩
      have HC5 := Hid.mk (HC'.out.touch hst5 ht5 HM.out HNE.out)
      clear hpo hst5 ht5 HC'
      go_upto_region 9 with (first | refine wpList_store_row rfl 30 _ _ rfl _ (B8 d) rfl rfl 30 _ (heap_alloc_new _ _) (infoD d HDL.out) (z8_size HDL.out) (B8_ones _) ?_)
      refine gen_w (p := fun v => Code.wp _ _ _ _ v) (q := fun v => DBx w5.heap.size v d ∧ Ct w v g m gD d s ((j : Int) + 1)) ⟨⟨setRow_heap _ _ _ _ _ _ (heap_alloc_new _ _), HDL.out⟩, HC5.out.go (Below.setRow (below_new w5 _) (Nat.le_refl _) _)⟩ ?_
      rintro v6 ⟨D6, C6⟩
      have HD6 := Hid.mk D6
      have HC6 := Hid.mk C6
      clear D6 C6 HC5
      go_wp2_with (first | refine wpl_loadD rfl _ rfl w5.heap.size 0 rfl d HDL.out HD6.out.all ?_ | refine wpl_loadD rfl _ rfl gD 0 rfl d HDL.out HC6.out.db.all ?_ | refine wpl_neD rfl _ _ rfl d d rfl rfl HDL.out HDL.out false (by simp) ?_)
      exact ⟨⟨j + 1, by omega, by simp, by simpa using HC6.out⟩, by simp [intOf]; omega⟩
    · have hji : ¬ (j : Int) < P := by omega
      have hjP : j = P := by omega
      have HC := Hid.mk (show Ct w wr g m gD d s ((P - 0 : Nat) : Int) from by have := HC'.out; rw [hjP] at this; exact this)
      clear hjP hlt hj HC'
      go_wp2_with fail
      go_loopw [13] (fun s13 u => ∃ i : Nat, i ≤ Dn ∧ s13 = .int .i64 i ∧ Ct w u g m gD d s ((P - i : Nat) : Int)) (fun s13 _ => Dn - (intOf s13).toNat)
      case atStart => exact ⟨0, by omega, rfl, HC.out⟩
      case round =>
        rename_i wr0 _ _ _ _ _ _
        obtain ⟨i, hi, rfl, hc⟩ := hrel
        have HC' := Hid.mk hc
        clear hc HC
        by_cases hlt : i < Dn
        · have hii : (i : Int) < Dn := by omega
          have HDO := Hid.mk (drop_any HC'.out.st (oneL_rng (by omega)) d HDL.out)
          rw [drop_one (by omega)] at HDO
          by_cases hiP : i < P
          · have hip : (i : Int) < P := by omega
            rw [if_neg (by omega)] at HDO
            simp only at HDO
            rw [show (((P - i : Nat) : Int) - 1) = ((P - (i + 1) : Nat) : Int) from by omega] at HDO
            by_cases hl : i + 1 = P
            · have hq : ((i : Int) == (P : Int) - 1) = true := by rw [beq_iff_eq]; omega
              rw [decide_eq_true (by omega)] at HDO
              clear hl
              go_wp2_with (first | refine wpl_loadD rfl _ rfl gD 0 rfl d HDL.out HC'.out.db.all ?_)
              refine HDO.out.mono ?_
              rintro e w5 ⟨rfl, hst5, ht5⟩
              have HC5 := Hid.mk (HC'.out.touch hst5 ht5 HM.out HNE.out)
              clear hst5 ht5 HDO HC'
              go_wp2_with fail
              exact ⟨⟨i + 1, by omega, by simp, HC5.out⟩, by simp [intOf]; omega⟩
            · have hq : ((i : Int) == (P : Int) - 1) = false := by rw [beq_eq_false_iff_ne]; omega
              rw [decide_eq_false (by omega)] at HDO
              clear hl
              go_wp2_with (first | refine wpl_loadD rfl _ rfl gD 0 rfl d HDL.out HC'.out.db.all ?_)
              refine HDO.out.mono ?_
              rintro e w5 ⟨rfl, hst5, ht5⟩
              have HC5 := Hid.mk (HC'.out.touch hst5 ht5 HM.out HNE.out)
              clear hst5 ht5 HDO HC'
              go_wp2_with fail
              exact ⟨⟨i + 1, by omega, by simp, HC5.out⟩, by simp [intOf]; omega⟩
          · have hip : ¬ (i : Int) < P := by omega
            rw [if_pos (by omega)] at HDO
            simp only at HDO
            have hq : ((i : Int) == (P : Int) - 1) = false := by rw [beq_eq_false_iff_ne]; omega
            have hz : P - (i + 1) = 0 := by omega
            have HZ := Hid.mk hz
            clear hz
            go_wp2_with (first | refine wpl_loadD rfl _ rfl gD 0 rfl d HDL.out HC'.out.db.all ?_)
            refine HDO.out.mono ?_
            rintro e w5 ⟨rfl, hst5, ht5⟩
            have HC5 := Hid.mk (show Ct w w5 g m gD d s ((P - (i + 1) : Nat) : Int) from by rw [HZ.out]; exact HC'.out.touch hst5 ht5 HM.out HNE.out)
            clear hst5 ht5 HDO HC'
            go_wp2_with fail
            exact ⟨⟨i + 1, by omega, by simp, HC5.out⟩, by simp [intOf]; omega⟩
        · have hii : ¬ (i : Int) < Dn := by omega
          have hiD : i = Dn := by omega
          have hC := HC'.out
          rw [hiD] at hC
          have HC := Hid.mk hC
          clear hC HC' hiD hlt hi
          have HGT := Hid.mk (get_any HC.out.st d HDL.out)
          rw [get_one (by omega)] at HGT
          by_cases hA : Dn < P
          · obtain ⟨K, hK⟩ : ∃ K : Nat, P - Dn = K := ⟨_, rfl⟩
            have hK0 : 0 < K := by omega
            have hsub : (P : Int) - Dn = K := by omega
            rw [hK] at HGT HC
            rw [if_pos (by omega)] at HGT
            simp only at HGT
            have hgt : (K : Int) > 0 := by omega
            have hng : ¬ (0 : Int) > K := by omega
            clear hK hA
            by_cases hk1 : 1 < K
            · have hk2 : (1 : Int) < K := by omega
              go_wp2_with (first | refine wpl_loadD rfl _ rfl gD 0 rfl d HDL.out HC.out.db.all ?_)
              refine HGT.out.mono ?_
              rintro e w6 ⟨rfl, hb6⟩
              have HC6 := Hid.mk (HC.out.go hb6)
              have HLN := Hid.mk (len_any HC6.out.st)
              rw [oneL_pos (by omega)] at HLN
              clear hb6 HC HGT
              rw [show (([⟨d, s, (K : Int)⟩] : List Th).length : Int) = 1 from rfl] at HLN
              go_wp2_with fail
              refine HLN.out.mono ?_
              rintro e w7 ⟨rfl, rfl⟩
              go_wp2_with fail
              go_ret
              exact ⟨rfl, HC6.out.bel⟩
            · have hk2 : K = 1 := by omega
              subst hk2
              clear hk1 hK0 hgt hng
              go_wp2_with (first | refine wpl_loadD rfl _ rfl gD 0 rfl d HDL.out HC.out.db.all ?_)
              refine HGT.out.mono ?_
              rintro e w6 ⟨rfl, hb6⟩
              have HC6 := Hid.mk (HC.out.go hb6)
              have HLN := Hid.mk (len_any HC6.out.st)
              rw [oneL_pos (by omega)] at HLN
              clear hb6 HC HGT
              rw [show (([⟨d, s, ((1 : Nat) : Int)⟩] : List Th).length : Int) = 1 from rfl] at HLN
              go_wp2_with fail
              refine HLN.out.mono ?_
              rintro e w7 ⟨rfl, rfl⟩
              go_wp2_with fail
              go_ret
              exact ⟨rfl, HC6.out.bel⟩
          · have hK : P - Dn = 0 := by omega
            rw [hK] at HGT HC
            rw [if_neg (by decide)] at HGT
            simp only at HGT
            rw [show ByteArray.empty = (⟨#[]⟩ : ByteArray) from rfl] at HGT
            clear hK
            have HLN0 := Hid.mk (fun (u : World) (h : Ct w u g m gD d s ((0 : Nat) : Int)) => len_any h.st)
            obtain ⟨q, hq1, hq2⟩ : ∃ q, ((⟨#[]⟩ : ByteArray).toList == s.toList) = q ∧ (s.toList == (⟨#[]⟩ : ByteArray).toList) = q := ⟨_, rfl, by rw [Bool.eq_iff_iff, beq_iff_eq, beq_iff_eq]; exact eq_comm⟩
            have e0 : (⟨#[]⟩ : ByteArray).toList = [] := by rw [ByteArray.toList_eq]
            have hq1' : (([] : List UInt8) == s.toList) = q := by rw [← e0]; exact hq1
            have hq2' : (s.toList == ([] : List UInt8)) = q := by rw [← e0]; exact hq2
            clear e0
            by_cases hPD : P < Dn
            · have hneg : (0 : Int) > (P : Int) - Dn := by omega
              clear hA hPD
              cases q
              all_goals
                go_wp2_with (first | refine wpl_loadD rfl _ rfl gD 0 rfl d HDL.out HC.out.db.all ?_)
                refine HGT.out.mono ?_
                rintro e w6 ⟨rfl, hb6⟩
                have HC6 := Hid.mk (HC.out.go hb6)
                clear hb6 HC HGT
                go_wp2_with fail
                refine (HLN0.out w6 HC6.out).mono ?_
                rintro e w7 ⟨rfl, rfl⟩
                rw [show ((oneL d s ((0 : Nat) : Int)).length : Int) = 0 from rfl]
                go_wp2_with fail
                go_ret
                exact ⟨rfl, HC6.out.bel⟩
            · have hsub : (P : Int) - Dn = 0 := by omega
              clear hA hPD
              cases q
              all_goals
                go_wp2_with (first | refine wpl_loadD rfl _ rfl gD 0 rfl d HDL.out HC.out.db.all ?_)
                refine HGT.out.mono ?_
                rintro e w6 ⟨rfl, hb6⟩
                have HC6 := Hid.mk (HC.out.go hb6)
                clear hb6 HC HGT
                go_wp2_with fail
                refine (HLN0.out w6 HC6.out).mono ?_
                rintro e w7 ⟨rfl, rfl⟩
                rw [show ((oneL d s ((0 : Nat) : Int)).length : Int) = 0 from rfl]
                go_wp2_with fail
                go_ret
                exact ⟨rfl, HC6.out.bel⟩
end Go.Proofs.Ytjpcfdhkgfaeeaa
