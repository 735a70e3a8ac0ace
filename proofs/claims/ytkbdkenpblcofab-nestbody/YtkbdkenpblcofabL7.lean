/- That NestBody answers true. -/
import Derived.Test.YtkbdkenpblcofabP5
import Derived.Test.YtkbdkenpblcofabX1
namespace Go.Proofs.Ytkbdkenpblcofab
open Go.RowKit
set_option linter.unusedVariables false
theorem OwnB.none (w : World) (base : Nat) : OwnB w base (.slice none 0 0) [] := ⟨rfl, .inl ⟨rfl, rfl⟩⟩
/-- What has been gathered of a list. -/
structure Ga (w : World) (ts : List T) (j : Nat) (q : Value) (v : World) (bs : List Int) : Prop where
  own : OwnB v w.heap.size q bs
  eq : bs = encs (ts.take j)
  le : bs.length ≤ 65536
  ok : ∀ t ∈ ts.take j, (mP t).2 = 0
  bel : Below w.heap.size w v
  by8 : ∀ x ∈ bs, 0 ≤ x ∧ x < 256
set_option maxHeartbeats 4000000 in
theorem body_law (a : Option Addr) (m c : Nat) (ts : List T) (hm : m = ts.length ∧ m ≤ c ∧ c ≤ maxLen ∧ m ≤ 140737488351232) (w : World) (hall : LiesAll w ts a 0) :
    Calls Try.prog 3 #[.slice a m c] w fun e w' => e = .returned (.bool true) ∧ Below w.heap.size w w' := by
  obtain ⟨hm1, hm2, hm3, hm4⟩ := hm
  have HL := Hid.mk (lies_eq.2 ⟨rfl, ag_nil w, hm1, hm2, hm3, ⟨Nat.zero_le _, hm4⟩, hall⟩ : Lies w (.mk true [] ts) ⟨true, none, 0, 0, a, m, c⟩)
  unfold maxLen at hm3
  have HM1 := Hid.mk hm1
  clear hm1 hall
  go_enter Try.func3, Try.ntmps3
  go_wp2_with fail
  go_loopw [3, 12] (fun q i v => ∃ (j : Nat) (bs : List Int), j ≤ m ∧ i = .int .i64 j ∧ Ga w ts j q v bs) (fun _ i _ => m - (intOf i).toNat)
  case atStart => exact ⟨0, [], by omega, rfl, ⟨OwnB.none _ _, by rw [List.take_zero, encs_nil], by decide, (fun t ht => by rw [List.take_zero] at ht; cases ht), Below.refl _ _, fun x hx => by cases hx⟩⟩
  case round =>
    obtain ⟨j, bs, hj, rfl, G⟩ := hrel
    have HG := Hid.mk G
    clear G
    by_cases hlt : j < m
    · have hji : (j : Int) < m := by omega
      obtain ⟨t, ht⟩ : ∃ t, ts[j]? = some t := ⟨ts[j]'(by have := HM1.out; omega), List.getElem?_eq_getElem _⟩
      obtain ⟨g, off, y, A⟩ := liesAll_at (lies_eq.1 HL.out).2.2.2.2.2.2 j t ht
      rw [Nat.zero_add] at A
      have ha : a = some ⟨g, off, none⟩ := A.ha
      subst ha
      have c0 := below_cell HG.out.bel A.c0
      have c1 := below_cell HG.out.bel A.c1
      have c2 := below_cell HG.out.bel A.c2
      have HLI := Hid.mk (lies_alloc (lies_mono HG.out.bel t y A.li) (.cells #[.bool y.l, .slice y.ba y.bn y.bc, .slice y.ia y.m y.ic] 25))
      have HT := Hid.mk ht
      have HBN := Hid.mk (below_new wr (.cells #[.bool y.l, .slice y.ba y.bn y.bc, .slice y.ia y.m y.ic] 25))
      clear A ht
      have he := encode_any t y _ HLI.out
      by_cases hmt : (mP t).2 = 0
      case neg =>
        rw [encP_no hmt] at he
        simp only at he
        obtain ⟨er, her⟩ : ∃ er, (mP t).2 = er := ⟨_, rfl⟩
        rw [her] at he hmt
        have hee : ((er : Int) != 0) = true := by rw [bne_iff_ne]; omega
        have HE := Hid.mk he
        clear he hmt her
        go_wp2_with fail
        refine HE.out.mono ?_
        rintro e w1 ⟨⟨a1, n1, c1', rfl, hag1⟩, hb1⟩
        have HB1 := Hid.mk (below_go (below_go HG.out.bel HBN.out) hb1)
        clear hag1 hb1 HE HLI HBN
        go_wp2_with fail
        refine (alive_any _).mono ?_
        rintro e w3 ⟨rfl, hb3⟩
        have HB3 := Hid.mk (below_go HB1.out hb3)
        clear hb3
        go_wp2_with fail
        go_ret
        exact ⟨rfl, HB3.out⟩
      rw [encP_yes hmt] at he
      simp only at he
      rw [show ((0 : Nat) : Int) = 0 from rfl] at he
      have HE := Hid.mk he
      have HMT := Hid.mk hmt
      clear he hmt
      go_wp2_with fail
      refine HE.out.mono ?_
      rintro e w1 ⟨⟨a1, n1, c1', rfl, hag1⟩, hb1⟩
      have hel := enc_le HMT.out
      rw [hag1.l] at hel
      have HA1 := Hid.mk hag1
      have HO1 := Hid.mk ((HG.out.own.below HBN.out).below hb1)
      have HB1 := Hid.mk (below_go (below_go HG.out.bel HBN.out) hb1)
      have hle := HG.out.le
      have HMEM := Hid.mk (mem_app HG.out.by8 hag1.b)
      clear hag1 hb1 HE HLI HBN c0 c1 c2
      go_wp2_with (first | (at_builtin; refine app_any rfl (.tmp 24) (.tmp 25) rfl w.heap.size _ bs rfl HO1.out a1 n1 c1' (enc t) rfl HA1.out.i HA1.out.nil HA1.out.l (by omega) HB1.out.size ?_; intro v2 w2 o2 hb2; obtain ⟨a2, c2', rfl, hag2⟩ := OwnB.ag o2 HMEM.out; have HB2 := Hid.mk (HB1.out.trans hb2); have HO2 := Hid.mk o2; clear o2 hb2 hag2; generalize hgl : (bs ++ enc t).length = len2 at HO2 ⊢; have HGL := Hid.mk hgl; clear hgl))
      · refine (alive_any _).mono ?_
        rintro e w3 ⟨rfl, hb3⟩
        have HB3 := Hid.mk (below_go HB2.out hb3)
        clear hb3
        go_wp2_with fail
        go_ret
        exact ⟨rfl, HB3.out⟩
      · have hgl := HGL.out
        refine ⟨⟨j + 1, bs ++ enc t, by omega, by simp, ⟨HO2.out, ?_, by omega, ?_, HB2.out, HMEM.out⟩⟩, by simp [intOf]; omega⟩
        · rw [take_succ_get HT.out, encs_append, encs_cons, encs_nil, List.append_nil, HG.out.eq]
        · intro u hu
          rw [take_succ_get HT.out] at hu
          rcases List.mem_append.1 hu with hu | hu
          · exact HG.out.ok u hu
          · have : u = t := by simpa using hu
            rw [this]; exact HMT.out
    · have hji : ¬ (j : Int) < m := by omega
      have htk : ts.take j = ts := List.take_of_length_le (by rw [← HM1.out]; omega)
      have heq := HG.out.eq
      have hok := HG.out.ok
      rw [htk] at heq hok
      subst heq
      obtain ⟨ba, bc, hq, hagb⟩ := OwnB.ag HG.out.own HG.out.by8
      have hle := HG.out.le
      have HAB := Hid.mk hagb
      have HBV := Hid.mk HG.out.bel
      have hlm := list_mP hok hle
      have he := encode_any (.mk true [] ts) ⟨true, none, 0, 0, a, m, c⟩ wr (lies_mono HBV.out _ _ HL.out)
      have HHD1 := Hid.mk (hd_pos 192 (encs ts).length)
      have HHD2 := Hid.mk (hd_le (base := 192) (n := (encs ts).length) (by omega))
      have HHF := Hid.mk (hd_first (n := (encs ts).length) (by omega) (encs ts))
      obtain ⟨L, hL⟩ : ∃ L, (encs ts).length = L := ⟨_, rfl⟩
      rw [hL] at HAB hle hq HHD1 HHD2 HHF hlm
      subst hq
      clear hok hagb HG HL htk
      rcases hlm with ⟨hm0, henc⟩ | h21
      · rw [encP_yes hm0, henc] at he
        simp only at he
        rw [show ((0 : Nat) : Int) = 0 from rfl] at he
        have HE := Hid.mk he
        have HLL := Hid.mk hL
        clear he hm0 henc hL
        go_wp2_with fail
        refine HE.out.mono ?_
        rintro e w1 ⟨⟨a1, n1, c1, rfl, hag1⟩, hb1⟩
        have HA1 := Hid.mk hag1
        have HAB1 := Hid.mk (HAB.out.at hb1)
        have HB1 := Hid.mk (below_go HBV.out hb1)
        clear hag1 hb1 HE HAB HBV
        go_wp2_with fail
        refine (alive_any _).mono ?_
        rintro e w2 ⟨rfl, hb2⟩
        have hag2 := HA1.out.at hb2
        have HAB2 := Hid.mk (HAB1.out.at hb2)
        have HB2 := Hid.mk (below_go HB1.out hb2)
        have hl2 := hag2.l
        rw [List.length_append, HLL.out] at hl2
        have hp1 := HHD1.out
        have hp2 := HHD2.out
        obtain ⟨k, hk⟩ : ∃ k, (hd 192 L).length = k := ⟨_, rfl⟩
        rw [hk] at hl2 hp1 hp2
        obtain ⟨g, off, rfl, hc1, hc2, hc⟩ := ag_head hag2 (by omega)
        have hc0 := hc 0 (by omega)
        rw [Nat.add_zero] at hc0
        have hfst := HHF.out
        have hx256 := (hag2.b ((hd 192 L ++ encs ts).getD 0 0) (by rw [List.getD, List.getElem?_eq_getElem (by rw [List.length_append]; omega)]; exact List.getElem_mem _)).2
        generalize (hd 192 L ++ encs ts).getD 0 0 = x0 at hc0 hfst hx256
        unfold maxLen at hc2
        have hsub := ag_drop hag2 (k := k) (by omega)
        rw [← hk, List.drop_left, hk] at hsub
        have hs := same_any _ _ _ _ _ _ (encs ts) (encs ts) w2 hsub HAB2.out
        rw [decide_eq_true rfl] at hs
        have HS := Hid.mk hs
        have hi1 : (n1 : Int) > L := by omega
        have hi2 : (n1 : Int) ≤ L + 4 := by omega
        have hi3 : (n1 : Int) - L = k := by omega
        have hi4 : (k : Int) ≤ n1 := by omega
        have hi5 : (0 : Int) ≤ k := by omega
        have hn1 : 0 < n1 := by omega
        have hfst2 : x0 ≥ 192 := hfst
        clear hs hsub hag2 hl2 hk hc hb2 HA1 HAB1 HAB2 HLL HHD1 HHD2 HHF
        by_cases hck : c1 = k
        · subst hck
          have e1 : n1 - c1 = 0 := by omega
          rw [if_pos rfl, Nat.sub_self, e1] at HS
          clear e1
          go_wp2_with fail
          refine HS.out.mono ?_
          rintro e w3 ⟨rfl, rfl⟩
          clear HS
          go_wp2_with fail
          go_ret
          exact ⟨rfl, HB2.out⟩
        · rw [if_neg hck] at HS
          go_wp2_with fail
          refine HS.out.mono ?_
          rintro e w3 ⟨rfl, rfl⟩
          clear HS
          go_wp2_with fail
          go_ret
          exact ⟨rfl, HB2.out⟩
      · have hm0 : (mP (.mk true [] ts)).2 ≠ 0 := by rw [h21]; decide
        rw [encP_no hm0, h21] at he
        simp only at he
        rw [show ((21 : Nat) : Int) = 21 from rfl] at he
        have HE := Hid.mk he
        clear he hm0 h21 hL
        go_wp2_with fail
        refine HE.out.mono ?_
        rintro e w1 ⟨⟨a1, n1, c1, rfl, hag1⟩, hb1⟩
        have HB1 := Hid.mk (below_go HBV.out hb1)
        clear hag1 hb1 HE HAB HBV
        go_wp2_with fail
        refine (alive_any _).mono ?_
        rintro e w3 ⟨rfl, hb3⟩
        have HB3 := Hid.mk (below_go HB1.out hb3)
        clear hb3
        go_wp2_with fail
        go_ret
        exact ⟨rfl, HB3.out⟩
end Go.Proofs.Ytkbdkenpblcofab
