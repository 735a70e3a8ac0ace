/- What the document's First and Decode answer. -/
import Derived.Test.YtefhepcplempkaaGreatG24
import Derived.Test.YtefhepcplempkaaGreatG18
import Derived.Test.YtefhepcplempkaaGreatG02
import Derived.Test.YtefhepcplempkaaGreatG09
set_option linter.unusedVariables false
set_option maxRecDepth 100000
namespace Go.Proofs.YtefhepcplempkaaGreat
open Go.RowKit
theorem Zv2 {g : List Int -> R} {deep : Bool} {x : Int} {r : List Int} (h : x < 128) : rd1 g deep (x :: r) = .ok (.mk false [x] []) 1 := by
 have e : hdr deep (x :: r) = .ok 0 1 := by
  unfold hdr
  simp only
  rw [if_neg (by omega), if_pos h]
 unfold rd1
 rw [e]
 simp only
 rw [if_pos (show (x :: r).headD 0 < 192 by show x < 192; omega), if_neg (by simp)]
 rfl
theorem Zhl (k : Nat) (gg : List Int -> R) (hrd : ∀ b, rd k b = rd1 gg (decide (k = 0)) b) (hgg : ∀ b t m, gg b = .ok t m -> 1 <= m /\ m <= b.length)
  (hitems : 0 < k -> ∀ d, d + k = 8 -> ∀ (a : Option Addr) (n c : Nat) (b : List Int) (w : World), Ag w a n c b -> n <= 140737488351232 -> ∀ i j : Nat, i <= j -> j <= n -> j - i < 16777216 -> Calls Tryz.prog 157 #[.slice a n c, .int .i64 i, .int .i64 j, .int .i64 (d + 1 : Nat)] w (GPost w j (rdAll gg (pc b i j).length (pc b i j)))) : FSaid k := by
 intro a n c b w h hn i j d hij hj hd
 have hdec : decide (k = 0) = decide (d = 8) := by by_cases h0 : k = 0 <;> simp [h0] <;> omega
 by_cases hlt : i < j
 case neg => exact Zot a n c i j d w k b hlt (by omega) (by rw [Zuw (by omega), hrd]; exact Zdc rfl)
 rw [Zhu hlt (by rw [h.l]; omega), hrd, hdec]
 by_cases h1 : b.getD i 0 < 128
 ·exact Zos a n c i j d w b h hn hlt hj _ rfl h1 _ (Zv2 h1)
 by_cases h2 : b.getD i 0 < 192
 ·exact Zmi gg a n c i j d w b h hn hlt hj (by omega) _ rfl (by omega) h2 _ rfl
 by_cases h8 : d = 8
 ·subst h8
  exact Zmk a n c i j w b h hn hlt hj _ rfl (by omega) _ (Zdc (by rw [decide_eq_true rfl]; exact Zn0 (by omega)))
 ·exact Zmj gg a n c i j d w b h hn hlt hj (by omega) _ rfl (by omega) (by omega) (hitems (by omega) d hd) hgg _ rfl
theorem Zi5 : ∀ k, FSaid k
 | 0 => Zhl 0 (fun _ => .bad 21) (fun b => rfl) (fun b t m h => by cases h) (fun h => absurd h (by omega))
 | k + 1 => Zhl (k + 1) (rd k) (fun b => rfl) (fun b t m h => rd_n h) (fun _ d hd a n c b w h hn i j hij hj hl => Zor k (Zi5 k) a n c b w h hn i j (d + 1) hij hj hl (by omega))
set_option maxHeartbeats 1000000 in
theorem Zoy (a : Option Addr) (n c : Nat) (b : List Int) (w : World) (h : Ag w a n c b) (hn : n <= 140737488351232) : Calls Tryz.prog 134 #[.slice a n c] w (ReadPost w (rd 8 b)) := by
 have hpcb : pc b 0 n = b := by unfold pc; rw [List.drop_zero, List.take_of_length_le (by rw [h.l]; exact Nat.le_refl _)]
 have hcal := fun w' (hb : Below w.heap.size w w') => Zi5 8 a n c b w' (h.at hb) hn 0 n 0 (Nat.zero_le _) (Nat.le_refl _) rfl
 rw [hpcb, show ((0 : Nat) : Int) = 0 from rfl] at hcal
 clear hpcb
 have HCAL := Hid.mk hcal
 obtain ⟨res, hres⟩ : ∃ r, rd 8 b = r := ⟨_, rfl⟩
 rw [hres] at HCAL ⊢
 clear hcal h hres
 go_enter Tryz.func134, Tryz.ntmps134
 go_wp2_with fail
 refine (HCAL.out _ ((Below.refl _ _).alloc (Nat.le_refl _) _)).mono ?_
 rintro e w1 ⟨hb, hm⟩
 have hres1 : w1.heap[w.heap.size]? = some (.cells #[.bool false, .slice none 0 0, .slice none 0 0] 109) := Below.row hb (heap_alloc_new _ _)
 have hb1 : Below w.heap.size w w1 := ((Below.refl w.heap.size w).alloc (Nat.le_refl _) _).trans (hb.mono (by simp))
 have x0 : w1.cell? ⟨w.heap.size, 0, none⟩ = some (.bool false) := by rw [cell_of_row _ _ _ _ _ _ hres1]; rfl
 have x1 : w1.cell? ⟨w.heap.size, 1, none⟩ = some (.slice none 0 0) := by rw [cell_of_row _ _ _ _ _ _ hres1]; rfl
 have x2 : w1.cell? ⟨w.heap.size, 2, none⟩ = some (.slice none 0 0) := by rw [cell_of_row _ _ _ _ _ _ hres1]; rfl
 have xf : ∀ o, w1.frozen? ⟨w.heap.size, o, none⟩ = false := fun o => frozen_of_row _ _ _ _ _ hres1
 have HR := Hid.mk hres1
 have HB1 := Hid.mk hb1
 clear hres1 hb hb1
 cases res with
 | bad er =>
  obtain ⟨rfl, her⟩ := hm
  go_wp2_with fail
  have hr := put3 HR.out (.bool false) (.slice none 0 0) (.slice none 0 0)
  refine bodyPost_ret (Zaj Tryz.results134 _ _ w.heap.size _ _ _ rfl hr) rfl ?_
  exact ⟨Za0 HB1.out (Nat.le_refl _) _ _ _, rfl, her⟩
 | ok t m =>
  obtain ⟨y, rfl, hy⟩ := hm
  rw [Nat.zero_add]
  have HY := Hid.mk hy
  clear hy
  go_wp2_with fail
  have hr := put3 HR.out (.bool y.l) (.slice y.ba y.bn y.bc) (.slice y.ia y.m y.ic)
  refine bodyPost_ret (Zaj Tryz.results134 _ _ w.heap.size _ _ _ rfl hr) rfl ?_
  refine ⟨Za0 HB1.out (Nat.le_refl _) _ _ _, y, rfl, Zap (fun b hb hlt => ?_) t y HY.out⟩
  have hb' : w.heap.size + 1 <= b := by have : (w.alloc (.cells #[.bool false, .slice none 0 0, .slice none 0 0] 109)).heap.size <= b := hb; simpa using this
  exact ⟨Zbp (by omega) _ _ _, by omega⟩
set_option maxHeartbeats 1000000 in
theorem Zhr (a : Option Addr) (n c : Nat) (b : List Int) (w : World) (h : Ag w a n c b) (hn : n <= 140737488351232) : Calls Tryz.prog 96 #[.slice a n c] w (DecPost w (decP b)) := by
 have hcal := fun w' (hb : Below w.heap.size w w') => Zoy a n c b w' (h.at hb) hn
 have HCAL := Hid.mk hcal
 have hl := h.l
 obtain ⟨res, hres⟩ : ∃ r, decP b = r := ⟨_, rfl⟩
 rw [hres]
 unfold decP at hres
 have HRES := Hid.mk hres
 have HL := Hid.mk hl
 clear hcal h hres hl
 go_enter Tryz.func96, Tryz.ntmps96
 go_wp2_with fail
 refine (HCAL.out _ ((Below.refl _ _).alloc (Nat.le_refl _) _)).mono ?_
 rintro e w1 ⟨hb, hm⟩
 have RB := (Rb.new w).call hb
 clear hb
 have hres := HRES.out
 cases hrd : rd 8 b with
 | bad er =>
  rw [hrd] at hm hres
  obtain ⟨rfl, her⟩ := hm
  subst hres
  have hee : ((er : Int) != 0) = true := by rw [bne_iff_ne]; omega
  clear hrd
  go_upto_if 14 with fail
  refine gen_w (p := fun v => Code.wp _ _ _ _ v) (q := fun v => Rb w v /\ v.heap[w1.heap.size]? = some (.cells #[.bool false, .slice none 0 0, .slice none 0 0] 109)) ⟨RB.alloc _, heap_alloc_new _ _⟩ ?_
  clear RB
  rintro v ⟨RV, hyv⟩
  have x0 := RV.x0
  have x1 := RV.x1
  have x2 := RV.x2
  have xf := RV.xf
  have u0 : v.cell? ⟨w1.heap.size, 0, none⟩ = some (#[.bool false, .slice none 0 0, .slice none 0 0][0]) := by rw [cell_of_row _ _ _ _ _ _ hyv]; rfl
  have u1 : v.cell? ⟨w1.heap.size, 1, none⟩ = some (#[.bool false, .slice none 0 0, .slice none 0 0][1]) := by rw [cell_of_row _ _ _ _ _ _ hyv]; rfl
  have u2 : v.cell? ⟨w1.heap.size, 2, none⟩ = some (#[.bool false, .slice none 0 0, .slice none 0 0][2]) := by rw [cell_of_row _ _ _ _ _ _ hyv]; rfl
  have HRV := Hid.mk RV
  clear RV hyv
  go_wp2_with fail
  have hr := put3 HRV.out.row (.bool false) (.slice none 0 0) (.slice none 0 0)
  refine bodyPost_ret (Zb8 Tryz.results96 _ _ w.heap.size _ _ _ rfl hr) rfl ?_
  exact ⟨Za0 HRV.out.bel (Nat.le_refl _) _ _ _, rfl, her⟩
 | ok t m =>
  rw [hrd] at hm hres
  simp only [HL.out] at hres
  obtain ⟨y, rfl, hy⟩ := hm
  have HY : Hid (∀ o, LiesP (fun b => w.heap.size + 1 <= b) (w1.alloc o) t y) := fun o => Zap (fun b hb hlt => ⟨Below.heap_alloc _ _ _ hlt, by have : (w.alloc (.cells #[.bool false, .slice none 0 0, .slice none 0 0] 109)).heap.size <= b := hb; simpa using this⟩) t y hy
  clear hy
  by_cases hmn : m < n
  ·rw [if_pos hmn] at hres
   subst hres
   have hmi : (m : Int) < n := by omega
   clear hrd
   go_upto_if 14 with fail
   refine gen_w (p := fun v => Code.wp _ _ _ _ v) (q := fun v => Rb w v /\ v.heap[w1.heap.size]? = some (.cells #[.bool y.l, .slice y.ba y.bn y.bc, .slice y.ia y.m y.ic] 109) /\ Hid (LiesP (fun b => w.heap.size + 1 <= b) v t y)) ⟨RB.alloc _, heap_alloc_new _ _, HY.out _⟩ ?_
   clear RB HY
   rintro v ⟨RV, hyv, HY⟩
   have x0 := RV.x0
   have x1 := RV.x1
   have x2 := RV.x2
   have xf := RV.xf
   have u0 : v.cell? ⟨w1.heap.size, 0, none⟩ = some (#[.bool y.l, .slice y.ba y.bn y.bc, .slice y.ia y.m y.ic][0]) := by rw [cell_of_row _ _ _ _ _ _ hyv]; rfl
   have u1 : v.cell? ⟨w1.heap.size, 1, none⟩ = some (#[.bool y.l, .slice y.ba y.bn y.bc, .slice y.ia y.m y.ic][1]) := by rw [cell_of_row _ _ _ _ _ _ hyv]; rfl
   have u2 : v.cell? ⟨w1.heap.size, 2, none⟩ = some (#[.bool y.l, .slice y.ba y.bn y.bc, .slice y.ia y.m y.ic][2]) := by rw [cell_of_row _ _ _ _ _ _ hyv]; rfl
   have HRV := Hid.mk RV
   clear RV hyv
   go_wp2_with fail
   have hr := put3 HRV.out.row (.bool false) (.slice none 0 0) (.slice none 0 0)
   refine bodyPost_ret (Zb8 Tryz.results96 _ _ w.heap.size _ _ _ rfl hr) rfl ?_
   exact ⟨Za0 HRV.out.bel (Nat.le_refl _) _ _ _, rfl, by decide⟩
  ·rw [if_neg hmn] at hres
   subst hres
   have hmi : ¬ (m : Int) < n := by omega
   clear hrd
   go_upto_if 14 with fail
   refine gen_w (p := fun v => Code.wp _ _ _ _ v) (q := fun v => Rb w v /\ v.heap[w1.heap.size]? = some (.cells #[.bool y.l, .slice y.ba y.bn y.bc, .slice y.ia y.m y.ic] 109) /\ Hid (LiesP (fun b => w.heap.size + 1 <= b) v t y)) ⟨RB.alloc _, heap_alloc_new _ _, HY.out _⟩ ?_
   clear RB HY
   rintro v ⟨RV, hyv, HY⟩
   have x0 := RV.x0
   have x1 := RV.x1
   have x2 := RV.x2
   have xf := RV.xf
   have u0 : v.cell? ⟨w1.heap.size, 0, none⟩ = some (#[.bool y.l, .slice y.ba y.bn y.bc, .slice y.ia y.m y.ic][0]) := by rw [cell_of_row _ _ _ _ _ _ hyv]; rfl
   have u1 : v.cell? ⟨w1.heap.size, 1, none⟩ = some (#[.bool y.l, .slice y.ba y.bn y.bc, .slice y.ia y.m y.ic][1]) := by rw [cell_of_row _ _ _ _ _ _ hyv]; rfl
   have u2 : v.cell? ⟨w1.heap.size, 2, none⟩ = some (#[.bool y.l, .slice y.ba y.bn y.bc, .slice y.ia y.m y.ic][2]) := by rw [cell_of_row _ _ _ _ _ _ hyv]; rfl
   have HRV := Hid.mk RV
   clear RV hyv
   go_wp2_with fail
   have hr := put3 HRV.out.row (.bool y.l) (.slice y.ba y.bn y.bc) (.slice y.ia y.m y.ic)
   refine bodyPost_ret (Zb8 Tryz.results96 _ _ w.heap.size _ _ _ rfl hr) rfl ?_
   refine ⟨Za0 HRV.out.bel (Nat.le_refl _) _ _ _, y, rfl, Zap (fun b (hb : w.heap.size + 1 <= b) hlt => ⟨Zbp (by omega) _ _ _, by omega⟩) t y HY.out⟩
set_option maxHeartbeats 4000000 in
theorem Zfd (K : Nat -> Prop) (x : RV) (r : PR) (w : World) (h : RefAt K w x r) :
  Calls Tryz.prog 86 #[.agg x.cells.toArray] w (IPost w (refItemP r)) := by
 have HRI := Hid.mk (Zus w x h.len)
 have HH := Hid.mk h
 have HLX := Hid.mk h.len
 obtain ⟨res, hres⟩ : ∃ res, refItemP r = res := ⟨_, rfl⟩
 rw [hres]
 unfold refItemP at hres
 rw [<- h.1] at hres
 have HRES := Hid.mk hres
 clear h hres
 go_enter Tryz.func86, Tryz.ntmps86
 go_upto_region 1 with fail
 refine gen_w (p := fun v => Code.wp _ _ _ _ v) (q := fun v => Ri w v x) HRI.out ?_
 clear HRI
 intro v R0
 have c0 := R0.bx.c0
 have c33 := R0.bx.c33
 have HR0 := Hid.mk R0
 clear R0
 by_cases h1 : x.k = 1
 ·have hr := HRES.out
  rw [if_pos h1] at hr
  have HCD := Hid.mk (Zhr x.a x.n x.c r.i v (HH.out.2.2.2.2.1.at HR0.out.bel) HH.out.2.2.2.2.2.1)
  have HR := Hid.mk hr
  clear hr HRES
  go_wp2_with fail
  refine HCD.out.mono ?_
  intro e w1 hp
  obtain ⟨hb1, hp⟩ := hp
  have HR1 := Hid.mk (HR0.out.go hb1)
  have HS0 := Hid.mk HR0.out.sz
  have hr := HR.out
  cases hq : decP r.i with
  | bad er =>
   rw [hq] at hp hr
   have hr : t0 = res := hr
   subst hr
   obtain ⟨rfl, her⟩ := hp
   clear hb1 hq her
   go_upto_region 3 with fail
   refine gen_w (p := fun v => Code.wp _ _ _ _ v) (q := fun v => Ri w v x /\ B1 w1.heap.size v ⟨false, none, 0, 0, none, 0, 0⟩) ⟨HR1.out.go (below_new w1 _), Zcq w1 ⟨false, none, 0, 0, none, 0, 0⟩⟩ ?_
   rintro v2 ⟨R2, B2⟩
   have x0 := R2.x0
   have x1 := R2.x1
   have x2 := R2.x2
   have xf := R2.xf
   have d0 := B2.c0
   have d1 := B2.c1
   have d2 := B2.c2
   have HR2 := Hid.mk R2
   clear R2 B2 c0 c33
   go_wp2_with fail
   have hr := put3 HR2.out.row (.bool false) (.slice none 0 0) (.slice none 0 0)
   refine bodyPost_ret (results_cell_row Tryz.results86 _ _ (w.heap.size + 1) 109 _ (0, 0) _ rfl hr Tryz.underlying109 rfl (by kernel_rfl)) rfl ?_
   exact Zcm (y := ⟨false, none, 0, 0, none, 0, 0⟩) HR2.out (Zf6 _ _)
  | ok t =>
   rw [hq] at hp hr
   have hr : t = res := hr
   subst hr
   obtain ⟨y, rfl, hy⟩ := hp
   have HY := Hid.mk (show LiesP (fun b => w.heap.size + 2 <= b) w1 t y from Zap (fun b hb hlt => ⟨rfl, by have := HS0.out; omega⟩) _ _ hy)
   clear hb1 hq hy
   go_upto_region 3 with fail
   refine gen_w (p := fun v => Code.wp _ _ _ _ v) (q := fun v => Ri w v x /\ B1 w1.heap.size v y /\ LiesP (fun b => w.heap.size + 2 <= b) v t y) ⟨HR1.out.go (below_new w1 _), Zcq w1 _, Zap (fun b hb hlt => ⟨heap_alloc_old _ _ hlt, hb⟩) _ _ HY.out⟩ ?_
   rintro v2 ⟨R2, B2, L2⟩
   have x0 := R2.x0
   have x1 := R2.x1
   have x2 := R2.x2
   have xf := R2.xf
   have d0 := B2.c0
   have d1 := B2.c1
   have d2 := B2.c2
   have HR2 := Hid.mk R2
   have HL2 := Hid.mk L2
   clear R2 B2 L2 c0 c33
   go_wp2_with fail
   have hr := put3 HR2.out.row (.bool y.l) (.slice y.ba y.bn y.bc) (.slice y.ia y.m y.ic)
   refine bodyPost_ret (results_cell_row Tryz.results86 _ _ (w.heap.size + 1) 109 _ (0, 0) _ rfl hr Tryz.underlying109 rfl (by kernel_rfl)) rfl ?_
   exact Zcm HR2.out HL2.out
 ·by_cases h2 : x.k = 2
  ·have hr := HRES.out
   rw [if_neg h1, if_pos h2] at hr
   subst hr
   have e1 : (x.k == 1) = false := by simp [h1]
   have HS0 := Hid.mk HR0.out.sz
   clear c33
   go_wp2_with fail
   clear c0 e1
   go_loopw [5, 6] (fun s5 s6 u => ∃ j : Nat, j <= 32 /\ s6 = .int .i64 j /\ OwnB u v.heap.size s5 (r.d.take j) /\ Below v.heap.size v u) (fun _ s6 _ => 32 - (intOf s6).toNat)
   case atStart => exact ⟨0, by omega, rfl, Ni.ownB_nil _ _, Below.refl _ _⟩
   case round =>
    obtain ⟨j, hj, rfl, hown, hb⟩ := hrel
    have HO := Hid.mk hown
    have HBW := Hid.mk hb
    have HRR := Hid.mk (HR0.out.go hb)
    clear hown hb
    by_cases hlt : j < 32
    ·have hji : (j : Int) < 32 := by omega
     have hjd : j < r.d.length := by rw [HH.out.2.2.2.1]; exact hlt
     have hcell : wr.cell? ⟨w.heap.size, 1 + j, none⟩ = some (.int .u8 (r.d.getD j 0)) := by
      have hd := HRR.out.bx.digest
      rw [HH.out.2.1] at hd
      exact hd j _ (by rw [List.getElem?_map, List.getD, List.getElem?_eq_getElem hjd]; rfl)
     have HN := Hid.mk (Ni.take_snoc hjd)
     have HTL := Hid.mk (show (r.d.take j).length = j from by rw [List.length_take]; omega)
     generalize r.d.getD j 0 = z at hcell HN
     have HO2 : Hid (∀ o : Obj, OwnB (wr.alloc o) v.heap.size u5 (r.d.take j)) := Hid.mk fun o => OwnB.alloc HO.out o
     have HSZ := Hid.mk HBW.out.size
     clear HO hjd
     go_wp2_with (first
      | (at_builtin; refine Zbz rfl (.tmp 24) (.tmp 29) rfl v.heap.size _ (r.d.take j) rfl (HO2.out _) (some ⟨wr.heap.size, 0, none⟩) 1 1 [z] rfl (Ni.in0_one wr _) (fun h => by cases h) rfl (by rw [HTL.out]; omega) (by have := HSZ.out; simp; omega) ?_; intro v1 w1 o1 hb1; rw [<- HN.out] at o1; have HO3 := Hid.mk o1; have HB3 := Hid.mk ((HBW.out.alloc HSZ.out _).trans hb1); clear o1 hb1))
     go_roundw
     case rel => exact ⟨j + 1, by omega, by simp, HO3.out, HB3.out⟩
     case measure => simp [intOf]; omega
    ·have hji : ¬ (j : Int) < 32 := by omega
     have hbt : r.d.take j = r.d := List.take_of_length_le (by rw [HH.out.2.2.2.1]; omega)
     rw [hbt] at HO
     obtain ⟨g, cap, rfl, hg1, hg2, hg3, hg4, hg5⟩ := HO.out.slice (by rw [HH.out.2.2.2.1]; omega)
     have hag := (HO.out.ag HH.out.2.2.1)
     obtain ⟨aa, cc, hve, hag⟩ := hag
     cases hve
     have hfz : ∀ o, wr.frozen? ⟨g, o, none⟩ = false := by
      rcases HO.out.2 with ⟨hx, _⟩ | ⟨g', cap', cur, hx, _, hh, _⟩
      ·cases hx
      ·cases hx; exact fun o => frozen_of_row _ _ _ _ _ hh
     have hld := HH.out.2.2.2.1
     rw [hld] at hag ⊢
     have HLY := Hid.mk (show LiesP (fun b => w.heap.size + 2 <= b) wr (.mk false r.d []) ⟨false, some ⟨g, 0, none⟩, 32, cap, none, 0, 0⟩ from
      liesP_eq.2 ⟨⟨rfl, hag, rfl, Nat.le_refl _, Nat.zero_le _, ⟨by show 32 <= _; omega, Nat.zero_le _⟩, fun g' off e _ => by cases e; exact ⟨by have := HS0.out; omega, hfz⟩⟩, Zbg⟩)
     have x0 := HRR.out.x0
     have x1 := HRR.out.x1
     have x2 := HRR.out.x2
     have xf := HRR.out.xf
     clear hag hfz hld hbt hg1 hg2 hg3 hg4 hg5
     go_wp2_with fail
     have hr := put3 HRR.out.row (.bool false) (.slice (some ⟨g, 0, none⟩) 32 cap) (.slice none 0 0)
     refine bodyPost_ret (results_cell_row Tryz.results86 _ _ (w.heap.size + 1) 109 _ (0, 0) _ rfl hr Tryz.underlying109 rfl (by kernel_rfl)) rfl ?_
     exact Zcm (y := ⟨false, some ⟨g, 0, none⟩, 32, cap, none, 0, 0⟩) HRR.out HLY.out
  ·have hr := HRES.out
   rw [if_neg h1, if_neg h2] at hr
   subst hr
   have e1 : (x.k == 1) = false := by simp [h1]
   have e2 : (x.k == 2) = false := by simp [h2]
   have x0 := HR0.out.x0
   have x1 := HR0.out.x1
   have x2 := HR0.out.x2
   have xf := HR0.out.xf
   go_wp2_with fail
   have hr := put3 HR0.out.row (.bool false) (.slice none 0 0) (.slice none 0 0)
   refine bodyPost_ret (results_cell_row Tryz.results86 _ _ (w.heap.size + 1) 109 _ (0, 0) _ rfl hr Tryz.underlying109 rfl (by kernel_rfl)) rfl ?_
   exact Zcm (y := ⟨false, none, 0, 0, none, 0, 0⟩) HR0.out (Zf6 _ _)
def WalkSaid (t : T) : Prop := ∀ (x : V) (w : World) (d ww : Nat), Lies w t x -> d <= 8 -> ww <= 16777215 →
 Calls Tryz.prog 123 #[.agg #[.bool x.l, .slice x.ba x.bn x.bc, .slice x.ia x.m x.ic], .int .i64 d, .int .i64 ww] w fun e w' => e = .returned (.tuple #[.int .i64 ((wk t d ww).1 : Nat), .int .i64 ((wk t d ww).2 : Nat)]) /\ Below w.heap.size w w'
set_option maxRecDepth 20000 in
set_option maxHeartbeats 4000000 in
theorem Zp4 (l : Bool) (bs : List Int) (its : List T) (ih : ∀ t ∈ its, WalkSaid t) : WalkSaid (.mk l bs its) := by
 intro x w d ww hx hd hw
 obtain ⟨xl, xag, xm, xic, xic2, ⟨xbn, xm2⟩, xall⟩ := lies_eq.1 hx
 obtain ⟨res, hres⟩ : ∃ r, wk (.mk l bs its) d ww = r := ⟨_, rfl⟩
 rw [hres]
 rw [Zjx] at hres
 have HBX := Hid.mk (Zcq w x)
 have HBN := Hid.mk (below_new w (.cells #[.bool x.l, .slice x.ba x.bn x.bc, .slice x.ia x.m x.ic] 109))
 have HX := Hid.mk (Zay HBN.out _ x hx)
 have HXM := Hid.mk xm
 have HIH := Hid.mk ih
 have hbl := xag.l
 obtain ⟨xl', xba, xbn', xbc, xia, xm', xic'⟩ := x
 simp only at xl hbl xm xbn xm2 HBX HBN HX HXM
 subst xl
 clear hx xag xall ih xic xic2
 by_cases h21 : xl' = true /\ 8 <= d
 ·obtain ⟨rfl, h8⟩ := h21
  rw [if_pos (by simpa using h8)] at hres
  subst hres
  have h8i : (d : Int) ≥ 8 := by omega
  clear hbl xm
  go_enter Tryz.func123, Tryz.ntmps123
  go_wp2_with fail
  go_ret2
  exact ⟨rfl, HBN.out⟩
 rw [if_neg (fun h => h21 (by simpa using h))] at hres
 by_cases h23 : wrongForm xl' bs its = true
 ·rw [if_pos h23] at hres
  subst hres
  cases xl' with
  | true =>
   have hb0 : (xbn' : Int) > 0 := by unfold wrongForm at h23; simp at h23; omega
   have h8i : ¬ (d : Int) ≥ 8 := by have : ¬ 8 <= d := fun h => h21 ⟨rfl, h⟩; omega
   clear hbl xm h23 h21
   go_enter Tryz.func123, Tryz.ntmps123
   go_wp2_with fail
   go_ret2
   exact ⟨rfl, HBN.out⟩
  | false =>
   have hb0 : (xm' : Int) > 0 := by unfold wrongForm at h23; simp at h23; omega
   clear hbl xm h23 h21
   go_enter Tryz.func123, Tryz.ntmps123
   go_wp2_with fail
   go_ret2
   exact ⟨rfl, HBN.out⟩
 rw [if_neg h23] at hres
 have HRES := Hid.mk hres
 clear hres
 have hwf := Zci (by simpa using h23)
 have hz : (xl' = true -> xbn' = 0) /\ (xl' = false -> xm' = 0) := by
  cases xl' with
  | true =>
   have e : bs = [] := by simpa using hwf
   rw [e] at hbl
   exact ⟨fun _ => hbl.symm, fun h => Bool.noConfusion h⟩
  | false =>
   have e : its = [] := by simpa using hwf
   rw [e] at xm
   exact ⟨fun h => Bool.noConfusion h, fun _ => xm⟩
 have hwt : wt xl' bs d = if xl' && decide (d = 0) then 0 else max xbn' 1 := by rw [<- hbl]; unfold wt; by_cases h0 : d = 0 <;> simp [h0]
 have hd8 : xl' = true -> ¬ 8 <= d := fun h h8 => h21 ⟨h, h8⟩
 rw [hwt] at HRES
 obtain ⟨W0, hW0⟩ : ∃ W0, ww + (if xl' && decide (d = 0) then 0 else max xbn' 1) = W0 := ⟨_, rfl⟩
 rw [hW0] at HRES
 have hW0b : W0 <= 16777215 + 140737488351232 := by rw [<- hW0]; split <;> omega
 have HH := Hid.mk hW0
 have HD8 := Hid.mk hd8
 obtain ⟨W, hW⟩ : ∃ W, w.alloc (.cells #[.bool xl', .slice xba xbn' xbc, .slice xia xm' xic'] 109) = W := ⟨_, rfl⟩
 have HWW := Hid.mk hW
 have hch : Hid (∀ v, Below W.heap.size W v -> B1 w.heap.size v ⟨xl', xba, xbn', xbc, xia, xm', xic'⟩) := Hid.mk fun v hb => by rw [hW] at HBX; exact HBX.out.go hb
 rw [hW] at HBX HBN HX
 clear hbl xm h23 h21 hwf hwt hd8 hW0 hW
 cases xl' with
 | false =>
  have hm0 := hz.2 rfl
  subst hm0
  have hh := HH.out
  rw [if_neg (by simp)] at hh
  clear hz
  by_cases hb1 : 1 < xbn'
  ·have hbi : (xbn' : Int) > 1 := by omega
   have hsum : (ww : Int) + xbn' = W0 := by omega
   clear hh
   by_cases hlong : 16777215 < W0
   ·have hli : (W0 : Int) > 16777215 := by omega
    have hr := HRES.out
    rw [if_pos hlong] at hr
    subst hr
    go_enter Tryz.func123, Tryz.ntmps123
    go_wp2_with fail
    go_ret2
    exact ⟨rfl, by rw [HWW.out]; exact HBN.out⟩
   have hli : ¬ (W0 : Int) > 16777215 := by omega
   have hr := HRES.out
   rw [if_neg hlong] at hr
   have HR2 := Hid.mk hr
   clear hr HRES
   go_enter Tryz.func123, Tryz.ntmps123
   go_wp2_with fail
   rw [HWW.out]
   go_loopw [2, 8] (fun p q v => ∃ (u cur : Nat), u <= 0 /\ q = .int .i64 u /\ p = .int .i64 cur /\ wks (its.take u) (d + 1) W0 = (cur, 0) /\ cur <= 16777215 /\ Below W.heap.size W v) (fun _ q _ => 0 - (intOf q).toNat)
   case atStart => exact ⟨0, W0, by omega, rfl, rfl, by rw [List.take_zero, Zcc], by omega, Below.refl _ _⟩
   case round =>
    obtain ⟨u, cur, hu, rfl, rfl, hcur, hcb, hbv⟩ := hrel
    obtain ⟨c0, c1, c2⟩ := hch.out _ hbv
    simp only at c0 c1 c2
    have HBV := Hid.mk hbv
    have HCU := Hid.mk hcur
    clear hbv hcur
    have hui : ¬ (u : Int) < 0 := by omega
    have hr := HR2.out
    rw [<- List.take_of_length_le (l := its) (i := u) (by rw [<- HXM.out]; omega), HCU.out] at hr
    subst hr
    go_wp2_with fail
    go_ret2
    exact ⟨rfl, below_go HBN.out HBV.out⟩
  ·have hbi : ¬ (xbn' : Int) > 1 := by omega
   have hsum : (ww : Int) + 1 = W0 := by omega
   clear hh
   by_cases hlong : 16777215 < W0
   ·have hli : (W0 : Int) > 16777215 := by omega
    have hr := HRES.out
    rw [if_pos hlong] at hr
    subst hr
    go_enter Tryz.func123, Tryz.ntmps123
    go_wp2_with fail
    go_ret2
    exact ⟨rfl, by rw [HWW.out]; exact HBN.out⟩
   have hli : ¬ (W0 : Int) > 16777215 := by omega
   have hr := HRES.out
   rw [if_neg hlong] at hr
   have HR2 := Hid.mk hr
   clear hr HRES
   go_enter Tryz.func123, Tryz.ntmps123
   go_wp2_with fail
   rw [HWW.out]
   go_loopw [2, 8] (fun p q v => ∃ (u cur : Nat), u <= 0 /\ q = .int .i64 u /\ p = .int .i64 cur /\ wks (its.take u) (d + 1) W0 = (cur, 0) /\ cur <= 16777215 /\ Below W.heap.size W v) (fun _ q _ => 0 - (intOf q).toNat)
   case atStart => exact ⟨0, W0, by omega, rfl, rfl, by rw [List.take_zero, Zcc], by omega, Below.refl _ _⟩
   case round =>
    obtain ⟨u, cur, hu, rfl, rfl, hcur, hcb, hbv⟩ := hrel
    obtain ⟨c0, c1, c2⟩ := hch.out _ hbv
    simp only at c0 c1 c2
    have HBV := Hid.mk hbv
    have HCU := Hid.mk hcur
    clear hbv hcur
    have hui : ¬ (u : Int) < 0 := by omega
    have hr := HR2.out
    rw [<- List.take_of_length_le (l := its) (i := u) (by rw [<- HXM.out]; omega), HCU.out] at hr
    subst hr
    go_wp2_with fail
    go_ret2
    exact ⟨rfl, below_go HBN.out HBV.out⟩
 | true =>
  have hm0 := hz.1 rfl
  subst hm0
  have hh := HH.out
  have h8i : ¬ (d : Int) ≥ 8 := by have := HD8.out rfl; omega
  clear hz
  by_cases hd0 : d = 0
  ·rw [if_pos (by simp [hd0])] at hh
   have hsum : (ww : Int) = W0 := by omega
   have hdi : ¬ (d : Int) > 0 := by omega
   clear hh hd0
   have hlong : ¬ 16777215 < W0 := by omega
   have hli : ¬ (W0 : Int) > 16777215 := by omega
   have hr := HRES.out
   rw [if_neg hlong] at hr
   have HR2 := Hid.mk hr
   clear hr HRES
   go_enter Tryz.func123, Tryz.ntmps123
   go_wp2_with fail
   rw [HWW.out]
   go_loopw [2, 8] (fun p q v => ∃ (u cur : Nat), u <= xm' /\ q = .int .i64 u /\ p = .int .i64 cur /\ wks (its.take u) (d + 1) W0 = (cur, 0) /\ cur <= 16777215 /\ Below W.heap.size W v) (fun _ q _ => xm' - (intOf q).toNat)
   case atStart => exact ⟨0, W0, by omega, rfl, rfl, by rw [List.take_zero, Zcc], by omega, Below.refl _ _⟩
   case round =>
    obtain ⟨u, cur, hu, rfl, rfl, hcur, hcb, hbv⟩ := hrel
    obtain ⟨c0, c1, c2⟩ := hch.out _ hbv
    simp only at c0 c1 c2
    have HBV := Hid.mk hbv
    have HCU := Hid.mk hcur
    clear hbv hcur
    by_cases hlt : u < xm'
    case pos =>
     have hui : (u : Int) < xm' := by omega
     obtain ⟨t, ht⟩ : ∃ t, its[u]? = some t := ⟨its[u]'(by have := HXM.out; omega), List.getElem?_eq_getElem _⟩
     obtain ⟨g, off, y, A⟩ := Zb0 (lies_eq.1 HX.out).2.2.2.2.2.2 u t ht
     rw [Nat.zero_add] at A
     have ha : xia = some ⟨g, off, none⟩ := A.ha
     subst ha
     have y0 := Zaf HBV.out A.c0
     have y1 := Zaf HBV.out A.c1
     have y2 := Zaf HBV.out A.c2
     have hdd := HD8.out (by simp)
     have hcal := HIH.out t (List.mem_of_getElem? ht) y wr (d + 1) cur (Zay HBV.out t y A.li) (by omega) hcb
     rw [show ((d + 1 : Nat) : Int) = (d : Int) + 1 from by omega] at hcal
     have HC := Hid.mk hcal
     have HT := Hid.mk ht
     have hbnd := Zjy (t := t) (d := d + 1) (w := cur) (by omega) hcb
     clear hcal ht A
     go_wp2_with fail
     refine HC.out.mono ?_
     rintro e w1 ⟨rfl, hb1⟩
     have HB1 := Hid.mk (below_go HBV.out hb1)
     clear hb1 HC
     by_cases h0 : (wk t (d + 1) cur).2 = 0
     ·have hb0 := hbnd h0
      have hmore := Zjv HT.out HCU.out h0
      rw [h0]
      obtain ⟨c3, hc3⟩ : ∃ c3, (wk t (d + 1) cur).1 = c3 := ⟨_, rfl⟩
      rw [hc3] at hb0 hmore ⊢
      rw [show ((0 : Nat) : Int) = 0 from rfl]
      have HMO := Hid.mk hmore
      clear hbnd hmore h0 hc3
      go_wp2_with fail
      exact ⟨⟨u + 1, c3, by omega, by simp, rfl, HMO.out, by omega, HB1.out⟩, by simp [intOf]; omega⟩
     ·have hfail := Zjw HT.out HCU.out h0
      rw [HR2.out] at hfail
      subst hfail
      obtain ⟨c3, hc3⟩ : ∃ c3, (wk t (d + 1) cur).1 = c3 := ⟨_, rfl⟩
      obtain ⟨e3, he3⟩ : ∃ e3, (wk t (d + 1) cur).2 = e3 := ⟨_, rfl⟩
      rw [he3] at h0
      rw [hc3, he3]
      have hee : ((e3 : Int) != 0) = true := by rw [bne_iff_ne]; omega
      clear hbnd h0
      go_wp2_with fail
      go_ret2
      exact ⟨by rw [hc3, he3]; rfl, below_go HBN.out HB1.out⟩
    have hui : ¬ (u : Int) < xm' := by omega
    have hr := HR2.out
    rw [<- List.take_of_length_le (l := its) (i := u) (by rw [<- HXM.out]; omega), HCU.out] at hr
    subst hr
    go_wp2_with fail
    go_ret2
    exact ⟨rfl, below_go HBN.out HBV.out⟩
  ·have hdi : (d : Int) > 0 := by omega
   rw [if_neg (by simp [hd0])] at hh
   have hsum : (ww : Int) + 1 = W0 := by omega
   clear hh
   by_cases hlong : 16777215 < W0
   ·have hli : (W0 : Int) > 16777215 := by omega
    have hr := HRES.out
    rw [if_pos hlong] at hr
    subst hr
    go_enter Tryz.func123, Tryz.ntmps123
    go_wp2_with fail
    go_ret2
    exact ⟨rfl, by rw [HWW.out]; exact HBN.out⟩
   have hli : ¬ (W0 : Int) > 16777215 := by omega
   have hr := HRES.out
   rw [if_neg hlong] at hr
   have HR2 := Hid.mk hr
   clear hr HRES
   go_enter Tryz.func123, Tryz.ntmps123
   go_wp2_with fail
   rw [HWW.out]
   go_loopw [2, 8] (fun p q v => ∃ (u cur : Nat), u <= xm' /\ q = .int .i64 u /\ p = .int .i64 cur /\ wks (its.take u) (d + 1) W0 = (cur, 0) /\ cur <= 16777215 /\ Below W.heap.size W v) (fun _ q _ => xm' - (intOf q).toNat)
   case atStart => exact ⟨0, W0, by omega, rfl, rfl, by rw [List.take_zero, Zcc], by omega, Below.refl _ _⟩
   case round =>
    obtain ⟨u, cur, hu, rfl, rfl, hcur, hcb, hbv⟩ := hrel
    obtain ⟨c0, c1, c2⟩ := hch.out _ hbv
    simp only at c0 c1 c2
    have HBV := Hid.mk hbv
    have HCU := Hid.mk hcur
    clear hbv hcur
    by_cases hlt : u < xm'
    case pos =>
     have hui : (u : Int) < xm' := by omega
     obtain ⟨t, ht⟩ : ∃ t, its[u]? = some t := ⟨its[u]'(by have := HXM.out; omega), List.getElem?_eq_getElem _⟩
     obtain ⟨g, off, y, A⟩ := Zb0 (lies_eq.1 HX.out).2.2.2.2.2.2 u t ht
     rw [Nat.zero_add] at A
     have ha : xia = some ⟨g, off, none⟩ := A.ha
     subst ha
     have y0 := Zaf HBV.out A.c0
     have y1 := Zaf HBV.out A.c1
     have y2 := Zaf HBV.out A.c2
     have hdd := HD8.out (by simp)
     have hcal := HIH.out t (List.mem_of_getElem? ht) y wr (d + 1) cur (Zay HBV.out t y A.li) (by omega) hcb
     rw [show ((d + 1 : Nat) : Int) = (d : Int) + 1 from by omega] at hcal
     have HC := Hid.mk hcal
     have HT := Hid.mk ht
     have hbnd := Zjy (t := t) (d := d + 1) (w := cur) (by omega) hcb
     clear hcal ht A
     go_wp2_with fail
     refine HC.out.mono ?_
     rintro e w1 ⟨rfl, hb1⟩
     have HB1 := Hid.mk (below_go HBV.out hb1)
     clear hb1 HC
     by_cases h0 : (wk t (d + 1) cur).2 = 0
     ·have hb0 := hbnd h0
      have hmore := Zjv HT.out HCU.out h0
      rw [h0]
      obtain ⟨c3, hc3⟩ : ∃ c3, (wk t (d + 1) cur).1 = c3 := ⟨_, rfl⟩
      rw [hc3] at hb0 hmore ⊢
      rw [show ((0 : Nat) : Int) = 0 from rfl]
      have HMO := Hid.mk hmore
      clear hbnd hmore h0 hc3
      go_wp2_with fail
      exact ⟨⟨u + 1, c3, by omega, by simp, rfl, HMO.out, by omega, HB1.out⟩, by simp [intOf]; omega⟩
     ·have hfail := Zjw HT.out HCU.out h0
      rw [HR2.out] at hfail
      subst hfail
      obtain ⟨c3, hc3⟩ : ∃ c3, (wk t (d + 1) cur).1 = c3 := ⟨_, rfl⟩
      obtain ⟨e3, he3⟩ : ∃ e3, (wk t (d + 1) cur).2 = e3 := ⟨_, rfl⟩
      rw [he3] at h0
      rw [hc3, he3]
      have hee : ((e3 : Int) != 0) = true := by rw [bne_iff_ne]; omega
      clear hbnd h0
      go_wp2_with fail
      go_ret2
      exact ⟨by rw [hc3, he3]; rfl, below_go HBN.out HB1.out⟩
    have hui : ¬ (u : Int) < xm' := by omega
    have hr := HR2.out
    rw [<- List.take_of_length_le (l := its) (i := u) (by rw [<- HXM.out]; omega), HCU.out] at hr
    subst hr
    go_wp2_with fail
    go_ret2
    exact ⟨rfl, below_go HBN.out HBV.out⟩
theorem Zsz : ∀ t, WalkSaid t := T.ind Zp4
set_option maxHeartbeats 1000000 in
theorem Zdf (base n : Nat) (hb : base <= 192) (hn : n < 16777216) (w : World) :
  Calls Tryz.prog 143 #[.int .i64 base, .int .i64 n] w fun e w' => e = .returned (.slice (some ⟨w.heap.size, 0, none⟩) (hd base n).length (hd base n).length) /\ Row w.heap.size w' (hd base n) /\ Below w.heap.size w w' := by
 by_cases h5 : n <= 55
 ·have e : hd base n = [((base + n : Nat) : Int)] := by unfold hd; rw [if_pos h5]
  rw [e]
  have hi : (n : Int) <= 55 := by omega
  clear e
  go_enter Tryz.func143, Tryz.ntmps143
  go_wp2_with fail
  go_ret
  exact ⟨rfl, by unfold Row; rw [heap_alloc_new]; simp, (Below.refl _ _).alloc (Nat.le_refl _) _⟩
 have h5i : ¬ (n : Int) <= 55 := by omega
 by_cases h6 : n < 256
 ·have e : hd base n = [((base + 56 : Nat) : Int), (n : Int)] := by
   unfold hd; rw [if_neg h5, Zve (by omega) h6, Zns (by omega) h6]
  rw [e]
  have hi : (n : Int) < 256 := by omega
  clear e
  go_enter Tryz.func143, Tryz.ntmps143
  go_wp2_with fail
  go_ret
  exact ⟨rfl, by unfold Row; rw [heap_alloc_new]; simp, (Below.refl _ _).alloc (Nat.le_refl _) _⟩
 have h6i : ¬ (n : Int) < 256 := by omega
 by_cases h7 : n < 65536
 ·have e : hd base n = [((base + 57 : Nat) : Int), ((n / 256 : Nat) : Int), ((n % 256 : Nat) : Int)] := by
   unfold hd; rw [if_neg h5, Zvd (by omega) h7, Znr (by omega) h7]
  rw [e]
  have hi : (n : Int) < 65536 := by omega
  have q1 : (n : Int) / 256 < 256 := by omega
  clear e
  go_enter Tryz.func143, Tryz.ntmps143
  go_wp2_with fail
  go_ret
  exact ⟨rfl, by unfold Row; rw [heap_alloc_new]; simp, (Below.refl _ _).alloc (Nat.le_refl _) _⟩
 have h7i : ¬ (n : Int) < 65536 := by omega
 have e : hd base n = [((base + 58 : Nat) : Int), ((n / 65536 : Nat) : Int), ((n / 256 % 256 : Nat) : Int), ((n % 256 : Nat) : Int)] := by
  unfold hd; rw [if_neg h5, Zua (by omega) hn, Zgy (by omega) hn]
 rw [e]
 have q1 : (n : Int) / 65536 < 256 := by omega
 clear e
 go_enter Tryz.func143, Tryz.ntmps143
 go_wp2_with fail
 go_ret
 exact ⟨rfl, by unfold Row; rw [heap_alloc_new]; simp, (Below.refl _ _).alloc (Nat.le_refl _) _⟩
theorem Zqy (w : World) (base : Nat) : OwnB w base (.slice none 0 0) [] := ⟨rfl, .inl ⟨rfl, rfl⟩⟩
theorem Zvy {w : World} {g : Nat} {bs : List Int} (h : Row g w bs) (base : Nat) (hb : base <= g) (hl : bs.length <= 1000) : OwnB w base (.slice (some ⟨g, 0, none⟩) bs.length bs.length) bs := by
 refine ⟨by rw [List.length_map, Nat.mul_one], .inr ⟨g, bs.length, _, rfl, hb, h, Nat.le_refl _, by unfold maxLen; omega, by simp, by rw [Nat.mul_one]; exact List.take_of_length_le (by simp)⟩⟩
theorem Zn3 {base n : Nat} (h : n < 16777216) : (hd base n).length <= 4 := by
 rw [hd_len]
 have := Zfl h
 split <;> omega
theorem hd_bd {base n : Nat} (hb : base <= 192) (hn : n < 16777216) : ∀ z ∈ hd base n, 0 <= z /\ z < 256 := by
 have h3 := Zfl hn
 unfold hd
 split
 ·intro z hz
  have e : z = ((base + n : Nat) : Int) := by simpa using hz
  omega
 ·intro z hz
  rcases List.mem_cons.1 hz with e | hz
  ·omega
  ·exact Zl6 n z hz
def Nw (base : Nat) (a : Option Addr) : Prop := ∀ g off, a = some ⟨g, off, none⟩ -> base <= g
theorem OwnB.agn {w : World} {base : Nat} {v : Value} {bs : List Int} (h : OwnB w base v bs) (hb : ∀ x ∈ bs, 0 <= x /\ x < 256) : ∃ a cap, v = .slice a bs.length cap /\ Ag w a bs.length cap bs /\ Nw base a := by
 obtain ⟨a, cap, e, hag⟩ := OwnB.ag h hb
 refine ⟨a, cap, e, hag, fun g off ha => ?_⟩
 subst ha
 rw [e] at h
 exact OwnB.lt h g rfl
theorem Nw.mono {b b' : Nat} {a : Option Addr} (h : Nw b a) (hb : b' <= b) : Nw b' a := fun g off e => Nat.le_trans hb (h g off e)
def BytesSaid (t : T) : Prop := ∀ (x : V) (w : World), Lies w t x -> (bodyOf t).length <= 16777215 →
 Calls Tryz.prog 125 #[.agg #[.bool x.l, .slice x.ba x.bn x.bc, .slice x.ia x.m x.ic]] w fun e w' => (∃ a n c, e = .returned (.slice a n c) /\ Ag w' a n c (enc t) /\ (x.l = true -> Nw w.heap.size a)) /\ Below w.heap.size w w'
structure Gb (W : World) (B : Nat) (bs : List Int) (its : List T) (j : Nat) (q : Value) (v : World) (cur : List Int) : Prop where
 own : OwnB v B q cur
 eq : cur = bs ++ encs (its.take j)
 bel : Below B W v
 by8 : ∀ x ∈ cur, 0 <= x /\ x < 256
set_option maxHeartbeats 4000000 in
theorem Zox (l : Bool) (bs : List Int) (its : List T) (ih : ∀ t ∈ its, BytesSaid t) (x : V) (w : World) (hx : Lies w (.mk l bs its) x) (hlen : (bs ++ encs its).length <= 16777215) :
  Calls Tryz.prog 144 #[.agg #[.bool x.l, .slice x.ba x.bn x.bc, .slice x.ia x.m x.ic]] w fun e w' => (∃ a n c, e = .returned (.slice a n c) /\ Ag w' a n c (bs ++ encs its)) /\ Below w.heap.size w w' := by
 obtain ⟨xl, xag, xm, xic, xic2, ⟨xbn, xm2⟩, xall⟩ := lies_eq.1 hx
 have HBN := Hid.mk (below_new w (.cells #[.bool x.l, .slice x.ba x.bn x.bc, .slice x.ia x.m x.ic] 109))
 have HBX := Hid.mk (Zcq w x)
 have HX := Hid.mk (Zay HBN.out _ x hx)
 have HAG := Hid.mk (xag.at HBN.out)
 have HXM := Hid.mk xm
 have HIH := Hid.mk ih
 have HLEN := Hid.mk hlen
 have hbl := xag.l
 rw [List.length_append] at hlen
 obtain ⟨W, hW⟩ : ∃ W, w.alloc (.cells #[.bool x.l, .slice x.ba x.bn x.bc, .slice x.ia x.m x.ic] 109) = W := ⟨_, rfl⟩
 have hsz : W.heap.size = w.heap.size + 1 := by rw [<- hW]; simp
 have HWW := Hid.mk hW
 rw [hW] at HBN HBX HX HAG
 clear hx xag xall xm xl ih xic xic2 hW
 obtain ⟨xl, xba, xbn', xbc, xia, xm', xic'⟩ := x
 simp only at xbn xm2 HBX HX HAG HXM hbl HWW
 obtain ⟨c0, c1, c2⟩ := HBX.out
 simp only at c0 c1 c2
 go_enter Tryz.func144, Tryz.ntmps144
 go_upto_region 2 with fail
 rw [HWW.out]
 go_wp2_with (first | (at_builtin; refine Zbz rfl (.tmp 5) (.tmp 7) rfl W.heap.size _ [] rfl (Zqy W _) xba xbn' xbc bs rfl HAG.out.i HAG.out.nil HAG.out.l (by simp; omega) (Nat.le_refl _) ?_; intro v1 w1 o1 hb1; rw [List.nil_append] at o1; have HO1 := Hid.mk o1; have HB1 := Hid.mk hb1; clear o1 hb1))
 go_loopw [3, 4] (fun q i v => ∃ (j : Nat) (cur : List Int), j <= xm' /\ i = .int .i64 j /\ Gb W W.heap.size bs its j q v cur) (fun _ i _ => xm' - (intOf i).toNat)
 case atStart => exact ⟨0, bs, by omega, rfl, ⟨HO1.out, by rw [List.take_zero, Za2, List.append_nil], HB1.out, HAG.out.b⟩⟩
 case round =>
  clear HO1 HB1
  obtain ⟨j, cur, hj, rfl, G⟩ := hrel
  obtain ⟨d0, d1, d2⟩ := HBX.out.go G.bel
  simp only at d0 d1 d2
  have HG := Hid.mk G
  clear G
  by_cases hlt : j < xm'
  ·have hji : (j : Int) < xm' := by omega
   obtain ⟨t, ht⟩ : ∃ t, its[j]? = some t := ⟨its[j]'(by have := HXM.out; omega), List.getElem?_eq_getElem _⟩
   obtain ⟨g, off, y, A⟩ := Zb0 (lies_eq.1 HX.out).2.2.2.2.2.2 j t ht
   rw [Nat.zero_add] at A
   have ha : xia = some ⟨g, off, none⟩ := A.ha
   subst ha
   have y0 := Zaf HG.out.bel A.c0
   have y1 := Zaf HG.out.bel A.c1
   have y2 := Zaf HG.out.bel A.c2
   have hmem := List.mem_of_getElem? ht
   have a1 := Zc5 t
   have a2 := Zc4 hmem
   have hcal := HIH.out t hmem y wr (Zay HG.out.bel t y A.li) (by omega)
   have hcl : (cur ++ enc t).length <= 16777215 := by
    rw [HG.out.eq, List.append_assoc]
    have e1 : encs (its.take (j + 1)) = encs (its.take j) ++ enc t := by rw [Zbm ht, Zck, Za6, Za2, List.append_nil]
    have e2 : (encs (its.take (j + 1) ++ its.drop (j + 1))).length = (encs its).length := by rw [List.take_append_drop]
    rw [Zck, List.length_append, e1, List.length_append] at e2
    rw [List.length_append, List.length_append]
    omega
   rw [List.length_append] at hcl
   have HC := Hid.mk hcal
   have HT := Hid.mk ht
   clear hcal ht A a1 a2 hmem
   go_wp2_with fail
   refine HC.out.mono ?_
   rintro e w1 ⟨⟨a1, n1, c1', rfl, hag1, -⟩, hb1⟩
   have hl1 := hag1.l
   have HA1 := Hid.mk hag1
   have HO1 := Hid.mk (HG.out.own.below hb1)
   have hbb := HG.out.bel.trans (hb1.mono HG.out.bel.size)
   have HB1 := Hid.mk hbb
   have HMEM := Hid.mk (Zke HG.out.by8 hag1.b)
   clear hag1 hb1 hbb HC d0 d1 d2 c0 c1 c2
   go_wp2_with (first | (at_builtin; refine Zbz rfl (.tmp 16) (.tmp 22) rfl W.heap.size _ cur rfl HO1.out a1 n1 c1' (enc t) rfl HA1.out.i HA1.out.nil HA1.out.l (by omega) HB1.out.size ?_; intro v2 w2 o2 hb2; obtain ⟨a2, c2', rfl, hag2⟩ := OwnB.ag o2 HMEM.out; have HO2 := Hid.mk o2; have HB2 := Hid.mk (HB1.out.trans hb2); clear o2 hb2 hag2; generalize hgl : (cur ++ enc t).length = len2 at HO2 ⊢; clear hgl))
   refine ⟨⟨j + 1, cur ++ enc t, by omega, by simp, ⟨HO2.out, ?_, HB2.out, HMEM.out⟩⟩, by simp [intOf]; omega⟩
   rw [HG.out.eq, Zbm HT.out, Zck, Za6, Za2, List.append_nil, List.append_assoc]
  ·have hji : ¬ (j : Int) < xm' := by omega
   have htk : its.take j = its := List.take_of_length_le (by rw [<- HXM.out]; omega)
   have heq := HG.out.eq
   rw [htk] at heq
   subst heq
   obtain ⟨ba, bc, hq, hagb⟩ := OwnB.ag HG.out.own HG.out.by8
   subst hq
   have HAB := Hid.mk hagb
   obtain ⟨L, hL⟩ : ∃ L, (bs ++ encs its).length = L := ⟨_, rfl⟩
   rw [hL] at HAB ⊢
   clear hagb htk hL
   go_wp2_with fail
   go_ret
   exact ⟨⟨_, _, _, rfl, HAB.out⟩, HBN.out.trans (HG.out.bel.mono (by omega))⟩
set_option maxHeartbeats 4000000 in
theorem Zmo (l : Bool) (bs : List Int) (its : List T) (ih : ∀ t ∈ its, BytesSaid t) : BytesSaid (.mk l bs its) := by
 intro x w hx hlen
 have hlen2 : (bs ++ encs its).length <= 16777215 := hlen
 have xl := (lies_eq.1 hx).1
 have HBN := Hid.mk (below_new w (.cells #[.bool x.l, .slice x.ba x.bn x.bc, .slice x.ia x.m x.ic] 109))
 have HBX := Hid.mk (Zcq w x)
 have hcal := Zox l bs its ih x _ (Zay HBN.out _ x hx) hlen2
 have HC := Hid.mk hcal
 have henc := Zch l bs its
 obtain ⟨body, hbody⟩ : ∃ body, bs ++ encs its = body := ⟨_, rfl⟩
 rw [hbody] at HC henc hlen2
 obtain ⟨E, hE⟩ : ∃ E, enc (.mk l bs its) = E := ⟨_, rfl⟩
 rw [hE]
 rw [hE] at henc
 have HEN := Hid.mk henc
 obtain ⟨xl', xba, xbn, xbc, xia, xm, xic⟩ := x
 simp only at xl HC HBX HBN
 subst xl
 clear hx hcal henc hbody hlen ih hE
 go_enter Tryz.func125, Tryz.ntmps125
 go_wp2_with fail
 refine HC.out.mono ?_
 rintro e w1 ⟨⟨a1, n1, c1, rfl, hag1⟩, hb1⟩
 obtain ⟨d0, d1, d2⟩ := HBX.out.go hb1
 simp only at d0 d1 d2
 have HB1 := Hid.mk (below_go HBN.out hb1)
 have hl1 := hag1.l
 have HA1 := Hid.mk hag1
 have hfull : ∀ (base : Nat), base = baseOf xl' -> base <= 192 -> ∀ w2, Below w1.heap.size w1 w2 -> Row w1.heap.size w2 (hd base n1) -> OwnB w2 w1.heap.size (.slice (some ⟨w1.heap.size, 0, none⟩) (hd base n1).length (hd base n1).length) (hd base n1) /\ (hd base n1).length <= 4 /\ ∀ z ∈ hd base n1 ++ body, 0 <= z /\ z < 256 := by
  intro base _ hb w2 _ hrow
  have h4 := Zn3 (base := base) (n := n1) (by omega)
  exact ⟨Zvy hrow _ (Nat.le_refl _) (by omega), h4, Zke (hd_bd hb (by omega)) hag1.b⟩
 have HF := Hid.mk hfull
 clear hag1 hb1 HC hfull HBX HBN
 have hn24 : n1 < 16777216 := by omega
 by_cases hbare : bare xl' body = true
 ·have hbr := hbare
  unfold bare at hbr
  simp only [Bool.and_eq_true, decide_eq_true_eq] at hbr
  obtain ⟨b1, b2, b3⟩ := hbr
  have bx : xl' = false := by simpa using b1
  subst bx
  have hn1 : n1 = 1 := by omega
  subst hn1
  have HRE : Hid (E = body) := Hid.mk (by rw [HEN.out, if_pos hbare])
  obtain ⟨g, off, rfl, hc1, hc2, hc⟩ := ag_head HA1.out (by omega)
  unfold maxLen at hc2
  have hc0 := hc 0 (by omega)
  rw [Nat.add_zero] at hc0
  have hh : body.getD 0 0 = body.headD 0 := by cases body <;> rfl
  have hz := (HA1.out.b (body.getD 0 0) (by rw [List.getD, List.getElem?_eq_getElem (by omega)]; exact List.getElem_mem _)).1
  rw [<- hh] at b3
  generalize body.getD 0 0 = z at *
  clear hc hbare b1 b2 hh hl1
  go_wp2_with fail
  go_ret
  exact ⟨⟨_, _, _, rfl, by rw [HRE.out]; exact HA1.out, by first | exact (fun h => by cases h) | simp⟩, HB1.out⟩
 cases xl' with
 | true =>
  have HRE : Hid (E = hd 192 n1 ++ body) := Hid.mk (by rw [HEN.out, if_neg hbare, hl1]; rfl)
  clear hbare hl1
  go_wp2_with fail
  refine (Zdf 192 n1 (by decide) (by omega) _).mono ?_
  rintro e w2 ⟨rfl, hrow, hb2⟩
  obtain ⟨o2, h4, h256⟩ := HF.out 192 rfl (by decide) w2 hb2 hrow
  have HO2 := Hid.mk o2
  have H256 := Hid.mk h256
  have HA2 := Hid.mk (HA1.out.at hb2)
  have HB2 := Hid.mk (below_go HB1.out hb2)
  have hz := HB1.out.size
  have hz2 := hb2.size
  obtain ⟨K, hK⟩ : ∃ K, (hd 192 n1).length = K := ⟨_, rfl⟩
  rw [hK] at HO2 h4 ⊢
  have HKK := Hid.mk hK
  clear o2 h256 hrow hb2 hK
  go_wp2_with (first | (at_builtin; refine Zbz rfl (.tmp 29) (.tmp 30) rfl w1.heap.size _ (hd 192 n1) rfl HO2.out _ n1 c1 body rfl HA2.out.i HA2.out.nil HA2.out.l (by rw [HKK.out]; omega) hz2 ?_; intro v3 w3 o3 hb3; obtain ⟨a3, c3, rfl, hag3, hnw3⟩ := OwnB.agn o3 H256.out; have HNW := Hid.mk (hnw3.mono hz); have HA3 := Hid.mk hag3; have HB3 := Hid.mk (HB2.out.trans (hb3.mono hz)); clear o3 hag3 hb3 hnw3; generalize hgl : (hd 192 n1 ++ body).length = len3 at HA3 ⊢; clear hgl))
  go_ret
  exact ⟨⟨_, _, _, rfl, by rw [HRE.out]; exact HA3.out, by first | exact HNW.out | exact fun _ => HNW.out⟩, HB3.out⟩
 | false =>
  have HRE : Hid (E = hd 128 n1 ++ body) := Hid.mk (by rw [HEN.out, if_neg hbare, hl1]; rfl)
  by_cases hn1 : n1 = 1
  ·have hnb : ((n1 : Int) == 1) = true := by rw [beq_iff_eq]; omega
   have hnp : 0 < n1 := by omega
   obtain ⟨g, off, rfl, hc1, hc2, hc⟩ := ag_head HA1.out (by omega)
   unfold maxLen at hc2
   have hc0 := hc 0 (by omega)
   rw [Nat.add_zero] at hc0
   have hh : body.getD 0 0 = body.headD 0 := by cases body <;> rfl
   have hz := (HA1.out.b (body.getD 0 0) (by rw [List.getD, List.getElem?_eq_getElem (by omega)]; exact List.getElem_mem _)).2
   have hge : ¬ body.getD 0 0 < 128 := fun h => hbare (by unfold bare; rw [<- hh, decide_eq_true h, decide_eq_true (show body.length = 1 by omega)]; rfl)
   generalize body.getD 0 0 = z at *
   clear hc hbare hh hl1 hn1
   go_wp2_with fail
   refine (Zdf 128 n1 (by decide) (by omega) _).mono ?_
   rintro e w2 ⟨rfl, hrow, hb2⟩
   obtain ⟨o2, h4, h256⟩ := HF.out 128 rfl (by decide) w2 hb2 hrow
   have HO2 := Hid.mk o2
   have H256 := Hid.mk h256
   have HA2 := Hid.mk (HA1.out.at hb2)
   have HB2 := Hid.mk (below_go HB1.out hb2)
   have hz := HB1.out.size
   have hz2 := hb2.size
   obtain ⟨K, hK⟩ : ∃ K, (hd 128 n1).length = K := ⟨_, rfl⟩
   rw [hK] at HO2 h4 ⊢
   have HKK := Hid.mk hK
   clear o2 h256 hrow hb2 hK
   go_wp2_with (first | (at_builtin; refine Zbz rfl (.tmp 29) (.tmp 30) rfl w1.heap.size _ (hd 128 n1) rfl HO2.out _ n1 c1 body rfl HA2.out.i HA2.out.nil HA2.out.l (by rw [HKK.out]; omega) hz2 ?_; intro v3 w3 o3 hb3; obtain ⟨a3, c3, rfl, hag3⟩ := OwnB.ag o3 H256.out; have HA3 := Hid.mk hag3; have HB3 := Hid.mk (HB2.out.trans (hb3.mono hz)); clear o3 hag3 hb3; generalize hgl : (hd 128 n1 ++ body).length = len3 at HA3 ⊢; clear hgl))
   go_ret
   exact ⟨⟨_, _, _, rfl, by rw [HRE.out]; exact HA3.out, by first | exact (fun h => by cases h) | simp⟩, HB3.out⟩
  ·have hnb : ((n1 : Int) == 1) = false := by rw [beq_eq_false_iff_ne]; omega
   clear hbare hl1
   go_wp2_with fail
   refine (Zdf 128 n1 (by decide) (by omega) _).mono ?_
   rintro e w2 ⟨rfl, hrow, hb2⟩
   obtain ⟨o2, h4, h256⟩ := HF.out 128 rfl (by decide) w2 hb2 hrow
   have HO2 := Hid.mk o2
   have H256 := Hid.mk h256
   have HA2 := Hid.mk (HA1.out.at hb2)
   have HB2 := Hid.mk (below_go HB1.out hb2)
   have hz := HB1.out.size
   have hz2 := hb2.size
   obtain ⟨K, hK⟩ : ∃ K, (hd 128 n1).length = K := ⟨_, rfl⟩
   rw [hK] at HO2 h4 ⊢
   have HKK := Hid.mk hK
   clear o2 h256 hrow hb2 hK
   go_wp2_with (first | (at_builtin; refine Zbz rfl (.tmp 29) (.tmp 30) rfl w1.heap.size _ (hd 128 n1) rfl HO2.out _ n1 c1 body rfl HA2.out.i HA2.out.nil HA2.out.l (by rw [HKK.out]; omega) hz2 ?_; intro v3 w3 o3 hb3; obtain ⟨a3, c3, rfl, hag3⟩ := OwnB.ag o3 H256.out; have HA3 := Hid.mk hag3; have HB3 := Hid.mk (HB2.out.trans (hb3.mono hz)); clear o3 hag3 hb3; generalize hgl : (hd 128 n1 ++ body).length = len3 at HA3 ⊢; clear hgl))
   go_ret
   exact ⟨⟨_, _, _, rfl, by rw [HRE.out]; exact HA3.out, by first | exact (fun h => by cases h) | simp⟩, HB3.out⟩
theorem Zow : ∀ t, BytesSaid t := T.ind Zmo
mutual
def rsz : T -> Nat
 | .mk l bs its => if bare l bs then 1 else if 16777215 < (if l then 0 else bs.length) + rszs its then (if l then 0 else bs.length) + rszs its else szOf true [] ((if l then 0 else bs.length) + rszs its)
def rszs : List T -> Nat
 | [] => 0
 | t :: r => rsz t + rszs r
end
theorem Zuq (l : Bool) (bs : List Int) (its : List T) : rsz (.mk l bs its) = if bare l bs then 1 else if 16777215 < (if l then 0 else bs.length) + rszs its then (if l then 0 else bs.length) + rszs its else szOf true [] ((if l then 0 else bs.length) + rszs its) := by rw [rsz]
theorem Zds : rszs [] = 0 := by rw [rszs]
theorem Zfc (t : T) (r : List T) : rszs (t :: r) = rsz t + rszs r := by rw [rszs]
theorem Zex : ∀ a b : List T, rszs (a ++ b) = rszs a + rszs b
 | [], b => by rw [Zds]; simp
 | t :: r, b => by rw [List.cons_append, Zfc, Zfc, Zex r b]; omega
theorem Zk1 {its : List T} {k : Nat} {t : T} (h : its[k]? = some t) : rszs (its.take (k + 1)) = rszs (its.take k) + rsz t := by
 rw [Zbm h, Zex, Zfc, Zds]
 rfl
def Like (a b : Nat) : Prop := a = b \/ (16777215 < a /\ 16777215 < b /\ a <= b)
theorem Zfb : ∀ {its : List T}, (∀ t ∈ its, Like (rsz t) (sz t)) -> Like (rszs its) (szs its)
 | [], _ => by rw [Zds, Zdq]; exact .inl rfl
 | t :: r, h => by
  rw [Zfc, Zeg]
  have h1 := h t (List.mem_cons_self ..)
  have h2 := Zfb fun u hu => h u (List.mem_cons_of_mem _ hu)
  unfold Like at *
  omega
theorem Zkw (n : Nat) : szOf true [] n = 1 + n + (if 55 < n then nb n else 0) := by unfold szOf bare; simp
theorem Zm9 : ∀ t, form t = true -> Like (rsz t) (sz t) := by
 refine T.ind fun l bs its ih h => ?_
 rw [Zuq, Zs1]
 cases l with
 | false =>
  have hi := Zb3 h
  subst hi
  rw [Zds, Zdq]
  simp only [Bool.false_eq_true, if_false, Nat.add_zero]
  by_cases hb : bare false bs = true
  ·rw [if_pos hb]
   unfold szOf
   rw [if_pos hb]
   unfold bare at hb
   simp only [Bool.and_eq_true, decide_eq_true_eq] at hb
   exact .inl hb.2.1.symm
  ·rw [if_neg hb]
   have e : szOf false bs bs.length = szOf true [] bs.length := by rw [Zkw]; unfold szOf; rw [if_neg hb]
   rw [e]
   by_cases hm : 16777215 < bs.length
   ·rw [if_pos hm]
    have := Zj1 true [] bs.length
    exact .inr ⟨hm, by omega, this⟩
   ·rw [if_neg hm]; exact .inl rfl
 | true =>
  obtain ⟨hb, hf⟩ := Zcn h
  subst hb
  have hk := Zfb fun t ht => ih t ht (Zbh hf t ht)
  rw [if_neg (by simp [bare]), if_pos rfl, Nat.zero_add, show ([] : List Int).length + szs its = szs its from by simp]
  have hg := Zj1 true [] (szs its)
  unfold Like at *
  rcases hk with hk | ⟨h1, h2, h3⟩
  ·rw [hk]
   by_cases hm : 16777215 < szs its
   ·rw [if_pos hm]; exact .inr ⟨hm, by omega, hg⟩
   ·rw [if_neg hm]; exact .inl rfl
  ·rw [if_pos h1]; exact .inr ⟨h1, by omega, by omega⟩
theorem Zvx {its : List T} (h : forms its = true) : rszs its <= szs its := by
 have := Zfb fun t ht => Zm9 t (Zbh h t ht)
 unfold Like at this; omega
theorem Zk0 {its : List T} (k : Nat) : rszs (its.take k) <= rszs its := by
 have e := Zex (its.take k) (its.drop k)
 rw [List.take_append_drop] at e
 omega
theorem Zmd {n : Nat} : szOf true [] n = n + (hd 0 n).length := by
 rw [Zkw, hd_len]
 split <;> omega
def SizeSaid (t : T) : Prop := ∀ (x : V) (w : World), Lies w t x -> form t = true -> rsz t <= 1000000000000 →
 Calls Tryz.prog 124 #[.agg #[.bool x.l, .slice x.ba x.bn x.bc, .slice x.ia x.m x.ic]] w fun e w' => e = .returned (.int .i64 (rsz t : Nat)) /\ Below w.heap.size w w'
set_option maxHeartbeats 4000000 in
theorem Zqf (l : Bool) (bs : List Int) (its : List T) (ih : ∀ t ∈ its, SizeSaid t) : SizeSaid (.mk l bs its) := by
 intro x w hx hf hbig
 obtain ⟨xl, xag, xm, xic, xic2, ⟨xbn, xm2⟩, xall⟩ := lies_eq.1 hx
 have HBN := Hid.mk (below_new w (.cells #[.bool x.l, .slice x.ba x.bn x.bc, .slice x.ia x.m x.ic] 109))
 have HBX := Hid.mk (Zcq w x)
 have HX := Hid.mk (Zay HBN.out _ x hx)
 have HAG := Hid.mk (xag.at HBN.out)
 have HXM := Hid.mk xm
 have HIH := Hid.mk ih
 have hbl := xag.l
 have hre := Zuq l bs its
 obtain ⟨R0, hR0⟩ : ∃ R0, rsz (.mk l bs its) = R0 := ⟨_, rfl⟩
 rw [hR0]
 rw [hR0] at hre hbig
 obtain ⟨xl', xba, xbn', xbc, xia, xm', xic'⟩ := x
 simp only at xl xbn xm2 HBX HBN HX HAG HXM hbl xm
 subst xl
 obtain ⟨W, hW⟩ : ∃ W, w.alloc (.cells #[.bool xl', .slice xba xbn' xbc, .slice xia xm' xic'] 109) = W := ⟨_, rfl⟩
 have HWW := Hid.mk hW
 rw [hW] at HBN HBX HX HAG
 clear hx xag xall ih xic xic2 hW hR0
 cases xl' with
 | false =>
  have hi := Zb3 hf
  subst hi
  have hm0 : xm' = 0 := xm
  subst hm0
  simp only [Bool.false_eq_true, if_false, Zds, Nat.add_zero] at hre
  by_cases hbare : bare false bs = true
  ·rw [if_pos hbare] at hre
   subst hre
   unfold bare at hbare
   simp only [Bool.and_eq_true, decide_eq_true_eq] at hbare
   obtain ⟨_, b2, b3⟩ := hbare
   have hn1 : xbn' = 1 := by omega
   subst hn1
   obtain ⟨g, off, rfl, hc1, hc2, hc⟩ := ag_head HAG.out (by omega)
   unfold maxLen at hc2
   have hc0 := hc 0 (by omega)
   rw [Nat.add_zero, <- HWW.out] at hc0
   have hh : bs.getD 0 0 = bs.headD 0 := by cases bs <;> rfl
   have hz := (HAG.out.b (bs.getD 0 0) (by rw [List.getD, List.getElem?_eq_getElem (by omega)]; exact List.getElem_mem _)).1
   rw [<- hh] at b3
   generalize bs.getD 0 0 = z at *
   clear hc hh b2 hbl hf xm
   go_enter Tryz.func124, Tryz.ntmps124
   go_wp2_with fail
   go_ret
   exact ⟨rfl, by rw [HWW.out]; exact HBN.out⟩
  rw [if_neg hbare, hbl] at hre
  have HR0 := Hid.mk hre.symm
  clear hre
  by_cases hn1 : xbn' = 1
  ·have hnb : ((xbn' : Int) == 1) = true := by rw [beq_iff_eq]; omega
   have hnp : 0 < xbn' := by omega
   obtain ⟨g, off, rfl, hc1, hc2, hc⟩ := ag_head HAG.out (by omega)
   unfold maxLen at hc2
   have hc0 := hc 0 (by omega)
   rw [Nat.add_zero, <- HWW.out] at hc0
   have hh : bs.getD 0 0 = bs.headD 0 := by cases bs <;> rfl
   have hz := (HAG.out.b (bs.getD 0 0) (by rw [List.getD, List.getElem?_eq_getElem (by omega)]; exact List.getElem_mem _)).2
   have hge : ¬ bs.getD 0 0 < 128 := fun h => hbare (by unfold bare; rw [<- hh, decide_eq_true h, decide_eq_true (show bs.length = 1 by omega)]; rfl)
   generalize bs.getD 0 0 = z at *
   clear hc hh hbl hf xm hbare hn1
   go_enter Tryz.func124, Tryz.ntmps124
   go_wp2_with fail
   rw [HWW.out]
   go_loopw [3, 4] (fun p q v => p = .int .i64 xbn' /\ q = .int .i64 0 /\ Below W.heap.size W v) (fun _ _ _ => 0)
   case atStart => exact ⟨rfl, rfl, Below.refl _ _⟩
   case round =>
    obtain ⟨rfl, rfl, hbv⟩ := hrel
    obtain ⟨d0, d1, d2⟩ := HBX.out.go hbv
    simp only at d0 d1 d2
    have HBV := Hid.mk hbv
    clear hbv
    by_cases hmax : 16777215 < xbn'
    ·have hmi : (xbn' : Int) > 16777215 := by omega
     have e : R0 = xbn' := by rw [<- HR0.out, if_pos hmax]
     subst e
     go_wp2_with fail
     go_ret
     exact ⟨rfl, below_go HBN.out HBV.out⟩
    ·have hmi : ¬ (xbn' : Int) > 16777215 := by omega
     have e : R0 = xbn' + (hd 0 xbn').length := by rw [<- HR0.out, if_neg hmax, Zmd]
     have h4 := Zn3 (base := 0) (n := xbn') (by omega)
     have hcal := Zdf 0 xbn' (by omega) (by omega) wr
     rw [show ((0 : Nat) : Int) = 0 from rfl] at hcal
     obtain ⟨K, hK⟩ : ∃ K, (hd 0 xbn').length = K := ⟨_, rfl⟩
     rw [hK] at hcal e h4
     subst e
     have HC := Hid.mk hcal
     clear hcal hK
     go_wp2_with fail
     refine HC.out.mono ?_
     rintro e w2 ⟨rfl, _, hb2⟩
     have HB2 := Hid.mk (below_go HBV.out hb2)
     clear hb2
     go_wp2_with fail
     go_ret
     exact ⟨by simp, below_go HBN.out HB2.out⟩
  ·have hnb : ((xbn' : Int) == 1) = false := by rw [beq_eq_false_iff_ne]; omega
   clear hbl hf xm hbare
   go_enter Tryz.func124, Tryz.ntmps124
   go_wp2_with fail
   rw [HWW.out]
   go_loopw [3, 4] (fun p q v => p = .int .i64 xbn' /\ q = .int .i64 0 /\ Below W.heap.size W v) (fun _ _ _ => 0)
   case atStart => exact ⟨rfl, rfl, Below.refl _ _⟩
   case round =>
    obtain ⟨rfl, rfl, hbv⟩ := hrel
    obtain ⟨d0, d1, d2⟩ := HBX.out.go hbv
    simp only at d0 d1 d2
    have HBV := Hid.mk hbv
    clear hbv
    by_cases hmax : 16777215 < xbn'
    ·have hmi : (xbn' : Int) > 16777215 := by omega
     have e : R0 = xbn' := by rw [<- HR0.out, if_pos hmax]
     subst e
     go_wp2_with fail
     go_ret
     exact ⟨rfl, below_go HBN.out HBV.out⟩
    ·have hmi : ¬ (xbn' : Int) > 16777215 := by omega
     have e : R0 = xbn' + (hd 0 xbn').length := by rw [<- HR0.out, if_neg hmax, Zmd]
     have h4 := Zn3 (base := 0) (n := xbn') (by omega)
     have hcal := Zdf 0 xbn' (by omega) (by omega) wr
     rw [show ((0 : Nat) : Int) = 0 from rfl] at hcal
     obtain ⟨K, hK⟩ : ∃ K, (hd 0 xbn').length = K := ⟨_, rfl⟩
     rw [hK] at hcal e h4
     subst e
     have HC := Hid.mk hcal
     clear hcal hK
     go_wp2_with fail
     refine HC.out.mono ?_
     rintro e w2 ⟨rfl, _, hb2⟩
     have HB2 := Hid.mk (below_go HBV.out hb2)
     clear hb2
     go_wp2_with fail
     go_ret
     exact ⟨by simp, below_go HBN.out HB2.out⟩
 | true =>
  obtain ⟨hb, hfs⟩ := Zcn hf
  subst hb
  simp only [if_true, Nat.zero_add] at hre
  rw [if_neg (by simp [bare])] at hre
  have HR0 := Hid.mk hre.symm
  have HFS := Hid.mk hfs
  have hrb : rszs its <= 1000000000000 := by
   rw [hre] at hbig
   split at hbig
   ·exact hbig
   ·have := Zj1 true [] (rszs its); omega
  clear hre hf hfs hbl xm
  go_enter Tryz.func124, Tryz.ntmps124
  go_wp2_with fail
  rw [HWW.out]
  go_loopw [3, 4] (fun p q v => ∃ u : Nat, u <= xm' /\ q = .int .i64 u /\ p = .int .i64 (rszs (its.take u) : Nat) /\ Below W.heap.size W v) (fun _ q _ => xm' - (intOf q).toNat)
  case atStart => exact ⟨0, by omega, rfl, by rw [List.take_zero, Zds]; rfl, Below.refl _ _⟩
  case round =>
   obtain ⟨u, hu, rfl, rfl, hbv⟩ := hrel
   obtain ⟨d0, d1, d2⟩ := HBX.out.go hbv
   simp only at d0 d1 d2
   have HBV := Hid.mk hbv
   clear hbv
   by_cases hlt : u < xm'
   ·have hui : (u : Int) < xm' := by omega
    obtain ⟨t, ht⟩ : ∃ t, its[u]? = some t := ⟨its[u]'(by have := HXM.out; omega), List.getElem?_eq_getElem _⟩
    obtain ⟨g, off, y, A⟩ := Zb0 (lies_eq.1 HX.out).2.2.2.2.2.2 u t ht
    rw [Nat.zero_add] at A
    have ha : xia = some ⟨g, off, none⟩ := A.ha
    subst ha
    have y0 := Zaf HBV.out A.c0
    have y1 := Zaf HBV.out A.c1
    have y2 := Zaf HBV.out A.c2
    have hmem := List.mem_of_getElem? ht
    have hmore := Zk1 ht
    have hle := Zk0 (its := its) (u + 1)
    have hcal := HIH.out t hmem y wr (Zay HBV.out t y A.li) (Zbh HFS.out t hmem) (by omega)
    obtain ⟨r1, hr1⟩ : ∃ r1, rszs (its.take u) = r1 := ⟨_, rfl⟩
    obtain ⟨r2, hr2⟩ : ∃ r2, rsz t = r2 := ⟨_, rfl⟩
    rw [hr1, hr2] at hmore
    rw [hr1]
    rw [hr2] at hcal
    have HC := Hid.mk hcal
    have HMO := Hid.mk hmore
    have hb1 : r1 + r2 <= 1000000000000 := by omega
    clear hcal ht A hmem hmore hle hr1 hr2
    go_wp2_with fail
    refine HC.out.mono ?_
    rintro e w1 ⟨rfl, hb2⟩
    have HB2 := Hid.mk (below_go HBV.out hb2)
    clear hb2
    go_wp2_with fail
    exact ⟨⟨u + 1, by omega, by simp, by rw [HMO.out]; simp, HB2.out⟩, by simp [intOf]; omega⟩
   ·have hui : ¬ (u : Int) < xm' := by omega
    have htk : its.take u = its := List.take_of_length_le (by rw [<- HXM.out]; omega)
    rw [htk]
    obtain ⟨S0, hS0⟩ : ∃ S0, rszs its = S0 := ⟨_, rfl⟩
    rw [hS0] at HR0 hrb ⊢
    clear htk hS0
    by_cases hmax : 16777215 < S0
    ·have hmi : (S0 : Int) > 16777215 := by omega
     have e : R0 = S0 := by rw [<- HR0.out, if_pos hmax]
     subst e
     go_wp2_with fail
     go_ret
     exact ⟨rfl, below_go HBN.out HBV.out⟩
    ·have hmi : ¬ (S0 : Int) > 16777215 := by omega
     have e : R0 = S0 + (hd 0 S0).length := by rw [<- HR0.out, if_neg hmax, Zmd]
     have h4 := Zn3 (base := 0) (n := S0) (by omega)
     have hcal := Zdf 0 S0 (by omega) (by omega) wr
     rw [show ((0 : Nat) : Int) = 0 from rfl] at hcal
     obtain ⟨K, hK⟩ : ∃ K, (hd 0 S0).length = K := ⟨_, rfl⟩
     rw [hK] at hcal e h4
     subst e
     have HC := Hid.mk hcal
     clear hcal hK
     go_wp2_with fail
     refine HC.out.mono ?_
     rintro e w2 ⟨rfl, _, hb2⟩
     have HB2 := Hid.mk (below_go HBV.out hb2)
     clear hb2
     go_wp2_with fail
     go_ret
     exact ⟨by simp, below_go HBN.out HB2.out⟩
theorem Zs8 : ∀ t, SizeSaid t := T.ind Zqf
end Go.Proofs.YtefhepcplempkaaGreat
