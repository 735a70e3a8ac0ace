/- What Decode answers; so what Right answers. -/
import Derived.Test.YtefhepcplempkaaGreatG25
import Derived.Test.YtefhepcplempkaaGreatG26
import Derived.Test.YtefhepcplempkaaGreatG21
import Derived.Maps.AppendAt
import Derived.Deep.DeepAppendWide
import Derived.Test.YtefhepcplempkaaGreatG19
set_option linter.unusedVariables false
set_option maxRecDepth 100000
namespace Go.Proofs.YtefhepcplempkaaGreat
open Go.RowKit
theorem Zpw {b : List Int} {t : T} (hb : isB b) (h : decP b = .ok t) : ∀ u ∈ t.its, u.bs.length <= 16777216 := fun u hu => by
 obtain ⟨h1, h2, h3⟩ := Zho hb h
 have hbo := (Zhl h2).2.1
 have l1 := Zcq u
 have l2 := Zdj hu
 have l3 : (bodyOf t).length = t.bs.length + (encs t.its).length := by unfold bodyOf; rw [List.length_append]
 have l4 : (bodyOf u).length = u.bs.length + (encs u.its).length := by unfold bodyOf; rw [List.length_append]
 omega
structure Dd (w v : World) : Prop where
 row : v.heap[w.heap.size]? = some (.cells nz.cells.toArray 68)
 bel : Below w.heap.size w v
 sz : w.heap.size + 1 <= v.heap.size
theorem Dd.go {w v v' : World} (h : Dd w v) (hb : Below v.heap.size v v') : Dd w v' := ⟨Below.row hb h.row, below_go h.bel hb, Nat.le_trans h.sz hb.size⟩
theorem Zz0 (w : World) : Dd w (w.alloc (.cells nz.cells.toArray 68)) := ⟨heap_alloc_new _ _, below_new _ _, by simp⟩
set_option maxHeartbeats 8000000 in
theorem Zmb (b : List Int) (hr : isB b -> ∀ i, i.length < b.length -> i.length < 32 -> isB i -> DecSaid i) : DecSaid b := by
 intro a n c w hag hn
 have hbB : isB b := hag.b
 have HREC := Hid.mk (hr hbB)
 have HAG := Hid.mk hag
 have HBB := Hid.mk hbB
 obtain ⟨res, hres⟩ : ∃ res, ND b = res := ⟨_, rfl⟩
 rw [hres]
 rw [Zye hbB] at hres
 have HRES := Hid.mk hres
 have HDD0 := Hid.mk (Zz0 w)
 clear hag hr hres hbB
 go_enter Tryz.func94, Tryz.ntmps94
 go_upto_region 1 with fail
 refine gen_w (p := fun v => Code.wp _ _ _ _ v) (q := fun v => Dd w v) HDD0.out ?_
 clear HDD0
 intro v D0
 have HD0 := Hid.mk D0
 have HCD := Hid.mk (Zis a n c b v (HAG.out.at D0.bel) hn)
 clear D0
 go_wp2_with fail
 refine HCD.out.mono ?_
 intro e w1 hp
 obtain ⟨hb1, hp⟩ := hp
 have HD1 := Hid.mk (HD0.out.go hb1)
 have HV0 := Hid.mk HD0.out.sz
 cases hq : decP b with
 | bad er =>
  rw [hq] at hp
  have hr := HRES.out
  rw [hq] at hr
  have hr : none = res := hr
  subst hr
  obtain ⟨rfl, her⟩ := hp
  have hee : ((er : Int) != 0) = true := by rw [bne_iff_ne]; omega
  clear hb1 hq her
  go_upto_region 2 with fail
  refine gen_w (p := fun v => Code.wp _ _ _ _ v) (q := fun v => Dd w v) (HD1.out.go (below_new w1 _)) ?_
  intro v2 D2
  have HD2 := Hid.mk D2
  clear D2
  go_wp2_with (first | refine wpList_store_row rfl 68 _ _ rfl _ nz.cells.toArray rfl rfl 68 _ HD2.out.row (Zb2 rfl) (Zbk rfl) (all_oneCell_toArray (NV.one _)) ?_)
  refine bodyPost_ret (Zbg Tryz.results94 _ _ w.heap.size nz rfl rfl (setRow_heap _ _ _ _ _ _ HD2.out.row)) rfl ?_
  exact ⟨Below.setRow HD2.out.bel (Nat.le_refl _) _, rfl⟩
 | ok t =>
  rw [hq] at hp
  have hr := HRES.out
  rw [hq] at hr
  obtain ⟨y, rfl, hy⟩ := hp
  have HLY := Hid.mk (show LiesP (fun b => w.heap.size + 1 <= b) w1 t y from Zav (fun b hb hlt => ⟨rfl, by have := HV0.out; omega⟩) _ _ hy)
  have hr : (match nodeOfP t with
   | none => none
   | some n => if NR n = true then some n else none) = res := hr
  have HR := Hid.mk hr
  have HSM := Hid.mk (Zpw HBB.out hq)
  have HSB := Hid.mk (fun n hn => Zjg (n := n) HBB.out hq hn)
  clear hb1 hq hy hr HRES
  go_upto_region 2 with fail
  refine gen_w (p := fun v => Code.wp _ _ _ _ v) (q := fun v => Dd w v /\ B1 w1.heap.size v y /\ LiesP (fun b => w.heap.size + 1 <= b) v t y) ⟨HD1.out.go (below_new w1 _), Zf5 w1 y, Zav (fun b hb hlt => ⟨heap_alloc_old _ _ hlt, hb⟩) _ _ HLY.out⟩ ?_
  rintro v2 ⟨D2, B2, L2⟩
  have c0 := B2.c0
  have c1 := B2.c1
  have c2 := B2.c2
  have HD2 := Hid.mk D2
  have HNO := Hid.mk (Zom (w.heap.size + 1) t y v2 L2 D2.sz HSM.out)
  clear D2 B2 L2
  go_wp2_with fail
  refine HNO.out.mono ?_
  intro e w3 hp
  obtain ⟨hb3, hp⟩ := hp
  have HD3 := Hid.mk (HD2.out.go hb3)
  have hr := HR.out
  cases hq : nodeOfP t with
  | none =>
   rw [hq] at hp hr
   have hr : none = res := hr
   subst hr
   obtain ⟨y', hl', rfl⟩ := hp
   have HL := Hid.mk hl'
   clear hb3 hq hl' c0 c1 c2
   go_upto_region 5 with (first | refine wpList_store_row rfl 68 _ _ rfl _ y'.cells.toArray rfl rfl 68 _ (heap_alloc_new _ _) (Zb2 HL.out) (Zbk HL.out) (all_oneCell_toArray (NV.one _)) ?_)
   refine gen_w (p := fun v => Code.wp _ _ _ _ v) (q := fun v => Dd w v) (HD3.out.go (Below.setRow (below_new w3 _) (Nat.le_refl _) _)) ?_
   intro v4 D4
   have HD4 := Hid.mk D4
   clear D4
   go_wp2_with (first | refine wpList_store_row rfl 68 _ _ rfl _ nz.cells.toArray rfl rfl 68 _ HD4.out.row (Zb2 rfl) (Zbk rfl) (all_oneCell_toArray (NV.one _)) ?_)
   refine bodyPost_ret (Zbg Tryz.results94 _ _ w.heap.size nz rfl rfl (setRow_heap _ _ _ _ _ _ HD4.out.row)) rfl ?_
   exact ⟨Below.setRow HD4.out.bel (Nat.le_refl _) _, rfl⟩
  | some nn =>
   rw [hq] at hp hr
   obtain ⟨y', rfl, hna⟩ := hp
   have hr : (if NR nn = true then some nn else none) = res := hr
   have HL := Hid.mk hna.c.len
   have HNA := Hid.mk hna
   have HRI := Hid.mk (show ∀ u, NodeAt (fun _ => True) u y' nn -> Calls Tryz.prog 79 #[.agg y'.cells.toArray] u fun e w' => e = .returned (.bool (NR nn)) /\ Below u.heap.size u w' from fun u hu => Zp7 _ y' nn u hu (fun r hrr h32 => by
    obtain ⟨s1, s2⟩ := HSB.out nn hq r hrr
    exact HREC.out r.i s1 h32 s2))
   obtain ⟨q, hqq⟩ : ∃ q, NR nn = q := ⟨_, rfl⟩
   rw [hqq] at hr HRI
   have HR2 := Hid.mk hr
   clear hb3 hq hna c0 c1 c2 hr hqq
   go_upto_region 5 with (first | refine wpList_store_row rfl 68 _ _ rfl _ y'.cells.toArray rfl rfl 68 _ (heap_alloc_new _ _) (Zb2 HL.out) (Zbk HL.out) (all_oneCell_toArray (NV.one _)) ?_)
   refine gen_w (p := fun v => Code.wp _ _ _ _ v) (q := fun v => Dd w v /\ NBx w3.heap.size v y' /\ Below w3.heap.size w3 v) ⟨HD3.out.go (Below.setRow (below_new w3 _) (Nat.le_refl _) _), ⟨setRow_heap _ _ _ _ _ _ (heap_alloc_new _ _), HL.out⟩, Below.setRow (below_new w3 _) (Nat.le_refl _) _⟩ ?_
   rintro v4 ⟨D4, N4, b4⟩
   have HD4 := Hid.mk D4
   have HN4 := Hid.mk N4
   have HB4 := Hid.mk b4
   clear D4 N4 b4
   go_wp2_with (first | refine Zbx rfl _ rfl w3.heap.size rfl y' HN4.out ?_)
   refine (HRI.out v4 (HNA.out.go (Keep.any HB4.out))).mono ?_
   rintro e w5 ⟨rfl, hb5⟩
   have HD5 := Hid.mk (HD4.out.go hb5)
   have HN5 := Hid.mk (HN4.out.go hb5)
   have HB5 := Hid.mk (below_go HB4.out hb5)
   clear hb5
   have hr := HR2.out
   cases q with
   | false =>
    rw [if_neg (by simp)] at hr
    subst hr
    go_wp2_with (first | refine wpList_store_row rfl 68 _ _ rfl _ nz.cells.toArray rfl rfl 68 _ HD5.out.row (Zb2 rfl) (Zbk rfl) (all_oneCell_toArray (NV.one _)) ?_)
    refine bodyPost_ret (Zbg Tryz.results94 _ _ w.heap.size nz rfl rfl (setRow_heap _ _ _ _ _ _ HD5.out.row)) rfl ?_
    exact ⟨Below.setRow HD5.out.bel (Nat.le_refl _) _, rfl⟩
   | true =>
    rw [if_pos rfl] at hr
    subst hr
    go_wp2_with (first | refine Zbx rfl _ rfl w3.heap.size rfl y' HN5.out ?_ | refine wpList_store_row rfl 68 _ _ rfl _ y'.cells.toArray rfl rfl 68 _ HD5.out.row (Zb2 HL.out) (Zbk HL.out) (all_oneCell_toArray (NV.one _)) ?_)
    refine bodyPost_ret (Zbg Tryz.results94 _ _ w.heap.size y' HL.out rfl (setRow_heap _ _ _ _ _ _ HD5.out.row)) rfl ?_
    refine ⟨Below.setRow HD5.out.bel (Nat.le_refl _) _, y', rfl, HNA.out.go fun k hK hk => ?_⟩
    have e : (w5.setRow w.heap.size y'.cells.toArray).heap[k]? = w3.heap[k]? := (setRow_other _ _ _ _ (by have := hK.1; omega)).trans (HB5.out.block k hk)
    exact ⟨e, by have := hK.1; omega, fun o => (World.frozen?_of_block (w := w3) e).trans (hK.2 o)⟩
theorem Zo3 : ∀ (L : Nat) (b : List Int), b.length <= L -> DecSaid b := by
 intro L
 induction L using Nat.strongRecOn with
 | _ L ih =>
  intro b hL
  exact Zmb b fun _ i h1 _ _ => ih i.length (by omega) i (Nat.le_refl _)
theorem Zg8 (b : List Int) : DecSaid b := Zo3 b.length b (Nat.le_refl _)
theorem Zok (K : Nat -> Prop) (x : NV) (n : PN) (w : World) (h : NodeAt K w x n) :
  Calls Tryz.prog 79 #[.agg x.cells.toArray] w fun e w' => e = .returned (.bool (NR n)) /\ Below w.heap.size w w' := Zp7 K x n w h fun r _ _ => Zg8 r.i
theorem Zhu {P : Program} (w : World) (base : Nat) (t ty e : TypeId) (i : TypeInfo) (z : Value) (size bytes : Nat) (ht : P.underlying t = some (.slice e)) (hi : P.info? e = some i) (hz : i.zero = some z)
  (hsize : i.size = size) (hby : i.bytes = bytes) (hzs : z.cells.size = size) (hsz : 0 < size)
  (v : Value) (n : Nat) (xs : List Value) (hown : w.ownsRow base e size v n xs)
  (a : Addr) (m c : Nat) (news : List Value) (hl : news.length = m * size) (hnews : ∀ j u, news[j]? = some u -> w.cell? (a.add j) = some u) (h1 : ∀ u ∈ news, u.oneCell' = true) (hm0 : 0 < m)
  (h63 : n + m <= maxLen) (hbytes : ((n + m) + (n + m) / 4 + 192) * bytes <= 281474976710656) (hbase : base <= w.heap.size) :
  ∃ v' w', (Builtin.append_ #[t, t] ty #[v, .slice (some a) m c]).run P w = .ok v' w' /\ w'.ownsRow base e size v' (n + m) (xs ++ news) /\ w.grownBy w' v.ownBlock ∧
   (v' = .slice none 0 0 ↔ v = .slice none 0 0 /\ m = 0) /\ (v'.ownBlock = v.ownBlock \/ v'.ownBlock = some w.heap.size) := by
 obtain ⟨v', w', r1, r2, r3, r4⟩ := run_append_own_wide w base t ty e i z size bytes ht hi hz hsize hby hzs hsz v n xs hown a m c news hl hnews h1 h63 hbytes hbase
 refine ⟨v', w', r1, r2, r3, r4, ?_⟩
 subst hsize
 subst hby
 have hsmall : n + m <= 9223372036854775807 := by simp only [maxLen] at h63; omega
 rcases hown.2 with ⟨rfl, rfl⟩ | ⟨g, cap, cur, rfl, hbg, hg, hnc, hcm, hcs, htake⟩
 ·have hr := run_append_nil (P := P) w t ty e i z ht hi hz a m c news hl hnews hm0 (by omega) (by
   have h2 : m * i.bytes <= (0 + m + (0 + m) / 4 + 192) * i.bytes := Nat.mul_le_mul_right _ (by omega)
   omega)
  rw [hr] at r1
  cases r1
  exact .inr rfl
 ·by_cases hroom : n + m <= cap
  ·have hfit : n * i.size + news.length <= cur.size := by rw [hl, hcs, <- Nat.add_mul]; exact Nat.mul_le_mul_right _ hroom
   have hr := run_append_room (P := P) w t ty e i ht hi g n cap cur hg a m c news hl hnews h1 hroom hfit
   rw [hr] at r1
   cases r1
   exact .inl rfl
  ·have holds : ∀ j u, xs[j]? = some u -> w.cell? ((⟨g, 0, none⟩ : Addr).add j) = some u := hown.cells (g := g) rfl
   have hr := run_append_grow (P := P) w t ty e i z ht hi hz ⟨g, 0, none⟩ n cap xs hown.1 holds a m c news hl hnews (by omega) (by omega) (growslice_fits_wide (by omega) hbytes)
   rw [hr] at r1
   cases r1
   exact .inr rfl
theorem V.ext {a b : V} (h0 : Value.bool a.l = .bool b.l) (h1 : Value.slice a.ba a.bn a.bc = .slice b.ba b.bn b.bc) (h2 : Value.slice a.ia a.m a.ic = .slice b.ia b.m b.ic) : a = b := by
 cases a; cases b
 cases h0; cases h1; cases h2
 rfl
theorem Zek {P : Nat -> Prop} {w : World} {g off : Nat} (hP : P g) : ∀ {ts : List T} {k : Nat}, (∀ (i : Nat) (t : T), ts[i]? = some t -> ∃ y : V, w.cell? ⟨g, off + (k + i) * 3, none⟩ = some (.bool y.l) /\ w.cell? ⟨g, off + (k + i) * 3 + 1, none⟩ = some (.slice y.ba y.bn y.bc) /\ w.cell? ⟨g, off + (k + i) * 3 + 2, none⟩ = some (.slice y.ia y.m y.ic) /\ LiesP P w t y) -> LiesPAll P w ts (some ⟨g, off, none⟩) k
 | [], _, _ => Zbm
 | t :: r, k, h => by
  obtain ⟨y, h0, h1, h2, h3⟩ := h 0 t rfl
  refine liesPAll_cons.2 ⟨⟨g, off, y, ⟨rfl, hP⟩, h0, h1, h2, h3⟩, Zek hP fun i u hu => ?_⟩
  obtain ⟨z, z0, z1, z2, z3⟩ := h (i + 1) u (by simpa using hu)
  rw [show k + (i + 1) = k + 1 + i from by omega] at z0 z1 z2
  exact ⟨z, z0, z1, z2, z3⟩
theorem Zhg (P : Nat -> Prop) (a : Option Addr) (m c : Nat) (ts : List T) (hm : m = ts.length /\ m <= c /\ c <= maxLen /\ m <= 1000) (w : World) (hall : LiesPAll P w ts a 0) (hnil : a = none -> c = 0) (hP : ∀ b, w.heap.size <= b -> P b) :
  Calls Tryz.prog 116 #[.slice a m c] w fun e w' => (∃ y : V, e = .returned (.agg #[.bool y.l, .slice y.ba y.bn y.bc, .slice y.ia y.m y.ic]) /\ LiesP P w' (.mk true [] ts) y) /\ Below w.heap.size w w' := by
 have hall0 : LiesAll w ts a 0 := Zdf (fun t _ x h => Zch t x h) hall
 refine (Ztz a m c ts ⟨hm.1, hm.2.1, hm.2.2.1, by omega⟩ w hall0 (by omega) hnil).mono ?_
 rintro e w' ⟨ys, hyl, rfl, hrow, hat, hb⟩
 refine ⟨⟨⟨true, none, 0, 0, some ⟨w.heap.size + 1, 0, none⟩, m, m⟩, rfl, ?_⟩, hb⟩
 refine liesP_eq.2 ⟨⟨rfl, ⟨.inl ⟨rfl, rfl⟩, fun _ => ⟨rfl, rfl⟩, rfl, fun x hx => by cases hx⟩, hm.1, Nat.le_refl _, by show m <= maxLen; unfold maxLen; omega, ⟨Nat.zero_le _, by show m <= _; omega⟩, fun g off e => by cases e⟩, Zek (hP _ (by omega)) fun i t ht => ?_⟩
 have hi : i < ys.length := by rw [hyl, hm.1]; exact (List.getElem?_eq_some_iff.1 ht).1
 obtain ⟨g, off, u, A⟩ := hat i ys[i] (List.getElem?_eq_getElem hi)
 obtain ⟨g', off', y', A'⟩ := Zcm hall i t ht
 rw [Nat.zero_add] at A'
 have e := A.ha
 rw [A'.ha] at e
 cases e
 have hy : ys[i] = y' := V.ext (Option.some.inj (A.c0.symm.trans A'.c0)) (Option.some.inj (A.c1.symm.trans A'.c1)) (Option.some.inj (A.c2.symm.trans A'.c2))
 have hc : ∀ j u, (V.cells ys[i])[j]? = some u -> w'.cell? ⟨w.heap.size + 1, i * 3 + j, none⟩ = some u := fun j u hu => by
  rw [cell_of_row _ _ _ _ _ _ hrow, List.getElem?_toArray]
  have e : ys = ys.take i ++ ys[i] :: ys.drop (i + 1) := by rw [<- List.drop_eq_getElem_cons hi, List.take_append_drop]
  have hl : (ys.take i).length = i := by rw [List.length_take]; omega
  have hf := Ze3 (ys.take i) ys[i] (ys.drop (i + 1)) j u hu
  rw [hl, <- e] at hf
  exact hf
 refine ⟨ys[i], ?_, ?_, ?_, ?_⟩
 ·have := hc 0 _ rfl
  rwa [show i * 3 + 0 = 0 + (0 + i) * 3 from by omega] at this
 ·have := hc 1 _ rfl
  rwa [show i * 3 + 1 = 0 + (0 + i) * 3 + 1 from by omega] at this
 ·have := hc 2 _ rfl
  rwa [show i * 3 + 2 = 0 + (0 + i) * 3 + 2 from by omega] at this
 ·rw [hy]; exact Zav (fun b hb' hlt => ⟨hb.block b hlt, hb'⟩) t y' A'.li
theorem Zkd {w wr w1 : World} {it : Value} {ys : List V} {ts : List T} {y : V} {t : T} (hown : OwnI wr w.heap.size it ys) (hall : AllP (fun b => w.heap.size <= b /\ it.ownBlock ≠ some b) wr ts ys) (hbel : Below w.heap.size w wr) (hb1 : Below wr.heap.size wr w1)
  (hy : LiesP (fun b => wr.heap.size <= b) w1 t y) (hlen : ys.length <= 1000000000) (ty : TypeId) :
  ∃ v' w3, (Builtin.append_ #[107, 107] ty #[it, .slice (some ⟨w1.heap.size, 0, none⟩) 1 1]).run Tryz.prog (w1.alloc (.cells #[.bool y.l, .slice y.ba y.bn y.bc, .slice y.ia y.m y.ic] 109)) = .ok v' w3 ∧
   OwnI w3 w.heap.size v' (ys ++ [y]) /\ AllP (fun b => w.heap.size <= b /\ v'.ownBlock ≠ some b) w3 (ts ++ [t]) (ys ++ [y]) /\ Below w.heap.size w w3 /\ (∀ b, b < w1.heap.size -> it.ownBlock ≠ some b -> w3.heap[b]? = w1.heap[b]?) /\ w1.heap.size <= w3.heap.size := by
 obtain ⟨Y, hY⟩ : ∃ Y : Obj, Obj.cells #[.bool y.l, .slice y.ba y.bn y.bc, .slice y.ia y.m y.ic] 109 = Y := ⟨_, rfl⟩
 rw [hY]
 have hs2 : (w1.alloc Y).heap.size = w1.heap.size + 1 := by simp
 have hb2 : Below wr.heap.size wr (w1.alloc Y) := hb1.alloc hb1.size _
 have hz := hbel.size
 have hz1 := hb1.size
 have hblk : (w1.alloc Y).heap[w1.heap.size]? = some Y := heap_alloc_new w1 Y
 have hnews : ∀ j u, (V.cells y)[j]? = some u -> (w1.alloc Y).cell? ((⟨w1.heap.size, 0, none⟩ : Addr).add j) = some u := by
  intro j u hu
  rw [Zay, Nat.zero_add]
  rw [<- hY] at hblk ⊢
  rw [cell_of_row _ _ _ _ _ _ hblk]
  simpa [V.cells] using hu
 obtain ⟨v', w3, hrun, hown3, hgr, hown4⟩ := Zn1 (Zm5 hown fun g _ hg => hb2.block g hg) y _ 1 hnews (by omega) hlen ty
 have hfar : ∀ b, b < w1.heap.size + 1 -> it.ownBlock ≠ some b -> w3.heap[b]? = (w1.alloc Y).heap[b]? := fun b hb hne => hgr.block b (by rw [hs2]; exact hb) (fun h => hne h.symm)
 have hit : ∀ g, it.ownBlock = some g -> g < wr.heap.size := fun g hg => (Zm3 hown hg).2
 have hv' : ∀ b, b < w1.heap.size -> it.ownBlock ≠ some b -> v'.ownBlock ≠ some b := fun b hb hne h => by
  rcases hown4 with h4 | h4
  ·exact hne (h4.symm.trans h)
  ·rw [h4, hs2] at h; cases h; omega
 refine ⟨v', w3, hrun, hown3, AllP.snoc ?_ (hall.mono fun b hb hlt => ⟨?_, hb.1, hv' b (by omega) hb.2⟩), ?_, fun b hb hne => ?_, by have := hgr.size; omega⟩
 ·refine Zav (fun b hb hlt => ⟨?_, by omega, ?_⟩) t y hy
  ·have hne : it.ownBlock ≠ some b := fun h => by have := hit b h; omega
   rw [hfar b (by omega) hne, Below.heap_alloc _ _ _ hlt]
  ·exact hv' b hlt (fun h => by have := hit b h; omega)
 ·rw [hfar b (by omega) hb.2]
  exact hb2.block b hlt
 ·refine hbel.trans ⟨hgr.os.trans hb2.os, hgr.tape.trans hb2.tape, hgr.output.trans hb2.output, Nat.le_trans hb2.size hgr.size, fun b hb => ?_⟩
  rw [hfar b (by omega) (fun h => by have := (Zm3 hown h).1; omega)]
  exact hb2.block b (by omega)
 ·rw [hfar b (by omega) hne, Below.heap_alloc _ _ _ hb]
structure Nn (w v : World) (x : NV) : Prop where
 row : v.heap[w.heap.size + 1]? = some (.cells #[.bool false, .slice none 0 0, .slice none 0 0] 109)
 bx : NBx w.heap.size v x
 bel : Below w.heap.size w v
 sz : w.heap.size + 2 <= v.heap.size
theorem Nn.go {w v v' : World} {x : NV} (h : Nn w v x) (hb : Below v.heap.size v v') : Nn w v' x := ⟨Below.row hb h.row, h.bx.go hb, below_go h.bel hb, Nat.le_trans h.sz hb.size⟩
theorem Zvo (w : World) (x : NV) (hl : x.c.d.length = 32) : Nn w ((w.alloc (.cells x.cells.toArray 68)).alloc (.cells #[.bool false, .slice none 0 0, .slice none 0 0] 109)) x := by
 have s1 : (w.alloc (.cells x.cells.toArray 68)).heap.size = w.heap.size + 1 := by simp
 refine ⟨?_, (Zej w x hl).go (below_new _ _), below_go (below_new w _) (below_new _ _), by simp⟩
 have := heap_alloc_new (w.alloc (.cells x.cells.toArray 68)) (.cells #[.bool false, .slice none 0 0, .slice none 0 0] 109)
 rwa [s1] at this
theorem Nn.x0 {w v : World} {x : NV} (h : Nn w v x) : v.cell? ⟨w.heap.size + 1, 0, none⟩ = some (.bool false) := by rw [cell_of_row _ _ _ _ _ _ h.row]; rfl
theorem Nn.x1 {w v : World} {x : NV} (h : Nn w v x) : v.cell? ⟨w.heap.size + 1, 1, none⟩ = some (.slice none 0 0) := by rw [cell_of_row _ _ _ _ _ _ h.row]; rfl
theorem Nn.x2 {w v : World} {x : NV} (h : Nn w v x) : v.cell? ⟨w.heap.size + 1, 2, none⟩ = some (.slice none 0 0) := by rw [cell_of_row _ _ _ _ _ _ h.row]; rfl
theorem Nn.xf {w v : World} {x : NV} (h : Nn w v x) : ∀ o, v.frozen? ⟨w.heap.size + 1, o, none⟩ = false := fun o => frozen_of_row _ _ _ _ _ h.row
theorem Zd7 {w v : World} {x : NV} {t : T} {y : V} (h : Nn w v x) (hy : LiesP (fun b => w.heap.size + 2 <= b) v t y) :
  IPost w t (.returned (.agg #[.bool y.l, .slice y.ba y.bn y.bc, .slice y.ia y.m y.ic])) (((v.setCell ⟨w.heap.size + 1, 0, none⟩ (.bool y.l)).setCell ⟨w.heap.size + 1, 1, none⟩ (.slice y.ba y.bn y.bc)).setCell ⟨w.heap.size + 1, 2, none⟩ (.slice y.ia y.m y.ic)) :=
 ⟨⟨y, rfl, Zav (fun b hb hlt => ⟨Zb7 (by omega) _ _ _, by omega⟩) _ _ hy⟩, Zbp h.bel (by omega) _ _ _⟩
theorem Zpb {base : Nat} {u : World} {it : Value} {ts : List T} {ys : List V} (hown : OwnI u base it ys) (hall : AllP (fun b => base <= b /\ it.ownBlock ≠ some b) u ts ys) : ∃ ia ic, it = .slice ia ts.length ic /\ ts.length <= ic /\ ic <= maxLen /\ LiesPAll (fun b => base <= b) u ts ia 0 :=
 Zm4 (P := fun b => base <= b) hown (hall.mono fun b hb _ => ⟨rfl, hb.1⟩) (fun g hg => World.ownsRow.lt hown g hg |>.1)
set_option maxHeartbeats 8000000 in
theorem Zh2 (K : Nat -> Prop) (x : NV) (n : PN) (w : World) (h : NodeAt K w x n) (hks : n.ks.length <= 100) :
  Calls Tryz.prog 114 #[.agg x.cells.toArray] w (IPost w (.mk true [] (n.ks.map refItemP ++ [.mk false n.v []]))) := by
 have HNN := Hid.mk (Zvo w x h.c.len)
 have HH := Hid.mk h
 obtain ⟨hm1, hm2, hm3, hm4, hm5⟩ := h.m
 unfold maxLen at hm3
 have HM1 := Hid.mk hm1
 have hkn : x.kn <= 100 := by rw [hm1]; exact hks
 obtain ⟨ka, hka⟩ : ∃ ka, x.ka = ka := ⟨_, rfl⟩
 have hks0 := h.ks
 rw [hka] at hks0
 have HKS := Hid.mk hks0
 have HKA := Hid.mk hka
 clear h hm1 hm4 hm5 hka hks0 hks
 go_enter Tryz.func114, Tryz.ntmps114
 go_upto_region 1 with fail
 refine gen_w (p := fun v => Code.wp _ _ _ _ v) (q := fun v => Nn w v x) HNN.out ?_
 clear HNN
 intro v N0
 have c37 := N0.bx.c37
 rw [HKA.out] at c37
 have HN0 := Hid.mk N0
 clear N0
 go_wp2_with fail
 go_loopw [3, 9] (fun it s9 u => ∃ (j : Nat) (ys : List V), j <= x.kn /\ s9 = .int .i64 j /\ ys.length = j /\ OwnI u v.heap.size it ys /\ AllP (fun b => v.heap.size <= b /\ it.ownBlock ≠ some b) u ((n.ks.take j).map refItemP) ys /\ Below v.heap.size v u) (fun _ s9 _ => x.kn - (intOf s9).toNat)
 case atStart => exact ⟨0, [], by omega, rfl, rfl, World.ownsRow_nil _ _ _ _, trivial, Below.refl _ _⟩
 case round =>
  obtain ⟨j, ys, hj, rfl, hyl, hown, hall, hbel⟩ := hrel
  have HYL := Hid.mk hyl
  have HOWN := Hid.mk hown
  have HALL := Hid.mk hall
  have HBEL := Hid.mk hbel
  clear hyl hown hall hbel
  by_cases hlt : j < x.kn
  ·have hji : (j : Int) < x.kn := by omega
   obtain ⟨r, hr⟩ : ∃ r, n.ks[j]? = some r := ⟨_, List.getElem?_eq_getElem (by have := HM1.out; omega)⟩
   obtain ⟨g, off, y, hka, _, hrg, hy⟩ := HKS.out j r hr
   subst hka
   have HRG := Hid.mk (Zc2 hrg (fun hl => (below_go HN0.out.bel HBEL.out).block g hl))
   have HL := Hid.mk hy.len
   have HY := Hid.mk hy
   have HR := Hid.mk hr
   clear hrg hy hr
   go_upto_region 5 with (first | refine Zbd rfl _ rfl g (off + j * 34) rfl y HL.out HRG.out ?_ | refine wpList_store_row rfl 65 _ _ rfl _ y.cells.toArray rfl rfl 65 _ (heap_alloc_new _ _) (Zcu HL.out) (Zb3 HL.out) (all_oneCell_toArray (RV.one _)) ?_)
   refine gen_w (p := fun v => Code.wp _ _ _ _ v) (q := fun u => RBx wr.heap.size u y /\ Below wr.heap.size wr u) ⟨⟨setRow_heap _ _ _ _ _ _ (heap_alloc_new _ _), HL.out⟩, Below.setRow (below_new wr _) (Nat.le_refl _) _⟩ ?_
   rintro u1 ⟨B1', b1⟩
   have HX1 := Hid.mk B1'
   have HB1 := Hid.mk b1
   have HRF := Hid.mk (Zgy K y r u1 (HY.out.go (Keep.below (below_go HN0.out.bel (below_go HBEL.out b1)))))
   clear B1' b1
   go_wp2_with (first | refine Zbd rfl _ rfl wr.heap.size 0 rfl y HL.out HX1.out.all ?_)
   refine HRF.out.mono ?_
   rintro e w2 ⟨⟨z, rfl, hz⟩, hb2⟩
   have hz' : LiesP (fun b => wr.heap.size <= b) w2 (refItemP r) z := Zav (fun b hb hlt => ⟨rfl, Nat.le_trans HB1.out.size hb⟩) _ _ hz
   obtain ⟨v', w3, hrun, hown3, hall3, hbel3, hfar, hsz3⟩ := Zkd HOWN.out HALL.out HBEL.out (below_go HB1.out hb2) hz' (by have := HYL.out; omega) 107
   have HRUN := Hid.mk hrun
   have HO3 := Hid.mk hown3
   have HA3 := Hid.mk (show AllP (fun b => v.heap.size <= b /\ v'.ownBlock ≠ some b) w3 ((n.ks.take (j + 1)).map refItemP) (ys ++ [z]) from by rw [Zcy HR.out, List.map_append]; exact hall3)
   have HB3 := Hid.mk hbel3
   clear hz hz' hb2 hrun hown3 hall3 hbel3 hfar hsz3
   go_wp2_with (first | refine Zfb rfl _ _ rfl _ _ rfl rfl HRUN.out ?_)
   go_roundw
   case rel => exact ⟨j + 1, ys ++ [z], by omega, by simp, by have := HYL.out; simp; omega, HO3.out, HA3.out, HB3.out⟩
   case measure => simp [intOf]; omega
  ·have hji : ¬ (j : Int) < x.kn := by omega
   have hjk : j = x.kn := by omega
   have hall := HALL.out
   rw [hjk, HM1.out, List.take_length] at hall
   have HA := Hid.mk hall
   have NR' := HN0.out.go HBEL.out
   have c2 := NR'.bx.c2
   have HNR := Hid.mk NR'
   have hv := HH.out.v
   have HTX := Hid.mk (Zct x.va x.vn x.vc n.v wr (hv.1.at (below_go HN0.out.bel HBEL.out)) hv.2.1)
   have hvl := hv.l
   have hvn := hv.2.1
   have hvb := hv.1.b
   have HVL := Hid.mk hvl
   have HVB := Hid.mk hvb
   clear hjk hall NR' hv hvl hvb
   go_wp2_with fail
   refine HTX.out.mono ?_
   rintro e w2 ⟨rfl, hrow, hb2⟩
   have hz' : LiesP (fun b => wr.heap.size <= b) w2 (.mk false n.v []) ⟨false, some ⟨wr.heap.size + 1, 0, none⟩, x.vn, x.vn, none, 0, 0⟩ := Zdv hrow HVL.out HVB.out hvn (by omega)
   obtain ⟨v', w3, hrun, hown3, hall3, hbel3, hfar, hsz3⟩ := Zkd HOWN.out HA.out HBEL.out hb2 hz' (by have := HYL.out; omega) 107
   obtain ⟨ia, ic, rfl, hic1, hic2, hlp⟩ := Zpb hown3 hall3
   have hml : (n.ks.map refItemP ++ [T.mk false n.v []]).length = x.kn + 1 := by have := HM1.out; simp; omega
   rw [hml] at hrun hic1
   simp only at hrun
   have HRUN := Hid.mk hrun
   have HN3 := Hid.mk (show Nn w w3 x from HN0.out.go hbel3)
   have HML := Hid.mk hml
   have HLP := Hid.mk hlp
   have HS0 := Hid.mk HN0.out.sz
   have HS3 := Hid.mk hbel3.size
   have HII := Hid.mk (show ia = none -> ic = 0 from fun e => by
    subst e
    rcases hown3.2 with ⟨h1, h2⟩ | ⟨g, cap, cur, h1, _⟩
    ·rw [hml] at h1; cases h1
    ·cases h1)
   have HLL := Hid.mk (Zhg (fun b => w.heap.size + 2 <= b) ia (x.kn + 1) ic _ ⟨hml.symm, hic1, hic2, by omega⟩ w3 (Zbz (fun b hb hlt => ⟨rfl, by have := HS0.out; omega⟩) (fun t ht z hz => Zav (fun b hb hlt => ⟨rfl, by have := HS0.out; omega⟩) t z hz) HLP.out) HII.out (fun b hb => by have := HS0.out; have := HS3.out; omega))
   obtain ⟨kn1, hkn1⟩ : ∃ kn1, x.kn + 1 = kn1 := ⟨_, rfl⟩
   rw [hkn1] at HRUN HLL
   clear hrow hb2 hz' hrun hown3 hall3 hbel3 hfar hsz3 hlp hic1 hic2 hml c2 hkn1
   go_wp2_with (first | refine Zfb rfl _ _ rfl _ _ rfl rfl HRUN.out ?_)
   refine HLL.out.mono ?_
   rintro e w4 ⟨⟨z, rfl, hz⟩, hb4⟩
   have N4 := HN3.out.go hb4
   have x0 := N4.x0
   have x1 := N4.x1
   have x2 := N4.x2
   have xf := N4.xf
   have HN4 := Hid.mk N4
   have HZ := Hid.mk hz
   clear N4 hz hb4
   go_wp2_with fail
   have hr := put3 HN4.out.row (.bool z.l) (.slice z.ba z.bn z.bc) (.slice z.ia z.m z.ic)
   refine bodyPost_ret (results_cell_row Tryz.results114 _ _ (w.heap.size + 1) 109 _ (0, 0) _ rfl hr Tryz.underlying109 rfl (by kernel_rfl)) rfl ?_
   exact Zd7 HN4.out HZ.out
end Go.Proofs.YtefhepcplempkaaGreat
