/- What readAll answers, by what read answers. -/
import Derived.Test.YtefhepcplempkaaGreatG10
set_option linter.unusedVariables false
set_option maxRecDepth 100000
namespace Go.Proofs.YtefhepcplempkaaGreat
open Go.RowKit
def lenOf : Value -> Nat | .slice _ n _ => n | _ => 0
theorem Zfb {w : World} {ops : Array Oper} {rest : List Oper} {o : Oper} {a : Act} {Q : Exit -> Act -> World -> Prop} (hgd : o.guard = none) (s x : Operand)
  (ho : o.op = .call { callee := .builtin .append, args := #[s, x], argTypes := #[107, 107] }) (v u : Value) (hd : a.eval s = v) (hx : a.eval x = u) {v' : Value} {w' : World}
  (hr : (Builtin.append_ #[107, 107] o.type #[v, u]).run Tryz.prog w = .ok v' w') (h : wpList Tryz.prog ops Q rest (a.put o.dst v') w') : wpList Tryz.prog ops Q (o :: rest) a w := by
 refine wpList_plain hgd fun K hK => ?_
 unfold Oper.wp
 simp [execOp, ho, resolve, invoke, builtin, hd, hx, hr, Result.andThen]
 exact hK _ _ h
def ReadPost (w : World) (r : R) : Ending -> World -> Prop := fun e w' => Below w.heap.size w w' ∧
 match r with
 | .bad er => e = .returned (.tuple #[.agg #[.bool false, .slice none 0 0, .slice none 0 0], .int .i64 0, .int .i64 (er : Nat)]) /\ er ≠ 0
 | .ok t m => ∃ y : V, e = .returned (.tuple #[.agg #[.bool y.l, .slice y.ba y.bn y.bc, .slice y.ia y.m y.ic], .int .i64 (m : Nat), .int .i64 0]) /\ LiesP (fun b => w.heap.size <= b) w' t y
def ReadSaid (k : Nat) : Prop := ∀ (a : Option Addr) (n c d : Nat) (b : List Int) (w : World), Ag w a n c b -> d + k = 8 -> n <= 140737488351232 -> Calls Tryz.prog 153 #[.slice a n c, .int .i64 d] w (ReadPost w (rd k b))
def AllPost (w : World) (r : RL) : Ending -> World -> Prop := fun e w' => Below w.heap.size w w' ∧
 match r with
 | .bad er => e = .returned (.tuple #[.slice none 0 0, .int .i64 (er : Nat)]) /\ er ≠ 0
 | .ok ts => ∃ ia ic, e = .returned (.tuple #[.slice ia ts.length ic, .int .i64 0]) /\ ts.length <= ic /\ ic <= maxLen /\ LiesPAll (fun b => w.heap.size <= b) w' ts ia 0
def RL.pre (ts : List T) : RL -> RL
 | .bad e => .bad e
 | .ok us => .ok (ts ++ us)
theorem Zwz (r : RL) : RL.pre [] r = r := by cases r <;> rfl
theorem Ztp {f : List Int -> R} (hf : ∀ b t m, f b = .ok t m -> 1 <= m) {ts : List T} {t : T} {m : Nat} {b : List Int} (hb : b ≠ []) (h : f b = .ok t m) : RL.pre ts (rdAll f b.length b) = RL.pre (ts ++ [t]) (rdAll f (b.drop m).length (b.drop m)) := by
 have hm := hf _ _ _ h
 have hl : 0 < b.length := List.length_pos_iff.2 hb
 obtain ⟨n, hn⟩ : ∃ n, b.length = n + 1 := ⟨b.length - 1, by omega⟩
 rw [hn, Zd5 hb h, Zig hf n (b.drop m).length (b.drop m) (by rw [List.length_drop]; omega) (Nat.le_refl _)]
 cases rdAll f (b.drop m).length (b.drop m) with
 | bad e => rfl
 | ok us => simp [RL.pre]
theorem Zg0 {f : List Int -> R} (hf : ∀ b t m, f b = .ok t m -> 1 <= m /\ m <= b.length) : ∀ n b ts, rdAll f n b = .ok ts -> ts.length <= b.length
 | n, [], ts, h => by rw [Zc1] at h; cases h; simp
 | 0, _ :: _, ts, h => by cases h
 | n + 1, x :: b, ts, h => by
  cases hx : f (x :: b) with
  | bad e => rw [Zdt (by simp) hx] at h; cases h
  | ok t m =>
   have hm := hf _ _ _ hx
   rw [Zd5 (by simp) hx] at h
   cases hr : rdAll f n ((x :: b).drop m) with
   | bad e => rw [hr] at h; cases h
   | ok us =>
    rw [hr] at h
    cases h
    have := Zg0 hf n _ us hr
    rw [List.length_drop] at this
    simp only [List.length_cons] at *
    omega
theorem Zm3 {w : World} {base : Nat} {v : Value} {ys : List V} (h : OwnI w base v ys) {g : Nat} (hg : v.ownBlock = some g) : base <= g /\ g < w.heap.size := by
 rcases h.2 with ⟨rfl, _⟩ | ⟨g', cap, cur, rfl, hbg, hh, _⟩
 ·cases hg
 ·cases hg
  exact ⟨hbg, lt_of_get hh⟩
theorem Zm5 {w w' : World} {base : Nat} {v : Value} {ys : List V} (h : OwnI w base v ys) (hk : ∀ g, v.ownBlock = some g -> g < w.heap.size -> w'.heap[g]? = w.heap[g]?) : OwnI w' base v ys := by
 refine ⟨h.1, ?_⟩
 rcases h.2 with h2 | ⟨g, cap, cur, hv, hb, hh, r⟩
 ·exact .inl h2
 ·exact .inr ⟨g, cap, cur, hv, hb, (hk g (by rw [hv]; rfl) (lt_of_get hh)).trans hh, r⟩
theorem Zoc {w wr w1 : World} {it : Value} {ys : List V} {ts : List T} {y : V} {t : T} (hown : OwnI wr w.heap.size it ys) (hall : AllP (fun b => w.heap.size <= b /\ it.ownBlock ≠ some b) wr ts ys) (hbel : Below w.heap.size w wr) (hb1 : Below wr.heap.size wr w1)
  (hy : LiesP (fun b => wr.heap.size <= b) w1 t y) (hlen : ys.length <= 1000000000) (ty : TypeId) :
  ∃ v' w3, (Builtin.append_ #[107, 107] ty #[it, .slice (some ⟨w1.heap.size + 1, 0, none⟩) 1 1]).run Tryz.prog ((w1.alloc (.cells #[.bool y.l, .slice y.ba y.bn y.bc, .slice y.ia y.m y.ic] 109)).alloc (.cells #[.bool y.l, .slice y.ba y.bn y.bc, .slice y.ia y.m y.ic] 109)) = .ok v' w3 ∧
   OwnI w3 w.heap.size v' (ys ++ [y]) /\ AllP (fun b => w.heap.size <= b /\ v'.ownBlock ≠ some b) w3 (ts ++ [t]) (ys ++ [y]) /\ Below w.heap.size w w3 := by
 obtain ⟨Y, hY⟩ : ∃ Y : Obj, Obj.cells #[.bool y.l, .slice y.ba y.bn y.bc, .slice y.ia y.m y.ic] 109 = Y := ⟨_, rfl⟩
 rw [hY]
 have hs2 : ((w1.alloc Y).alloc Y).heap.size = w1.heap.size + 2 := by simp
 have hb2 : Below wr.heap.size wr ((w1.alloc Y).alloc Y) := (hb1.alloc hb1.size _).alloc (by have := hb1.size; simp; omega) _
 have hz := hbel.size
 have hz1 := hb1.size
 have hblk : ((w1.alloc Y).alloc Y).heap[w1.heap.size + 1]? = some Y := heap_alloc2_new w1 Y Y
 have hnews : ∀ j u, (V.cells y)[j]? = some u -> ((w1.alloc Y).alloc Y).cell? ((⟨w1.heap.size + 1, 0, none⟩ : Addr).add j) = some u := by
  intro j u hu
  rw [Zay, Nat.zero_add]
  rw [<- hY] at hblk ⊢
  rw [cell_of_row _ _ _ _ _ _ hblk]
  simpa [V.cells] using hu
 obtain ⟨v', w3, hrun, hown3, hgr, hown4⟩ := Zn1 (Zm5 hown fun g _ hg => hb2.block g hg) y _ 1 hnews (by omega) hlen ty
 have hfar : ∀ b, b < w1.heap.size + 2 -> it.ownBlock ≠ some b -> w3.heap[b]? = ((w1.alloc Y).alloc Y).heap[b]? := fun b hb hne => hgr.block b (by rw [hs2]; exact hb) (fun h => hne h.symm)
 have hit : ∀ g, it.ownBlock = some g -> g < wr.heap.size := fun g hg => (Zm3 hown hg).2
 have hv' : ∀ b, b < w1.heap.size -> it.ownBlock ≠ some b -> v'.ownBlock ≠ some b := fun b hb hne h => by
  rcases hown4 with h4 | h4
  ·exact hne (h4.symm.trans h)
  ·rw [h4, hs2] at h; cases h; omega
 refine ⟨v', w3, hrun, hown3, AllP.snoc ?_ (hall.mono fun b hb hlt => ⟨?_, hb.1, hv' b (by omega) hb.2⟩), ?_⟩
 ·refine Zav (fun b hb hlt => ⟨?_, by omega, ?_⟩) t y hy
  ·have hne : it.ownBlock ≠ some b := fun h => by have := hit b h; omega
   rw [hfar b (by omega) hne, Below.heap_alloc _ _ _ (by simp; omega), Below.heap_alloc _ _ _ hlt]
  ·exact hv' b hlt (fun h => by have := hit b h; omega)
 ·rw [hfar b (by omega) hb.2]
  exact hb2.block b hlt
 ·refine hbel.trans ⟨hgr.os.trans hb2.os, hgr.tape.trans hb2.tape, hgr.output.trans hb2.output, Nat.le_trans hb2.size hgr.size, fun b hb => ?_⟩
  rw [hfar b (by omega) (fun h => by have := (Zm3 hown h).1; omega)]
  exact hb2.block b (by omega)
set_option maxHeartbeats 1000000 in
theorem Zlv (k : Nat) (hread : ReadSaid k) (a : Option Addr) (n c d : Nat) (b : List Int) (w : World) (h : Ag w a n c b) (hd : d + k = 8) (hn : n < 16777216) :
  Calls Tryz.prog 159 #[.slice a n c, .int .i64 d] w (AllPost w (rdAll (rd k) b.length b)) := by
 have HRD := Hid.mk hread
 have HA := Hid.mk h
 obtain ⟨res, hres⟩ : ∃ r, rdAll (rd k) b.length b = r := ⟨_, rfl⟩
 rw [hres]
 have HRES := Hid.mk hres
 have HL := Hid.mk h.l
 clear hread h hres
 go_enter Tryz.func159, Tryz.ntmps159
 go_wp2_with fail
 go_loopw [0, 6] (fun bo it v => ∃ (aj : Option Addr) (nj cj : Nat) (bj : List Int) (ts : List T) (ys : List V), bo = .slice aj nj cj /\ Ag w aj nj cj bj /\ nj + ts.length <= n /\ res = RL.pre ts (rdAll (rd k) bj.length bj) /\ OwnI v w.heap.size it ys /\ AllP (fun b => w.heap.size <= b /\ it.ownBlock ≠ some b) v ts ys /\ Below w.heap.size w v) (fun bo _ _ => lenOf bo)
 case atStart => exact ⟨a, n, c, b, [], [], rfl, HA.out, by simp, by rw [Zwz]; exact HRES.out.symm, World.ownsRow_nil _ _ _ _, trivial, Below.refl _ _⟩
 case round =>
  obtain ⟨aj, nj, cj, bj, ts, ys, rfl, hag, hnj, hres, hown, hall, hbel⟩ := hrel
  have hlj := hag.l
  by_cases h0 : nj = 0
  ·subst h0
   have hb0 : bj = [] := List.eq_nil_of_length_eq_zero hlj
   subst hb0
   rw [Zc1] at hres
   obtain ⟨ia, ic, rfl, e2, e3, e4⟩ := Zm4 (P := fun b => w.heap.size <= b) hown (hall.mono fun b hb _ => ⟨rfl, hb.1⟩) (fun g hg => World.ownsRow.lt hown g hg |>.1)
   have HF : Hid (AllPost w res (.returned (.tuple #[.slice ia ts.length ic, .int .i64 0])) wr) := by
    rw [hres]
    simp only [RL.pre, List.append_nil]
    exact ⟨hbel, ia, ic, rfl, e2, e3, e4⟩
   clear hag hres hown hall hbel e2 e3 e4 hlj
   go_wp2_with fail
   go_ret2
   exact HF.out
  ·have hb0 : bj ≠ [] := fun h => by rw [h] at hlj; simp at hlj; omega
   have hni : (0 : Int) < nj := by omega
   have hnn : 0 < nj := by omega
   obtain ⟨gj, offj, rfl, hc1, hc2, hcc⟩ := ag_head hag hnn
   unfold maxLen at hc2
   have hcal := HRD.out _ nj cj d bj wr (hag.at hbel) hd (by omega)
   have HCAL := Hid.mk hcal
   have HAG := Hid.mk hag
   have HREL := Hid.mk (And.intro hres (And.intro hown (And.intro hall hbel)))
   clear hcal hag hres hown hall hbel hcc hlj
   go_wp2_with fail
   refine HCAL.out.mono ?_
   rintro e w1 ⟨hb1, hm⟩
   obtain ⟨hres, hown, hall, hbel⟩ := HREL.out
   cases hr : rd k bj with
   | bad er =>
    rw [hr] at hm
    obtain ⟨rfl, her⟩ := hm
    have hfin : res = .bad er := by
     rw [hres]
     obtain ⟨q, hq⟩ : ∃ q, bj.length = q + 1 := ⟨bj.length - 1, by have := HAG.out.l; omega⟩
     rw [hq, Zdt hb0 hr]
     rfl
    have HF : Hid (∀ w', Below w.heap.size w w' -> AllPost w res (.returned (.tuple #[.slice none 0 0, .int .i64 (er : Nat)])) w') := fun w' hw' => by rw [hfin]; exact ⟨hw', rfl, her⟩
    have hee : ((er : Int) != 0) = true := by rw [bne_iff_ne]; omega
    have HB := Hid.mk ((hbel.trans (hb1.mono hbel.size)).alloc (Nat.le_trans hbel.size hb1.size) (.cells #[.bool false, .slice none 0 0, .slice none 0 0] 109))
    clear hfin hres hown hall hbel hb1 her hr HREL
    go_wp2_with fail
    go_ret2
    exact HF.out _ HB.out
   | ok t m =>
    rw [hr] at hm
    obtain ⟨y, rfl, hy⟩ := hm
    have HH := Hid.mk (And.intro hres (And.intro hown (And.intro hall (And.intro hbel (And.intro hb1 hy)))))
    obtain ⟨hm1, hm2⟩ := rd_n hr
    have hml := HAG.out.l
    have HRR := Hid.mk hr
    have hyl : ys.length <= 1000000000 := by have := hall.len; omega
    obtain ⟨v', w3, hrun, s1, s2, s3⟩ := Zoc hown hall hbel hb1 hy hyl 107
    have HRUN := Hid.mk hrun
    have hdrop := Zst HAG.out (k := m) (by omega)
    have hpre := Ztp (f := rd k) (ts := ts) (fun b t m h => (rd_n h).1) hb0 hr
    have HEND : Hid (∃ (bj' : List Int) (ts' : List T) (ys' : List V), Ag w (if cj = m then some ⟨gj, offj, none⟩ else some ⟨gj, offj + m, none⟩) (nj - m) (cj - m) bj' /\ nj - m + ts'.length <= n /\ res = RL.pre ts' (rdAll (rd k) bj'.length bj') /\ OwnI w3 w.heap.size v' ys' /\ AllP (fun b => w.heap.size <= b /\ v'.ownBlock ≠ some b) w3 ts' ys' /\ Below w.heap.size w w3) :=
     ⟨bj.drop m, ts ++ [t], ys ++ [y], hdrop, by rw [List.length_append]; simp; omega, by rw [hres, hpre], s1, s2, s3⟩
    have hmi : (m : Int) <= nj := by omega
    clear hres hown hall hbel hb1 hy hr HREL hrun s1 s2 s3 hdrop hpre hyl HH
    go_wp2_with (first | refine Zfb rfl _ _ rfl _ _ rfl rfl HRUN.out ?_)
    obtain ⟨bj', ts', ys', e1, e2, e3, e4, e5, e6⟩ := HEND.out
    refine ⟨⟨_, nj - m, cj - m, bj', ts', ys', rfl, e1, e2, e3, e4, e5, e6⟩, ?_⟩
    simp only [lenOf]
    omega
theorem Zxo {deep : Bool} {b : List Int} {e : Nat} (h : hdr deep b = .bad e) : e ≠ 0 := by
 unfold hdr at h
 split at h
 ·cases h; decide
 ·split at h
  ·cases h; decide
  ·split at h
   ·cases h
   ·split at h
    ·split at h
     ·cases h; assumption
     ·split at h
      ·cases h; decide
      ·cases h
    ·split at h
     ·cases h; decide
     ·cases h
theorem Zuc {deep : Bool} {x : Int} {r : List Int} {f t : Nat} (h : hdr deep (x :: r) = .ok f t) (hx : x < 256) : t - f < 16777216 \/ ∃ y ∈ r, ¬ (0 <= y /\ y < 256) := by
 by_cases hall : ∀ y ∈ r, 0 <= y /\ y < 256
 ·left
  simp only [hdr] at h
  split at h
  ·cases h
  ·split at h
   ·cases h; decide
   ·split at h
    ·split at h
     ·cases h
     ·rename_i h4
      obtain ⟨a1, a2, _, _, a3⟩ := Zez (Decidable.not_not.1 h4)
      split at h
      ·cases h
      ·cases h
       obtain ⟨v1, v2⟩ := Zda hall a2 a1
       omega
    ·split at h
     ·cases h
     ·cases h
      omega
 ·right
  simpa using hall
theorem Zud {x : Int} {r : List Int} (hx : 192 <= x) : hdr true (x :: r) = .bad 21 := by
 simp [hdr, hx]
theorem Zv0 {w : World} {g off n c : Nat} {b : List Int} (h : Ag w (some ⟨g, off, none⟩) n c b) {f t : Nat} (hf : f <= t) (ht : t <= n) : Ag w (if c = f then some ⟨g, off, none⟩ else some ⟨g, off + f, none⟩) (t - f) (c - f) ((b.take t).drop f) := by
 have hl := h.l
 have hl2 : ((b.take t).drop f).length = t - f := by rw [List.length_drop, List.length_take]; omega
 refine ⟨?_, ?_, hl2, fun x hx => h.b x (List.mem_of_mem_take (List.mem_of_mem_drop hx))⟩
 ·by_cases h0 : t - f = 0
  ·exact .inl ⟨h0, List.eq_nil_of_length_eq_zero (by omega)⟩
  ·rcases h.i with ⟨h1, _⟩ | ⟨g', off', h1, h2, h3, h4, h5, h6⟩
   ·omega
   ·cases h1
    refine .inr ⟨g, off + f, if_neg (by omega), hl2, by omega, by omega, by omega, fun j hj => ?_⟩
    rw [hl2] at hj
    have := h6 (f + j) (by omega)
    rw [Nat.add_assoc, this]
    simp [List.getD, List.getElem?_drop, List.getElem?_take_of_lt (show f + j < t by omega)]
 ·intro hh
  split at hh <;> cases hh
set_option maxHeartbeats 1000000 in
theorem Ztl (a : Option Addr) (n c d : Nat) (b : List Int) (w : World) (h : Ag w a n c b) (hd : d <= 8) (hn : n <= 140737488351232) (er : Nat) (hh : hdr (decide (d = 8)) b = .bad er) :
  Calls Tryz.prog 153 #[.slice a n c, .int .i64 d] w (ReadPost w (.bad er)) := by
 have hcal := fun w' (hb : Below w.heap.size w w') => Zfq a n c d b w' (h.at hb) hd (by omega)
 simp only [hh, HR.f, HR.t, HR.e] at hcal
 have her := Zxo hh
 have hee : ((er : Int) != 0) = true := by rw [bne_iff_ne]; omega
 have HCAL := Hid.mk hcal
 clear hcal hh h
 go_enter Tryz.func153, Tryz.ntmps153
 go_wp2_with fail
 refine (HCAL.out _ ((Below.refl _ _).alloc (Nat.le_refl _) _)).mono ?_
 rintro e w1 ⟨rfl, hb⟩
 rw [show ((0 : Nat) : Int) = 0 from rfl]
 have hres1 : w1.heap[w.heap.size]? = some (.cells #[.bool false, .slice none 0 0, .slice none 0 0] 109) := Below.row hb (heap_alloc_new _ _)
 have hb1 : Below w.heap.size w w1 := ((Below.refl w.heap.size w).alloc (Nat.le_refl _) _).trans (hb.mono (by simp))
 have x0 : w1.cell? ⟨w.heap.size, 0, none⟩ = some (.bool false) := by rw [cell_of_row _ _ _ _ _ _ hres1]; rfl
 have x1 : w1.cell? ⟨w.heap.size, 1, none⟩ = some (.slice none 0 0) := by rw [cell_of_row _ _ _ _ _ _ hres1]; rfl
 have x2 : w1.cell? ⟨w.heap.size, 2, none⟩ = some (.slice none 0 0) := by rw [cell_of_row _ _ _ _ _ _ hres1]; rfl
 have xf : ∀ o, w1.frozen? ⟨w.heap.size, o, none⟩ = false := fun o => frozen_of_row _ _ _ _ _ hres1
 have HR := Hid.mk hres1
 have HB1 := Hid.mk hb1
 clear hres1 hb hb1
 go_wp2_with fail
 have hr := put3 HR.out (.bool false) (.slice none 0 0) (.slice none 0 0)
 refine bodyPost_ret (Za7 Tryz.results153 _ _ w.heap.size _ _ _ rfl hr) rfl ?_
 exact ⟨Zbp HB1.out (Nat.le_refl _) _ _ _, rfl, her⟩
theorem Zc4 {P : Nat -> Prop} {w : World} {g m : Nat} {bs : List Int} (h : Row g w bs) (hl : bs.length = m) (hb : ∀ x ∈ bs, 0 <= x /\ x < 256) (hm : m <= 140737488351232) (hP : P g) : LiesP P w (.mk false bs []) ⟨false, some ⟨g, 0, none⟩, m, m, none, 0, 0⟩ := by
 have hm2 : m <= 9223372036854775807 := by omega
 refine liesP_eq.2 ⟨⟨rfl, row_ag h hl hb hm2, rfl, Nat.le_refl _, by show 0 <= maxLen; unfold maxLen; omega, ⟨hm, by show 0 <= _; omega⟩, fun g' off e _ => ?_⟩, Zbm⟩
 cases e
 exact ⟨hP, fun o => frozen_of_row _ _ _ _ _ h⟩
set_option maxHeartbeats 2000000 in
theorem Zqa (a : Option Addr) (n c d : Nat) (x : Int) (r : List Int) (w : World) (h : Ag w a n c (x :: r)) (hd : d <= 8) (hn : n <= 140737488351232) (f t : Nat) (hh : hdr (decide (d = 8)) (x :: r) = .ok f t) (hx : x < 192) (res : R)
  (hres : (if f = 1 /\ t = 2 /\ (x :: r).getD 1 0 < 128 then R.bad 23 else R.ok (.mk false (((x :: r).take t).drop f) []) t) = res) :
  Calls Tryz.prog 153 #[.slice a n c, .int .i64 d] w (ReadPost w res) := by
 have hcal := fun w' (hb : Below w.heap.size w w') => Zfq a n c d (x :: r) w' (h.at hb) hd (by omega)
 simp only [hh, HR.f, HR.t, HR.e] at hcal
 obtain ⟨hft, htn, ht1, _⟩ := Zk6 hh
 rw [h.l] at htn
 obtain ⟨g, off, rfl, hc1, hc2, hc⟩ := ag_head h (by omega)
 unfold maxLen at hc2
 have hsub := Zv0 h hft htn
 have HCAL := Hid.mk hcal
 have HA := Hid.mk h
 have HC := Hid.mk hc
 have HSUB := Hid.mk hsub
 have HRES := Hid.mk hres
 have hbb := h.b x (by simp)
 obtain ⟨hx0, hx1⟩ := hbb
 have hn1 : 0 < n := by omega
 have hn2 : (0 : Int) < n := by omega
 clear hcal hh h hc hsub hres
 go_enter Tryz.func153, Tryz.ntmps153
 go_wp2_with fail
 refine (HCAL.out _ ((Below.refl _ _).alloc (Nat.le_refl _) _)).mono ?_
 rintro e w1 ⟨rfl, hb⟩
 rw [show ((0 : Nat) : Int) = 0 from rfl]
 have hres1 : w1.heap[w.heap.size]? = some (.cells #[.bool false, .slice none 0 0, .slice none 0 0] 109) := Below.row hb (heap_alloc_new _ _)
 have hb1 : Below w.heap.size w w1 := ((Below.refl w.heap.size w).alloc (Nat.le_refl _) _).trans (hb.mono (by simp))
 have x0 : w1.cell? ⟨w.heap.size, 0, none⟩ = some (.bool false) := by rw [cell_of_row _ _ _ _ _ _ hres1]; rfl
 have x1 : w1.cell? ⟨w.heap.size, 1, none⟩ = some (.slice none 0 0) := by rw [cell_of_row _ _ _ _ _ _ hres1]; rfl
 have x2 : w1.cell? ⟨w.heap.size, 2, none⟩ = some (.slice none 0 0) := by rw [cell_of_row _ _ _ _ _ _ hres1]; rfl
 have xf : ∀ o, w1.frozen? ⟨w.heap.size, o, none⟩ = false := fun o => frozen_of_row _ _ _ _ _ hres1
 have y0 : w1.cell? ⟨g, off, none⟩ = some (.int .u8 x) := by have := HC.out 0 hn1; exact (hb1.cell (p := ⟨g, off, none⟩) (block_lt_of_cell this)).trans this
 have HR := Hid.mk hres1
 have HB1 := Hid.mk hb1
 clear hres1 hb hb1
 have fin : ∀ w1', w1' = w1 -> True := fun _ _ => trivial
 by_cases h12 : f = 1 /\ t = 2
 ·obtain ⟨rfl, rfl⟩ := h12
  have y1 : w1.cell? ⟨g, off + 1, none⟩ = some (.int .u8 ((x :: r).getD 1 0)) := by have := HC.out 1 (by omega); exact (HB1.out.cell (p := ⟨g, off + 1, none⟩) (block_lt_of_cell this)).trans this
  have hz := HA.out.b ((x :: r).getD 1 0) (by have hl := HA.out.l; rw [List.getD, List.getElem?_eq_getElem (by omega)]; exact List.getElem_mem _)
  have hres := HRES.out
  obtain ⟨z, hzz⟩ : ∃ z, (x :: r).getD 1 0 = z := ⟨_, rfl⟩
  rw [hzz] at y1 hz hres
  obtain ⟨hz0, hz1⟩ := hz
  have hn3 : (1 : Int) < n := by omega
  clear hzz
  by_cases hz8 : z < 128
  ·rw [if_pos ⟨rfl, rfl, hz8⟩] at hres
   subst hres
   go_wp2_with fail
   have hr := put3 HR.out (.bool false) (.slice none 0 0) (.slice none 0 0)
   refine bodyPost_ret (Za7 Tryz.results153 _ _ w.heap.size _ _ _ rfl hr) rfl ?_
   exact ⟨Zbp HB1.out (Nat.le_refl _) _ _ _, rfl, by decide⟩
  ·rw [if_neg (by intro h; exact hz8 h.2.2)] at hres
   subst hres
   have hsub := HSUB.out
   rw [if_neg (by omega)] at hsub
   have HCT := Hid.mk (Zct _ (2 - 1) (c - 1) _ w1 (hsub.at HB1.out) (by omega))
   clear hsub
   go_wp2_with fail
   refine HCT.out.mono ?_
   rintro e w2 ⟨rfl, hrow2, hb2⟩
   have hres2 := Below.row hb2 HR.out
   have x0 : w2.cell? ⟨w.heap.size, 0, none⟩ = some (.bool false) := by rw [cell_of_row _ _ _ _ _ _ hres2]; rfl
   have x1 : w2.cell? ⟨w.heap.size, 1, none⟩ = some (.slice none 0 0) := by rw [cell_of_row _ _ _ _ _ _ hres2]; rfl
   have x2 : w2.cell? ⟨w.heap.size, 2, none⟩ = some (.slice none 0 0) := by rw [cell_of_row _ _ _ _ _ _ hres2]; rfl
   have xf : ∀ o, w2.frozen? ⟨w.heap.size, o, none⟩ = false := fun o => frozen_of_row _ _ _ _ _ hres2
   have HR2 := Hid.mk hres2
   have HROW := Hid.mk hrow2
   have HB2 := Hid.mk (HB1.out.trans (hb2.mono HB1.out.size))
   clear hres2 hrow2 hb2
   go_wp2_with fail
   have hr := put3 HR2.out (.bool false) (.slice (some ⟨w1.heap.size + 1, 0, none⟩) (2 - 1) (2 - 1)) (.slice none 0 0)
   refine bodyPost_ret (Za7 Tryz.results153 _ _ w.heap.size _ _ _ rfl hr) rfl ?_
   have hz1 := HB1.out.size
   refine ⟨Zbp HB2.out (Nat.le_refl _) _ _ _, ⟨false, some ⟨w1.heap.size + 1, 0, none⟩, 2 - 1, 2 - 1, none, 0, 0⟩, rfl, ?_⟩
   exact Zc4 ((Zb7 (by omega) _ _ _).trans HROW.out) HSUB.out.l HSUB.out.b (by omega) (by show w.heap.size <= _; omega)
 ·have hres := HRES.out
  rw [if_neg (fun h => h12 ⟨h.1, h.2.1⟩)] at hres
  subst hres
  have hsub := HSUB.out
  have HSL0 := Hid.mk hsub.l
  have HSB := Hid.mk hsub.b
  have hfi : (f : Int) <= t := by omega
  have hti : (t : Int) <= n := by omega
  by_cases hcf : c = f
  ·rw [if_pos hcf] at hsub
   have e1 : t = f := by omega
   have e2 : n = f := by omega
   subst e1 e2 hcf
   rw [Nat.sub_self] at hsub HSL0
   have HCT := Hid.mk (Zct _ 0 0 _ w1 (hsub.at HB1.out) (by omega))
   have HSL := HSL0
   clear hsub HSUB HSL0
   by_cases hf1 : c = 1
   ·subst hf1
    have ht2 : ((1 : Int) == 2) = false := by decide
    go_wp2_with fail
    refine HCT.out.mono ?_
    rintro e w2 ⟨rfl, hrow2, hb2⟩
    have hres2 := Below.row hb2 HR.out
    have x0 : w2.cell? ⟨w.heap.size, 0, none⟩ = some (.bool false) := by rw [cell_of_row _ _ _ _ _ _ hres2]; rfl
    have x1 : w2.cell? ⟨w.heap.size, 1, none⟩ = some (.slice none 0 0) := by rw [cell_of_row _ _ _ _ _ _ hres2]; rfl
    have x2 : w2.cell? ⟨w.heap.size, 2, none⟩ = some (.slice none 0 0) := by rw [cell_of_row _ _ _ _ _ _ hres2]; rfl
    have xf : ∀ o, w2.frozen? ⟨w.heap.size, o, none⟩ = false := fun o => frozen_of_row _ _ _ _ _ hres2
    have HR2 := Hid.mk hres2
    have HROW := Hid.mk hrow2
    have HB2 := Hid.mk (HB1.out.trans (hb2.mono HB1.out.size))
    clear hres2 hrow2 hb2
    go_wp2_with fail
    have hr := put3 HR2.out (.bool false) (.slice (some ⟨w1.heap.size + 1, 0, none⟩) 0 0) (.slice none 0 0)
    refine bodyPost_ret (Za7 Tryz.results153 _ _ w.heap.size _ _ _ rfl hr) rfl ?_
    have hz1 := HB1.out.size
    refine ⟨Zbp HB2.out (Nat.le_refl _) _ _ _, ⟨false, some ⟨w1.heap.size + 1, 0, none⟩, 0, 0, none, 0, 0⟩, rfl, ?_⟩
    exact Zc4 ((Zb7 (by omega) _ _ _).trans HROW.out) HSL.out HSB.out (by omega) (by show w.heap.size <= _; omega)
   ·have hf2 : ((c : Int) == 1) = false := by simp; omega
    go_wp2_with fail
    refine HCT.out.mono ?_
    rintro e w2 ⟨rfl, hrow2, hb2⟩
    have hres2 := Below.row hb2 HR.out
    have x0 : w2.cell? ⟨w.heap.size, 0, none⟩ = some (.bool false) := by rw [cell_of_row _ _ _ _ _ _ hres2]; rfl
    have x1 : w2.cell? ⟨w.heap.size, 1, none⟩ = some (.slice none 0 0) := by rw [cell_of_row _ _ _ _ _ _ hres2]; rfl
    have x2 : w2.cell? ⟨w.heap.size, 2, none⟩ = some (.slice none 0 0) := by rw [cell_of_row _ _ _ _ _ _ hres2]; rfl
    have xf : ∀ o, w2.frozen? ⟨w.heap.size, o, none⟩ = false := fun o => frozen_of_row _ _ _ _ _ hres2
    have HR2 := Hid.mk hres2
    have HROW := Hid.mk hrow2
    have HB2 := Hid.mk (HB1.out.trans (hb2.mono HB1.out.size))
    clear hres2 hrow2 hb2
    go_wp2_with fail
    have hr := put3 HR2.out (.bool false) (.slice (some ⟨w1.heap.size + 1, 0, none⟩) 0 0) (.slice none 0 0)
    refine bodyPost_ret (Za7 Tryz.results153 _ _ w.heap.size _ _ _ rfl hr) rfl ?_
    have hz1 := HB1.out.size
    refine ⟨Zbp HB2.out (Nat.le_refl _) _ _ _, ⟨false, some ⟨w1.heap.size + 1, 0, none⟩, 0, 0, none, 0, 0⟩, rfl, ?_⟩
    exact Zc4 ((Zb7 (by omega) _ _ _).trans HROW.out) HSL.out HSB.out (by omega) (by show w.heap.size <= _; omega)
  ·rw [if_neg hcf] at hsub
   obtain ⟨q, hq⟩ : ∃ q, q = t - f := ⟨_, rfl⟩
   have HCT := Hid.mk (Zct _ (t - f) (c - f) _ w1 (hsub.at HB1.out) (by omega))
   have HSL : Hid ((((x :: r).take t).drop f).length = q) := by rw [hq]; exact HSL0
   have hq2 : q <= 140737488351232 := by omega
   have HQ := Hid.mk hq
   clear hsub HSUB HSL0 hq
   by_cases hf1 : f = 1
   ·subst hf1
    have ht2 : ((t : Int) == 2) = false := by simp at h12 ⊢; omega
    go_wp2_with fail
    refine HCT.out.mono ?_
    rw [<- HQ.out]
    rintro e w2 ⟨rfl, hrow2, hb2⟩
    have hres2 := Below.row hb2 HR.out
    have x0 : w2.cell? ⟨w.heap.size, 0, none⟩ = some (.bool false) := by rw [cell_of_row _ _ _ _ _ _ hres2]; rfl
    have x1 : w2.cell? ⟨w.heap.size, 1, none⟩ = some (.slice none 0 0) := by rw [cell_of_row _ _ _ _ _ _ hres2]; rfl
    have x2 : w2.cell? ⟨w.heap.size, 2, none⟩ = some (.slice none 0 0) := by rw [cell_of_row _ _ _ _ _ _ hres2]; rfl
    have xf : ∀ o, w2.frozen? ⟨w.heap.size, o, none⟩ = false := fun o => frozen_of_row _ _ _ _ _ hres2
    have HR2 := Hid.mk hres2
    have HROW := Hid.mk hrow2
    have HB2 := Hid.mk (HB1.out.trans (hb2.mono HB1.out.size))
    clear hres2 hrow2 hb2
    go_wp2_with fail
    have hr := put3 HR2.out (.bool false) (.slice (some ⟨w1.heap.size + 1, 0, none⟩) q q) (.slice none 0 0)
    refine bodyPost_ret (Za7 Tryz.results153 _ _ w.heap.size _ _ _ rfl hr) rfl ?_
    have hz1 := HB1.out.size
    refine ⟨Zbp HB2.out (Nat.le_refl _) _ _ _, ⟨false, some ⟨w1.heap.size + 1, 0, none⟩, q, q, none, 0, 0⟩, rfl, ?_⟩
    exact Zc4 ((Zb7 (by omega) _ _ _).trans HROW.out) HSL.out HSB.out (by omega) (by show w.heap.size <= _; omega)
   ·have hf2 : ((f : Int) == 1) = false := by simp; omega
    go_wp2_with fail
    refine HCT.out.mono ?_
    rw [<- HQ.out]
    rintro e w2 ⟨rfl, hrow2, hb2⟩
    have hres2 := Below.row hb2 HR.out
    have x0 : w2.cell? ⟨w.heap.size, 0, none⟩ = some (.bool false) := by rw [cell_of_row _ _ _ _ _ _ hres2]; rfl
    have x1 : w2.cell? ⟨w.heap.size, 1, none⟩ = some (.slice none 0 0) := by rw [cell_of_row _ _ _ _ _ _ hres2]; rfl
    have x2 : w2.cell? ⟨w.heap.size, 2, none⟩ = some (.slice none 0 0) := by rw [cell_of_row _ _ _ _ _ _ hres2]; rfl
    have xf : ∀ o, w2.frozen? ⟨w.heap.size, o, none⟩ = false := fun o => frozen_of_row _ _ _ _ _ hres2
    have HR2 := Hid.mk hres2
    have HROW := Hid.mk hrow2
    have HB2 := Hid.mk (HB1.out.trans (hb2.mono HB1.out.size))
    clear hres2 hrow2 hb2
    go_wp2_with fail
    have hr := put3 HR2.out (.bool false) (.slice (some ⟨w1.heap.size + 1, 0, none⟩) q q) (.slice none 0 0)
    refine bodyPost_ret (Za7 Tryz.results153 _ _ w.heap.size _ _ _ rfl hr) rfl ?_
    have hz1 := HB1.out.size
    refine ⟨Zbp HB2.out (Nat.le_refl _) _ _ _, ⟨false, some ⟨w1.heap.size + 1, 0, none⟩, q, q, none, 0, 0⟩, rfl, ?_⟩
    exact Zc4 ((Zb7 (by omega) _ _ _).trans HROW.out) HSL.out HSB.out (by omega) (by show w.heap.size <= _; omega)
theorem Zij {P : Nat -> Prop} {w : World} {ia : Option Addr} {ic : Nat} {ts : List T} (h1 : ts.length <= ic) (h2 : ic <= maxLen) (h3 : ts.length <= 140737488351232) (h : LiesPAll P w ts ia 0) : LiesP P w (.mk true [] ts) ⟨true, none, 0, 0, ia, ts.length, ic⟩ :=
 liesP_eq.2 ⟨⟨rfl, ⟨.inl ⟨rfl, rfl⟩, fun _ => ⟨rfl, rfl⟩, rfl, fun x hx => by cases hx⟩, rfl, h1, h2, ⟨Nat.zero_le _, h3⟩, fun g off e => by cases e⟩, h⟩
set_option maxHeartbeats 2000000 in
theorem Zqb (gg : List Int -> R) (hlen : ∀ b t m, gg b = .ok t m -> 1 <= m /\ m <= b.length) (a : Option Addr) (n c d : Nat) (x : Int) (r : List Int) (w : World) (h : Ag w a n c (x :: r)) (hd : d < 8) (hn : n <= 140737488351232) (f t : Nat) (hh : hdr (decide (d = 8)) (x :: r) = .ok f t) (hx : 192 <= x) (res : R)
  (hall : ∀ (a : Option Addr) (n c : Nat) (b : List Int) (w : World), Ag w a n c b -> n < 16777216 -> Calls Tryz.prog 159 #[.slice a n c, .int .i64 (d + 1 : Nat)] w (AllPost w (rdAll gg b.length b)))
  (hres : (match rdAll gg (((x :: r).take t).drop f).length (((x :: r).take t).drop f) with | .bad e => R.bad e | .ok ts => R.ok (.mk true [] ts) t) = res) :
  Calls Tryz.prog 153 #[.slice a n c, .int .i64 d] w (ReadPost w res) := by
 have hcal := fun w' (hb : Below w.heap.size w w') => Zfq a n c d (x :: r) w' (h.at hb) (by omega) (by omega)
 have hsmall : t - f < 16777216 := by
  rcases Zuc hh (h.b x (by simp)).2 with h' | ⟨y, hy, hny⟩
  ·exact h'
  ·exact absurd (h.b y (List.mem_cons_of_mem _ hy)) hny
 simp only [hh, HR.f, HR.t, HR.e] at hcal
 obtain ⟨hft, htn, ht1, _⟩ := Zk6 hh
 rw [h.l] at htn
 obtain ⟨g, off, rfl, hc1, hc2, hc⟩ := ag_head h (by omega)
 unfold maxLen at hc2
 have hsub := Zv0 h hft htn
 have HCAL := Hid.mk hcal
 have HALL := Hid.mk hall
 have HLEN := Hid.mk hlen
 have HC := Hid.mk hc
 have HSL := Hid.mk hsub.l
 have HRES := Hid.mk hres
 obtain ⟨hx0, hx1⟩ := h.b x (by simp)
 have hn1 : 0 < n := by omega
 have hn2 : (0 : Int) < n := by omega
 have hfi : (f : Int) <= t := by omega
 have hti : (t : Int) <= n := by omega
 have hx2 : ¬ x < 192 := by omega
 clear hcal hh h hc hres hall hlen
 by_cases hcf : c = f
 ·rw [if_pos hcf] at hsub
  have e1 : t = f := by omega
  have e2 : n = f := by omega
  subst e1 e2 hcf
  rw [Nat.sub_self] at hsub HSL
  have HS := Hid.mk hsub
  clear hsub
  go_enter Tryz.func153, Tryz.ntmps153
  go_wp2_with fail
  refine (HCAL.out _ ((Below.refl _ _).alloc (Nat.le_refl _) _)).mono ?_
  rintro e w1 ⟨rfl, hb⟩
  rw [show ((0 : Nat) : Int) = 0 from rfl]
  have hres1 : w1.heap[w.heap.size]? = some (.cells #[.bool false, .slice none 0 0, .slice none 0 0] 109) := Below.row hb (heap_alloc_new _ _)
  have hb1 : Below w.heap.size w w1 := ((Below.refl w.heap.size w).alloc (Nat.le_refl _) _).trans (hb.mono (by simp))
  have y0 : w1.cell? ⟨g, off, none⟩ = some (.int .u8 x) := by have := HC.out 0 hn1; exact (hb1.cell (p := ⟨g, off, none⟩) (block_lt_of_cell this)).trans this
  have HR := Hid.mk hres1
  have HB1 := Hid.mk hb1
  clear hres1 hb hb1
  have hct := HALL.out _ _ _ _ w1 (HS.out.at HB1.out) (by omega)
  have HCT := Hid.mk hct
  clear hct
  go_wp2_with fail
  rw [show ((d : Int) + 1) = ((d + 1 : Nat) : Int) from by omega]
  refine HCT.out.mono ?_
  rintro e w2 ⟨hb2, hm⟩
  have hres2 := Below.row hb2 HR.out
  have x0 : w2.cell? ⟨w.heap.size, 0, none⟩ = some (.bool false) := by rw [cell_of_row _ _ _ _ _ _ hres2]; rfl
  have x1 : w2.cell? ⟨w.heap.size, 1, none⟩ = some (.slice none 0 0) := by rw [cell_of_row _ _ _ _ _ _ hres2]; rfl
  have x2 : w2.cell? ⟨w.heap.size, 2, none⟩ = some (.slice none 0 0) := by rw [cell_of_row _ _ _ _ _ _ hres2]; rfl
  have xf : ∀ o, w2.frozen? ⟨w.heap.size, o, none⟩ = false := fun o => frozen_of_row _ _ _ _ _ hres2
  have HR2 := Hid.mk hres2
  have HB2 := Hid.mk (HB1.out.trans (hb2.mono HB1.out.size))
  have hz1 := HB1.out.size
  have hz2 := lt_of_get HR.out
  clear hres2 hb2
  cases hr : rdAll gg (((x :: r).take c).drop c).length (((x :: r).take c).drop c) with
  | bad er =>
   rw [hr] at hm
   obtain ⟨rfl, her⟩ := hm
   have hfin := HRES.out
   rw [hr] at hfin
   have HF := Hid.mk hfin
   have hee : ((er : Int) != 0) = true := by rw [bne_iff_ne]; omega
   clear hr hfin
   go_wp2_with fail
   have hr := put3 HR2.out (.bool false) (.slice none 0 0) (.slice none 0 0)
   refine bodyPost_ret (Za7 Tryz.results153 _ _ w.heap.size _ _ _ rfl hr) rfl ?_
   rw [<- HF.out]
   exact ⟨Zbp HB2.out (Nat.le_refl _) _ _ _, rfl, her⟩
  | ok ts =>
   rw [hr] at hm
   obtain ⟨ia, ic, rfl, hic1, hic2, hli⟩ := hm
   have hfin := HRES.out
   rw [hr] at hfin
   have hlen := Zg0 HLEN.out _ _ _ hr
   have HF := Hid.mk hfin
   have HLI := Hid.mk hli
   have htl : ts.length <= 140737488351232 := by rw [HSL.out] at hlen; omega
   clear hr hfin hli hlen
   go_wp2_with fail
   have hr := put3 HR2.out (.bool true) (.slice none 0 0) (.slice ia ts.length ic)
   refine bodyPost_ret (Za7 Tryz.results153 _ _ w.heap.size _ _ _ rfl hr) rfl ?_
   rw [<- HF.out]
   refine ⟨Zbp HB2.out (Nat.le_refl _) _ _ _, ⟨true, none, 0, 0, ia, ts.length, ic⟩, rfl, ?_⟩
   refine Zij hic1 hic2 htl (Zbz (fun b (hb : w1.heap.size <= b) hlt => ⟨Zb7 (by omega) _ _ _, by omega⟩) (fun u _ => Zav (fun b (hb : w1.heap.size <= b) hlt => ⟨Zb7 (by omega) _ _ _, by omega⟩) u) HLI.out)
 ·rw [if_neg hcf] at hsub
  have HS := Hid.mk hsub
  clear hsub
  go_enter Tryz.func153, Tryz.ntmps153
  go_wp2_with fail
  refine (HCAL.out _ ((Below.refl _ _).alloc (Nat.le_refl _) _)).mono ?_
  rintro e w1 ⟨rfl, hb⟩
  rw [show ((0 : Nat) : Int) = 0 from rfl]
  have hres1 : w1.heap[w.heap.size]? = some (.cells #[.bool false, .slice none 0 0, .slice none 0 0] 109) := Below.row hb (heap_alloc_new _ _)
  have hb1 : Below w.heap.size w w1 := ((Below.refl w.heap.size w).alloc (Nat.le_refl _) _).trans (hb.mono (by simp))
  have y0 : w1.cell? ⟨g, off, none⟩ = some (.int .u8 x) := by have := HC.out 0 hn1; exact (hb1.cell (p := ⟨g, off, none⟩) (block_lt_of_cell this)).trans this
  have HR := Hid.mk hres1
  have HB1 := Hid.mk hb1
  clear hres1 hb hb1
  have HCT := Hid.mk (HALL.out _ _ _ _ w1 (HS.out.at HB1.out) hsmall)
  go_wp2_with fail
  rw [show ((d : Int) + 1) = ((d + 1 : Nat) : Int) from by omega]
  refine HCT.out.mono ?_
  rintro e w2 ⟨hb2, hm⟩
  have hres2 := Below.row hb2 HR.out
  have x0 : w2.cell? ⟨w.heap.size, 0, none⟩ = some (.bool false) := by rw [cell_of_row _ _ _ _ _ _ hres2]; rfl
  have x1 : w2.cell? ⟨w.heap.size, 1, none⟩ = some (.slice none 0 0) := by rw [cell_of_row _ _ _ _ _ _ hres2]; rfl
  have x2 : w2.cell? ⟨w.heap.size, 2, none⟩ = some (.slice none 0 0) := by rw [cell_of_row _ _ _ _ _ _ hres2]; rfl
  have xf : ∀ o, w2.frozen? ⟨w.heap.size, o, none⟩ = false := fun o => frozen_of_row _ _ _ _ _ hres2
  have HR2 := Hid.mk hres2
  have HB2 := Hid.mk (HB1.out.trans (hb2.mono HB1.out.size))
  have hz1 := HB1.out.size
  have hz2 := lt_of_get HR.out
  clear hres2 hb2
  cases hr : rdAll gg (((x :: r).take t).drop f).length (((x :: r).take t).drop f) with
  | bad er =>
   rw [hr] at hm
   obtain ⟨rfl, her⟩ := hm
   have hfin := HRES.out
   rw [hr] at hfin
   have HF := Hid.mk hfin
   have hee : ((er : Int) != 0) = true := by rw [bne_iff_ne]; omega
   clear hr hfin
   go_wp2_with fail
   have hr := put3 HR2.out (.bool false) (.slice none 0 0) (.slice none 0 0)
   refine bodyPost_ret (Za7 Tryz.results153 _ _ w.heap.size _ _ _ rfl hr) rfl ?_
   rw [<- HF.out]
   exact ⟨Zbp HB2.out (Nat.le_refl _) _ _ _, rfl, her⟩
  | ok ts =>
   rw [hr] at hm
   obtain ⟨ia, ic, rfl, hic1, hic2, hli⟩ := hm
   have hfin := HRES.out
   rw [hr] at hfin
   have hlen := Zg0 HLEN.out _ _ _ hr
   have HF := Hid.mk hfin
   have HLI := Hid.mk hli
   have htl : ts.length <= 140737488351232 := by rw [HSL.out] at hlen; omega
   clear hr hfin hli hlen
   go_wp2_with fail
   have hr := put3 HR2.out (.bool true) (.slice none 0 0) (.slice ia ts.length ic)
   refine bodyPost_ret (Za7 Tryz.results153 _ _ w.heap.size _ _ _ rfl hr) rfl ?_
   rw [<- HF.out]
   refine ⟨Zbp HB2.out (Nat.le_refl _) _ _ _, ⟨true, none, 0, 0, ia, ts.length, ic⟩, rfl, ?_⟩
   refine Zij hic1 hic2 htl (Zbz (fun b (hb : w1.heap.size <= b) hlt => ⟨Zb7 (by omega) _ _ _, by omega⟩) (fun u _ => Zav (fun b (hb : w1.heap.size <= b) hlt => ⟨Zb7 (by omega) _ _ _, by omega⟩) u) HLI.out)
theorem Zkj (k : Nat) (gg : List Int -> R) (hrd : ∀ b, rd k b = rd1 gg (decide (k = 0)) b) (hlen : ∀ b t m, gg b = .ok t m -> 1 <= m /\ m <= b.length)
  (hall : 0 < k -> ∀ (d : Nat), d + k = 8 -> ∀ (a : Option Addr) (n c : Nat) (b : List Int) (w : World), Ag w a n c b -> n < 16777216 -> Calls Tryz.prog 159 #[.slice a n c, .int .i64 (d + 1 : Nat)] w (AllPost w (rdAll gg b.length b))) : ReadSaid k := by
 intro a n c d b w h hd hn
 rw [hrd]
 have hdec : decide (k = 0) = decide (d = 8) := by by_cases h0 : k = 0 <;> simp [h0] <;> omega
 rw [hdec]
 unfold rd1
 cases hh : hdr (decide (d = 8)) b with
 | bad e => exact Ztl a n c d b w h (by omega) hn e hh
 | ok f t =>
  cases b with
  | nil => simp [hdr] at hh
  | cons x r =>
   dsimp only
   by_cases hx : (x :: r).headD 0 < 192
   ·rw [if_pos hx]
    exact Zqa a n c d x r w h (by omega) hn f t hh hx _ rfl
   ·rw [if_neg hx]
    have hx2 : ¬ x < 192 := hx
    have hk : 0 < k := by
     cases k with
     | succ k => omega
     | zero =>
      exfalso
      have hd8 : decide (d = 8) = true := by simp; omega
      rw [hd8, Zud (by omega)] at hh
      cases hh
    exact Zqb gg hlen a n c d x r w h (by omega) hn f t hh (by omega) _ (hall hk d hd) rfl
theorem Zmy : ∀ k, ReadSaid k
 | 0 => Zkj 0 (fun _ => .bad 21) (fun b => rfl) (fun b t m h => by cases h) (fun h => absurd h (by omega))
 | k + 1 => Zkj (k + 1) (rd k) (fun b => rfl) (fun b t m h => rd_n h) (fun _ d hd a n c b w h hn => Zlv k (Zmy k) a n c (d + 1) b w h (by omega) hn)
set_option maxHeartbeats 1000000 in
theorem Zru (a : Option Addr) (n c : Nat) (b : List Int) (w : World) (h : Ag w a n c b) (hn : n <= 140737488351232) : Calls Tryz.prog 147 #[.slice a n c] w (ReadPost w (rd 8 b)) := by
 have hcal := fun w' (hb : Below w.heap.size w w') => Zmy 8 a n c 0 b w' (h.at hb) (by omega) hn
 rw [show ((0 : Nat) : Int) = 0 from rfl] at hcal
 have HCAL := Hid.mk hcal
 obtain ⟨res, hres⟩ : ∃ r, rd 8 b = r := ⟨_, rfl⟩
 rw [hres] at HCAL ⊢
 clear hcal h hres
 go_enter Tryz.func147, Tryz.ntmps147
 go_wp2_with fail
 refine (HCAL.out _ ((Below.refl _ _).alloc (Nat.le_refl _) _)).mono ?_
 rintro e w1 ⟨hb, hm⟩
 have hres1 : w1.heap[w.heap.size]? = some (.cells #[.bool false, .slice none 0 0, .slice none 0 0] 109) := Below.row hb (heap_alloc_new _ _)
 have hb1 : Below w.heap.size w w1 := ((Below.refl w.heap.size w).alloc (Nat.le_refl _) _).trans (hb.mono (by simp))
 have x0 : w1.cell? ⟨w.heap.size, 0, none⟩ = some (.bool false) := by rw [cell_of_row _ _ _ _ _ _ hres1]; rfl
 have x1 : w1.cell? ⟨w.heap.size, 1, none⟩ = some (.slice none 0 0) := by rw [cell_of_row _ _ _ _ _ _ hres1]; rfl
 have x2 : w1.cell? ⟨w.heap.size, 2, none⟩ = some (.slice none 0 0) := by rw [cell_of_row _ _ _ _ _ _ hres1]; rfl
 have xf : ∀ o, w1.frozen? ⟨w.heap.size, o, none⟩ = false := fun o => frozen_of_row _ _ _ _ _ hres1
 have HR := Hid.mk hres1
 have HB1 := Hid.mk hb1
 clear hres1 hb hb1
 cases res with
 | bad er =>
  obtain ⟨rfl, her⟩ := hm
  go_wp2_with fail
  have hr := put3 HR.out (.bool false) (.slice none 0 0) (.slice none 0 0)
  refine bodyPost_ret (Za7 Tryz.results147 _ _ w.heap.size _ _ _ rfl hr) rfl ?_
  exact ⟨Zbp HB1.out (Nat.le_refl _) _ _ _, rfl, her⟩
 | ok t m =>
  obtain ⟨y, rfl, hy⟩ := hm
  have HY := Hid.mk hy
  clear hy
  go_wp2_with fail
  have hr := put3 HR.out (.bool y.l) (.slice y.ba y.bn y.bc) (.slice y.ia y.m y.ic)
  refine bodyPost_ret (Za7 Tryz.results147 _ _ w.heap.size _ _ _ rfl hr) rfl ?_
  refine ⟨Zbp HB1.out (Nat.le_refl _) _ _ _, y, rfl, Zav (fun b hb hlt => ?_) t y HY.out⟩
  have hb' : w.heap.size + 1 <= b := by have : (w.alloc (.cells #[.bool false, .slice none 0 0, .slice none 0 0] 109)).heap.size <= b := hb; simpa using this
  exact ⟨Zb7 (by omega) _ _ _, by omega⟩
inductive RT where
 | bad (e : Nat)
 | ok (t : T)
def decP (b : List Int) : RT := match rd 8 b with
 | .bad e => .bad e
 | .ok t n => if n < b.length then .bad 24 else .ok t
def DecPost (w : World) (r : RT) : Ending -> World -> Prop := fun e w' => Below w.heap.size w w' ∧
 match r with
 | .bad er => e = .returned (.tuple #[.agg #[.bool false, .slice none 0 0, .slice none 0 0], .int .i64 (er : Nat)]) /\ er ≠ 0
 | .ok t => ∃ y : V, e = .returned (.tuple #[.agg #[.bool y.l, .slice y.ba y.bn y.bc, .slice y.ia y.m y.ic], .int .i64 0]) /\ LiesP (fun b => w.heap.size <= b) w' t y
theorem gen_w {W : World} {p q : World -> Prop} (F : q W) (h : ∀ v, q v -> p v) : p W := h W F
structure Rb (w v : World) : Prop where
 row : v.heap[w.heap.size]? = some (.cells #[.bool false, .slice none 0 0, .slice none 0 0] 109)
 bel : Below w.heap.size w v
theorem Rb.x0 {w v : World} (h : Rb w v) : v.cell? ⟨w.heap.size, 0, none⟩ = some (.bool false) := by rw [cell_of_row _ _ _ _ _ _ h.row]; rfl
theorem Rb.x1 {w v : World} (h : Rb w v) : v.cell? ⟨w.heap.size, 1, none⟩ = some (.slice none 0 0) := by rw [cell_of_row _ _ _ _ _ _ h.row]; rfl
theorem Rb.x2 {w v : World} (h : Rb w v) : v.cell? ⟨w.heap.size, 2, none⟩ = some (.slice none 0 0) := by rw [cell_of_row _ _ _ _ _ _ h.row]; rfl
theorem Rb.xf {w v : World} (h : Rb w v) : ∀ o, v.frozen? ⟨w.heap.size, o, none⟩ = false := fun o => frozen_of_row _ _ _ _ _ h.row
theorem Rb.alloc {w v : World} (h : Rb w v) (o : Obj) : Rb w (v.alloc o) := ⟨(Below.heap_alloc v o _ (lt_of_get h.row)).trans h.row, h.bel.alloc h.bel.size o⟩
theorem Rb.call {w v v' : World} (h : Rb w v) (hb : Below v.heap.size v v') : Rb w v' := ⟨Below.row hb h.row, h.bel.trans (hb.mono h.bel.size)⟩
theorem Rb.new (w : World) : Rb w (w.alloc (.cells #[.bool false, .slice none 0 0, .slice none 0 0] 109)) := ⟨heap_alloc_new _ _, (Below.refl _ _).alloc (Nat.le_refl _) _⟩
set_option maxHeartbeats 1000000 in
theorem Zis (a : Option Addr) (n c : Nat) (b : List Int) (w : World) (h : Ag w a n c b) (hn : n <= 140737488351232) : Calls Tryz.prog 132 #[.slice a n c] w (DecPost w (decP b)) := by
 have hcal := fun w' (hb : Below w.heap.size w w') => Zru a n c b w' (h.at hb) hn
 have HCAL := Hid.mk hcal
 have hl := h.l
 obtain ⟨res, hres⟩ : ∃ r, decP b = r := ⟨_, rfl⟩
 rw [hres]
 unfold decP at hres
 have HRES := Hid.mk hres
 have HL := Hid.mk hl
 clear hcal h hres hl
 go_enter Tryz.func132, Tryz.ntmps132
 go_wp2_with fail
 refine (HCAL.out _ ((Below.refl _ _).alloc (Nat.le_refl _) _)).mono ?_
 rintro e w1 ⟨hb, hm⟩
 have RB := (Rb.new w).call hb
 clear hb
 have hres := HRES.out
 cases hrd : rd 8 b with
 | bad er =>
  rw [hrd] at hm hres
  obtain ⟨rfl, her⟩ := hm
  subst hres
  have hee : ((er : Int) != 0) = true := by rw [bne_iff_ne]; omega
  clear hrd
  go_upto_if 14 with fail
  refine gen_w (p := fun v => Code.wp _ _ _ _ v) (q := fun v => Rb w v /\ v.heap[w1.heap.size]? = some (.cells #[.bool false, .slice none 0 0, .slice none 0 0] 109)) ⟨RB.alloc _, heap_alloc_new _ _⟩ ?_
  clear RB
  rintro v ⟨RV, hyv⟩
  have x0 := RV.x0
  have x1 := RV.x1
  have x2 := RV.x2
  have xf := RV.xf
  have u0 : v.cell? ⟨w1.heap.size, 0, none⟩ = some (#[.bool false, .slice none 0 0, .slice none 0 0][0]) := by rw [cell_of_row _ _ _ _ _ _ hyv]; rfl
  have u1 : v.cell? ⟨w1.heap.size, 1, none⟩ = some (#[.bool false, .slice none 0 0, .slice none 0 0][1]) := by rw [cell_of_row _ _ _ _ _ _ hyv]; rfl
  have u2 : v.cell? ⟨w1.heap.size, 2, none⟩ = some (#[.bool false, .slice none 0 0, .slice none 0 0][2]) := by rw [cell_of_row _ _ _ _ _ _ hyv]; rfl
  have HRV := Hid.mk RV
  clear RV hyv
  go_wp2_with fail
  have hr := put3 HRV.out.row (.bool false) (.slice none 0 0) (.slice none 0 0)
  refine bodyPost_ret (Zdp Tryz.results132 _ _ w.heap.size _ _ _ rfl hr) rfl ?_
  exact ⟨Zbp HRV.out.bel (Nat.le_refl _) _ _ _, rfl, her⟩
 | ok t m =>
  rw [hrd] at hm hres
  simp only [HL.out] at hres
  obtain ⟨y, rfl, hy⟩ := hm
  have HY : Hid (∀ o, LiesP (fun b => w.heap.size + 1 <= b) (w1.alloc o) t y) := fun o => Zav (fun b hb hlt => ⟨Below.heap_alloc _ _ _ hlt, by have : (w.alloc (.cells #[.bool false, .slice none 0 0, .slice none 0 0] 109)).heap.size <= b := hb; simpa using this⟩) t y hy
  clear hy
  by_cases hmn : m < n
  ·rw [if_pos hmn] at hres
   subst hres
   have hmi : (m : Int) < n := by omega
   clear hrd
   go_upto_if 14 with fail
   refine gen_w (p := fun v => Code.wp _ _ _ _ v) (q := fun v => Rb w v /\ v.heap[w1.heap.size]? = some (.cells #[.bool y.l, .slice y.ba y.bn y.bc, .slice y.ia y.m y.ic] 109) /\ Hid (LiesP (fun b => w.heap.size + 1 <= b) v t y)) ⟨RB.alloc _, heap_alloc_new _ _, HY.out _⟩ ?_
   clear RB HY
   rintro v ⟨RV, hyv, HY⟩
   have x0 := RV.x0
   have x1 := RV.x1
   have x2 := RV.x2
   have xf := RV.xf
   have u0 : v.cell? ⟨w1.heap.size, 0, none⟩ = some (#[.bool y.l, .slice y.ba y.bn y.bc, .slice y.ia y.m y.ic][0]) := by rw [cell_of_row _ _ _ _ _ _ hyv]; rfl
   have u1 : v.cell? ⟨w1.heap.size, 1, none⟩ = some (#[.bool y.l, .slice y.ba y.bn y.bc, .slice y.ia y.m y.ic][1]) := by rw [cell_of_row _ _ _ _ _ _ hyv]; rfl
   have u2 : v.cell? ⟨w1.heap.size, 2, none⟩ = some (#[.bool y.l, .slice y.ba y.bn y.bc, .slice y.ia y.m y.ic][2]) := by rw [cell_of_row _ _ _ _ _ _ hyv]; rfl
   have HRV := Hid.mk RV
   clear RV hyv
   go_wp2_with fail
   have hr := put3 HRV.out.row (.bool false) (.slice none 0 0) (.slice none 0 0)
   refine bodyPost_ret (Zdp Tryz.results132 _ _ w.heap.size _ _ _ rfl hr) rfl ?_
   exact ⟨Zbp HRV.out.bel (Nat.le_refl _) _ _ _, rfl, by decide⟩
  ·rw [if_neg hmn] at hres
   subst hres
   have hmi : ¬ (m : Int) < n := by omega
   clear hrd
   go_upto_if 14 with fail
   refine gen_w (p := fun v => Code.wp _ _ _ _ v) (q := fun v => Rb w v /\ v.heap[w1.heap.size]? = some (.cells #[.bool y.l, .slice y.ba y.bn y.bc, .slice y.ia y.m y.ic] 109) /\ Hid (LiesP (fun b => w.heap.size + 1 <= b) v t y)) ⟨RB.alloc _, heap_alloc_new _ _, HY.out _⟩ ?_
   clear RB HY
   rintro v ⟨RV, hyv, HY⟩
   have x0 := RV.x0
   have x1 := RV.x1
   have x2 := RV.x2
   have xf := RV.xf
   have u0 : v.cell? ⟨w1.heap.size, 0, none⟩ = some (#[.bool y.l, .slice y.ba y.bn y.bc, .slice y.ia y.m y.ic][0]) := by rw [cell_of_row _ _ _ _ _ _ hyv]; rfl
   have u1 : v.cell? ⟨w1.heap.size, 1, none⟩ = some (#[.bool y.l, .slice y.ba y.bn y.bc, .slice y.ia y.m y.ic][1]) := by rw [cell_of_row _ _ _ _ _ _ hyv]; rfl
   have u2 : v.cell? ⟨w1.heap.size, 2, none⟩ = some (#[.bool y.l, .slice y.ba y.bn y.bc, .slice y.ia y.m y.ic][2]) := by rw [cell_of_row _ _ _ _ _ _ hyv]; rfl
   have HRV := Hid.mk RV
   clear RV hyv
   go_wp2_with fail
   have hr := put3 HRV.out.row (.bool y.l) (.slice y.ba y.bn y.bc) (.slice y.ia y.m y.ic)
   refine bodyPost_ret (Zdp Tryz.results132 _ _ w.heap.size _ _ _ rfl hr) rfl ?_
   refine ⟨Zbp HRV.out.bel (Nat.le_refl _) _ _ _, y, rfl, Zav (fun b (hb : w.heap.size + 1 <= b) hlt => ⟨Zb7 (by omega) _ _ _, by omega⟩) t y HY.out⟩
end Go.Proofs.YtefhepcplempkaaGreat
