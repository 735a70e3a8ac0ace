/- What the document's Key answers. -/
import Derived.Test.YtalhnnjpjaeakaaGreatG34
import Derived.Test.YtalhnnjpjaeakaaGreatG20
import Derived.Test.YtalhnnjpjaeakaaGreatG03
import Derived.Deep.RegionLaw
import Derived.Test.YtalhnnjpjaeakaaGreatG28
import Derived.Test.YtalhnnjpjaeakaaGreatG31
import Derived.Test.YtalhnnjpjaeakaaGreatG32
import Derived.Test.YtalhnnjpjaeakaaGreatG25
import Derived.Test.YtalhnnjpjaeakaaGreatG00
import Derived.Test.YtalhnnjpjaeakaaGreatG27
namespace Go.Proofs.YtalhnnjpjaeakaaGreat.Ni
open Go.RowKit
set_option linter.unusedVariables false
theorem step_app {ops : Array Oper} {o : Oper} {a : Act} {w : World} {K : Act → World → Prop} {Q : Exit → Act → World → Prop} {E : Prop} (hgd : o.guard = none) (s x : Operand)
    (ho : o.op = .call { callee := .builtin .append, args := #[s, x], argTypes := #[27, 27] }) (base : Nat) (v : Value) (bs : List Int) (hs : a.eval s = v) (hown : OwnB w base v bs)
    (ad : Addr) (m c : Nat) (news : List Int) (hx : a.eval x = .slice (some ad) m c) (hl : news.length = m) (hnews : ∀ j u, (news.map (Value.int .u8))[j]? = some u → w.cell? (ad.add j) = some u)
    (hbytes : bs.length + m ≤ 140737488355328) (hbase : base ≤ w.heap.size)
    (h : ∀ v' w', OwnB w' base v' (bs ++ news) → Below base w w' → K (a.put o.dst v') w') : if Region.wanted o (yielded ops a.tmps) = true then Oper.wp Tryz.prog o a w K Q else E := by
  have hw : Region.wanted o (yielded ops a.tmps) = true := by simp [Region.wanted, hgd]
  rw [if_pos hw]
  obtain ⟨i, hi, hz, hsz, hby⟩ := info5
  refine wp_append_own w s x 27 ho base 5 i (.int .u8 0) 1 1 Tryz.underlying27 hi hz hsz hby rfl (by decide) v bs.length (bs.map (Value.int .u8)) hs hown ad m c (news.map (Value.int .u8)) hx (by simpa using hl) hnews (B8_one2 _) (by unfold maxLen; omega) (by omega) hbase ?_
  intro v' w' h1 h2 h3
  refine h v' w' ?_ ((Below.refl _ _).grown h2 hbase hown.lt)
  unfold OwnB
  rw [List.length_append, hl, List.map_append]
  exact h1
theorem _root_.Go.Proofs.YtalhnnjpjaeakaaGreat.OwnB.drew {w : World} {base : Nat} {v : Value} {bs : List Int} (h : OwnB w base v bs) : OwnB w.drew base v bs := h.far fun i _ _ => rfl
set_option maxHeartbeats 2000000 in
theorem rkey_new (a : Option Addr) (n c : Nat) (p : List Int) (w : World) (h : Ag w a n c p) (hn : n ≤ 140737488355328) :
    Calls Tryz.prog 48 #[.slice a n c] w fun e w' => (∃ a' m' c', e = .returned (.tuple #[.slice a' m' c', .bool (keyP p).2]) ∧ Ag w' a' m' c' (keyP p).1 ∧ ∀ g off, a' = some ⟨g, off, none⟩ → 0 < m' → w.heap.size ≤ g) ∧ Below w.heap.size w w' := by
  have hl := h.l
  have hr := rright_any a n c p w h hn
  by_cases hrt : rightP p = true
  case neg =>
    rw [keyP_no (fun hh => hrt hh.1)]
    simp only
    rw [show rightP p = false from by simpa using hrt] at hr
    clear h hl hrt
    go_enter Tryz.func48, Tryz.ntmps48
    go_wp2_with fail
    refine hr.mono ?_
    rintro e w1 ⟨rfl, rfl⟩
    clear hr
    go_wp2_with fail
    go_ret2
    exact ⟨⟨none, 0, 0, rfl, ag_nil _, fun _ _ e => by cases e⟩, Below.refl _ _⟩
  rw [hrt] at hr
  by_cases he : n % 2 = 0
  case neg =>
    rw [keyP_no (fun hh => he (by rw [← hl]; exact hh.2))]
    simp only
    have hei : (n : Int) % 2 = 1 := by omega
    clear h hl he
    go_enter Tryz.func48, Tryz.ntmps48
    go_wp2_with fail
    refine hr.mono ?_
    rintro e w1 ⟨rfl, rfl⟩
    clear hr
    go_wp2_with fail
    go_ret2
    exact ⟨⟨none, 0, 0, rfl, ag_nil _, fun _ _ e => by cases e⟩, Below.refl _ _⟩
  rw [keyP_yes hrt (by omega)]
  simp only
  obtain ⟨m, hm⟩ : ∃ m, n / 2 = m := ⟨_, rfl⟩
  have HM : Hid (n = 2 * m) := Hid.mk (by omega)
  have HKL : Hid ((kk p).length = m) := Hid.mk (by rw [kk_len]; omega)
  have HKB := Hid.mk (kk_isB p h.b hrt)
  have HL := Hid.mk hl
  have HB := Hid.mk h.b
  have HRT := Hid.mk hrt
  have HC := Hid.mk (fun h0 => ag_head h h0)
  have hm3 : (n : Int) % 2 = 0 := by omega
  clear h hl hrt hm he
  go_enter Tryz.func48, Tryz.ntmps48
  go_wp2_with fail
  refine hr.mono ?_
  rintro e w1 ⟨rfl, rfl⟩
  clear hr
  go_wp2_with fail
  clear hm3
  go_loopw [4, 5] (fun q i v => ∃ j k : Nat, j = 2 * k ∧ j ≤ n ∧ i = .int .i64 j ∧ OwnB v w1.heap.size q ((kk p).take k) ∧ Below w1.heap.size w1 v) (fun _ i _ => n - (intOf i).toNat)
  case atStart => exact ⟨0, 0, rfl, by omega, rfl, ownB_nil _ _, Below.refl _ _⟩
  case round =>
    obtain ⟨j, k, hjk, hjn, rfl, hown, hb⟩ := hrel
    have HJ := Hid.mk hjk
    by_cases hlt : j < n
    · have hki : ((j : Int) + 1) < n := by have := HM.out; omega
      have hki0 : (j : Int) < n := by omega
      have hget := kk_get p k (by have := HL.out; have := HM.out; omega)
      have hts := take_snoc (b := kk p) (i := k) (by have := HKL.out; have := HM.out; omega)
      rw [hget] at hts
      obtain ⟨g, off, rfl, hnc, hcm, hcs⟩ := HC.out (by omega)
      unfold maxLen at hcm
      have hc1 := (hb.cell (p := ⟨g, off + (2 * k), none⟩) (block_lt_of_cell (hcs (2 * k) (by omega)))).trans (hcs (2 * k) (by omega))
      have hc2 := (hb.cell (p := ⟨g, off + (2 * k + 1), none⟩) (block_lt_of_cell (hcs (2 * k + 1) (by omega)))).trans (hcs (2 * k + 1) (by omega))
      have hx0 := (HB.out _ (getD_mem (l := p) (i := 2 * k) (by have := HL.out; omega))).1
      have hy0 := (HB.out _ (getD_mem (l := p) (i := 2 * k + 1) (by have := HL.out; omega))).1
      have hx1 := right_at HRT.out (i := 2 * k) (by have := HL.out; omega)
      have hy1 := right_at HRT.out (i := 2 * k + 1) (by have := HL.out; omega)
      generalize p.getD (2 * k) 0 = x at *
      generalize p.getD (2 * k + 1) 0 = y at *
      rw [← hjk] at hc1 hc2
      have ht2 : ((j : Int) + 1).toNat = j + 1 := by omega
      have ht3 : (0 : Int) ≤ (j : Int) + 1 := by omega
      have hw1 : IntKind.i64.wrap ((j : Int) + 1) = (j : Int) + 1 := by rw [IntKind.wrap_i64]; omega
      have hw2 : IntKind.u8.wrap (16 * x) = 16 * x := by rw [IntKind.wrap_u8]; omega
      have hw3 : IntKind.u8.wrap (16 * x + y) = 16 * x + y := by rw [IntKind.wrap_u8]; omega
      have HTS := Hid.mk hts
      have HTL : Hid (((kk p).take k).length = k) := Hid.mk (by rw [List.length_take, HKL.out]; have := HM.out; omega)
      have HO2 : Hid (∀ o : Obj, OwnB (wr.drew.alloc o) w1.heap.size u4 ((kk p).take k)) := Hid.mk fun o => OwnB.alloc hown.drew o
      have HBB := Hid.mk hb
      have HSZ := Hid.mk hb.size
      clear hts hown hb hget hcs hjk
      go_wp2_with fail
      go_region_law (refine step_app rfl (.tmp 22) (.tmp 34) rfl w1.heap.size _ ((kk p).take k) rfl (HO2.out _) ⟨wr.heap.size, 0, none⟩ 1 1 [16 * x + y] rfl rfl (one_new wr.drew _) (by have := HTL.out; have := HJ.out; omega) (by have := HSZ.out; simp; omega) ?_; intro v1 w2 o1 hb1; rw [← HTS.out] at o1; have HO3 := Hid.mk o1; have HB3 := Hid.mk hb1; clear o1 hb1)
      all_goals
        go_wp2_with fail
        refine ⟨⟨j + 2, k + 1, by have := HJ.out; omega, by omega, by simp, HO3.out, ?_⟩, by simp [intOf]; omega⟩
        exact (HBB.out.drew.alloc HSZ.out _).trans HB3.out
    · have hki : ¬ ((j : Int) + 1) < n := by omega
      have e : k = m := by have := HM.out; omega
      subst e
      rw [List.take_of_length_le (by rw [HKL.out]; exact Nat.le_refl _)] at hown
      obtain ⟨a', c', rfl, hag⟩ := OwnB.ag hown HKB.out
      have HN : Hid (∀ g off, a' = some ⟨g, off, none⟩ → 0 < k → w1.heap.size ≤ g) := Hid.mk (by
        rcases hown.2 with ⟨e, _⟩ | ⟨g', cap', cur, e, hg', _⟩
        · injection e with e1; rw [e1]; intro _ _ q; cases q
        · injection e with e1; rw [e1]; intro _ _ q; cases q; exact fun _ => hg')
      have HA := Hid.mk hag
      have HBB := Hid.mk hb
      clear hown hag hb hjk
      go_wp2_with fail
      go_ret2
      exact ⟨⟨a', _, c', rfl, HA.out, fun g off e h0 => HN.out g off e (by have := HA.out.l; have := HKL.out; omega)⟩, HBB.out⟩
end Go.Proofs.YtalhnnjpjaeakaaGreat.Ni
/- What laying pairs into a row of one's own leaves as it was; what is found of a tree. -/
namespace Go.Proofs.YtalhnnjpjaeakaaGreat
open Go.RowKit
open Tr
open Di (dref)
set_option linter.unusedVariables false
set_option maxRecDepth 100000
/-- Blocks that are not the row's. -/
def KF (v : Value) : Nat → Prop := fun b => v.ownBlock ≠ some b
structure Fg (w w' : World) (v v' : Value) : Prop where
  os : w'.os = w.os
  tape : w'.tape = w.tape
  output : w'.output = w.output
  size : w.heap.size ≤ w'.heap.size
  block : ∀ k, k < w.heap.size → KF v k → w'.heap[k]? = w.heap[k]?
  own : v'.ownBlock = v.ownBlock ∨ ∀ k, v'.ownBlock = some k → w.heap.size ≤ k
theorem Fg.of_below {w w' : World} {v : Value} (h : Bl w w') : Fg w w' v v := ⟨Below.os h, Below.tape h, Below.output h, h.size, fun k hk _ => Below.block h k hk, .inl rfl⟩
theorem Fg.keep {w w' : World} {v v' : Value} (h : Fg w w' v v') : Keep (KF v) (KF v') w w' := fun g hg hl => ⟨h.block g hl hg, by
  rcases h.own with e | e
  · unfold KF; rw [e]; exact hg
  · intro q; have := e g q; omega⟩
theorem Fg.trans {w u z : World} {a b c : Value} (h : Fg w u a b) (k : Fg u z b c) : Fg w z a c := by
  refine ⟨k.os.trans h.os, k.tape.trans h.tape, k.output.trans h.output, Nat.le_trans h.size k.size, fun i hi ha => ?_, ?_⟩
  · have q := h.keep i ha hi
    exact (k.block i (Nat.lt_of_lt_of_le hi h.size) q.2).trans q.1
  · rcases k.own with e | e
    · rcases h.own with e2 | e2
      · exact .inl (e.trans e2)
      · exact .inr (fun k hk => e2 k (e ▸ hk))
    · exact .inr (fun k hk => Nat.le_trans h.size (e k hk))
theorem Fg.bl {w w' : World} {v v' : Value} (h : Fg w w' v v') (hv : v.ownBlock = none) : Bl w w' := ⟨h.os, h.tape, h.output, h.size, fun k hk => h.block k hk (by rw [KF, hv]; simp)⟩
theorem Sk.keep {K L : Nat → Prop} {w w' : World} {a : Option Addr} {n c : Nat} {bs : List Int} (h : Sk K w a n c bs) (hk : Keep K L w w') : Sk L w' a n c bs := by
  refine ⟨ag_keep h.ag (fun g off e h0 hl => (hk g (h.k _ e h0) hl).1), fun x hx h0 => ?_⟩
  exact (hk _ (h.k x hx h0) (h.old hx h0)).2
theorem keep_bl {K : Nat → Prop} {w w' : World} (h : Bl w w') : Keep K K w w' := fun g hg hl => ⟨Below.block h g hl, hg⟩
theorem Rw.fg {w w' : World} {v v' : Value} {g : Nat} {cells : Array Value} {T : TypeId} (h : Rw g w cells T) (hf : Fg w w' v v') (hk : KF v g) : Rw g w' cells T ∧ KF v' g := by
  have q := hf.keep g hk (lt_of_get h)
  exact ⟨q.1.trans h, q.2⟩
/-- A row of byte strings that is not the row of pairs. -/
structure BtF (v : Value) (w : World) (a : Option Addr) (n : Nat) (M : List (List Int)) : Prop where
  bt : Bt (KF v) w a n M
  rk : ∀ x, a = some x → 0 < n → KF v x.block
theorem BtF.go {v : Value} {w w' : World} {a : Option Addr} {n : Nat} {M : List (List Int)} (h : BtF v w a n M) (hb : Below w.heap.size w w') : BtF v w' a n M := ⟨h.bt.go hb, h.rk⟩
theorem BtF.fg {v v' : Value} {w w' : World} {a : Option Addr} {n : Nat} {M : List (List Int)} (h : BtF v w a n M) (hf : Fg w w' v v') : BtF v' w' a n M := by
  have hr : ∀ j, j < n → ∀ g off x, a = some ⟨g, off, none⟩ → w.cell? ⟨g, off + j * 1, none⟩ = some x → w'.heap[g]? = w.heap[g]? ∧ KF v' g := fun j hj g off x ha hc => hf.keep g (h.rk _ ha (by omega)) (block_lt_of_cell hc)
  refine ⟨⟨h.bt.len, fun j hj => ?_⟩, fun x hx hn => ?_⟩
  · obtain ⟨g, off, a', n', c', h1, h2, h3⟩ := h.bt.row j hj
    exact ⟨g, off, a', n', c', h1, (World.cell?_of_block (hr j hj g off _ h1 h2).1).trans h2, h3.keep hf.keep⟩
  · obtain ⟨g, off, a', n', c', h1, h2, h3⟩ := h.bt.row 0 hn
    rw [h1] at hx; cases hx
    exact (hr 0 hn g off _ h1 h2).2
theorem OwnL.kf {X : Nat → Prop} {w : World} {base : Nat} {v : Value} {l : PList} (h : OwnL X w base v l) {b : Nat} (hb : w.heap.size ≤ b) : KF v b := fun e => by have := (h.own b e).2; omega
/-- An append of bytes: all blocks but the row's own stand. -/
theorem app_runQ {w : World} {base : Nat} {v : Value} {bs : List Int} (hown : OwnB w base v bs) {a : Option Addr} {m c : Nat} {news : List Int} (h : Ag w a m c news) (hb : bs.length + m ≤ 140737488355328) (hbase : base ≤ w.heap.size) :
    ∃ v' w', (∀ ty, (Builtin.append_ #[27, 27] ty #[v, .slice a m c]).run Tryz.prog w = .ok v' w') ∧ OwnB w' base v' (bs ++ news) ∧ Below base w w' ∧ ∀ k, k < w.heap.size → v.ownBlock ≠ some k → w'.heap[k]? = w.heap[k]? := by
  obtain ⟨i, hi, hz, hsz, hby⟩ := info5
  cases a with
  | none =>
    obtain ⟨rfl, rfl⟩ := h.nil rfl
    have hn0 : news = [] := List.eq_nil_of_length_eq_zero h.l
    subst hn0
    exact ⟨v, w, fun ty => run_append_owned_none w base 27 ty 5 i 1 Tryz.underlying27 hi v _ _ hown, by rw [List.append_nil]; exact hown, Below.refl _ _, fun _ _ _ => rfl⟩
  | some ad =>
    have hc : ∀ j u, (news.map (Value.int .u8))[j]? = some u → w.cell? (ad.add j) = some u := by
      rcases h.i.inB h.nil with ⟨h, _⟩ | ⟨ad', h1, _, h3⟩
      · cases h
      · cases h1; exact h3
    obtain ⟨v', w', h1, h2, h3, _⟩ := run_append_own w base 27 0 5 i (.int .u8 0) 1 1 Tryz.underlying27 hi hz hsz hby rfl (by decide) v bs.length (bs.map (Value.int .u8)) hown ad m c (news.map (Value.int .u8)) (by simpa using h.l) hc (B8_one2 _) (by unfold maxLen; omega) (by omega) hbase
    refine ⟨v', w', fun ty => h1, ?_, (Below.refl _ _).grown h3 hbase hown.lt, fun k hk hn => h3.block k hk (fun e => hn e.symm)⟩
    unfold OwnB
    rw [List.length_append, h.l, List.map_append]
    exact h2
theorem rw_one {w : World} {g : Nat} {x : Int} (hx : 0 ≤ x ∧ x < 256) (h : Rw g w #[.int .u8 x] 5) : Ag w (some ⟨g, 0, none⟩) 1 1 [x] := by
  refine ⟨.inr ⟨g, 0, rfl, rfl, by omega, by omega, by unfold maxLen; omega, fun j hj => ?_⟩, (fun e => by cases e), rfl, fun y hy => by rw [List.mem_singleton.1 hy]; exact hx⟩
  have : j = 0 := by simpa using hj
  subst this
  rw [cell_of_row _ _ _ _ _ _ h]; rfl
/-- Where the parts of a reference and of a node lie. -/
theorem r_at0 (y : RV) : y.cells.toArray[0]? = some (.int .i64 y.k) := by simp [RV.cells]
theorem r_at33 {y : RV} (h : y.d.length = 32) : y.cells.toArray[33]? = some (.slice y.a y.n y.c) := by
  rw [List.getElem?_toArray, RV.cells, List.getElem?_cons_succ, List.getElem?_append_right (by simp [h])]
  simp [h]
theorem r_dig {w : World} {g o : Nat} {y : RV} (h : w.rangeAt g o y.cells) (hl : y.d.length = 32) : w.rangeAt g (o + 1) (y.d.map (Value.int .u8)) := fun j v hj => by
  have hlt : j < y.d.length := by have := (List.getElem?_eq_some_iff.1 hj).1; simpa using this
  rw [show o + 1 + j = o + (j + 1) from by omega]
  refine h (j + 1) v ?_
  rw [RV.cells, List.getElem?_cons_succ, List.getElem?_append_left (by simpa using hlt)]
  exact hj
theorem rng_of_row {w : World} {g : Nat} {cs : List Value} {T : TypeId} (h : Rw g w cs.toArray T) : w.rangeAt g 0 cs := fun j v hj => by
  rw [cell_of_row _ _ _ _ _ _ h, Nat.zero_add, List.getElem?_toArray]; exact hj
theorem n_at0 (z : NV) : z.cells.toArray[0]? = some (.int .i64 z.k) := by simp [NV.cells]
theorem n_at1 (z : NV) : z.cells.toArray[1]? = some (.slice z.pa z.pn z.pc) := by simp [NV.cells]
theorem n_at2 (z : NV) : z.cells.toArray[2]? = some (.slice z.va z.vn z.vc) := by simp [NV.cells]
theorem n_at37 {z : NV} (h : z.c.d.length = 32) : z.cells.toArray[37]? = some (.slice z.ka z.kn z.kc) := by
  rw [List.getElem?_toArray, NV.cells, show (37 : Nat) = 34 + 1 + 1 + 1 from rfl, List.getElem?_cons_succ, List.getElem?_cons_succ, List.getElem?_cons_succ, List.getElem?_append_right (by rw [RV.len h]; omega)]
  simp [RV.len h]
theorem n_child {w : World} {g : Nat} {z : NV} {T : TypeId} (h : Rw g w z.cells.toArray T) (hl : z.c.d.length = 32) : w.rangeAt g 3 z.c.cells := fun j v hj => by
  have hlt : j < 34 := by have := (List.getElem?_eq_some_iff.1 hj).1; rw [RV.len hl] at this; exact this
  rw [cell_of_row _ _ _ _ _ _ h, List.getElem?_toArray, NV.cells, show 3 + j = j + 1 + 1 + 1 from by omega, List.getElem?_cons_succ, List.getElem?_cons_succ, List.getElem?_cons_succ, List.getElem?_append_left (by rw [RV.len hl]; exact hlt)]
  exact hj
/-- How a tree is named: inline, or by its digest, which is that of a node that is told. -/
def Nam (NS : List (List Int)) (r : PR) (t : Tr) (top : Bool) : Prop := (r.k = 1 ∧ r.i = encT t ∧ (encT t).length < 32) ∨ (r.k = 2 ∧ r.d = dref (encT t) ∧ encT t ∈ NS ∧ (top = true ∨ 32 ≤ (encT t).length))
theorem nam_of {NS : List (List Int)} {t : Tr} (h : ∀ b ∈ nm1 (encT t), b ∈ NS) : Nam NS (referP (encT t)) t false := by
  unfold referP
  by_cases hl : (encT t).length < 32
  · rw [if_pos hl]; exact .inl ⟨rfl, rfl, hl⟩
  · rw [if_neg hl]
    refine .inr ⟨rfl, rfl, h _ ?_, .inr (by omega)⟩
    unfold nm1; rw [if_neg hl]; simp
/-- What found leaves. -/
def RFd (w : World) (vL : Value) (base : Nat) (L : PList) : Value → World → Prop := fun u w' => ∃ vM, u = .tuple #[vM, .bool true] ∧ OwnL (fun _ => True) w' base vM L ∧ Fg w w' vL vM
structure Nds (NS : List (List Int)) : Prop where
  u : Unl NS NS.length
  s : ∀ b ∈ NS, b.length ≤ 65540
  n : NS.length ≤ 7600000000002
def FoS (NS : List (List Int)) (t : Tr) : Prop := ∀ {w : World} {base : Nat} {vL : Value} {l0 : PList} {aN : Option Addr} {nN cN : Nat} {a : Option Addr} {n c : Nat} {p : List Int} {y : RV} {r : PR} {top ex : Bool} {B : Nat},
  OwnL (fun _ => True) w base vL l0 → base ≤ w.heap.size → BtF vL w aN nN NS → Sk (KF vL) w a n c p → RefAt (KF vL) w y r → Nam NS r t top → (ex = true → t.isBr = true) → Tr.Ok B t → B ≤ 64 → Vb t → Kys p t → (∀ b ∈ nmd t, b ∈ NS) → l0.length + (entsF p t).length ≤ 2900000000000 →
  Calls Tryz.prog 26 #[vL, .slice aN nN cN, .agg y.cells.toArray, .slice a n c, .bool top, .bool ex] w fun e w' => ∃ u, e = .returned u ∧ RFd w vL base (l0 ++ entsF p t) u w'
/-- While a node's parts are gone over. -/
structure Fi (NS : List (List Int)) (w : World) (base : Nat) (vL : Value) (aN : Option Addr) (nN : Nat) (ah : Option Addr) (nh ch : Nat) (here : List Int) (z : NV) (N : PN) (gN : Nat) (vM : Value) (L : PList) (v : World) : Prop where
  o : OwnL (fun _ => True) v base vM L
  b : base ≤ v.heap.size
  g : Fg w v vL vM
  ns : BtF vM v aN nN NS
  h : Sk (KF vM) v ah nh ch here
  nd : NodeAt (KF vM) v z N
  r : Rw gN v z.cells.toArray 92
  k : KF vM gN
section
variable {NS : List (List Int)} {w : World} {base : Nat} {vL : Value} {aN : Option Addr} {nN : Nat} {ah : Option Addr} {nh ch : Nat} {here : List Int} {z : NV} {N : PN} {gN : Nat} {vM : Value} {L : PList} {v : World}
theorem Fi.fg (h : Fi NS w base vL aN nN ah nh ch here z N gN vM L v) {vM' : Value} {L' : PList} {v' : World} (hf : Fg v v' vM vM') (ho : OwnL (fun _ => True) v' base vM' L') : Fi NS w base vL aN nN ah nh ch here z N gN vM' L' v' :=
  ⟨ho, Nat.le_trans h.b hf.size, h.g.trans hf, h.ns.fg hf, h.h.keep hf.keep, h.nd.go hf.keep, (h.r.fg hf h.k).1, (h.r.fg hf h.k).2⟩
theorem Fi.go (h : Fi NS w base vL aN nN ah nh ch here z N gN vM L v) {v' : World} (hb : Below v.heap.size v v') : Fi NS w base vL aN nN ah nh ch here z N gN vM L v' := h.fg (Fg.of_below hb) (h.o.far hb)
end
theorem appL {w : World} {base : Nat} {v : Value} {l : PList} (hown : OwnL (fun _ => True) w base v l) {K : Nat → Prop} {a : Option Addr} {m c : Nat} {vs' : List (Value × Value)} {l' : PList} (h : PAt K w a m c vs' l') (hK : ∀ b, K b → KF v b) (hlen : l.length + m ≤ 2900000000000) (hbase : base ≤ w.heap.size) :
    ∃ v' w', (∀ ty, (Builtin.append_ #[26, 26] ty #[v, .slice a m c]).run Tryz.prog w = .ok v' w') ∧ OwnL (fun _ => True) w' base v' (l ++ l') ∧ Fg w w' v v' := by
  obtain ⟨v', w', h1, h2, h3, h4, h5⟩ := appQ hown h (fun b hb => ⟨hK b hb, trivial⟩) hlen hbase
  exact ⟨v', w', h1, h2, ⟨h3.os, h3.tape, h3.output, h3.size, h4, h5.imp id (fun e k hk => by rw [e] at hk; cases hk; exact Nat.le_refl _)⟩⟩
/-- The place of a byte string among others. -/
theorem idx_of {M : List (List Int)} {b : List Int} (h : b ∈ M) : ∃ i, i < M.length ∧ M.getD i [] = b := by
  obtain ⟨i, hi, e⟩ := List.mem_iff_getElem.1 h
  exact ⟨i, hi, by rw [List.getD, List.getElem?_eq_getElem hi]; exact e⟩
theorem Unl.one {M : List (List Int)} (h : Unl M M.length) {i j : Nat} (hi : i < M.length) (hj : j < M.length) (e : dref (M.getD i []) = dref (M.getD j [])) : i = j := by
  rcases Nat.lt_trichotomy i j with q | q | q
  · exact absurd e.symm (h j hj i q)
  · exact q
  · exact absurd e (h i hi j q)
end Go.Proofs.YtalhnnjpjaeakaaGreat
/- What is found of a tree, from a name on. -/
namespace Go.Proofs.YtalhnnjpjaeakaaGreat
open Go.RowKit
open Tr
open Di (dref)
set_option linter.unusedVariables false
set_option maxRecDepth 100000
theorem ag_sk {K : Nat → Prop} {w : World} {a : Option Addr} {n c : Nat} {bs : List Int} (h : Ag w a n c bs) (hk : ∀ g off, a = some ⟨g, off, none⟩ → 0 < n → K g) : Sk K w a n c bs := ⟨h, fun x hx h0 => by
  obtain ⟨g, off, e, _⟩ := ag_head h h0
  rw [e] at hx; cases hx
  exact hk g off e h0⟩
theorem AgK.sk {K : Nat → Prop} {w : World} {a : Option Addr} {n c : Nat} {bs : List Int} (h : AgK K w a n c bs) : Sk K w a n c bs := ag_sk h.1 h.2.2
theorem nodeP_br {t : Tr} (h : t.isBr = true) : (nodeP t).k = 3 := by
  cases t with
  | br k x => rfl
  | no => cases h
  | leaf p x => cases h
  | ext p c => cases h
def fK (p : List Int) (k : Nat → Tr) (j : Nat) : PList := (List.range j).flatMap fun i => if (k i).isNo then [] else entsF (p ++ [((i : Nat) : Int)]) (k i)
theorem fK_succ (p : List Int) (k : Nat → Tr) (j : Nat) : fK p k (j + 1) = fK p k j ++ if (k j).isNo then [] else entsF (p ++ [((j : Nat) : Int)]) (k j) := by simp [fK, List.range_succ, List.flatMap_append]
theorem fK_mono (p : List Int) (k : Nat → Tr) (i : Nat) : ∀ d, (fK p k i).length ≤ (fK p k (i + d)).length
  | 0 => Nat.le_refl _
  | d + 1 => by rw [← Nat.add_assoc, fK_succ, List.length_append]; have := fK_mono p k i d; omega
def valL (here x : List Int) : PList := if x = [] then [] else [((Ni.keyP here).1, x)]
theorem entsF_br (p x : List Int) (k : Nat → Tr) : entsF p (br k x) = valL p x ++ fK p k 16 := rfl
theorem nmd_kid {k : Nat → Tr} {x : List Int} {i : Nat} (hi : i < 16) (hno : (k i).isNo = false) : ∀ b, b ∈ nmd (k i) ++ nm1 (encT (k i)) → b ∈ nmd (br k x) := fun b hb => by
  simp only [nmd, List.mem_flatMap, List.mem_range]
  exact ⟨i, hi, by rw [if_neg (by rw [hno]; simp)]; exact hb⟩
set_option maxHeartbeats 8000000 in
theorem found_step {NS : List (List Int)} (hNd : Nds NS) {t : Tr} (hS : ∀ q c, t = ext q c → FoS NS c) (hT : ∀ k x, t = br k x → ∀ i, i < 16 → k i = no ∨ FoS NS (k i)) {w : World} {base : Nat} {vL : Value} {l0 : PList} {aN : Option Addr} {nN cN : Nat} {a : Option Addr} {n c : Nat} {p : List Int} {y : RV} {r : PR} {top ex : Bool} {B : Nat} (hO : OwnL (fun _ => True) w base vL l0) (hbase : base ≤ w.heap.size) (hN : BtF vL w aN nN NS) (hp : Sk (KF vL) w a n c p) (hy : RefAt (KF vL) w y r) (hNam : Nam NS r t top) (hEx : ex = true → t.isBr = true) (hOk : Tr.Ok B t) (h64 : B ≤ 64) (hVb : Vb t) (hK : Kys p t) (hM : ∀ b ∈ nmd t, b ∈ NS) (hL : l0.length + (entsF p t).length ≤ 2900000000000) :
    Calls Tryz.prog 26 #[vL, .slice aN nN cN, .agg y.cells.toArray, .slice a n c, .bool top, .bool ex] w fun e w' => ∃ u, e = .returned u ∧ RFd w vL base (l0 ++ entsF p t) u w' := by
  have hB := Bl.refl w
  have hyl := hy.len
  have lp := hp.len
  have hne := hOk.ne
  have h64p := hK.len hOk
  have hW := wn_all t hOk h64 hVb
  have he := encT_node hne
  obtain ⟨hi1, hi2, hi3⟩ := hW.isB
  rw [← he] at hi1 hi2 hi3
  clear hW he
  refine cw_enter Tryz.func26 rfl 154 rfl ?_
  show CW _ _ _ _ _ _ _ [(0, vL), (1, .slice aN nN cN), (2, .agg y.cells.toArray), (3, .slice a n c), (4, .bool top), (5, .bool ex)] _
  refine cw_seq ?_
  refine cw_region ?_
  refine rw_new 8 y.cells.toArray 62 (fun _ => by kernel_rfl) (fun _ => by kernel_rfl) ?_
  intro w1 gR hnR
  have hW1 : Bl w w1 := hnR.below
  have hR : Rw gR w1 y.cells.toArray 62 := hnR.row
  replace hO := hO.far hnR.below
  replace hN := hN.go hnR.below
  replace hp := hp.go hnR.below
  replace hy := hy.go (keep_bl hnR.below)
  have hbs : base ≤ w1.heap.size := Nat.le_trans hbase hW1.size
  replace hB := Bl.refl w1
  clear hnR
  refine rp 12 (.slice none 0 0) ?_
  refine rp 13 (.bool false) ?_
  refine rw_nil ?_
  refine nw_then ?_
  refine cw_seq ?_
  refine cw_region ?_
  refine rp 24 (.pointer (some ⟨gR, 33, none⟩)) ?_
  refine rv 25 (.slice y.a y.n y.c) (fun _ => ol_cell 27 _ ⟨gR, 33, none⟩ _ _ rfl (by kernel_rfl) (by rw [cell_of_row _ _ _ _ _ _ (hR.go hB)]; exact r_at33 hyl) Tryz.underlying27 rfl) ?_
  refine rp 14 (.slice y.a y.n y.c) ?_
  refine rw_nil ?_
  refine nw_then ?_
  refine cw_seq ?_
  refine cw_seq ?_
  refine cw_region ?_
  refine rp 26 (.pointer (some ⟨gR, 0, none⟩)) ?_
  refine rv 27 (.int .i64 y.k) (fun _ => ol_cell 3 _ ⟨gR, 0, none⟩ _ _ rfl (by kernel_rfl) (by rw [cell_of_row _ _ _ _ _ _ (hR.go hB)]; exact r_at0 y) Tryz.underlying3 rfl) ?_
  refine rp 28 (.bool ((y.k : Int) == (2 : Int))) ?_
  refine rw_nil ?_
  refine nw_then ?_
  refine cw_cut (fun E v => ∃ ab nb cb, E = [(14, .slice ab nb cb), (0, vL), (1, .slice aN nN cN), (3, .slice a n c), (4, .bool top), (5, .bool ex), (8, .pointer (some ⟨gR, 0, none⟩))] ∧ Bl w1 v ∧ Sk (KF vL) v ab nb cb (encT t)) ?_ ?_
  · skip
    rcases hNam with ⟨hk1, hj1, hl1⟩ | ⟨hk2, hd2, hm2, ht2⟩
    · skip
      rw [show ((y.k : Int) == (2 : Int)) = false from beq_eq_false_iff_ne.2 (by rw [hy.1, hk1]; decide)]
      refine cw_cond_f (fun _ => by kernel_rfl) ?_
      refine cw_skip ?_
      exact nw_cut [(14, .slice y.a y.n y.c), (0, vL), (1, .slice aN nN cN), (3, .slice a n c), (4, .bool top), (5, .bool ex), (8, .pointer (some ⟨gR, 0, none⟩))] (by exact ⟨fun _ => by kernel_rfl, ⟨fun _ => by kernel_rfl, ⟨fun _ => by kernel_rfl, ⟨fun _ => by kernel_rfl, ⟨fun _ => by kernel_rfl, ⟨fun _ => by kernel_rfl, ⟨fun _ => by kernel_rfl, trivial⟩⟩⟩⟩⟩⟩⟩) ⟨y.a, y.n, y.c, rfl, hB, (hj1 ▸ hy.2.2.2.2.sk).go hB⟩
    · skip
      rw [show ((y.k : Int) == (2 : Int)) = true from beq_iff_eq.2 (by rw [hy.1, hk2])]
      refine cw_cond_t (fun _ => by kernel_rfl) ?_
      obtain ⟨i0, hi0, e0⟩ := idx_of hm2
      have hyd : y.d = dref (encT t) := hy.2.1.trans hd2
      refine cw_seq ?_
      refine cw_region ?_
      refine rp 29 (.slice aN nN cN) ?_
      refine rp 30 (.int .i64 nN) ?_
      refine rp 31 (.int .i64 0) ?_
      refine rw_nil ?_
      refine nw_then ?_
      refine cw_block ?_
      refine cw_loop (X := Nat × Option Addr × Nat × Nat) (fun q => [(31, .int .i64 ((q.1 : Nat) : Int)), (30, .int .i64 nN), (14, .slice q.2.1 q.2.2.1 q.2.2.2), (0, vL), (1, .slice aN nN cN), (3, .slice a n c), (4, .bool top), (5, .bool ex), (8, .pointer (some ⟨gR, 0, none⟩))]) (fun q v => Bl w1 v ∧ q.1 ≤ nN ∧ (i0 < q.1 → Sk (KF vL) v q.2.1 q.2.2.1 q.2.2.2 (encT t))) (fun q => nN - q.1) (0, y.a, y.n, y.c) (by exact ⟨fun _ => by kernel_rfl, ⟨fun _ => by kernel_rfl, ⟨fun _ => by kernel_rfl, ⟨fun _ => by kernel_rfl, ⟨fun _ => by kernel_rfl, ⟨fun _ => by kernel_rfl, ⟨fun _ => by kernel_rfl, ⟨fun _ => by kernel_rfl, ⟨fun _ => by kernel_rfl, trivial⟩⟩⟩⟩⟩⟩⟩⟩⟩) ⟨hB, Nat.zero_le _, fun h => absurd h (Nat.not_lt_zero _)⟩ ?_
      clear hB
      rintro ⟨j, ab, nb, cb⟩ v ⟨hB, hj, hI⟩
      simp only at hB hj hI
      show CW _ _ _ _ _ _ _ [(31, .int .i64 ((j : Nat) : Int)), (30, .int .i64 nN), (14, .slice ab nb cb), (0, vL), (1, .slice aN nN cN), (3, .slice a n c), (4, .bool top), (5, .bool ex), (8, .pointer (some ⟨gR, 0, none⟩))] _
      by_cases hlt : j < nN
      · skip
        obtain ⟨g1, o1, a1, n1, c1, e1, hc1, hs1⟩ := hN.bt.row j hlt
        subst e1
        have hlN := hN.bt.len
        have hNn := hNd.n
        have hm1 := hNd.s (NS.getD j []) (by rw [List.getD, List.getElem?_eq_getElem (by omega)]; exact List.getElem_mem _)
        have hl1 := hs1.len
        obtain ⟨x, exx⟩ : ∃ x, NS.getD j [] = x := ⟨_, rfl⟩
        rw [exx] at hs1 hm1 hl1
        have hV := Bl.refl v
        refine cw_seq ?_
        refine cw_region ?_
        refine rv 32 (.bool true) (fun _ => ol_conv (v := .bool (decide (((j : Nat) : Int) < (nN : Int)))) (by kernel_rfl) (congrArg Value.bool (decide_eq_true (by omega)))) ?_
        refine rw_nil ?_
        refine nw_then ?_
        refine cw_seq ?_
        refine cw_cond_t (fun _ => by kernel_rfl) ?_
        refine cw_skip ?_
        refine nw_then ?_
        refine cw_seq ?_
        refine cw_block ?_
        refine cw_seq ?_
        refine cw_region ?_
        refine rp 33 (.int .i64 ((j : Nat) : Int)) ?_
        refine rp 15 (.int .i64 ((j : Nat) : Int)) ?_
        refine rw_nil ?_
        refine nw_then ?_
        refine cw_seq ?_
        refine cw_draw (fun v => Bl w1 v) (by kernel_rfl) (hB.drew) ?_
        replace hB := hB.drew
        replace hV := hV.drew
        refine dt 0 34 (.slice (some ⟨g1, o1, none⟩) nN cN) (fun v hv _ => by kernel_rfl) hB ?_
        refine dt 1 35 (.int .i64 ((j : Nat) : Int)) (fun v hv _ => by kernel_rfl) hB ?_
        refine dt 2 36 (.pointer (some ⟨g1, o1 + j * 1, none⟩)) (fun v hv _ => ol_index 41 _ _ g1 o1 j nN cN 1 27 rfl (by kernel_rfl) (by kernel_rfl) hlt Tryz.underlying41 (by kernel_rfl)) hB ?_
        refine dt 3 37 (.slice a1 n1 c1) (fun v hv _ => ol_cell 27 _ _ _ _ rfl (by kernel_rfl) ((Below.cell hv (block_lt_of_cell hc1)).trans hc1) Tryz.underlying27 rfl) hB ?_
        refine dt 5 39 (.pointer (some ⟨gR, 1, none⟩)) (fun v hv _ => by kernel_rfl) hB ?_
        refine dt 6 40 (.agg (B8 y.d)) (fun v hv _ => ol_mid 49 _ gR 1 (y.d.map (Value.int .u8)) _ rfl (by kernel_rfl) (r_dig (rng_of_row (hR.go hv)) hyl) Tryz.underlying49 rfl (by rw [infoD, List.length_map, hyl])) hB ?_
        refine dw_ready [4] (by kernel_rfl) (by simp) ?_
        refine ar_call 4 38 46 #[.slice a1 n1 c1] rfl (fun _ => by kernel_rfl) (fun _ => by kernel_rfl) (R := fun u w' => u = .agg (B8 (dref x)) ∧ Bl (v.drew) w') ((rdof_any a1 n1 c1 x (v.drew) (hs1.go hB).ag (by omega)).mono (fun e w' h => ⟨_, h.1, rfl, h.2⟩)) (fun u w' h => hB.go h.2) ?_ ar_nil
        rintro _ u1 ⟨rfl, hb1⟩
        replace hB := hB.go hb1
        replace hV := hV.go hb1
        refine dt 7 41 (.bool (dref x == y.d)) (fun v hv _ => ol_eqDD rfl (by kernel_rfl) (by kernel_rfl) (dref_len _) hyl) hB ?_
        refine dw_done (by kernel_rfl) ?_
        refine nw_then ?_
        by_cases hxy : dref x = y.d
        · skip
          rw [show (dref x == y.d) = true from by simp [hxy]]
          have hji : i0 = j := hNd.u.one hi0 (by omega) (by rw [e0, exx, hxy, hyd])
          have hxe : x = encT t := by rw [← exx, ← hji, e0]
          refine cw_cond_t (fun _ => by kernel_rfl) ?_
          refine cw_region ?_
          refine rp 42 (.slice (some ⟨g1, o1, none⟩) nN cN) ?_
          refine rp 43 (.int .i64 ((j : Nat) : Int)) ?_
          refine rv 44 (.pointer (some ⟨g1, o1 + j * 1, none⟩)) (fun _ => ol_index 41 _ _ g1 o1 j nN cN 1 27 rfl (by kernel_rfl) (by kernel_rfl) hlt Tryz.underlying41 (by kernel_rfl)) ?_
          refine rv 45 (.slice a1 n1 c1) (fun _ => ol_cell 27 _ _ _ _ rfl (by kernel_rfl) ((Below.cell hB (block_lt_of_cell hc1)).trans hc1) Tryz.underlying27 rfl) ?_
          refine rp 14 (.slice a1 n1 c1) ?_
          refine rw_nil ?_
          refine nw_block ?_
          refine nw_then ?_
          refine cw_region ?_
          refine rv 46 (.int .i64 (((j : Nat) : Int) + 1)) (fun _ => ol_conv (v := .int .i64 (IntKind.i64.wrap (((j : Nat) : Int) + 1))) (by kernel_rfl) (congrArg (Value.int .i64) (wrap64 (by omega) (by omega)))) ?_
          refine rp 31 (.int .i64 (((j : Nat) : Int) + 1)) ?_
          refine rw_nil ?_
          exact nw_round (E := fun q => [(31, .int .i64 ((q.1 : Nat) : Int)), (30, .int .i64 nN), (14, .slice q.2.1 q.2.2.1 q.2.2.2), (0, vL), (1, .slice (some ⟨g1, o1, none⟩) nN cN), (3, .slice a n c), (4, .bool top), (5, .bool ex), (8, .pointer (some ⟨gR, 0, none⟩))]) (R := fun q v => Bl w1 v ∧ q.1 ≤ nN ∧ (i0 < q.1 → Sk (KF vL) v q.2.1 q.2.2.1 q.2.2.2 (encT t))) (μ := fun q => nN - q.1) (x := (j, ab, nb, cb)) (j + 1, a1, n1, c1) (by exact ⟨fun _ => by kernel_rfl, ⟨fun _ => by kernel_rfl, ⟨fun _ => by kernel_rfl, ⟨fun _ => by kernel_rfl, ⟨fun _ => by kernel_rfl, ⟨fun _ => by kernel_rfl, ⟨fun _ => by kernel_rfl, ⟨fun _ => by kernel_rfl, ⟨fun _ => by kernel_rfl, trivial⟩⟩⟩⟩⟩⟩⟩⟩⟩) ⟨hB, by simp only; omega, fun _ => by rw [← hxe]; exact hs1.go hB⟩ (by show nN - (j + 1) < nN - j; omega)
        · skip
          rw [show (dref x == y.d) = false from by simp [hxy]]
          have hji : i0 ≠ j := fun e => hxy (by rw [← exx, ← e, e0, hyd])
          refine cw_cond_f (fun _ => by kernel_rfl) ?_
          refine cw_skip ?_
          refine nw_block ?_
          refine nw_then ?_
          refine cw_region ?_
          refine rv 46 (.int .i64 (((j : Nat) : Int) + 1)) (fun _ => ol_conv (v := .int .i64 (IntKind.i64.wrap (((j : Nat) : Int) + 1))) (by kernel_rfl) (congrArg (Value.int .i64) (wrap64 (by omega) (by omega)))) ?_
          refine rp 31 (.int .i64 (((j : Nat) : Int) + 1)) ?_
          refine rw_nil ?_
          exact nw_round (E := fun q => [(31, .int .i64 ((q.1 : Nat) : Int)), (30, .int .i64 nN), (14, .slice q.2.1 q.2.2.1 q.2.2.2), (0, vL), (1, .slice (some ⟨g1, o1, none⟩) nN cN), (3, .slice a n c), (4, .bool top), (5, .bool ex), (8, .pointer (some ⟨gR, 0, none⟩))]) (R := fun q v => Bl w1 v ∧ q.1 ≤ nN ∧ (i0 < q.1 → Sk (KF vL) v q.2.1 q.2.2.1 q.2.2.2 (encT t))) (μ := fun q => nN - q.1) (x := (j, ab, nb, cb)) (j + 1, ab, nb, cb) (by exact ⟨fun _ => by kernel_rfl, ⟨fun _ => by kernel_rfl, ⟨fun _ => by kernel_rfl, ⟨fun _ => by kernel_rfl, ⟨fun _ => by kernel_rfl, ⟨fun _ => by kernel_rfl, ⟨fun _ => by kernel_rfl, ⟨fun _ => by kernel_rfl, ⟨fun _ => by kernel_rfl, trivial⟩⟩⟩⟩⟩⟩⟩⟩⟩) ⟨hB, by simp only; omega, fun h => (hI (by simp only at h; omega)).go hV⟩ (by show nN - (j + 1) < nN - j; omega)
      obtain rfl : nN = j := by omega
      refine cw_seq ?_
      refine cw_region ?_
      refine rv 32 (.bool false) (fun _ => ol_conv (v := .bool (decide (((nN : Nat) : Int) < (nN : Int)))) (by kernel_rfl) (congrArg Value.bool (decide_eq_false (by omega)))) ?_
      refine rw_nil ?_
      refine nw_then ?_
      refine cw_seq ?_
      refine cw_cond_f (fun _ => by kernel_rfl) ?_
      refine cw_exit ?_
      refine nw_exit_then ?_
      refine nw_exit_then ?_
      refine nw_exit_here ?_
      exact nw_cut [(14, .slice ab nb cb), (0, vL), (1, .slice aN nN cN), (3, .slice a n c), (4, .bool top), (5, .bool ex), (8, .pointer (some ⟨gR, 0, none⟩))] (by exact ⟨fun _ => by kernel_rfl, ⟨fun _ => by kernel_rfl, ⟨fun _ => by kernel_rfl, ⟨fun _ => by kernel_rfl, ⟨fun _ => by kernel_rfl, ⟨fun _ => by kernel_rfl, ⟨fun _ => by kernel_rfl, trivial⟩⟩⟩⟩⟩⟩⟩) ⟨ab, nb, cb, rfl, hB, hI (by have := hN.bt.len; omega)⟩
  rintro _ v ⟨ab, nb, cb, rfl, hB, hb⟩
  refine nw_then ?_
  refine cw_seq ?_
  refine cw_region ?_
  refine rp 48 (.slice ab nb cb) ?_
  have lb := hb.len
  have hBv := hB
  refine rw_call 49 47 #[.slice ab nb cb] (fun _ => by kernel_rfl) (fun _ => by kernel_rfl) (R := fun u w' => (∃ z : NV, u = .tuple #[.agg z.cells.toArray, .int .i64 0] ∧ NodeAt (Own v.heap.size w') w' z (nodeP t)) ∧ Bl v w') ((ndecode_any (encT t) ab nb cb v hb.ag (by omega)).mono (fun e w' h => by
        rw [hi2] at h
        obtain ⟨h1, z, h2, h3⟩ := h
        exact ⟨_, h2, ⟨z, rfl, h3⟩, h1⟩)) ?_
  rintro _ u2 ⟨⟨z, rfl, hz⟩, hb2⟩
  replace hz := hz.go (L := KF vL) (fun g hg hl => ⟨rfl, hO.kf (by have := hg.1; have := hBv.size; omega)⟩)
  have hzl := hz.c.len
  refine rp 47 (.tuple #[.agg z.cells.toArray, .int .i64 0]) ?_
  refine rp 50 (.agg z.cells.toArray) ?_
  refine rp 51 (.int .i64 0) ?_
  refine rw_new 16 nz.cells.toArray 92 (fun _ => by kernel_rfl) (fun _ => by kernel_rfl) ?_
  intro w3 gN hnN
  have hrN : Rw gN w3 nz.cells.toArray 92 := hnN.row
  refine rw_put gN z.cells.toArray (fun _ => by kernel_rfl) (fun _ => ol_store 92 _ _ _ _ _ _ rfl (by kernel_rfl) (by kernel_rfl) hrN (by rw [infoN, n_size hzl]) (by rw [n_size hzl]; rfl) (n_ones _)) ?_
  intro w4 hpN
  have hrZ : Rw gN w4 z.cells.toArray 92 := hpN.row hrN
  have hb4 : Bl u2 w4 := hpN.below hnN.below (by rw [hnN.hg]; exact Nat.le_refl _) hnN.below.size
  replace hz := hz.go (keep_bl hb4)
  replace hB : Bl w1 w4 := (hBv.go hb2).go hb4
  have hKN : KF vL gN := hO.kf (by rw [hnN.hg]; have := hBv.size; have := hb2.size; omega)
  clear hpN hrN hnN hb4 hb2
  refine rp 17 (.int .i64 0) ?_
  refine rw_nil ?_
  refine nw_then ?_
  refine cw_seq ?_
  refine cw_seq ?_
  refine cw_cut (fun E v => E = [(79, .bool false), (0, vL), (1, .slice aN nN cN), (3, .slice a n c), (16, .pointer (some ⟨gN, 0, none⟩))] ∧ w4 = v) ?_ ?_
  · skip
    cases top with
    | true =>
      cases ex with
      | true =>
        have hz3 : z.k = 3 := by rw [hz.k]; exact nodeP_br (hEx rfl)
        refine cw_region ?_
        refine rp 52 (.int .i64 0) ?_
        refine rp 53 (.bool false) ?_
        refine rp 54 (.bool false) ?_
        refine rp 55 (.slice a n c) ?_
        refine rp 56 (.int .i64 n) ?_
        refine rv 57 (.bool false) (fun _ => ol_conv (v := .bool (decide ((n : Int) > (64 : Int)))) (by kernel_rfl) (congrArg Value.bool (decide_eq_false (by omega)))) ?_
        refine rp 58 (.bool false) ?_
        refine rp 59 (.bool false) ?_
        refine rp 60 (.bool true) ?_
        refine rp 61 (.bool false) ?_
        refine rp 62 (.bool false) ?_
        refine rw_off 63 (fun _ => by kernel_rfl) ?_
        refine rw_off 64 (fun _ => by kernel_rfl) ?_
        refine rw_off 65 (fun _ => by kernel_rfl) ?_
        refine rw_off 66 (fun _ => by kernel_rfl) ?_
        refine rw_off 67 (fun _ => by kernel_rfl) ?_
        refine rw_off 68 (fun _ => by kernel_rfl) ?_
        refine rw_off 69 (fun _ => by kernel_rfl) ?_
        refine rp 70 (.bool false) ?_
        refine rp 71 (.bool false) ?_
        refine rp 72 (.bool false) ?_
        refine rp 73 (.bool true) ?_
        refine rp 74 (.bool true) ?_
        refine rp 75 (.pointer (some ⟨gN, 0, none⟩)) ?_
        refine rv 76 (.int .i64 z.k) (fun _ => ol_cell 3 _ ⟨gN, 0, none⟩ _ _ rfl (by kernel_rfl) (by rw [cell_of_row _ _ _ _ _ _ hrZ]; exact n_at0 z) Tryz.underlying3 rfl) ?_
        refine rv 77 (.bool false) (fun _ => ol_conv (v := .bool (!((z.k : Int) == (3 : Int)))) (by kernel_rfl) (congrArg Value.bool (by rw [hz3]; rfl))) ?_
        refine rp 78 (.bool false) ?_
        refine rp 79 (.bool false) ?_
        refine rw_nil ?_
        exact nw_cut [(79, .bool false), (0, vL), (1, .slice aN nN cN), (3, .slice a n c), (16, .pointer (some ⟨gN, 0, none⟩))] (by exact ⟨fun _ => by kernel_rfl, ⟨fun _ => by kernel_rfl, ⟨fun _ => by kernel_rfl, ⟨fun _ => by kernel_rfl, ⟨fun _ => by kernel_rfl, trivial⟩⟩⟩⟩⟩) ⟨rfl, rfl⟩
      | false =>
        refine cw_region ?_
        refine rp 52 (.int .i64 0) ?_
        refine rp 53 (.bool false) ?_
        refine rp 54 (.bool false) ?_
        refine rp 55 (.slice a n c) ?_
        refine rp 56 (.int .i64 n) ?_
        refine rv 57 (.bool false) (fun _ => ol_conv (v := .bool (decide ((n : Int) > (64 : Int)))) (by kernel_rfl) (congrArg Value.bool (decide_eq_false (by omega)))) ?_
        refine rp 58 (.bool false) ?_
        refine rp 59 (.bool false) ?_
        refine rp 60 (.bool true) ?_
        refine rp 61 (.bool false) ?_
        refine rp 62 (.bool false) ?_
        refine rw_off 63 (fun _ => by kernel_rfl) ?_
        refine rw_off 64 (fun _ => by kernel_rfl) ?_
        refine rw_off 65 (fun _ => by kernel_rfl) ?_
        refine rw_off 66 (fun _ => by kernel_rfl) ?_
        refine rw_off 67 (fun _ => by kernel_rfl) ?_
        refine rw_off 68 (fun _ => by kernel_rfl) ?_
        refine rw_off 69 (fun _ => by kernel_rfl) ?_
        refine rp 70 (.bool false) ?_
        refine rp 71 (.bool false) ?_
        refine rp 72 (.bool false) ?_
        refine rp 73 (.bool false) ?_
        refine rp 74 (.bool false) ?_
        refine rw_off 75 (fun _ => by kernel_rfl) ?_
        refine rw_off 76 (fun _ => by kernel_rfl) ?_
        refine rw_off 77 (fun _ => by kernel_rfl) ?_
        refine rp 78 (.bool false) ?_
        refine rp 79 (.bool false) ?_
        refine rw_nil ?_
        exact nw_cut [(79, .bool false), (0, vL), (1, .slice aN nN cN), (3, .slice a n c), (16, .pointer (some ⟨gN, 0, none⟩))] (by exact ⟨fun _ => by kernel_rfl, ⟨fun _ => by kernel_rfl, ⟨fun _ => by kernel_rfl, ⟨fun _ => by kernel_rfl, ⟨fun _ => by kernel_rfl, trivial⟩⟩⟩⟩⟩) ⟨rfl, rfl⟩
    | false =>
      rcases hNam with ⟨hk1, hj1, hl1⟩ | ⟨hk2, hd2, hm2, ht2⟩
      · skip
        cases ex with
        | true =>
          have hz3 : z.k = 3 := by rw [hz.k]; exact nodeP_br (hEx rfl)
          refine cw_region ?_
          refine rp 52 (.int .i64 0) ?_
          refine rp 53 (.bool false) ?_
          refine rp 54 (.bool false) ?_
          refine rp 55 (.slice a n c) ?_
          refine rp 56 (.int .i64 n) ?_
          refine rv 57 (.bool false) (fun _ => ol_conv (v := .bool (decide ((n : Int) > (64 : Int)))) (by kernel_rfl) (congrArg Value.bool (decide_eq_false (by omega)))) ?_
          refine rp 58 (.bool false) ?_
          refine rp 59 (.bool false) ?_
          refine rp 60 (.bool false) ?_
          refine rp 61 (.bool true) ?_
          refine rp 62 (.bool true) ?_
          refine rp 63 (.slice ab nb cb) ?_
          refine rp 64 (.int .i64 nb) ?_
          refine rv 65 (.bool true) (fun _ => ol_conv (v := .bool (decide ((nb : Int) < (32 : Int)))) (by kernel_rfl) (congrArg Value.bool (decide_eq_true (by omega)))) ?_
          refine rp 66 (.pointer (some ⟨gR, 0, none⟩)) ?_
          refine rv 67 (.int .i64 y.k) (fun _ => ol_cell 3 _ ⟨gR, 0, none⟩ _ _ rfl (by kernel_rfl) (by rw [cell_of_row _ _ _ _ _ _ (hR.go hB)]; exact r_at0 y) Tryz.underlying3 rfl) ?_
          refine rv 68 (.bool true) (fun _ => ol_conv (v := .bool ((y.k : Int) == (1 : Int))) (by kernel_rfl) (congrArg Value.bool (beq_iff_eq.2 (by rw [hy.1, hk1])))) ?_
          refine rp 69 (.bool false) ?_
          refine rp 70 (.bool false) ?_
          refine rp 71 (.bool false) ?_
          refine rp 72 (.bool false) ?_
          refine rp 73 (.bool true) ?_
          refine rp 74 (.bool true) ?_
          refine rp 75 (.pointer (some ⟨gN, 0, none⟩)) ?_
          refine rv 76 (.int .i64 z.k) (fun _ => ol_cell 3 _ ⟨gN, 0, none⟩ _ _ rfl (by kernel_rfl) (by rw [cell_of_row _ _ _ _ _ _ hrZ]; exact n_at0 z) Tryz.underlying3 rfl) ?_
          refine rv 77 (.bool false) (fun _ => ol_conv (v := .bool (!((z.k : Int) == (3 : Int)))) (by kernel_rfl) (congrArg Value.bool (by rw [hz3]; rfl))) ?_
          refine rp 78 (.bool false) ?_
          refine rp 79 (.bool false) ?_
          refine rw_nil ?_
          exact nw_cut [(79, .bool false), (0, vL), (1, .slice aN nN cN), (3, .slice a n c), (16, .pointer (some ⟨gN, 0, none⟩))] (by exact ⟨fun _ => by kernel_rfl, ⟨fun _ => by kernel_rfl, ⟨fun _ => by kernel_rfl, ⟨fun _ => by kernel_rfl, ⟨fun _ => by kernel_rfl, trivial⟩⟩⟩⟩⟩) ⟨rfl, rfl⟩
        | false =>
          refine cw_region ?_
          refine rp 52 (.int .i64 0) ?_
          refine rp 53 (.bool false) ?_
          refine rp 54 (.bool false) ?_
          refine rp 55 (.slice a n c) ?_
          refine rp 56 (.int .i64 n) ?_
          refine rv 57 (.bool false) (fun _ => ol_conv (v := .bool (decide ((n : Int) > (64 : Int)))) (by kernel_rfl) (congrArg Value.bool (decide_eq_false (by omega)))) ?_
          refine rp 58 (.bool false) ?_
          refine rp 59 (.bool false) ?_
          refine rp 60 (.bool false) ?_
          refine rp 61 (.bool true) ?_
          refine rp 62 (.bool true) ?_
          refine rp 63 (.slice ab nb cb) ?_
          refine rp 64 (.int .i64 nb) ?_
          refine rv 65 (.bool true) (fun _ => ol_conv (v := .bool (decide ((nb : Int) < (32 : Int)))) (by kernel_rfl) (congrArg Value.bool (decide_eq_true (by omega)))) ?_
          refine rp 66 (.pointer (some ⟨gR, 0, none⟩)) ?_
          refine rv 67 (.int .i64 y.k) (fun _ => ol_cell 3 _ ⟨gR, 0, none⟩ _ _ rfl (by kernel_rfl) (by rw [cell_of_row _ _ _ _ _ _ (hR.go hB)]; exact r_at0 y) Tryz.underlying3 rfl) ?_
          refine rv 68 (.bool true) (fun _ => ol_conv (v := .bool ((y.k : Int) == (1 : Int))) (by kernel_rfl) (congrArg Value.bool (beq_iff_eq.2 (by rw [hy.1, hk1])))) ?_
          refine rp 69 (.bool false) ?_
          refine rp 70 (.bool false) ?_
          refine rp 71 (.bool false) ?_
          refine rp 72 (.bool false) ?_
          refine rp 73 (.bool false) ?_
          refine rp 74 (.bool false) ?_
          refine rw_off 75 (fun _ => by kernel_rfl) ?_
          refine rw_off 76 (fun _ => by kernel_rfl) ?_
          refine rw_off 77 (fun _ => by kernel_rfl) ?_
          refine rp 78 (.bool false) ?_
          refine rp 79 (.bool false) ?_
          refine rw_nil ?_
          exact nw_cut [(79, .bool false), (0, vL), (1, .slice aN nN cN), (3, .slice a n c), (16, .pointer (some ⟨gN, 0, none⟩))] (by exact ⟨fun _ => by kernel_rfl, ⟨fun _ => by kernel_rfl, ⟨fun _ => by kernel_rfl, ⟨fun _ => by kernel_rfl, ⟨fun _ => by kernel_rfl, trivial⟩⟩⟩⟩⟩) ⟨rfl, rfl⟩
      · skip
        replace ht2 := ht2.resolve_left (by simp)
        cases ex with
        | true =>
          have hz3 : z.k = 3 := by rw [hz.k]; exact nodeP_br (hEx rfl)
          refine cw_region ?_
          refine rp 52 (.int .i64 0) ?_
          refine rp 53 (.bool false) ?_
          refine rp 54 (.bool false) ?_
          refine rp 55 (.slice a n c) ?_
          refine rp 56 (.int .i64 n) ?_
          refine rv 57 (.bool false) (fun _ => ol_conv (v := .bool (decide ((n : Int) > (64 : Int)))) (by kernel_rfl) (congrArg Value.bool (decide_eq_false (by omega)))) ?_
          refine rp 58 (.bool false) ?_
          refine rp 59 (.bool false) ?_
          refine rp 60 (.bool false) ?_
          refine rp 61 (.bool true) ?_
          refine rp 62 (.bool true) ?_
          refine rp 63 (.slice ab nb cb) ?_
          refine rp 64 (.int .i64 nb) ?_
          refine rv 65 (.bool false) (fun _ => ol_conv (v := .bool (decide ((nb : Int) < (32 : Int)))) (by kernel_rfl) (congrArg Value.bool (decide_eq_false (by omega)))) ?_
          refine rp 66 (.pointer (some ⟨gR, 0, none⟩)) ?_
          refine rv 67 (.int .i64 y.k) (fun _ => ol_cell 3 _ ⟨gR, 0, none⟩ _ _ rfl (by kernel_rfl) (by rw [cell_of_row _ _ _ _ _ _ (hR.go hB)]; exact r_at0 y) Tryz.underlying3 rfl) ?_
          refine rv 68 (.bool false) (fun _ => ol_conv (v := .bool ((y.k : Int) == (1 : Int))) (by kernel_rfl) (congrArg Value.bool (beq_eq_false_iff_ne.2 (by rw [hy.1, hk2]; decide)))) ?_
          refine rp 69 (.bool false) ?_
          refine rp 70 (.bool false) ?_
          refine rp 71 (.bool false) ?_
          refine rp 72 (.bool false) ?_
          refine rp 73 (.bool true) ?_
          refine rp 74 (.bool true) ?_
          refine rp 75 (.pointer (some ⟨gN, 0, none⟩)) ?_
          refine rv 76 (.int .i64 z.k) (fun _ => ol_cell 3 _ ⟨gN, 0, none⟩ _ _ rfl (by kernel_rfl) (by rw [cell_of_row _ _ _ _ _ _ hrZ]; exact n_at0 z) Tryz.underlying3 rfl) ?_
          refine rv 77 (.bool false) (fun _ => ol_conv (v := .bool (!((z.k : Int) == (3 : Int)))) (by kernel_rfl) (congrArg Value.bool (by rw [hz3]; rfl))) ?_
          refine rp 78 (.bool false) ?_
          refine rp 79 (.bool false) ?_
          refine rw_nil ?_
          exact nw_cut [(79, .bool false), (0, vL), (1, .slice aN nN cN), (3, .slice a n c), (16, .pointer (some ⟨gN, 0, none⟩))] (by exact ⟨fun _ => by kernel_rfl, ⟨fun _ => by kernel_rfl, ⟨fun _ => by kernel_rfl, ⟨fun _ => by kernel_rfl, ⟨fun _ => by kernel_rfl, trivial⟩⟩⟩⟩⟩) ⟨rfl, rfl⟩
        | false =>
          refine cw_region ?_
          refine rp 52 (.int .i64 0) ?_
          refine rp 53 (.bool false) ?_
          refine rp 54 (.bool false) ?_
          refine rp 55 (.slice a n c) ?_
          refine rp 56 (.int .i64 n) ?_
          refine rv 57 (.bool false) (fun _ => ol_conv (v := .bool (decide ((n : Int) > (64 : Int)))) (by kernel_rfl) (congrArg Value.bool (decide_eq_false (by omega)))) ?_
          refine rp 58 (.bool false) ?_
          refine rp 59 (.bool false) ?_
          refine rp 60 (.bool false) ?_
          refine rp 61 (.bool true) ?_
          refine rp 62 (.bool true) ?_
          refine rp 63 (.slice ab nb cb) ?_
          refine rp 64 (.int .i64 nb) ?_
          refine rv 65 (.bool false) (fun _ => ol_conv (v := .bool (decide ((nb : Int) < (32 : Int)))) (by kernel_rfl) (congrArg Value.bool (decide_eq_false (by omega)))) ?_
          refine rp 66 (.pointer (some ⟨gR, 0, none⟩)) ?_
          refine rv 67 (.int .i64 y.k) (fun _ => ol_cell 3 _ ⟨gR, 0, none⟩ _ _ rfl (by kernel_rfl) (by rw [cell_of_row _ _ _ _ _ _ (hR.go hB)]; exact r_at0 y) Tryz.underlying3 rfl) ?_
          refine rv 68 (.bool false) (fun _ => ol_conv (v := .bool ((y.k : Int) == (1 : Int))) (by kernel_rfl) (congrArg Value.bool (beq_eq_false_iff_ne.2 (by rw [hy.1, hk2]; decide)))) ?_
          refine rp 69 (.bool false) ?_
          refine rp 70 (.bool false) ?_
          refine rp 71 (.bool false) ?_
          refine rp 72 (.bool false) ?_
          refine rp 73 (.bool false) ?_
          refine rp 74 (.bool false) ?_
          refine rw_off 75 (fun _ => by kernel_rfl) ?_
          refine rw_off 76 (fun _ => by kernel_rfl) ?_
          refine rw_off 77 (fun _ => by kernel_rfl) ?_
          refine rp 78 (.bool false) ?_
          refine rp 79 (.bool false) ?_
          refine rw_nil ?_
          exact nw_cut [(79, .bool false), (0, vL), (1, .slice aN nN cN), (3, .slice a n c), (16, .pointer (some ⟨gN, 0, none⟩))] (by exact ⟨fun _ => by kernel_rfl, ⟨fun _ => by kernel_rfl, ⟨fun _ => by kernel_rfl, ⟨fun _ => by kernel_rfl, ⟨fun _ => by kernel_rfl, trivial⟩⟩⟩⟩⟩) ⟨rfl, rfl⟩
  rintro _ _ ⟨rfl, rfl⟩
  refine nw_then ?_
  refine cw_cond_f (fun _ => by kernel_rfl) ?_
  refine cw_skip ?_
  refine nw_then ?_
  refine cw_seq ?_
  have hB4 := Bl.refl w4
  refine cw_draw (fun v => Bl w4 v) (by kernel_rfl) (hB4.drew) ?_
  replace hB4 := hB4.drew
  refine dt 1 82 (.slice a n c) (fun v hv _ => by kernel_rfl) hB4 ?_
  refine dt 3 84 (.pointer (some ⟨gN, 1, none⟩)) (fun v hv _ => by kernel_rfl) hB4 ?_
  refine dt 4 85 (.slice z.pa z.pn z.pc) (fun v hv _ => ol_cell 27 _ ⟨gN, 1, none⟩ _ _ rfl (by kernel_rfl) (by rw [cell_of_row _ _ _ _ _ _ (hrZ.go hv)]; exact n_at1 z) Tryz.underlying27 rfl) hB4 ?_
  refine dw_ready [0] (by kernel_rfl) (by simp) ?_
  refine ar_newS 0 81 #[] 5 0 rfl (fun _ => by kernel_rfl) (fun _ => by kernel_rfl) (fun w' g h => hB4.go h.below) ?_ ar_nil
  intro w5 g5 hn5
  have hq := ownB_new0 hn5 hB4.size
  replace hB4 := hB4.go hn5.below
  refine dw_ready [2] (by kernel_rfl) (by simp) ?_
  obtain ⟨V5, w6, hr5, ho5, hb5⟩ := app_run hq ((hp.go hB).go hB4).ag (by simp; omega) hB4.size
  refine ar_v 2 83 V5 rfl (fun _ => by kernel_rfl) (fun _ => ol_app hr5 _ _ rfl (by kernel_rfl) (by kernel_rfl)) (Below.trans hB4 hb5) ?_ ar_nil
  replace hB4 : Bl w4 w6 := Below.trans hB4 hb5
  refine dw_ready [5] (by kernel_rfl) (by simp) ?_
  obtain ⟨V6, w7, hr6, ho6, hb6⟩ := app_run ho5 (hz.p.1.at hB4) (by have := hz.p.2.1; simp; omega) hB4.size
  refine ar_v 5 86 V6 rfl (fun _ => by kernel_rfl) (fun _ => ol_app hr6 _ _ rfl (by kernel_rfl) (by kernel_rfl)) (Below.trans hB4 hb6) ?_ ar_nil
  replace hB4 : Bl w4 w7 := Below.trans hB4 hb6
  refine dt 6 18 (V6) (fun v hv _ => by kernel_rfl) hB4 ?_
  refine dw_done (by kernel_rfl) ?_
  rw [List.nil_append] at ho6
  obtain ⟨here, hhr⟩ : ∃ h, p ++ (nodeP t).p = h := ⟨_, rfl⟩
  rw [hhr] at ho6
  obtain ⟨ah, ch, eV, hh⟩ := ho6.sk (K := KF vL) (by rw [← hhr]; exact fun x hx => (List.mem_append.1 hx).elim (fun q => hp.ag.b x q) (fun q => hz.p.1.b x q)) (fun b hb => hO.kf (by have := hB.size; omega))
  subst eV
  have hF : Fi NS w base vL aN nN ah here.length ch here z (nodeP t) gN vL l0 w7 := ⟨(hO.far hB).far hB4, Nat.le_trans hbs (Nat.le_trans hB.size hB4.size), (Fg.of_below hW1).trans (Fg.of_below (hB.go hB4)), (hN.go hB).go hB4, hh, hz.go (keep_bl hB4), hrZ.go hB4, hKN⟩
  clear hB4 hB hz hrZ hKN hN hp hO hW1 hR hy hh ho6 hr6 hr5 hb5 hb6 hb
  refine nw_then ?_
  refine cw_seq ?_
  refine cw_seq ?_
  refine cw_region ?_
  refine rp 87 (.pointer (some ⟨gN, 0, none⟩)) ?_
  refine rv 88 (.int .i64 z.k) (fun _ => ol_cell 3 _ ⟨gN, 0, none⟩ _ _ rfl (by kernel_rfl) (by rw [cell_of_row _ _ _ _ _ _ hF.r]; exact n_at0 z) Tryz.underlying3 rfl) ?_
  refine rp 89 (.bool ((z.k : Int) == (2 : Int))) ?_
  refine rw_nil ?_
  refine nw_then ?_
  cases t with
  | no => exact absurd rfl hne
  | leaf q x =>
    have hz1 : z.k = 1 := hF.nd.k
    rw [show ((z.k : Int) == (2 : Int)) = false from by rw [hz1]; rfl]
    obtain ⟨o1, o2, o3⟩ := hOk
    have hhe : p ++ q = here := hhr
    have hkey := (hK.leaf o1 o3).1
    rw [hhe] at hkey
    have hxl : 0 < x.length := List.length_pos_iff.2 o3
    have hvl : x.length = z.vn := hF.nd.v.1.l
    have hl64 := (hK.leaf o1 o3).2
    rw [hhe] at hl64
    refine cw_cond_f (fun _ => by kernel_rfl) ?_
    refine cw_skip ?_
    refine nw_then ?_
    refine cw_seq ?_
    refine cw_seq ?_
    refine cw_region ?_
    refine rp 98 (.pointer (some ⟨gN, 2, none⟩)) ?_
    refine rv 99 (.slice z.va z.vn z.vc) (fun _ => ol_cell 27 _ ⟨gN, 2, none⟩ _ _ rfl (by kernel_rfl) (by rw [cell_of_row _ _ _ _ _ _ hF.r]; exact n_at2 z) Tryz.underlying27 rfl) ?_
    refine rp 100 (.int .i64 z.vn) ?_
    refine rv 101 (.bool true) (fun _ => ol_conv (v := .bool (decide ((z.vn : Int) > (0 : Int)))) (by kernel_rfl) (congrArg Value.bool (decide_eq_true (by omega)))) ?_
    refine rw_nil ?_
    refine nw_then ?_
    refine cw_cond_t (fun _ => by kernel_rfl) ?_
    refine cw_seq ?_
    refine cw_region ?_
    refine rp 103 (.slice ah here.length ch) ?_
    have hF7 := hF
    refine rw_call 104 48 #[.slice ah here.length ch] (fun _ => by kernel_rfl) (fun _ => by kernel_rfl) (R := fun u w' => (∃ ak mk ck, u = .tuple #[.slice ak mk ck, .bool true] ∧ Sk (fun b => (w7).heap.size ≤ b) w' ak mk ck (Ni.keyP here).1) ∧ Bl (w7) w') ((Ni.rkey_new ah here.length ch here _ hF.h.ag (by omega)).mono (fun e w' ⟨⟨a', m', c', h1, h2, h3⟩, h4⟩ => ⟨_, by rw [h1, hkey], ⟨a', m', c', rfl, ag_sk h2 h3⟩, h4⟩)) ?_
    rintro _ u3 ⟨⟨ak, mk, ck, rfl, hsk⟩, hb3⟩
    replace hF := hF.go hb3
    refine rp 102 (.tuple #[.slice ak mk ck, .bool true]) ?_
    refine rp 105 (.slice ak mk ck) ?_
    refine rp 106 (.bool true) ?_
    refine rp 19 (.slice ak mk ck) ?_
    refine rp 20 (.bool true) ?_
    refine rw_nil ?_
    refine nw_then ?_
    refine cw_seq ?_
    refine cw_seq ?_
    refine cw_region ?_
    refine rp 107 (.bool true) ?_
    refine rp 108 (.bool false) ?_
    refine rw_nil ?_
    refine nw_then ?_
    refine cw_cond_f (fun _ => by kernel_rfl) ?_
    refine cw_skip ?_
    refine nw_then ?_
    refine cw_region ?_
    refine rp 110 (vL) ?_
    refine rp 111 (.slice ak mk ck) ?_
    refine rp 112 (.pointer (some ⟨gN, 2, none⟩)) ?_
    refine rv 113 (.slice z.va z.vn z.vc) (fun _ => ol_cell 27 _ ⟨gN, 2, none⟩ _ _ rfl (by kernel_rfl) (by rw [cell_of_row _ _ _ _ _ _ hF.r]; exact n_at2 z) Tryz.underlying27 rfl) ?_
    refine rp 114 (.agg #[.slice ak mk ck, .slice z.va z.vn z.vc]) ?_
    refine rw_newS 115 #[.slice ak mk ck, .slice z.va z.vn z.vc] 45 1 (fun _ => by kernel_rfl) (fun _ => by kernel_rfl) ?_
    intro wP gP hnP
    have hP := PAt.one (K := KF vL) hnP (hsk.mono (fun b hb => hF7.o.kf hb)) hF.nd.v.sk (hF.o.kf (by rw [hnP.hg]; exact Nat.le_refl _))
    replace hF := hF.go hnP.below
    have hl1 : l0.length + 1 ≤ 2900000000000 := hL
    obtain ⟨vM, wA, hrA, hOA, hGA⟩ := appL hF.o hP (fun b hb => hb) hl1 hF.b
    refine rw_v 116 vM (fun _ => by kernel_rfl) (fun _ => ol_appP hrA _ _ rfl (by kernel_rfl) (by kernel_rfl)) ?_
    replace hF := hF.fg hGA hOA
    refine rp 0 (vM) ?_
    refine rw_nil ?_
    refine nw_then ?_
    refine cw_seq ?_
    refine cw_seq ?_
    refine cw_region ?_
    refine rp 117 (.pointer (some ⟨gN, 37, none⟩)) ?_
    refine rv 118 (.slice z.ka z.kn z.kc) (fun _ => ol_cell 90 _ ⟨gN, 37, none⟩ _ _ rfl (by kernel_rfl) (by rw [cell_of_row _ _ _ _ _ _ hF.r]; exact n_at37 hzl) Tryz.underlying90 rfl) ?_
    refine rp 119 (.int .i64 z.kn) ?_
    refine rp 120 (.int .i64 0) ?_
    refine rw_nil ?_
    refine nw_then ?_
    refine cw_block ?_
    have hk0 : z.kn = 0 := hF.nd.m.1
    refine cw_loop (X := Unit) (fun _ => [(120, .int .i64 0), (119, .int .i64 z.kn), (0, vM)]) (fun _ v => wA = v) (fun _ => 0) () (by exact ⟨fun _ => by kernel_rfl, ⟨fun _ => by kernel_rfl, ⟨fun _ => by kernel_rfl, trivial⟩⟩⟩) rfl ?_
    rintro _ _ rfl
    refine cw_seq ?_
    refine cw_region ?_
    refine rv 121 (.bool false) (fun _ => ol_conv (v := .bool (decide ((0 : Int) < (z.kn : Int)))) (by kernel_rfl) (congrArg Value.bool (decide_eq_false (by omega)))) ?_
    refine rw_nil ?_
    refine nw_then ?_
    refine cw_seq ?_
    refine cw_cond_f (fun _ => by kernel_rfl) ?_
    refine cw_exit ?_
    refine nw_exit_then ?_
    refine nw_exit_then ?_
    refine nw_exit_here ?_
    refine nw_then ?_
    refine cw_seq ?_
    refine cw_region ?_
    refine rp 153 (vM) ?_
    refine rp 12 (vM) ?_
    refine rp 13 (.bool true) ?_
    refine rw_nil ?_
    refine nw_then ?_
    refine cw_ret ?_
    exact nw_ret_body (.tuple #[vM, .bool true]) (fun _ => by kernel_rfl) ⟨_, rfl, vM, rfl, by rw [show entsF p (leaf q x) = [((Ni.keyP here).1, x)] from by rw [← hhe]; rfl]; exact hF.o, hF.g⟩
  | ext q kd =>
    have hz1 : z.k = 2 := hF.nd.k
    rw [show ((z.k : Int) == (2 : Int)) = true from by rw [hz1]; rfl]
    obtain ⟨o1, o2, o3, o4, o5⟩ := hOk
    have hhe : p ++ q = here := hhr
    refine cw_cond_t (fun _ => by kernel_rfl) ?_
    refine cw_seq ?_
    refine cw_region ?_
    refine rp 90 (vL) ?_
    refine rp 91 (.slice aN nN cN) ?_
    refine rp 92 (.pointer (some ⟨gN, 3, none⟩)) ?_
    refine rv 93 (.agg z.c.cells.toArray) (fun _ => ol_mid 62 _ gN 3 z.c.cells _ rfl (by kernel_rfl) (n_child hF.r hzl) Tryz.underlying62 rfl (by rw [infoR, RV.len hzl])) ?_
    refine rp 94 (.slice ah here.length ch) ?_
    refine rw_call 95 26 #[vL, .slice aN nN cN, .agg z.c.cells.toArray, .slice ah here.length ch, .bool false, .bool true] (fun _ => by kernel_rfl) (fun _ => by kernel_rfl) (R := RFd w7 vL base (l0 ++ entsF here kd)) (hS q kd rfl hF.o hF.b hF.ns hF.h hF.nd.c (nam_of (fun b hb => hM b (List.mem_append.2 (.inr hb)))) (fun _ => o4) o5 (by omega) hVb.2 (hhe ▸ hK.ext o1) (fun b hb => hM b (List.mem_append.2 (.inl hb))) (by rw [← hhe]; exact hL)) ?_
    rintro _ u9 ⟨vM, rfl, hO9, hG9⟩
    refine rp 96 (vM) ?_
    refine rp 97 (.bool true) ?_
    refine rp 12 (vM) ?_
    refine rp 13 (.bool true) ?_
    refine rw_nil ?_
    refine nw_then ?_
    refine cw_ret ?_
    refine nw_ret_then ?_
    exact nw_ret_body (.tuple #[vM, .bool true]) (fun _ => by kernel_rfl) ⟨_, rfl, vM, rfl, by rw [show entsF p (ext q kd) = entsF here kd from by rw [← hhe]; rfl]; exact hO9, hF.g.trans hG9⟩
  | br k x =>
    have hz1 : z.k = 3 := hF.nd.k
    rw [show ((z.k : Int) == (2 : Int)) = false from by rw [hz1]; rfl]
    have hhe : p = here := by rw [← hhr]; exact (List.append_nil p).symm
    have hvl : x.length = z.vn := hF.nd.v.1.l
    have hl64 : here.length ≤ 64 := by rw [← hhe]; exact h64p
    refine cw_cond_f (fun _ => by kernel_rfl) ?_
    refine cw_skip ?_
    refine nw_then ?_
    refine cw_seq ?_
    refine cw_seq ?_
    refine cw_region ?_
    refine rp 98 (.pointer (some ⟨gN, 2, none⟩)) ?_
    refine rv 99 (.slice z.va z.vn z.vc) (fun _ => ol_cell 27 _ ⟨gN, 2, none⟩ _ _ rfl (by kernel_rfl) (by rw [cell_of_row _ _ _ _ _ _ hF.r]; exact n_at2 z) Tryz.underlying27 rfl) ?_
    refine rp 100 (.int .i64 z.vn) ?_
    refine rp 101 (.bool (decide ((z.vn : Int) > (0 : Int)))) ?_
    refine rw_nil ?_
    refine nw_then ?_
    refine cw_cut (fun E v => ∃ vM, E = [(0, vM), (1, .slice aN nN cN), (16, .pointer (some ⟨gN, 0, none⟩)), (18, .slice ah here.length ch)] ∧ Fi NS w base vL aN nN ah here.length ch here z (nodeP (br k x)) gN vM (l0 ++ valL here x) v) ?_ ?_
    · skip
      by_cases hx : x = []
      · skip
        have hx0 : x.length = 0 := by rw [hx]; rfl
        rw [show decide ((z.vn : Int) > (0 : Int)) = false from decide_eq_false (by omega)]
        refine cw_cond_f (fun _ => by kernel_rfl) ?_
        refine cw_skip ?_
        exact nw_cut [(0, vL), (1, .slice aN nN cN), (16, .pointer (some ⟨gN, 0, none⟩)), (18, .slice ah here.length ch)] (by exact ⟨fun _ => by kernel_rfl, ⟨fun _ => by kernel_rfl, ⟨fun _ => by kernel_rfl, ⟨fun _ => by kernel_rfl, trivial⟩⟩⟩⟩) ⟨vL, rfl, by rw [valL, if_pos hx, List.append_nil]; exact hF⟩
      · skip
        have hx0 : 0 < x.length := List.length_pos_iff.2 hx
        rw [show decide ((z.vn : Int) > (0 : Int)) = true from decide_eq_true (by omega)]
        have hkey := hK.val hx
        rw [hhe] at hkey
        refine cw_cond_t (fun _ => by kernel_rfl) ?_
        refine cw_seq ?_
        refine cw_region ?_
        refine rp 103 (.slice ah here.length ch) ?_
        have hF7 := hF
        refine rw_call 104 48 #[.slice ah here.length ch] (fun _ => by kernel_rfl) (fun _ => by kernel_rfl) (R := fun u w' => (∃ ak mk ck, u = .tuple #[.slice ak mk ck, .bool true] ∧ Sk (fun b => (w7).heap.size ≤ b) w' ak mk ck (Ni.keyP here).1) ∧ Bl (w7) w') ((Ni.rkey_new ah here.length ch here _ hF.h.ag (by omega)).mono (fun e w' ⟨⟨a', m', c', h1, h2, h3⟩, h4⟩ => ⟨_, by rw [h1, hkey], ⟨a', m', c', rfl, ag_sk h2 h3⟩, h4⟩)) ?_
        rintro _ u3 ⟨⟨ak, mk, ck, rfl, hsk⟩, hb3⟩
        replace hF := hF.go hb3
        refine rp 102 (.tuple #[.slice ak mk ck, .bool true]) ?_
        refine rp 105 (.slice ak mk ck) ?_
        refine rp 106 (.bool true) ?_
        refine rp 19 (.slice ak mk ck) ?_
        refine rp 20 (.bool true) ?_
        refine rw_nil ?_
        refine nw_then ?_
        refine cw_seq ?_
        refine cw_seq ?_
        refine cw_region ?_
        refine rp 107 (.bool true) ?_
        refine rp 108 (.bool false) ?_
        refine rw_nil ?_
        refine nw_then ?_
        refine cw_cond_f (fun _ => by kernel_rfl) ?_
        refine cw_skip ?_
        refine nw_then ?_
        refine cw_region ?_
        refine rp 110 (vL) ?_
        refine rp 111 (.slice ak mk ck) ?_
        refine rp 112 (.pointer (some ⟨gN, 2, none⟩)) ?_
        refine rv 113 (.slice z.va z.vn z.vc) (fun _ => ol_cell 27 _ ⟨gN, 2, none⟩ _ _ rfl (by kernel_rfl) (by rw [cell_of_row _ _ _ _ _ _ hF.r]; exact n_at2 z) Tryz.underlying27 rfl) ?_
        refine rp 114 (.agg #[.slice ak mk ck, .slice z.va z.vn z.vc]) ?_
        refine rw_newS 115 #[.slice ak mk ck, .slice z.va z.vn z.vc] 45 1 (fun _ => by kernel_rfl) (fun _ => by kernel_rfl) ?_
        intro wP gP hnP
        have hP := PAt.one (K := KF vL) hnP (hsk.mono (fun b hb => hF7.o.kf hb)) hF.nd.v.sk (hF.o.kf (by rw [hnP.hg]; exact Nat.le_refl _))
        replace hF := hF.go hnP.below
        have hl1 : l0.length + 1 ≤ 2900000000000 := by
          rw [entsF_br, List.length_append, valL, if_neg hx, List.length_singleton] at hL
          omega
        obtain ⟨vM, wA, hrA, hOA, hGA⟩ := appL hF.o hP (fun b hb => hb) hl1 hF.b
        refine rw_v 116 vM (fun _ => by kernel_rfl) (fun _ => ol_appP hrA _ _ rfl (by kernel_rfl) (by kernel_rfl)) ?_
        replace hF := hF.fg hGA hOA
        refine rp 0 (vM) ?_
        refine rw_nil ?_
        exact nw_cut [(0, vM), (1, .slice aN nN cN), (16, .pointer (some ⟨gN, 0, none⟩)), (18, .slice ah here.length ch)] (by exact ⟨fun _ => by kernel_rfl, ⟨fun _ => by kernel_rfl, ⟨fun _ => by kernel_rfl, ⟨fun _ => by kernel_rfl, trivial⟩⟩⟩⟩) ⟨vM, rfl, by rw [valL, if_neg hx]; exact hF⟩
    clear hF
    rintro _ v ⟨vM, rfl, hF⟩
    refine nw_then ?_
    refine cw_seq ?_
    refine cw_seq ?_
    refine cw_region ?_
    refine rp 117 (.pointer (some ⟨gN, 37, none⟩)) ?_
    refine rv 118 (.slice z.ka z.kn z.kc) (fun _ => ol_cell 90 _ ⟨gN, 37, none⟩ _ _ rfl (by kernel_rfl) (by rw [cell_of_row _ _ _ _ _ _ hF.r]; exact n_at37 hzl) Tryz.underlying90 rfl) ?_
    refine rp 119 (.int .i64 z.kn) ?_
    refine rp 120 (.int .i64 0) ?_
    refine rw_nil ?_
    refine nw_then ?_
    refine cw_block ?_
    have hk16 : z.kn = 16 := by rw [hF.nd.m.1]; simp [nodeP]
    refine cw_loop (X := Nat × Value) (fun q => [(120, .int .i64 ((q.1 : Nat) : Int)), (119, .int .i64 z.kn), (0, q.2), (1, .slice aN nN cN), (16, .pointer (some ⟨gN, 0, none⟩)), (18, .slice ah here.length ch)]) (fun q v => Fi NS w base vL aN nN ah here.length ch here z (nodeP (br k x)) gN q.2 (l0 ++ valL here x ++ fK here k q.1) v ∧ q.1 ≤ 16) (fun q => 16 - q.1) (0, vM) (by exact ⟨fun _ => by kernel_rfl, ⟨fun _ => by kernel_rfl, ⟨fun _ => by kernel_rfl, ⟨fun _ => by kernel_rfl, ⟨fun _ => by kernel_rfl, ⟨fun _ => by kernel_rfl, trivial⟩⟩⟩⟩⟩⟩) ⟨by rw [show fK here k 0 = [] from rfl, List.append_nil]; exact hF, Nat.zero_le _⟩ ?_
    clear hF
    rintro ⟨j, vM⟩ v ⟨hF, hj⟩
    simp only at hF hj
    show CW _ _ _ _ _ _ _ [(120, .int .i64 ((j : Nat) : Int)), (119, .int .i64 z.kn), (0, vM), (1, .slice aN nN cN), (16, .pointer (some ⟨gN, 0, none⟩)), (18, .slice ah here.length ch)] _
    by_cases hlt : j < 16
    · skip
      obtain ⟨gK, oK, yj, eK, hKg, hrg, hRf⟩ := hF.nd.ks j (if (k j).isNo then r0 else referP (encT (k j))) (by simp [nodeP, hlt])
      refine cw_seq ?_
      refine cw_region ?_
      refine rv 121 (.bool true) (fun _ => ol_conv (v := .bool (decide (((j : Nat) : Int) < (z.kn : Int)))) (by kernel_rfl) (congrArg Value.bool (decide_eq_true (by omega)))) ?_
      refine rw_nil ?_
      refine nw_then ?_
      refine cw_seq ?_
      refine cw_cond_t (fun _ => by kernel_rfl) ?_
      refine cw_skip ?_
      refine nw_then ?_
      refine cw_seq ?_
      refine cw_block ?_
      refine cw_seq ?_
      refine cw_region ?_
      refine rp 122 (.int .i64 ((j : Nat) : Int)) ?_
      refine rp 21 (.int .i64 ((j : Nat) : Int)) ?_
      refine rw_nil ?_
      refine nw_then ?_
      refine cw_seq ?_
      refine cw_region ?_
      refine rp 123 (.pointer (some ⟨gN, 37, none⟩)) ?_
      refine rv 124 (.slice (some ⟨gK, oK, none⟩) 16 z.kc) (fun _ => ol_conv (ol_cell 90 _ ⟨gN, 37, none⟩ _ _ rfl (by kernel_rfl) (by rw [cell_of_row _ _ _ _ _ _ hF.r]; exact n_at37 hzl) Tryz.underlying90 rfl) (by rw [eK, hk16])) ?_
      refine rp 125 (.int .i64 ((j : Nat) : Int)) ?_
      refine rv 126 (.pointer (some ⟨gK, oK + j * 34, none⟩)) (fun _ => ol_index 90 _ _ gK oK j 16 z.kc 34 62 rfl (by kernel_rfl) (by kernel_rfl) hlt Tryz.underlying90 (by kernel_rfl)) ?_
      refine rp 127 (.pointer (some ⟨gK, oK + j * 34, none⟩)) ?_
      refine rv 128 (.int .i64 yj.k) (fun _ => ol_cell 3 _ _ _ _ rfl (by kernel_rfl) (hrg 0 _ (by simp [RV.cells])) Tryz.underlying3 rfl) ?_
      refine rp 129 (.bool (!((yj.k : Int) == (0 : Int)))) ?_
      refine rw_nil ?_
      refine nw_then ?_
      cases hno : (k j).isNo with
      | true =>
        rw [if_pos hno] at hRf
        have hyk : (!((yj.k : Int) == (0 : Int))) = false := by rw [show yj.k = 0 from hRf.1]; rfl
        rw [hyk]
        refine cw_cond_f (fun _ => by kernel_rfl) ?_
        refine cw_skip ?_
        refine nw_block ?_
        refine nw_then ?_
        refine cw_region ?_
        refine rv 152 (.int .i64 ((j + 1 : Nat) : Int)) (fun _ => ol_conv (v := .int .i64 (IntKind.i64.wrap (((j : Nat) : Int) + 1))) (by kernel_rfl) (congrArg (Value.int .i64) (by rw [wrap64 (by omega) (by omega)]; rfl))) ?_
        refine rp 120 (.int .i64 ((j + 1 : Nat) : Int)) ?_
        refine rw_nil ?_
        exact nw_round (E := fun q => [(120, .int .i64 ((q.1 : Nat) : Int)), (119, .int .i64 z.kn), (0, q.2), (1, .slice aN nN cN), (16, .pointer (some ⟨gN, 0, none⟩)), (18, .slice ah here.length ch)]) (R := fun q v => Fi NS w base vL aN nN ah here.length ch here z (nodeP (br k x)) gN q.2 (l0 ++ valL here x ++ fK here k q.1) v ∧ q.1 ≤ 16) (μ := fun q => 16 - q.1) (x := (j, vM)) (j + 1, vM) (by exact ⟨fun _ => by kernel_rfl, ⟨fun _ => by kernel_rfl, ⟨fun _ => by kernel_rfl, ⟨fun _ => by kernel_rfl, ⟨fun _ => by kernel_rfl, ⟨fun _ => by kernel_rfl, trivial⟩⟩⟩⟩⟩⟩) ⟨by rw [fK_succ, if_pos hno, List.append_nil]; exact hF, by simp only; omega⟩ (by show 16 - (j + 1) < 16 - j; omega)
      | false =>
        rw [if_neg (by rw [hno]; simp)] at hRf
        have hOj := (hOk.1 j).resolve_left (fun e => by rw [e] at hno; cases hno)
        have hwj := wn_all (k j) hOj.2.2 (by omega) (hVb.2 j hlt)
        have hyk : (!((yj.k : Int) == (0 : Int))) = true := by rw [hRf.1, encT_node hOj.2.2.ne]; simp [hwj.ref.2.1]
        rw [hyk]
        refine cw_cond_t (fun _ => by kernel_rfl) ?_
        refine cw_seq ?_
        have hV := Bl.refl v
        have hLj : (l0 ++ valL here x ++ fK here k j).length + (entsF (here ++ [((j : Nat) : Int)]) (k j)).length ≤ 2900000000000 := by
          have h1 := fK_mono here k (j + 1) (15 - j)
          rw [show j + 1 + (15 - j) = 16 from by omega, fK_succ, if_neg (by rw [hno]; simp)] at h1
          rw [hhe, entsF_br] at hL
          simp only [List.length_append] at h1 hL ⊢
          omega
        refine cw_cut (fun E u => ∃ vQ, E = [(22, vQ), (23, .bool true), (120, .int .i64 ((j : Nat) : Int)), (119, .int .i64 z.kn), (1, .slice aN nN cN), (16, .pointer (some ⟨gN, 0, none⟩)), (18, .slice ah here.length ch)] ∧ Fi NS w base vL aN nN ah here.length ch here z (nodeP (br k x)) gN vQ (l0 ++ valL here x ++ fK here k j ++ entsF (here ++ [((j : Nat) : Int)]) (k j)) u) ?_ ?_
        · skip
          refine cw_draw (fun u => Rw gN u z.cells.toArray 92 ∧ u.rangeAt gK (oK + j * 34) yj.cells) (by kernel_rfl) (⟨hF.r.go (Bl.drew (Bl.refl v)), rng_go hrg (Bl.drew (Bl.refl v))⟩) ?_
          replace hV := hV.drew
          refine dt 0 131 (vM) (fun v hv _ => by kernel_rfl) ⟨hF.r.go (hV), rng_go hrg (hV)⟩ ?_
          refine dt 1 132 (.slice aN nN cN) (fun v hv _ => by kernel_rfl) ⟨hF.r.go (hV), rng_go hrg (hV)⟩ ?_
          refine dt 2 133 (.pointer (some ⟨gN, 37, none⟩)) (fun v hv _ => by kernel_rfl) ⟨hF.r.go (hV), rng_go hrg (hV)⟩ ?_
          refine dt 3 134 (.slice (some ⟨gK, oK, none⟩) 16 z.kc) (fun v hv _ => ol_conv (ol_cell 90 _ ⟨gN, 37, none⟩ _ _ rfl (by kernel_rfl) (by rw [cell_of_row _ _ _ _ _ _ hv.1]; exact n_at37 hzl) Tryz.underlying90 rfl) (by rw [eK, hk16])) ⟨hF.r.go (hV), rng_go hrg (hV)⟩ ?_
          refine dt 4 135 (.int .i64 ((j : Nat) : Int)) (fun v hv _ => by kernel_rfl) ⟨hF.r.go (hV), rng_go hrg (hV)⟩ ?_
          refine dt 5 136 (.pointer (some ⟨gK, oK + j * 34, none⟩)) (fun v hv _ => ol_index 90 _ _ gK oK j 16 z.kc 34 62 rfl (by kernel_rfl) (by kernel_rfl) hlt Tryz.underlying90 (by kernel_rfl)) ⟨hF.r.go (hV), rng_go hrg (hV)⟩ ?_
          refine dt 6 137 (.agg yj.cells.toArray) (fun v hv _ => ol_mid 62 _ gK (oK + j * 34) yj.cells _ rfl (by kernel_rfl) (hv.2) Tryz.underlying62 rfl (by rw [infoR, RV.len hRf.len])) ⟨hF.r.go (hV), rng_go hrg (hV)⟩ ?_
          refine dt 8 139 (.slice ah here.length ch) (fun v hv _ => by kernel_rfl) ⟨hF.r.go (hV), rng_go hrg (hV)⟩ ?_
          refine dt 10 141 (.int .i64 ((j : Nat) : Int)) (fun v hv _ => by kernel_rfl) ⟨hF.r.go (hV), rng_go hrg (hV)⟩ ?_
          refine dt 11 142 (.int .u8 ((j : Nat) : Int)) (fun v hv _ => ol_conv (v := .int .u8 (IntKind.u8.wrap ((j : Nat) : Int))) (by kernel_rfl) (congrArg (Value.int .u8) (wrap8 hlt))) ⟨hF.r.go (hV), rng_go hrg (hV)⟩ ?_
          refine dw_ready [7, 12] (by kernel_rfl) (by simp) ?_
          refine ar_newS 7 138 #[] 5 0 rfl (fun _ => by kernel_rfl) (fun _ => by kernel_rfl) (fun w' g h => ⟨hF.r.go (hV.go h.below), rng_go hrg (hV.go h.below)⟩) ?_ ?_
          · skip
            intro w1 g2 hn3
            have hg7 := hn3.hg
            have hs7 := hn3.size
            have hq := ownB_new0 hn3 hV.size
            replace hV := hV.go hn3.below
            refine dw_ready [9, 12] (by kernel_rfl) (by simp) ?_
            obtain ⟨VA4, w5, hrA4, hoA4, hbA4, hkA4⟩ := app_runQ hq (hF.h.go hV).ag (by simp; omega) hV.size
            rw [List.nil_append] at hoA4
            refine ar_v 9 140 VA4 rfl (fun _ => by kernel_rfl) (fun _ => ol_app hrA4 _ _ rfl (by kernel_rfl) (by kernel_rfl)) ⟨hF.r.go (Below.trans hV hbA4), rng_go hrg (Below.trans hV hbA4)⟩ ?_ ?_
            · skip
              replace hV : Bl v w5 := Below.trans hV hbA4
              refine dw_ready [12] (by kernel_rfl) (by simp) ?_
              refine ar_newS 12 143 #[.int .u8 ((j : Nat) : Int)] 5 1 rfl (fun _ => by kernel_rfl) (fun _ => by kernel_rfl) (fun w' g h => ⟨hF.r.go (hV.go h.below), rng_go hrg (hV.go h.below)⟩) ?_ ar_nil
              intro w6 g7 hn8
              have hg12 := hn8.hg
              have h12 : Rw g7 w6 #[.int .u8 ((j : Nat) : Int)] 5 := hn8.row
              have hl7 := hoA4.lt
              replace hoA4 := hoA4.grows hn8.below
              replace hV := hV.go hn8.below
              refine dw_ready [13] (by kernel_rfl) (by simp) ?_
              obtain ⟨VC9, w10, hrC9, hoC9, hbC9⟩ := app_run hoA4 (rw_one (by omega) h12) (by simp; omega) hV.size
              refine ar_v 13 144 VC9 rfl (fun _ => by kernel_rfl) (fun _ => ol_app hrC9 _ _ rfl (by kernel_rfl) (by kernel_rfl)) ⟨hF.r.go (Below.trans hV hbC9), rng_go hrg (Below.trans hV hbC9)⟩ ?_ ar_nil
              replace hV : Bl v w10 := Below.trans hV hbC9
              obtain ⟨aj, cj, eV, hs9⟩ := hoC9.sk (K := KF vM) (fun y hy => (List.mem_append.1 hy).elim (fun q => hF.h.ag.b y q) (fun q => by rw [List.mem_singleton.1 q]; omega)) (fun b hb => hF.o.kf hb)
              subst eV
              refine dw_ready [14] (by kernel_rfl) (by simp) ?_
              have hG4 := hF.go hV
              refine ar_call 14 145 26 #[vM, .slice aN nN cN, .agg yj.cells.toArray, .slice aj (here ++ [((j : Nat) : Int)]).length cj, .bool false, .bool false] rfl (fun _ => by kernel_rfl) (fun _ => by kernel_rfl) (R := RFd w10 vM base (l0 ++ valL here x ++ fK here k j ++ entsF (here ++ [((j : Nat) : Int)]) (k j))) ((((hT k x rfl j hlt).resolve_left (fun e => by rw [e] at hno; cases hno)) hG4.o hG4.b hG4.ns hs9 (hRf.go (keep_bl hV)) (nam_of (fun b hb => hM b (nmd_kid hlt hno b (List.mem_append.2 (.inr hb))))) (fun e => by cases e) hOj.2.2 (by omega) (hVb.2 j hlt) (hhe ▸ hK.kid hlt) (fun b hb => hM b (nmd_kid hlt hno b (List.mem_append.2 (.inl hb)))) hLj)) (fun u w' ⟨_, _, _, hG⟩ => ⟨((hF.r.go hV).fg hG hF.k).1, range_keep (rng_go hrg hV) (fun hl => (hG.keep gK hKg hl).1)⟩) ?_ ar_nil
              rintro _ u4 ⟨vQ, rfl, hO4, hG5⟩
              replace hG4 := hG4.fg hG5 hO4
              have hS4 : Rw gN u4 z.cells.toArray 92 ∧ u4.rangeAt gK (oK + j * 34) yj.cells := ⟨hG4.r, range_keep (rng_go hrg hV) (fun hl => (hG5.keep gK hKg hl).1)⟩
              refine dt 15 130 (.tuple #[vQ, .bool true]) (fun v hv _ => by kernel_rfl) hS4 ?_
              refine dt 16 146 (vQ) (fun v hv _ => by kernel_rfl) hS4 ?_
              refine dt 17 147 (.bool true) (fun v hv _ => by kernel_rfl) hS4 ?_
              refine dt 18 22 (vQ) (fun v hv _ => by kernel_rfl) hS4 ?_
              refine dt 19 23 (.bool true) (fun v hv _ => by kernel_rfl) hS4 ?_
              refine dw_done (by kernel_rfl) ?_
              exact nw_cut [(22, vQ), (23, .bool true), (120, .int .i64 ((j : Nat) : Int)), (119, .int .i64 z.kn), (1, .slice aN nN cN), (16, .pointer (some ⟨gN, 0, none⟩)), (18, .slice ah here.length ch)] (by exact ⟨fun _ => by kernel_rfl, ⟨fun _ => by kernel_rfl, ⟨fun _ => by kernel_rfl, ⟨fun _ => by kernel_rfl, ⟨fun _ => by kernel_rfl, ⟨fun _ => by kernel_rfl, ⟨fun _ => by kernel_rfl, trivial⟩⟩⟩⟩⟩⟩⟩) ⟨vQ, rfl, hG4⟩
            refine ar_newS 12 143 #[.int .u8 ((j : Nat) : Int)] 5 1 rfl (fun _ => by kernel_rfl) (fun _ => by kernel_rfl) (fun w' g h => ⟨hF.r.go (hV.go h.below), rng_go hrg (hV.go h.below)⟩) ?_ ar_nil
            intro w11 g12 hn13
            have hg12 := hn13.hg
            have h12 : Rw g12 w11 #[.int .u8 ((j : Nat) : Int)] 5 := hn13.row
            have hl7 := hq.lt
            replace hq := hq.grows hn13.below
            replace hV := hV.go hn13.below
            refine dw_ready [9] (by kernel_rfl) (by simp) ?_
            obtain ⟨VA14, w15, hrA14, hoA14, hbA14, hkA14⟩ := app_runQ hq (hF.h.go hV).ag (by simp; omega) hV.size
            rw [List.nil_append] at hoA14
            refine ar_v 9 140 VA14 rfl (fun _ => by kernel_rfl) (fun _ => ol_app hrA14 _ _ rfl (by kernel_rfl) (by kernel_rfl)) ⟨hF.r.go (Below.trans hV hbA14), rng_go hrg (Below.trans hV hbA14)⟩ ?_ ar_nil
            replace h12 : Rw g12 w15 #[.int .u8 ((j : Nat) : Int)] 5 := (hkA14 _ (lt_of_get h12) (by simp [Value.ownBlock]; omega)).trans h12
            replace hV : Bl v w15 := Below.trans hV hbA14
            refine dw_ready [13] (by kernel_rfl) (by simp) ?_
            obtain ⟨VC16, w17, hrC16, hoC16, hbC16⟩ := app_run hoA14 (rw_one (by omega) h12) (by simp; omega) hV.size
            refine ar_v 13 144 VC16 rfl (fun _ => by kernel_rfl) (fun _ => ol_app hrC16 _ _ rfl (by kernel_rfl) (by kernel_rfl)) ⟨hF.r.go (Below.trans hV hbC16), rng_go hrg (Below.trans hV hbC16)⟩ ?_ ar_nil
            replace hV : Bl v w17 := Below.trans hV hbC16
            obtain ⟨aj, cj, eV, hs9⟩ := hoC16.sk (K := KF vM) (fun y hy => (List.mem_append.1 hy).elim (fun q => hF.h.ag.b y q) (fun q => by rw [List.mem_singleton.1 q]; omega)) (fun b hb => hF.o.kf hb)
            subst eV
            refine dw_ready [14] (by kernel_rfl) (by simp) ?_
            have hG4 := hF.go hV
            refine ar_call 14 145 26 #[vM, .slice aN nN cN, .agg yj.cells.toArray, .slice aj (here ++ [((j : Nat) : Int)]).length cj, .bool false, .bool false] rfl (fun _ => by kernel_rfl) (fun _ => by kernel_rfl) (R := RFd w17 vM base (l0 ++ valL here x ++ fK here k j ++ entsF (here ++ [((j : Nat) : Int)]) (k j))) ((((hT k x rfl j hlt).resolve_left (fun e => by rw [e] at hno; cases hno)) hG4.o hG4.b hG4.ns hs9 (hRf.go (keep_bl hV)) (nam_of (fun b hb => hM b (nmd_kid hlt hno b (List.mem_append.2 (.inr hb))))) (fun e => by cases e) hOj.2.2 (by omega) (hVb.2 j hlt) (hhe ▸ hK.kid hlt) (fun b hb => hM b (nmd_kid hlt hno b (List.mem_append.2 (.inl hb)))) hLj)) (fun u w' ⟨_, _, _, hG⟩ => ⟨((hF.r.go hV).fg hG hF.k).1, range_keep (rng_go hrg hV) (fun hl => (hG.keep gK hKg hl).1)⟩) ?_ ar_nil
            rintro _ u4 ⟨vQ, rfl, hO4, hG5⟩
            replace hG4 := hG4.fg hG5 hO4
            have hS4 : Rw gN u4 z.cells.toArray 92 ∧ u4.rangeAt gK (oK + j * 34) yj.cells := ⟨hG4.r, range_keep (rng_go hrg hV) (fun hl => (hG5.keep gK hKg hl).1)⟩
            refine dt 15 130 (.tuple #[vQ, .bool true]) (fun v hv _ => by kernel_rfl) hS4 ?_
            refine dt 16 146 (vQ) (fun v hv _ => by kernel_rfl) hS4 ?_
            refine dt 17 147 (.bool true) (fun v hv _ => by kernel_rfl) hS4 ?_
            refine dt 18 22 (vQ) (fun v hv _ => by kernel_rfl) hS4 ?_
            refine dt 19 23 (.bool true) (fun v hv _ => by kernel_rfl) hS4 ?_
            refine dw_done (by kernel_rfl) ?_
            exact nw_cut [(22, vQ), (23, .bool true), (120, .int .i64 ((j : Nat) : Int)), (119, .int .i64 z.kn), (1, .slice aN nN cN), (16, .pointer (some ⟨gN, 0, none⟩)), (18, .slice ah here.length ch)] (by exact ⟨fun _ => by kernel_rfl, ⟨fun _ => by kernel_rfl, ⟨fun _ => by kernel_rfl, ⟨fun _ => by kernel_rfl, ⟨fun _ => by kernel_rfl, ⟨fun _ => by kernel_rfl, ⟨fun _ => by kernel_rfl, trivial⟩⟩⟩⟩⟩⟩⟩) ⟨vQ, rfl, hG4⟩
          refine ar_newS 12 143 #[.int .u8 ((j : Nat) : Int)] 5 1 rfl (fun _ => by kernel_rfl) (fun _ => by kernel_rfl) (fun w' g h => ⟨hF.r.go (hV.go h.below), rng_go hrg (hV.go h.below)⟩) ?_ ar_nil
          intro w18 g19 hn20
          have hg12 := hn20.hg
          have h12 : Rw g19 w18 #[.int .u8 ((j : Nat) : Int)] 5 := hn20.row
          replace hV := hV.go hn20.below
          refine dw_ready [7] (by kernel_rfl) (by simp) ?_
          refine ar_newS 7 138 #[] 5 0 rfl (fun _ => by kernel_rfl) (fun _ => by kernel_rfl) (fun w' g h => ⟨hF.r.go (hV.go h.below), rng_go hrg (hV.go h.below)⟩) ?_ ar_nil
          intro w21 g22 hn23
          have hg7 := hn23.hg
          have hs7 := hn23.size
          have hq := ownB_new0 hn23 hV.size
          have hlt12 := lt_of_get h12
          replace h12 := h12.go hn23.below
          replace hV := hV.go hn23.below
          refine dw_ready [9] (by kernel_rfl) (by simp) ?_
          obtain ⟨VA24, w25, hrA24, hoA24, hbA24, hkA24⟩ := app_runQ hq (hF.h.go hV).ag (by simp; omega) hV.size
          rw [List.nil_append] at hoA24
          refine ar_v 9 140 VA24 rfl (fun _ => by kernel_rfl) (fun _ => ol_app hrA24 _ _ rfl (by kernel_rfl) (by kernel_rfl)) ⟨hF.r.go (Below.trans hV hbA24), rng_go hrg (Below.trans hV hbA24)⟩ ?_ ar_nil
          replace h12 : Rw g19 w25 #[.int .u8 ((j : Nat) : Int)] 5 := (hkA24 _ (lt_of_get h12) (by simp [Value.ownBlock]; omega)).trans h12
          replace hV : Bl v w25 := Below.trans hV hbA24
          refine dw_ready [13] (by kernel_rfl) (by simp) ?_
          obtain ⟨VC26, w27, hrC26, hoC26, hbC26⟩ := app_run hoA24 (rw_one (by omega) h12) (by simp; omega) hV.size
          refine ar_v 13 144 VC26 rfl (fun _ => by kernel_rfl) (fun _ => ol_app hrC26 _ _ rfl (by kernel_rfl) (by kernel_rfl)) ⟨hF.r.go (Below.trans hV hbC26), rng_go hrg (Below.trans hV hbC26)⟩ ?_ ar_nil
          replace hV : Bl v w27 := Below.trans hV hbC26
          obtain ⟨aj, cj, eV, hs9⟩ := hoC26.sk (K := KF vM) (fun y hy => (List.mem_append.1 hy).elim (fun q => hF.h.ag.b y q) (fun q => by rw [List.mem_singleton.1 q]; omega)) (fun b hb => hF.o.kf hb)
          subst eV
          refine dw_ready [14] (by kernel_rfl) (by simp) ?_
          have hG4 := hF.go hV
          refine ar_call 14 145 26 #[vM, .slice aN nN cN, .agg yj.cells.toArray, .slice aj (here ++ [((j : Nat) : Int)]).length cj, .bool false, .bool false] rfl (fun _ => by kernel_rfl) (fun _ => by kernel_rfl) (R := RFd w27 vM base (l0 ++ valL here x ++ fK here k j ++ entsF (here ++ [((j : Nat) : Int)]) (k j))) ((((hT k x rfl j hlt).resolve_left (fun e => by rw [e] at hno; cases hno)) hG4.o hG4.b hG4.ns hs9 (hRf.go (keep_bl hV)) (nam_of (fun b hb => hM b (nmd_kid hlt hno b (List.mem_append.2 (.inr hb))))) (fun e => by cases e) hOj.2.2 (by omega) (hVb.2 j hlt) (hhe ▸ hK.kid hlt) (fun b hb => hM b (nmd_kid hlt hno b (List.mem_append.2 (.inl hb)))) hLj)) (fun u w' ⟨_, _, _, hG⟩ => ⟨((hF.r.go hV).fg hG hF.k).1, range_keep (rng_go hrg hV) (fun hl => (hG.keep gK hKg hl).1)⟩) ?_ ar_nil
          rintro _ u4 ⟨vQ, rfl, hO4, hG5⟩
          replace hG4 := hG4.fg hG5 hO4
          have hS4 : Rw gN u4 z.cells.toArray 92 ∧ u4.rangeAt gK (oK + j * 34) yj.cells := ⟨hG4.r, range_keep (rng_go hrg hV) (fun hl => (hG5.keep gK hKg hl).1)⟩
          refine dt 15 130 (.tuple #[vQ, .bool true]) (fun v hv _ => by kernel_rfl) hS4 ?_
          refine dt 16 146 (vQ) (fun v hv _ => by kernel_rfl) hS4 ?_
          refine dt 17 147 (.bool true) (fun v hv _ => by kernel_rfl) hS4 ?_
          refine dt 18 22 (vQ) (fun v hv _ => by kernel_rfl) hS4 ?_
          refine dt 19 23 (.bool true) (fun v hv _ => by kernel_rfl) hS4 ?_
          refine dw_done (by kernel_rfl) ?_
          exact nw_cut [(22, vQ), (23, .bool true), (120, .int .i64 ((j : Nat) : Int)), (119, .int .i64 z.kn), (1, .slice aN nN cN), (16, .pointer (some ⟨gN, 0, none⟩)), (18, .slice ah here.length ch)] (by exact ⟨fun _ => by kernel_rfl, ⟨fun _ => by kernel_rfl, ⟨fun _ => by kernel_rfl, ⟨fun _ => by kernel_rfl, ⟨fun _ => by kernel_rfl, ⟨fun _ => by kernel_rfl, ⟨fun _ => by kernel_rfl, trivial⟩⟩⟩⟩⟩⟩⟩) ⟨vQ, rfl, hG4⟩
        clear hF hrg hRf
        rintro _ u5 ⟨vQ, rfl, hF⟩
        refine nw_then ?_
        refine cw_seq ?_
        refine cw_seq ?_
        refine cw_region ?_
        refine rp 148 (.bool true) ?_
        refine rp 149 (.bool false) ?_
        refine rw_nil ?_
        refine nw_then ?_
        refine cw_cond_f (fun _ => by kernel_rfl) ?_
        refine cw_skip ?_
        refine nw_then ?_
        refine cw_region ?_
        refine rp 151 (vQ) ?_
        refine rp 0 (vQ) ?_
        refine rw_nil ?_
        refine nw_block ?_
        refine nw_then ?_
        refine cw_region ?_
        refine rv 152 (.int .i64 ((j + 1 : Nat) : Int)) (fun _ => ol_conv (v := .int .i64 (IntKind.i64.wrap (((j : Nat) : Int) + 1))) (by kernel_rfl) (congrArg (Value.int .i64) (by rw [wrap64 (by omega) (by omega)]; rfl))) ?_
        refine rp 120 (.int .i64 ((j + 1 : Nat) : Int)) ?_
        refine rw_nil ?_
        exact nw_round (E := fun q => [(120, .int .i64 ((q.1 : Nat) : Int)), (119, .int .i64 z.kn), (0, q.2), (1, .slice aN nN cN), (16, .pointer (some ⟨gN, 0, none⟩)), (18, .slice ah here.length ch)]) (R := fun q v => Fi NS w base vL aN nN ah here.length ch here z (nodeP (br k x)) gN q.2 (l0 ++ valL here x ++ fK here k q.1) v ∧ q.1 ≤ 16) (μ := fun q => 16 - q.1) (x := (j, vM)) (j + 1, vQ) (by exact ⟨fun _ => by kernel_rfl, ⟨fun _ => by kernel_rfl, ⟨fun _ => by kernel_rfl, ⟨fun _ => by kernel_rfl, ⟨fun _ => by kernel_rfl, ⟨fun _ => by kernel_rfl, trivial⟩⟩⟩⟩⟩⟩) ⟨by rw [fK_succ, if_neg (by rw [hno]; simp), ← List.append_assoc]; exact hF, by simp only; omega⟩ (by show 16 - (j + 1) < 16 - j; omega)
    obtain rfl : j = 16 := by omega
    show CW _ _ _ _ _ _ _ [(120, .int .i64 ((16 : Nat) : Int)), (119, .int .i64 z.kn), (0, vM), (1, .slice aN nN cN), (16, .pointer (some ⟨gN, 0, none⟩)), (18, .slice ah here.length ch)] _
    refine cw_seq ?_
    refine cw_region ?_
    refine rv 121 (.bool false) (fun _ => ol_conv (v := .bool (decide (((16 : Nat) : Int) < (z.kn : Int)))) (by kernel_rfl) (congrArg Value.bool (decide_eq_false (by omega)))) ?_
    refine rw_nil ?_
    refine nw_then ?_
    refine cw_seq ?_
    refine cw_cond_f (fun _ => by kernel_rfl) ?_
    refine cw_exit ?_
    refine nw_exit_then ?_
    refine nw_exit_then ?_
    refine nw_exit_here ?_
    refine nw_then ?_
    refine cw_seq ?_
    refine cw_region ?_
    refine rp 153 (vM) ?_
    refine rp 12 (vM) ?_
    refine rp 13 (.bool true) ?_
    refine rw_nil ?_
    refine nw_then ?_
    refine cw_ret ?_
    exact nw_ret_body (.tuple #[vM, .bool true]) (fun _ => by kernel_rfl) ⟨_, rfl, vM, rfl, by rw [hhe, entsF_br, ← List.append_assoc]; exact hF.o, hF.g⟩
theorem found_all {NS : List (List Int)} (hNd : Nds NS) : ∀ t : Tr, FoS NS t := by
  intro t
  induction t with
  | no => intro w base vL l0 aN nN cN a n c p y r top ex B hO hbase hN hp hy hNam hEx hOk; exact hOk.elim
  | leaf q x =>
    intro w base vL l0 aN nN cN a n c p y r top ex B hO hbase hN hp hy hNam hEx hOk h64 hVb hK hM hL
    exact found_step hNd (fun _ _ e => by cases e) (fun _ _ e => by cases e) hO hbase hN hp hy hNam hEx hOk h64 hVb hK hM hL
  | ext q c ih =>
    intro w base vL l0 aN nN cN a n c p y r top ex B hO hbase hN hp hy hNam hEx hOk h64 hVb hK hM hL
    exact found_step hNd (fun _ _ e => by cases e; exact ih) (fun _ _ e => by cases e) hO hbase hN hp hy hNam hEx hOk h64 hVb hK hM hL
  | br k x ih =>
    intro w base vL l0 aN nN cN a n c p y r top ex B hO hbase hN hp hy hNam hEx hOk h64 hVb hK hM hL
    exact found_step hNd (fun _ _ e => by cases e) (fun _ _ e i hi => by cases e; exact .inr (ih i)) hO hbase hN hp hy hNam hEx hOk h64 hVb hK hM hL
end Go.Proofs.YtalhnnjpjaeakaaGreat
/- How many nodes a tree has: a Put adds three at most; no more are named than there are. -/
namespace Go.Proofs.YtalhnnjpjaeakaaGreat
set_option linter.unusedVariables false
namespace Tr
def sz : Tr → Nat
  | no => 0
  | leaf _ _ => 1
  | ext _ c => sz c + 1
  | br k _ => ((List.range 16).map fun i => sz (k i)).sum + 1
theorem sz_upd (k : Nat → Tr) (i : Nat) (t : Tr) (m : Nat) (h : sz t ≤ sz (k i) + m) : ∀ n, ((List.range n).map fun j => sz (upd k i t j)).sum ≤ ((List.range n).map fun j => sz (k j)).sum + (if i < n then m else 0)
  | 0 => by simp
  | n + 1 => by
    have ih := sz_upd k i t m h n
    rw [List.range_succ, List.map_append, List.map_append, List.sum_append, List.sum_append]
    simp only [List.map_cons, List.map_nil, List.sum_cons, List.sum_nil, Nat.add_zero]
    by_cases e : n = i
    · subst e
      rw [upd_same, if_pos (by omega)]
      rw [if_neg (by omega)] at ih
      omega
    · rw [upd_other k t e]
      by_cases h2 : i < n
      · rw [if_pos (by omega)]; rw [if_pos h2] at ih; omega
      · rw [if_neg (by omega)]; rw [if_neg h2] at ih; omega
theorem sz_updB (k : Nat → Tr) (i : Nat) (t : Tr) (m : Nat) (x y : List Int) (h : sz t ≤ sz (k i) + m) : sz (br (upd k i t) x) ≤ sz (br k y) + m := by
  have := sz_upd k i t m h 16
  simp only [sz]
  split at this <;> omega
theorem sz_und (p : List Int) (t : Tr) : sz (und p t) ≤ sz t + 1 := by
  cases t with
  | no => simp [und, sz]
  | leaf q v => simp [und, sz]
  | ext q c => simp [und, sz]
  | br k v =>
    simp only [und]
    split
    · omega
    · simp only [sz]; omega
theorem sz_add (k : Nat → Tr) (x q v : List Int) : sz (add k x q v) ≤ sz (br k x) + 1 := by
  cases q with
  | nil => simp only [add, sz]; omega
  | cons i r => exact sz_updB k i.toNat (leaf r v) 1 x x (by simp only [sz]; omega)
theorem sz_addT (t : Tr) (q v : List Int) : sz (addT t q v) ≤ sz t + 1 := by
  cases t with
  | br k x => exact sz_add k x q v
  | no => simp [addT]
  | leaf p x => simp [addT]
  | ext p c => simp [addT]
theorem sz_nk (x : List Int) : sz (br nk x) = 1 := by
  simp only [sz]
  have : ((List.range 16).map fun i => sz (nk i)) = (List.range 16).map fun _ => 0 := by simp [nk, sz]
  rw [this]; rfl
theorem sz_put : ∀ (t : Tr) (q v : List Int), sz (put t q v) ≤ sz t + 3 := by
  intro t
  induction t with
  | no => intro q v; simp [put, sz]
  | leaf p x =>
    intro q v
    simp only [put]
    split
    · simp [sz]
    · have h1 := sz_und (q.take (Ni.com p q)) (addT (add nk [] (p.drop (Ni.com p q)) x) (q.drop (Ni.com p q)) v)
      have h2 := sz_addT (add nk [] (p.drop (Ni.com p q)) x) (q.drop (Ni.com p q)) v
      have h3 := sz_add nk [] (p.drop (Ni.com p q)) x
      have h4 := sz_nk []
      have h5 : sz (leaf p x) = 1 := rfl
      omega
  | ext p c ih =>
    intro q v
    simp only [put]
    split
    · have := ih (q.drop p.length) v
      simp only [sz]; omega
    · have h1 := sz_und (q.take (Ni.com p q)) (add (upd nk (p.getD (Ni.com p q) 0).toNat (und (p.drop (Ni.com p q + 1)) c)) [] (q.drop (Ni.com p q)) v)
      have h2 := sz_add (upd nk (p.getD (Ni.com p q) 0).toNat (und (p.drop (Ni.com p q + 1)) c)) [] (q.drop (Ni.com p q)) v
      have h3 := sz_updB nk (p.getD (Ni.com p q) 0).toNat (und (p.drop (Ni.com p q + 1)) c) (sz c + 1) [] [] (by have := sz_und (p.drop (Ni.com p q + 1)) c; omega)
      have h4 := sz_nk []
      have h5 : sz (ext p c) = sz c + 1 := rfl
      omega
  | br k x ih =>
    intro q v
    cases q with
    | nil => simp [put, sz]
    | cons i r => exact sz_updB k i.toNat (put (k i.toNat) r v) 3 x x (ih i.toNat r v)
theorem sum_le (f g : Nat → Nat) (h : ∀ i, f i ≤ g i) : ∀ l : List Nat, (l.map f).sum ≤ (l.map g).sum
  | [] => Nat.le_refl _
  | a :: l => by simp only [List.map_cons, List.sum_cons]; have := h a; have := sum_le f g h l; omega
theorem nm1_len (b : List Int) : (nm1 b).length ≤ 1 := by unfold nm1; split <;> simp
theorem nmd_len : ∀ t : Tr, (nmd t).length + (if t.isNo then 0 else 1) ≤ sz t := by
  intro t
  induction t with
  | no => simp [nmd, isNo, sz]
  | leaf p x => simp [nmd, isNo, sz]
  | ext p c ih =>
    simp only [nmd, isNo, sz, List.length_append, Bool.false_eq_true, if_false]
    have h1 := nm1_len (encT c)
    by_cases hc : c.isNo = true
    · rw [if_pos hc] at ih
      cases c with
      | no => simp [encT, nm1, nmd, sz]
      | leaf p x => simp [isNo] at hc
      | ext p x => simp [isNo] at hc
      | br p x => simp [isNo] at hc
    · rw [if_neg hc] at ih; omega
  | br k x ih =>
    rw [show (br k x).isNo = false from rfl]
    simp only [nmd, sz, Bool.false_eq_true, if_false, List.length_flatMap]
    have := sum_le (fun i => (if (k i).isNo then [] else nmd (k i) ++ nm1 (encT (k i))).length) (fun i => sz (k i)) (fun i => by
      have h1 := nm1_len (encT (k i))
      have h2 := ih i
      by_cases hc : (k i).isNo = true
      · simp [hc]
      · rw [if_neg hc] at h2
        simp only [hc, Bool.false_eq_true, if_false, List.length_append]
        omega) (List.range 16)
    omega
theorem nmd_le (t : Tr) : (nmd t).length ≤ sz t := by have := nmd_len t; omega
end Tr
open Tr
theorem sz_putT (t : Tr) (k x : List Int) : Tr.sz (putT t k x) ≤ Tr.sz t + 3 := by
  unfold putT
  split
  · exact sz_put _ _ _
  · omega
end Go.Proofs.YtalhnnjpjaeakaaGreat
