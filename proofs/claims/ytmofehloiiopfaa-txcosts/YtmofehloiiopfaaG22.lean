/- Rows of words of one's own: a word more. -/
import Derived.Test.YtmofehloiiopfaaG09
import Derived.Test.YtmofehloiiopfaaG21
import Derived.Test.YtmofehloiiopfaaG04
import Derived.Test.YtmofehloiiopfaaG19
import Derived.Test.YtmofehloiiopfaaG15
namespace Go.Proofs.Ytmofehloiiopfaa
open Go.RowKit
set_option linter.unusedVariables false
set_option maxRecDepth 100000
theorem infoU : ∃ i, Try.prog.info? 22 = some i ∧ i.zero = some (.int .u64 0) ∧ i.size = 1 ∧ i.bytes = 8 := by
  have h : (Try.prog.info? 22).map (fun i => (i.zero, i.size, i.bytes)) = some (some (.int .u64 0), 1, 8) := by kernel_rfl
  cases hq : Try.prog.info? 22 with
  | none => rw [hq] at h; simp at h
  | some i => rw [hq] at h; simp at h; exact ⟨i, rfl, h.1, h.2.1, h.2.2⟩
def OwnU (w : World) (base : Nat) (v : Value) (l : List Nat) : Prop := w.ownsRow base 22 1 v l.length (l.map u64)
end Go.Proofs.Ytmofehloiiopfaa
/- What the program reads of a transaction's item: plain. -/
namespace Go.Proofs.Ytmofehloiiopfaa
set_option linter.unusedVariables false
set_option linter.unusedSimpArgs false
def wp4 (t : T) : Nat × Bool := if t.l then (0, false) else Wo.rdP t.bs
theorem wd_rd (b : List Int) : wdA b = if (Wo.rdP b).2 then some (Wo.rdP b).1 else none := by
  unfold wdA Wo.rdP
  split <;> rfl
theorem rdP_be {n : Nat} (h : n < W64) : Wo.rdP (be n) = (n, true) := by
  have h1 := wd_be h
  rw [wd_rd] at h1
  split at h1
  · rename_i h2
    exact Prod.ext (Option.some.inj h1) h2
  · cases h1
theorem wp4_tx {n : Nat} (h : n < W64) : wp4 (tx (be n)) = (n, true) := by
  unfold wp4 tx
  exact rdP_be h
theorem wp4_true {t : T} (hf : form t = true) (hb : byt t) (h : (wp4 t).2 = true) : t = tx (be (wp4 t).1) ∧ (wp4 t).1 < W64 := by
  obtain ⟨l, bs, its⟩ := t
  cases l with
  | true => unfold wp4 at h; simp [T.l] at h
  | false =>
    rw [form_eq] at hf
    have e : its = [] := (by simpa using hf : its = [] ∧ forms its = true).1
    subst e
    have e1 : wp4 (.mk false bs []) = Wo.rdP bs := rfl
    rw [e1] at h ⊢
    have h1 : wdA bs = some (Wo.rdP bs).1 := by rw [wd_rd, if_pos h]
    obtain ⟨q1, q2⟩ := wd_some (by rw [byt_eq] at hb; exact hb.1) h1
    exact ⟨by rw [q2]; rfl, q1⟩
def wps : List T → Option (List Nat)
  | [] => some []
  | t :: r => if (wp4 t).2 then (wps r).map (fun l => (wp4 t).1 :: l) else none
theorem wps_all : ∀ {ts : List T}, (∀ t ∈ ts, (wp4 t).2 = true) → wps ts = some (ts.map fun t => (wp4 t).1)
  | [], _ => rfl
  | t :: r, h => by
    rw [wps, if_pos (h t (by simp)), wps_all (ts := r) fun x hx => h x (List.mem_cons_of_mem _ hx)]
    rfl
theorem wps_no : ∀ {ts : List T} {t : T}, t ∈ ts → (wp4 t).2 = false → wps ts = none
  | [], t, h, _ => by cases h
  | a :: r, t, h, hq => by
    rw [wps]
    rcases List.mem_cons.1 h with rfl | h
    · rw [hq]; rfl
    · rw [wps_no h hq]; simp
theorem wps_val : ∀ {ts : List T} {l : List Nat}, wps ts = some l → l = ts.map (fun t => (wp4 t).1) ∧ ∀ t ∈ ts, (wp4 t).2 = true
  | [], l, h => by rw [wps] at h; cases h; exact ⟨rfl, fun t ht => by cases ht⟩
  | a :: r, l, h => by
    rw [wps] at h
    split at h
    · rename_i ha
      cases hr : wps r with
      | none => rw [hr] at h; cases h
      | some l' =>
        rw [hr] at h
        cases h
        obtain ⟨h1, h2⟩ := wps_val hr
        refine ⟨by rw [h1]; rfl, fun t ht => ?_⟩
        rcases List.mem_cons.1 ht with rfl | ht
        · exact ha
        · exact h2 t ht
    · cases h
theorem wps_be {l : List Nat} (h : ∀ x ∈ l, x < W64) : wps (l.map fun n => tx (be n)) = some l := by
  rw [wps_all, List.map_map]
  · congr 1
    rw [List.map_congr_left (g := id) (fun x hx => by show (wp4 (tx (be x))).1 = x; rw [wp4_tx (h x hx)])]
    simp
  · intro t ht
    obtain ⟨n, hn, rfl⟩ := List.mem_map.1 ht
    rw [wp4_tx (h n hn)]
theorem wps_tx {ts : List T} (hf : forms ts = true) (hb : byts ts) (h : ∀ t ∈ ts, (wp4 t).2 = true) : ts = (ts.map fun t => (wp4 t).1).map (fun n => tx (be n)) ∧ ∀ x ∈ ts.map (fun t => (wp4 t).1), x < W64 := by
  constructor
  · rw [List.map_map]
    conv => lhs; rw [← List.map_id ts]
    exact List.map_congr_left fun t ht => (wp4_true (forms_mem hf t ht) (bytX_mem hb t ht) (h t ht)).1
  · intro x hx
    obtain ⟨t, ht, rfl⟩ := List.mem_map.1 hx
    exact (wp4_true (forms_mem hf t ht) (bytX_mem hb t ht) (h t ht)).2
/-- A truth's text. -/
def tru (t : T) : Option Bool := if (wp4 t).2 && decide ((wp4 t).1 ≤ 1) then some (decide ((wp4 t).1 = 1)) else none
theorem be0 : be 0 = [] := by decide +kernel
theorem be1 : be 1 = [1] := by decide +kernel
theorem tx_mk (m : Bool) : tx (mkB m) = tx (be (if m then 1 else 0)) := by
  cases m
  · rw [if_neg (by decide), be0]; rfl
  · rw [if_pos rfl, be1]; rfl
theorem wp4_mk (m : Bool) : wp4 (tx (mkB m)) = (if m then 1 else 0, true) := by rw [tx_mk, wp4_tx (by cases m <;> decide)]
theorem tru_tx (m : Bool) : tru (tx (mkB m)) = some m := by
  unfold tru
  rw [wp4_mk]
  cases m <;> rfl
theorem tru_some {t : T} {m : Bool} (hf : form t = true) (hb : byt t) (h : tru t = some m) : t = tx (mkB m) := by
  unfold tru at h
  split at h
  · rename_i hq
    rw [Bool.and_eq_true, decide_eq_true_eq] at hq
    obtain ⟨e, _⟩ := wp4_true hf hb hq.1
    cases h
    rw [e]
    have : (wp4 t).1 = 0 ∨ (wp4 t).1 = 1 := by omega
    rcases this with q | q
    · rw [show wp4 (tx (be (wp4 t).1)) = wp4 t from by rw [← e], q, be0]; rfl
    · rw [show wp4 (tx (be (wp4 t).1)) = wp4 t from by rw [← e], q, be1]; rfl
  · cases h
def gx (l : List T) (i : Nat) : T := l.getD i t0
def w1 (l : List T) (i : Nat) : Nat := (wp4 (gx l i)).1
/-- What the program's reader makes of nine things. -/
def mkX (l : List T) : PX := ⟨w1 l 0, w1 l 1, w1 l 2, w1 l 3, w1 l 4, w1 l 5, (gx l 6).its.map (fun t => (wp4 t).1), decide ((wp4 (gx l 7)).1 = 1), (gx l 8).bs⟩
def txB (t : T) : Option PX := if t.its.length = 9 ∧ (wps (t.its.take 6)).isSome = true ∧ (gx t.its 6).l = true ∧ (wps (gx t.its 6).its).isSome = true ∧ (tru (gx t.its 7)).isSome = true ∧ (gx t.its 8).l = false then some (mkX t.its) else none
theorem txB_it {t : PX} (h : okX t) : txB (itX t) = some t := by
  have e6 : ((itX t).its.take 6) = [t.f, t.n, t.g, t.p, t.o, t.v].map fun n => tx (be n) := rfl
  have h6 : ∀ x ∈ [t.f, t.n, t.g, t.p, t.o, t.v], x < W64 := by
    intro x hx
    simp only [List.mem_cons, List.not_mem_nil, or_false] at hx
    rcases hx with rfl | rfl | rfl | rfl | rfl | rfl
    · exact h.f
    · exact h.n
    · exact h.g
    · exact h.p
    · exact h.o
    · exact h.v
  have eI : (gx (itX t).its 6).its = t.i.map fun n => tx (be n) := rfl
  have eM : gx (itX t).its 7 = tx (mkB t.m) := rfl
  have hm : (wp4 (gx (itX t).its 7)).1 = if t.m then 1 else 0 := by rw [eM, wp4_mk]
  unfold txB
  rw [if_pos ⟨rfl, by rw [e6, wps_be h6]; rfl, rfl, by rw [eI, wps_be h.i]; rfl, by rw [eM, tru_tx]; rfl, rfl⟩]
  congr 1
  obtain ⟨f, n, g, p, o, v, i, m, c⟩ := t
  unfold mkX
  rw [eI, hm, List.map_map]
  have e0 : w1 (itX ⟨f, n, g, p, o, v, i, m, c⟩).its 0 = f := congrArg Prod.fst (wp4_tx h.f)
  have e1 : w1 (itX ⟨f, n, g, p, o, v, i, m, c⟩).its 1 = n := congrArg Prod.fst (wp4_tx h.n)
  have e2 : w1 (itX ⟨f, n, g, p, o, v, i, m, c⟩).its 2 = g := congrArg Prod.fst (wp4_tx h.g)
  have e3 : w1 (itX ⟨f, n, g, p, o, v, i, m, c⟩).its 3 = p := congrArg Prod.fst (wp4_tx h.p)
  have e4 : w1 (itX ⟨f, n, g, p, o, v, i, m, c⟩).its 4 = o := congrArg Prod.fst (wp4_tx h.o)
  have e5 : w1 (itX ⟨f, n, g, p, o, v, i, m, c⟩).its 5 = v := congrArg Prod.fst (wp4_tx h.v)
  rw [e0, e1, e2, e3, e4, e5]
  have ei : List.map ((fun t => (wp4 t).1) ∘ fun n => tx (be n)) i = i := by
    rw [List.map_congr_left (g := id) (fun x hx => by show (wp4 (tx (be x))).1 = x; rw [wp4_tx (h.i x hx)])]
    simp
  simp only
  rw [ei]
  have e8 : (gx (itX ⟨f, n, g, p, o, v, i, m, c⟩).its 8).bs = c := rfl
  rw [e8]
  cases m <;> rfl
theorem txB_some {t : T} {a : PX} (hf : form t = true) (hb : byt t) (h : txB t = some a) : t = itX a ∧ okX a := by
  unfold txB at h
  split at h
  · rename_i hq
    obtain ⟨h9, h6, hl6, hi, hm, h8⟩ := hq
    cases h
    obtain ⟨l, bs, its⟩ := t
    simp only [T.its] at h9 h6 hl6 hi hm h8 ⊢
    match its, h9 with
    | [x0, x1, x2, x3, x4, x5, x6, x7, x8], _ =>
      rw [byt_eq] at hb
      rw [form_eq] at hf
      cases l with
      | false => simp at hf
      | true =>
        simp only [if_true, Bool.and_eq_true] at hf
        obtain ⟨hbs, hfs⟩ := hf
        have e1 : bs = [] := by simpa using hbs
        subst e1
        have hfm := forms_mem hfs
        have hbm := bytX_mem hb.2
        cases q6 : wps [x0, x1, x2, x3, x4, x5] with
        | none => rw [show List.take 6 [x0, x1, x2, x3, x4, x5, x6, x7, x8] = [x0, x1, x2, x3, x4, x5] from rfl, q6] at h6; cases h6
        | some l6 =>
          obtain ⟨_, v6⟩ := wps_val q6
          have p0 := wp4_true (hfm x0 (by simp)) (hbm x0 (by simp)) (v6 x0 (by simp))
          have p1 := wp4_true (hfm x1 (by simp)) (hbm x1 (by simp)) (v6 x1 (by simp))
          have p2 := wp4_true (hfm x2 (by simp)) (hbm x2 (by simp)) (v6 x2 (by simp))
          have p3 := wp4_true (hfm x3 (by simp)) (hbm x3 (by simp)) (v6 x3 (by simp))
          have p4 := wp4_true (hfm x4 (by simp)) (hbm x4 (by simp)) (v6 x4 (by simp))
          have p5 := wp4_true (hfm x5 (by simp)) (hbm x5 (by simp)) (v6 x5 (by simp))
          change (wps x6.its).isSome = true at hi
          change x6.l = true at hl6
          change (tru x7).isSome = true at hm
          change x8.l = false at h8
          cases qi : wps x6.its with
          | none => rw [qi] at hi; cases hi
          | some li =>
            obtain ⟨_, vi⟩ := wps_val qi
            have f6 := hfm x6 (by simp)
            have b6 := hbm x6 (by simp)
            obtain ⟨xl, xb, xi⟩ := x6
            simp only [T.l] at hl6
            subst hl6
            rw [form_eq] at f6
            simp only [if_true, Bool.and_eq_true] at f6
            have e6 : xb = [] := by simpa using f6.1
            subst e6
            rw [byt_eq] at b6
            obtain ⟨ti, wi⟩ := wps_tx f6.2 b6.2 vi
            cases qm : tru x7 with
            | none => rw [qm] at hm; cases hm
            | some m =>
              have t7 := tru_some (hfm x7 (by simp)) (hbm x7 (by simp)) qm
              have m7 : decide ((wp4 x7).1 = 1) = m := by
                unfold tru at qm
                split at qm
                · exact Option.some.inj qm
                · cases qm
              have f8 := hfm x8 (by simp)
              have b8 := hbm x8 (by simp)
              obtain ⟨yl, yb, yi⟩ := x8
              simp only [T.l] at h8
              subst h8
              rw [form_eq] at f8
              have e8 : yi = [] := (by simpa using f8 : yi = [] ∧ forms yi = true).1
              subst e8
              rw [byt_eq] at b8
              have ea : mkX [x0, x1, x2, x3, x4, x5, .mk true [] xi, x7, .mk false yb []] = ⟨(wp4 x0).1, (wp4 x1).1, (wp4 x2).1, (wp4 x3).1, (wp4 x4).1, (wp4 x5).1, xi.map (fun t => (wp4 t).1), decide ((wp4 x7).1 = 1), yb⟩ := rfl
              rw [ea, m7]
              refine ⟨?_, ⟨p0.2, p1.2, p2.2, p3.2, p4.2, p5.2, wi, b8.1⟩⟩
              unfold itX
              simp only
              rw [← p0.1, ← p1.1, ← p2.1, ← p3.1, ← p4.1, ← p5.1, ← ti, ← t7]
              rfl
  · cases h
theorem dec_formX {b : List Int} (hb : bytP b) {t : T} (h : decP b = .ok t) : form t = true := (encP_ok (dec_enc hb (rd_of_dec h)).2).2.2
theorem deX_tx {b : List Int} {t : T} (hb : bytP b) (hd : decP b = .ok t) : deX b = match txB t with | some a => if rtX a = true then some a else none | none => none := by
  have hf := dec_formX hb hd
  obtain ⟨hy, _⟩ := dec_byt hb hd
  cases hq : txB t with
  | some a =>
    obtain ⟨e, ok⟩ := txB_some hf hy hq
    simp only
    by_cases hr : rtX a = true
    · rw [if_pos hr]
      unfold deX
      rw [hd, e]
      exact xOf_it ok hr
    · rw [if_neg hr]
      cases hx : deX b with
      | none => rfl
      | some a' =>
        obtain ⟨ok', hr', _, hd'⟩ := deX_some hb hx
        have e' : t = itX a' := by rw [hd] at hd'; injection hd'
        rw [e', txB_it ok'] at hq
        cases hq
        exact absurd hr' hr
  | none =>
    simp only
    cases hx : deX b with
    | none => rfl
    | some a' =>
      obtain ⟨ok', hr', _, hd'⟩ := deX_some hb hx
      have e' : t = itX a' := by rw [hd] at hd'; injection hd'
      rw [e', txB_it ok'] at hq
      cases hq
/-- How many things a decoded list has. -/
theorem encs_ge : ∀ (its : List T), its.length ≤ (encs its).length
  | [] => by simp
  | t :: r => by
    rw [encs_cons, List.length_append, List.length_cons]
    have := enc_pos t
    have := encs_ge r
    omega
theorem dec_len {b : List Int} (hb : bytP b) {t : T} (h : decP b = .ok t) : t.its.length ≤ 16777216 ∧ ∀ x ∈ t.its, x.its.length ≤ 16777216 := by
  obtain ⟨_, h2, h3⟩ := encP_ok (dec_enc hb (rd_of_dec h)).2
  have e : (encs t.its).length ≤ 16777216 := by
    obtain ⟨l, bs, its⟩ := t
    have h4 : bs.length + (encs its).length < 16777216 := by
      have := h2
      unfold bodyOf at this
      rw [List.length_append] at this
      exact this
    show (encs its).length ≤ _
    omega
  refine ⟨Nat.le_trans (encs_ge _) e, fun x hx => ?_⟩
  have h4 := encs_mem_le hx
  obtain ⟨l, bs, its⟩ := x
  have h5 : (bs ++ encs its).length ≤ (enc (.mk l bs its)).length := by
    rw [enc_eq]
    split
    · exact Nat.le_refl _
    · simp only [List.length_append]; omega
  rw [List.length_append] at h5
  have := encs_ge its
  show its.length ≤ _
  omega
end Go.Proofs.Ytmofehloiiopfaa
/- Rows of items in a block of their own; rows that are made; a list of items. -/
namespace Go.Proofs.Ytmofehloiiopfaa
open Go.RowKit
set_option linter.unusedVariables false
set_option linter.unusedSimpArgs false
set_option maxRecDepth 100000
abbrev Np (N : Nat) : Nat → Prop := fun b => N ≤ b
theorem AllP.upd {P : Nat → Prop} {w : World} {t : T} {z : V} (hz : LiesP P w t z) : ∀ {ts : List T} {ys : List V} (i : Nat), AllP P w ts ys → AllP P w (ts.set i t) (ys.set i z)
  | [], [], _, _ => trivial
  | _ :: _, _ :: _, 0, h => ⟨hz, h.2⟩
  | _ :: _, _ :: _, i + 1, h => ⟨h.1, AllP.upd hz i h.2⟩
theorem allP_go {N : Nat} {w w' : World} {ts : List T} {ys : List V} (h : AllP (Np N) w ts ys) (hb : Below w.heap.size w w') : AllP (Np N) w' ts ys := h.mono fun b hn hlt => ⟨hb.block b hlt, hn⟩
theorem allP_put {N g : Nat} {w w' : World} {ts : List T} {ys : List V} {cells : Array Value} (h : AllP (Np N) w ts ys) (hp : Put w w' g cells) (hg : g < N) : AllP (Np N) w' ts ys := h.mono fun b hn hlt => ⟨hp.other (by show b ≠ g; have : N ≤ b := hn; omega), hn⟩
theorem lp_le {N M : Nat} {w : World} {t : T} {y : V} (h : LiesP (Np M) w t y) (hN : N ≤ M) : LiesP (Np N) w t y := liesP_mono (fun b hn _ => ⟨rfl, by have : M ≤ b := hn; show N ≤ b; omega⟩) t y h
theorem allP_y {P : Nat → Prop} {w : World} : ∀ {ts : List T} {ys : List V}, AllP P w ts ys → AllY w ts ys
  | [], [], _ => trivial
  | t :: _, y :: _, h => ⟨liesP_lies t y h.1, allP_y h.2⟩
def zV : V := ⟨false, none, 0, 0, none, 0, 0⟩
theorem zV_lies {P : Nat → Prop} {w : World} : LiesP P w t0 zV := liesP_eq.2 ⟨⟨rfl, ⟨.inl ⟨rfl, rfl⟩, fun _ => ⟨rfl, rfl⟩, rfl, fun x hx => by cases hx⟩, rfl, Nat.le_refl _, by show (0 : Nat) ≤ _; omega, ⟨by show (0 : Nat) ≤ _; omega, by show (0 : Nat) ≤ _; omega⟩, fun g off e => by cases e⟩, liesPAll_nil⟩
theorem allP_zero {P : Nat → Prop} {w : World} : ∀ n : Nat, AllP P w (List.replicate n t0) (List.replicate n zV)
  | 0 => trivial
  | n + 1 => ⟨zV_lies, allP_zero n⟩
theorem flat_set : ∀ (ys : List V) (z : V) (i : Nat), i < ys.length → (ys.flatMap V.cells).take (i * 3) ++ V.cells z ++ (ys.flatMap V.cells).drop (i * 3 + 3) = (ys.set i z).flatMap V.cells
  | [], _, _, h => by simp at h
  | y :: r, z, 0, _ => by simp [V.cells]
  | y :: r, z, i + 1, h => by
    have ih := flat_set r z i (by simpa using h)
    rw [List.set_cons_succ, List.flatMap_cons, List.flatMap_cons, ← ih, show (i + 1) * 3 = i * 3 + 1 + 1 + 1 from by omega, show i * 3 + 1 + 1 + 1 + 3 = i * 3 + 3 + 1 + 1 + 1 from by omega]
    simp [V.cells]
theorem flat_at {ys : List V} {i k : Nat} {y : V} {u : Value} (h : ys[i]? = some y) (hk : (V.cells y)[k]? = some u) : (ys.flatMap V.cells)[i * 3 + k]? = some u := by
  have h1 := flat_get (ys.take i) y (ys.drop (i + 1)) k u hk
  rw [← split_get h] at h1
  have hl : (ys.take i).length = i := by
    have := (List.getElem?_eq_some_iff.1 h).1
    rw [List.length_take]; omega
  rwa [hl] at h1
/-- An item is stored into a row. -/
theorem ol_storeA {ρ : Operand → Value} {w : World} {o : Oper} (x z : Operand) {g i : Nat} {ys : List V} {y : V} {ty : TypeId} (hR : w.heap[g]? = some (.cells (ys.flatMap V.cells).toArray ty (0, 0))) (hi : i < ys.length) (ho : o.op = .store 45 x z) (hx : ρ x = .pointer (some ⟨g, 0 + i * 3, none⟩)) (hz : ρ z = .agg #[.bool y.l, .slice y.ba y.bn y.bc, .slice y.ia y.m y.ic]) : (execOp ρ o).run Try.prog w = .ok .skip (w.setRow g ((ys.set i y).flatMap V.cells).toArray) := by
  have hst := run_storeCells_at Try.prog g (i * 3) ty (V.cells y) 0 _ w hR (by rw [List.size_toArray, flat_len]; simp [V.cells]; omega) (cells_one y)
  rw [Nat.add_zero, show (V.cells y).length = 3 from rfl] at hst
  have e : ((ys.flatMap V.cells).toArray.toList.take (i * 3) ++ V.cells y ++ (ys.flatMap V.cells).toArray.toList.drop (i * 3 + 3)) = (ys.set i y).flatMap V.cells := flat_set ys y i hi
  rw [e] at hst
  obtain ⟨iI, hq, hz0, hsz, hby⟩ := infoI
  have hsv : (storeVar 45 ⟨g, 0 + i * 3, none⟩ (.agg #[.bool y.l, .slice y.ba y.bn y.bc, .slice y.ia y.m y.ic])).run Try.prog w = .ok () (w.setRow g ((ys.set i y).flatMap V.cells).toArray) := by
    have hv : (Value.agg #[.bool y.l, .slice y.ba y.bn y.bc, .slice y.ia y.m y.ic]).cells.toList = V.cells y := rfl
    rw [Nat.zero_add]
    simp [storeVar, sizeOf, typeInfo, hq, hsz, Value.cells]
    simpa [V.cells] using hst
  unfold execOp
  rw [ho]
  simp only [hx, hz, Instr.storeAt, Instr.sureAddr, Sem.run_bind, Sem.run_pure, Result.andThen_ok, hsv]
theorem madeU (m : Nat) : madeCells #[Value.int .u64 0] m = (List.replicate m (u64 0)).toArray := Array.ext' (by rw [toList_madeCells_one]; rfl)
theorem madeI (m : Nat) : madeCells #[.bool false, .slice none 0 0, .slice none 0 0] (m * 3) = ((List.replicate m zV).flatMap V.cells).toArray := by
  apply Array.ext'
  show _ = (List.replicate m zV).flatMap V.cells
  induction m with
  | zero => simp [madeCells]
  | succ m ih =>
    unfold madeCells at ih ⊢
    rw [Array.toList_map, Array.toList_range] at ih ⊢
    rw [show (m + 1) * 3 = m * 3 + 1 + 1 + 1 from by omega, List.range_succ, List.range_succ, List.range_succ, List.map_append, List.map_append, List.map_append, ih, List.replicate_succ', List.flatMap_append]
    have e0 : m * 3 % 3 = 0 := by omega
    have e1 : (m * 3 + 1) % 3 = 1 := by omega
    have e2 : (m * 3 + 1 + 1) % 3 = 2 := by omega
    simp [V.cells, zV, e0, e1, e2]
theorem ol_mkU {ρ : Operand → Value} {w : World} {o : Oper} (x z : Operand) {m : Nat} (hm : m ≤ 17592186044416) (ho : o.op = .makeSlice 23 x z) (hx : ρ x = .int .i64 m) (hz : ρ z = .int .i64 m) : (execOp ρ o).run Try.prog w = .ok (.value (.slice (some ⟨w.heap.size, 0, none⟩) m m)) (w.alloc (.cells (List.replicate m (u64 0)).toArray 22)) := by
  obtain ⟨i, hi, hz0, hsz, hby⟩ := infoU
  have h := run_make (P := Try.prog) w 23 22 i _ Try.underlying23 hi hz0 .i64 .i64 m m (by omega) (by omega) (by rw [hby]; omega) (by omega)
  rw [hsz, Int.toNat_natCast, Nat.mul_one] at h
  have e : madeCells (Value.int IntKind.u64 0).cells m = (List.replicate m (u64 0)).toArray := madeU m
  rw [e] at h
  unfold execOp
  rw [ho]
  simp only [hx, hz, Sem.run_bind, h, Result.andThen_ok, Sem.run_pure]
theorem ol_mkI {ρ : Operand → Value} {w : World} {o : Oper} (x z : Operand) {m : Nat} (hm : m ≤ 16777216) (ho : o.op = .makeSlice 43 x z) (hx : ρ x = .int .i64 m) (hz : ρ z = .int .i64 m) : (execOp ρ o).run Try.prog w = .ok (.value (.slice (some ⟨w.heap.size, 0, none⟩) m m)) (w.alloc (.cells ((List.replicate m zV).flatMap V.cells).toArray 45)) := by
  obtain ⟨i, hi, hz0, hsz, hby⟩ := infoI
  have h := run_make (P := Try.prog) w 43 45 i _ Try.underlying43 hi hz0 .i64 .i64 m m (by omega) (by omega) (by rw [hby]; omega) (by omega)
  rw [hsz, Int.toNat_natCast] at h
  have e : madeCells (Value.agg #[.bool false, .slice none 0 0, .slice none 0 0]).cells (m * 3) = ((List.replicate m zV).flatMap V.cells).toArray := madeI m
  rw [e] at h
  unfold execOp
  rw [ho]
  simp only [hx, hz, Sem.run_bind, h, Result.andThen_ok, Sem.run_pure]
/-- nest.List of a row of items in a block. -/
theorem list_rw {w : World} {g N m : Nat} {ty : TypeId} {ts : List T} {ys : List V} (hN : N ≤ w.heap.size) (hR : Rw g w (ys.flatMap V.cells).toArray ty) (hall : AllP (Np N) w ts ys) (e : m = ts.length) (hm : ts.length ≤ 16777216) : Calls Try.prog 45 #[.slice (some ⟨g, 0, none⟩) m m] w fun e w' => ∃ v, e = .returned v ∧ RIt N w (.mk true [] ts) v w' := by
  have hcell : ∀ j u, (ys.flatMap V.cells)[j]? = some u → w.cell? ((⟨g, 0, none⟩ : Addr).add j) = some u := by
    intro j u hu
    rw [addr_add, Nat.zero_add, cell_of_row _ _ _ _ _ _ hR]
    simpa using hu
  have hl := rowK_lies hcell ts ys [] rfl (allP_y hall)
  have hlen := hall.len
  have hM : m ≤ maxLen := by unfold maxLen; omega
  refine (list_any (some ⟨g, 0, none⟩) m m ts ⟨e, Nat.le_refl _, hM, by omega⟩ w hl (by omega) (fun e => by cases e)).mono ?_
  rintro _ w' ⟨zs, hzl, rfl, hrow, hz, hb⟩
  have hzy : zs = ys := by
    apply List.ext_getElem?
    intro i
    by_cases hi : i < m
    · obtain ⟨z, hz1⟩ : ∃ z, zs[i]? = some z := ⟨zs[i]'(by omega), List.getElem?_eq_getElem _⟩
      obtain ⟨y, hy1⟩ : ∃ y, ys[i]? = some y := ⟨ys[i]'(by omega), List.getElem?_eq_getElem _⟩
      obtain ⟨g', off', t', A⟩ := hz i z hz1
      have ha := A.ha
      cases ha
      have q0 := hcell (i * 3 + 0) (.bool y.l) (flat_at hy1 rfl)
      have q1 := hcell (i * 3 + 1) (.slice y.ba y.bn y.bc) (flat_at hy1 rfl)
      have q2 := hcell (i * 3 + 2) (.slice y.ia y.m y.ic) (flat_at hy1 rfl)
      rw [addr_add] at q0 q1 q2
      rw [← Nat.add_assoc] at q1 q2
      have e0 := A.c0.symm.trans (by simpa using q0)
      have e1 := A.c1.symm.trans q1
      have e2 := A.c2.symm.trans q2
      rw [hz1, hy1, v_ext (Option.some.inj e0) (Option.some.inj e1) (Option.some.inj e2)]
    · rw [List.getElem?_eq_none (by omega), List.getElem?_eq_none (by omega)]
  subst hzy
  refine ⟨_, rfl, ⟨⟨true, none, 0, 0, some ⟨w.heap.size + 1, 0, none⟩, m, m⟩, rfl, ?_⟩, hb⟩
  refine liesP_eq.2 ⟨⟨rfl, ⟨.inl ⟨rfl, rfl⟩, fun _ => ⟨rfl, rfl⟩, rfl, fun x hx => by cases hx⟩, e, Nat.le_refl _, hM, ⟨Nat.zero_le _, by show m ≤ _; omega⟩, fun g' off e => by cases e⟩, ?_⟩
  exact row_lies (P := Np N) (w := w') (g := w.heap.size + 1) (all := zs) (fun j u hu => by
    rw [addr_add, Nat.zero_add, cell_of_row _ _ _ _ _ _ hrow]
    simpa using hu) (by show N ≤ _; omega) ts zs [] rfl (allP_go hall hb)
/-- One thing of a list. -/
theorem lies_i {w : World} {a : Option Addr} {ts : List T} (h : LiesAll w ts a 0) {i : Nat} {x : T} (hx : ts[i]? = some x) : ∃ g off z, a = some ⟨g, off, none⟩ ∧ (∀ v, Bl w v → v.rangeAt g (off + i * 3) (V.cells z)) ∧ Lies w x z := by
  obtain ⟨g, off, z, A⟩ := liesAll_at h i x hx
  obtain ⟨ha, c0, c1, c2, li⟩ := A
  rw [Nat.zero_add] at c0 c1 c2
  refine ⟨g, off, z, ha, fun v hv j u hu => ?_, li⟩
  match j, hu with
  | 0, hu => simp [V.cells] at hu; subst hu; exact below_cell hv c0
  | 1, hu => simp [V.cells] at hu; subst hu; exact below_cell hv c1
  | 2, hu => simp [V.cells] at hu; subst hu; exact below_cell hv c2
  | j + 3, hu => simp [V.cells] at hu
theorem liesP_i {P : Nat → Prop} {w : World} {a : Option Addr} : ∀ {ts : List T} {k : Nat}, LiesPAll P w ts a k → ∀ {i : Nat} {x : T}, ts[i]? = some x → ∃ g off z, a = some ⟨g, off, none⟩ ∧ (∀ v, Bl w v → v.rangeAt g (off + (k + i) * 3) (V.cells z)) ∧ LiesP P w x z
  | [], _, _, i, x, hx => by simp at hx
  | t :: r, k, h, 0, x, hx => by
    simp at hx
    subst hx
    obtain ⟨⟨g, off, z, ⟨ha, _⟩, c0, c1, c2, li⟩, _⟩ := liesPAll_cons.1 h
    refine ⟨g, off, z, ha, fun v hv j u hu => ?_, li⟩
    match j, hu with
    | 0, hu => simp [V.cells] at hu; subst hu; exact below_cell hv c0
    | 1, hu => simp [V.cells] at hu; subst hu; exact below_cell hv c1
    | 2, hu => simp [V.cells] at hu; subst hu; exact below_cell hv c2
    | j + 3, hu => simp [V.cells] at hu
  | t :: r, k, h, i + 1, x, hx => by
    obtain ⟨_, h2⟩ := liesPAll_cons.1 h
    obtain ⟨g, off, z, ha, hr, li⟩ := liesP_i h2 (i := i) (by simpa using hx)
    exact ⟨g, off, z, ha, fun v hv => by rw [show k + (i + 1) = k + 1 + i from by omega]; exact hr v hv, li⟩
theorem lies_un {w : World} {t : T} {y : V} (h : Lies w t y) : y.l = t.l ∧ Ag w y.ba y.bn y.bc t.bs ∧ y.m = t.its.length ∧ y.bn ≤ 140737488351232 ∧ LiesAll w t.its y.ia 0 := by
  obtain ⟨l, bs, its⟩ := t
  obtain ⟨h1, h2, h3, h4, h5, h6, h7⟩ := lies_eq.1 h
  exact ⟨h1, h2, h3, h6.1, h7⟩
theorem liesP_un {P : Nat → Prop} {w : World} {t : T} {y : V} (h : LiesP P w t y) : (y.l = t.l ∧ Ag w y.ba y.bn y.bc t.bs ∧ y.m = t.its.length ∧ y.m ≤ y.ic ∧ y.ic ≤ maxLen ∧ y.bn ≤ 140737488351232) ∧ (∀ g off, y.ba = some ⟨g, off, none⟩ → 0 < y.bn → P g) ∧ LiesPAll P w t.its y.ia 0 := by
  obtain ⟨l, bs, its⟩ := t
  obtain ⟨⟨h1, h2, h3, h4, h5, h6, h8⟩, h7⟩ := liesP_eq.1 h
  exact ⟨⟨h1, h2, h3, h4, h5, h6.1⟩, fun g off e h0 => (h8 g off e h0).1, h7⟩
theorem liesPAll_all {P : Nat → Prop} {w : World} {a : Option Addr} {its : List T} {k : Nat} (h : LiesPAll P w its a k) : LiesAll w its a k := liesPAll_lies (fun t _ x hx => liesP_lies t x hx) h
theorem wp4_lt {t : T} (hb : byt t) : (wp4 t).1 < W64 := by
  unfold wp4
  split
  · decide
  · unfold Wo.rdP
    split
    · decide
    · rename_i hq
      have hb' : bytP t.bs := by obtain ⟨l, bs, its⟩ := t; rw [byt_eq] at hb; exact hb.1
      have h8 : t.bs.length ≤ 8 := by omega
      have := Wo.vl_lt t.bs hb'
      have h2 : 256 ^ t.bs.length ≤ 256 ^ 8 := Nat.pow_le_pow_right (by omega) h8
      unfold W64
      simp only
      omega
theorem gx_byt {l : List T} (h : byts l) (i : Nat) : byt (gx l i) := by
  unfold gx
  rw [List.getD]
  cases hq : l[i]? with
  | none => exact t0_byt
  | some t => exact bytX_mem h t (List.mem_of_getElem? hq)
theorem mkX_ok {l : List T} (h : byts l) : okX (mkX l) := by
  have hw : ∀ i, w1 l i < W64 := fun i => wp4_lt (gx_byt h i)
  have hi : ∀ {u : T}, byt u → byts u.its ∧ bytP u.bs := fun {u} h => by cases u with | mk l bs its => rw [byt_eq] at h; exact ⟨h.2, h.1⟩
  refine ⟨hw 0, hw 1, hw 2, hw 3, hw 4, hw 5, fun x hx => ?_, (hi (gx_byt h 8)).2⟩
  obtain ⟨u, hu, rfl⟩ := List.mem_map.1 hx
  exact wp4_lt (bytX_mem (hi (gx_byt h 6)).1 u hu)
/-- The first of a list's things. -/
theorem ol_cutL {w : World} {g off m ic n : Nat} {ρ : Operand → Value} {o : Oper} (hn : n ≤ m) (hm : m ≤ ic) (x z : Operand) (ho : o.op = .slice 43 x none (some z) none) (hx : ρ x = .slice (some ⟨g, off, none⟩) m ic) (hz : ρ z = .int .i64 n) : (execOp ρ o).run Try.prog w = .ok (.value (.slice (some ⟨g, off, none⟩) n ic)) w := by
  have h1 : n ≤ ic := by omega
  unfold execOp
  rw [ho]
  simp [hx, hz, Instr.sliceAt, run_underlying Try.underlying43, Instr.slice, Instr.sliceBounds, Instr.sliceBound, asIntOf, addr_add, Result.andThen, h1]
/-- A word is stored into a row. -/
theorem ol_storeU {g k : Nat} {n : Nat} {old : Value} {w : World} {ρ : Operand → Value} {o : Oper} (x z : Operand) (ho : o.op = .store 22 x z) (hx : ρ x = .pointer (some ⟨g, k, none⟩)) (hy : ρ z = .int .u64 ((n : Nat) : Int)) (hc : w.cell? ⟨g, k, none⟩ = some old) (hf : ∀ o, w.frozen? ⟨g, o, none⟩ = false) : (execOp ρ o).run Try.prog w = .ok .skip (w.setCell ⟨g, k, none⟩ (.int .u64 ((n : Nat) : Int))) := by
  unfold execOp
  rw [ho]
  simp only [hx, hy]
  go_simp
/-- Words' texts that are written one by one. -/
def mts (l : List Nat) (i : Nat) : List T := tws (l.take i) ++ List.replicate (l.length - i) t0
theorem mts_zero (l : List Nat) : mts l 0 = List.replicate l.length t0 := by simp [mts, tws]
theorem mts_all (l : List Nat) : mts l l.length = tws l := by simp [mts]
theorem mts_len (l : List Nat) {i : Nat} (h : i ≤ l.length) : (mts l i).length = l.length := by
  simp [mts, tws]
  omega
theorem mts_set (l : List Nat) {i n : Nat} (h : l[i]? = some n) : (mts l i).set i (tx (be n)) = mts l (i + 1) := by
  have hi := (List.getElem?_eq_some_iff.1 h).1
  have hl : (tws (l.take i)).length = i := tws_len (by omega)
  unfold mts
  rw [List.set_append_right _ _ (by omega), hl, Nat.sub_self, show l.length - i = (l.length - (i + 1)) + 1 from by omega, List.replicate_succ, List.set_cons_zero, tws_take h, List.append_assoc]
  rfl
theorem cell_wl {w : World} {a : Option Addr} {m c : Nat} {l : List Nat} (h : Wl w a m c l) {i n : Nat} (hi : i < m) (hn : l[i]? = some n) : ∃ gb off, a = some ⟨gb, off, none⟩ ∧ ∀ u, Bl w u → u.cell? ⟨gb, off + i * 1, none⟩ = some (.int .u64 ((n : Nat) : Int)) := by
  rcases h.i with ⟨h0, _⟩ | ⟨gb, off, h1, _⟩
  · omega
  · refine ⟨gb, off, h1, fun u hu => ?_⟩
    rcases (h.go hu).i with ⟨h0, _⟩ | ⟨gb', off', h2, hc⟩
    · omega
    · rw [h1] at h2
      cases h2
      rw [Nat.mul_one, hc i hi, List.getD, hn]
      rfl
theorem liesAll_take {w : World} {a : Option Addr} : ∀ {ts : List T} {k : Nat} (n : Nat), LiesAll w ts a k → LiesAll w (ts.take n) a k
  | _, _, 0, _ => liesAll_nil
  | [], _, n + 1, h => h
  | t :: r, k, n + 1, h => by
    obtain ⟨h1, h2⟩ := liesAll_cons.1 h
    exact liesAll_cons.2 ⟨h1, liesAll_take n h2⟩
theorem liesAll_go {w w' : World} {a : Option Addr} (hb : Bl w w') : ∀ {ts : List T} {k : Nat}, LiesAll w ts a k → LiesAll w' ts a k
  | [], _, _ => liesAll_nil
  | t :: r, k, h => by
    obtain ⟨⟨g, off, y, h1, c0, c1, c2, li⟩, h2⟩ := liesAll_cons.1 h
    exact liesAll_cons.2 ⟨⟨g, off, y, h1, below_cell hb c0, below_cell hb c1, below_cell hb c2, lies_mono hb t y li⟩, liesAll_go hb h2⟩
/-- Words that are written one by one into a row that is made. -/
def mid (l : List Nat) (i : Nat) : Array Value := ((l.take i).map u64 ++ List.replicate (l.length - i) (u64 0)).toArray
theorem mid_zero (l : List Nat) : mid l 0 = (List.replicate l.length (u64 0)).toArray := by simp [mid]
theorem mid_all (l : List Nat) : mid l l.length = (l.map u64).toArray := by simp [mid]
theorem mid_size (l : List Nat) {i : Nat} (h : i ≤ l.length) : (mid l i).size = l.length := by
  simp [mid]
  omega
theorem mid_set (l : List Nat) {i n : Nat} (h : l[i]? = some n) : (mid l i).setIfInBounds i (u64 n) = mid l (i + 1) := by
  have hi := (List.getElem?_eq_some_iff.1 h).1
  have hl : ((l.take i).map u64).length = i := by rw [List.length_map, List.length_take]; omega
  have e : mid l (i + 1) = ((l.take i).map u64 ++ u64 n :: List.replicate (l.length - (i + 1)) (u64 0)).toArray := by
    unfold mid
    rw [List.take_add_one, h, List.map_append]
    simp
  rw [e]
  unfold mid
  apply Array.ext'
  rw [Array.toList_setIfInBounds]
  show ((l.take i).map u64 ++ List.replicate (l.length - i) (u64 0)).set i (u64 n) = _
  rw [List.set_append_right _ _ (by omega), hl, Nat.sub_self, show l.length - i = (l.length - (i + 1)) + 1 from by omega, List.replicate_succ]
  rfl
theorem mid_cell {w : World} {g i : Nat} {l : List Nat} (h : Rw g w (l.map u64).toArray 22) {n : Nat} (hn : l[i]? = some n) : w.cell? ⟨g, 0 + i * 1, none⟩ = some (u64 n) := by
  rw [cell_of_row _ _ _ _ _ _ h, Nat.zero_add, Nat.mul_one]
  simp [hn]
theorem rw_wl {w : World} {g : Nat} {l : List Nat} (h : Rw g w (l.map u64).toArray 22) (hb : ∀ x ∈ l, x < W64) (hm : l.length ≤ 16777216) : Wl w (some ⟨g, 0, none⟩) l.length l.length l := by
  refine ⟨.inr ⟨g, 0, rfl, fun j hj => ?_⟩, (fun e => by cases e), rfl, hb, Nat.le_refl _, by unfold maxLen; omega, by omega⟩
  have := mid_cell h (i := j) (List.getElem?_eq_getElem hj)
  rw [Nat.mul_one] at this
  rw [this, List.getD, List.getElem?_eq_getElem hj]
  rfl
end Go.Proofs.Ytmofehloiiopfaa
