/- Of a tree in normal form every node is right, and its bytes are read as that node; each key's path has a key. -/
import Derived.Test.YtalhnnjpjaeakaaGreatG23
import Derived.Test.YtalhnnjpjaeakaaGreatG27
import Derived.Test.YtalhnnjpjaeakaaGreatG22
import Derived.Test.YtalhnnjpjaeakaaGreatG03
import Derived.Lib.Bytealg
import Derived.Laws.Externs
import Derived.Lib.Bytes
import Derived.Test.YtalhnnjpjaeakaaGreatG00
import Derived.Test.YtalhnnjpjaeakaaGreatG19
namespace Go.Proofs.YtalhnnjpjaeakaaGreat
open Tr
open Ni (unpP packP rightP)
set_option linter.unusedVariables false
set_option maxRecDepth 100000
/-- The values of a tree are bytes, and not too many. -/
def Vb : Tr → Prop
  | no => True
  | leaf p v => isB p ∧ isB v ∧ v.length ≤ 256
  | ext p c => isB p ∧ Vb c
  | br k v => (isB v ∧ v.length ≤ 256) ∧ ∀ i, i < 16 → Vb (k i)
theorem TA.vb {K : Nat → Prop} {w : World} : ∀ {t : Tr} {v : Value}, TA K w t v → Vb t := by
  intro t
  induction t with
  | no => intro v h; trivial
  | leaf p x => rintro v ⟨a, n, c, a', n', c', h1, h2, h3, h4⟩; exact ⟨h2.ag.b, h3.ag.b, by rw [h3.ag.l]; exact h4⟩
  | ext p t ih => rintro v ⟨a, n, c, u, h1, h2, h3⟩; exact ⟨h2.ag.b, ih h3⟩
  | br k x ih => rintro v ⟨vs, a, n, c, h1, h2, h3, h4⟩; exact ⟨⟨h3.ag.b, by rw [h3.ag.l]; exact h4⟩, fun i hi => ih i (h2 i hi)⟩
theorem nb_right {p : List Int} (h : Nb p) : rightP p = true := by
  unfold rightP
  rw [List.all_eq_true]
  intro x hx
  have := h x hx
  simp; omega
theorem byts_of : ∀ {l : List T}, (∀ t ∈ l, byt t) → byts l
  | [], _ => by rw [byts]; trivial
  | t :: r, h => by rw [byts]; exact ⟨h t (by simp), byts_of fun u hu => h u (List.mem_cons_of_mem _ hu)⟩
theorem ref_isB (b : List Int) (h : isB b) : okR (referP b) := by
  unfold referP
  split
  · exact ⟨fun x hx => by rw [List.mem_replicate.1 hx |>.2]; omega, rfl, h⟩
  · exact ⟨dref_isB b, Di.dref_len b, fun x hx => by simp at hx⟩
theorem ok_r0 : okR r0 := ⟨fun x hx => by rw [List.mem_replicate.1 hx |>.2]; omega, rfl, fun x hx => by simp [r0] at hx⟩
/-- What holds of a node that is written. -/
structure Wn (n : PN) : Prop where
  ok : okN n
  r : NR n = true
  y : byt (itemP n)
theorem Wn.isB {n : PN} (h : Wn n) : isB (NEP n).1 ∧ ND (NEP n).1 = some n ∧ (NEP n).1.length ≤ 65540 := by
  have hb := node_back h.ok h.r
  unfold NEP
  rw [if_pos h.r]
  have hi : Go.Proofs.YtalhnnjpjaeakaaGreat.isB (NE n) := enc_bounds _ h.y (by have := body_le_enc (itemP n); have := hb.2.2; omega)
  exact ⟨hi, NE_isB h.ok h.r hi, hb.2.2⟩
/-- A tree's name at its parent is right. -/
theorem Wn.ref {n : PN} (h : Wn n) : rrefP KD (referP (NEP n).1) = true ∧ (referP (NEP n).1).k ≠ 0 ∧ ((referP (NEP n).1).k = 2 ∨ KD (referP (NEP n).1).i = n.k) ∧ byt (refItemP (referP (NEP n).1)) := by
  obtain ⟨h1, h2, h3⟩ := h.isB
  have hk := NR_kind h.r
  have hkd : KD (NEP n).1 = n.k := by unfold KD; rw [h2]; rfl
  unfold referP
  by_cases hl : (NEP n).1.length < 32
  · rw [if_pos hl]
    refine ⟨by simp [rrefP, hl, hkd]; omega, by simp, .inr hkd, ?_⟩
    have hd : decP (NEP n).1 = .ok (itemP n) := by unfold NEP; rw [if_pos h.r]; exact enc_dec (node_back h.ok h.r).1
    simp only [refItemP, if_pos, hd]
    exact h.y
  · rw [if_neg hl]
    refine ⟨by simp [rrefP], by simp, .inl rfl, ?_⟩
    show byt (.mk false (Di.dref (NEP n).1) [])
    rw [byt_eq]
    exact ⟨dref_isB _, by rw [byts]; trivial⟩
theorem pack_y {p : List Int} (h : isB p) (f : Bool) : byt (.mk false (packP p f).1 []) := by rw [byt_eq]; exact ⟨Ni.packP_isB h, by rw [byts]; trivial⟩
theorem val_y {p : List Int} (h : isB p) : byt (.mk false p []) := by rw [byt_eq]; exact ⟨h, by rw [byts]; trivial⟩
theorem ways_two {k : Nat → Tr} {x : List Int} (h : Tr.two k x) (hk : ∀ i, k i = no ∨ i < 16) (f : Nat → PR) (h0 : ∀ i, k i ≠ no → (f i).k ≠ 0) : 2 ≤ (if 0 < x.length then 1 else 0) + ways ((List.range 16).map f) := by
  have hw : ∀ n i, i < n → (f i).k ≠ 0 → 1 ≤ ways ((List.range n).map f) := by
    have happ : ∀ a b : List PR, ways (a ++ b) = ways a + ways b := by
      intro a b
      induction a with
      | nil => simp [ways]
      | cons r l ih => simp only [List.cons_append, ways, ih]; omega
    intro n
    induction n with
    | zero => intro i hi; omega
    | succ n ih =>
      intro i hi hf
      rw [List.range_succ, List.map_append, happ]
      by_cases e : i = n
      · subst e; simp only [List.map_cons, List.map_nil, ways, if_pos hf]; omega
      · have := ih i (by omega) hf; omega
  have hw2 : ∀ n i j, i < j → j < n → (f i).k ≠ 0 → (f j).k ≠ 0 → 2 ≤ ways ((List.range n).map f) := by
    have happ : ∀ a b : List PR, ways (a ++ b) = ways a + ways b := by
      intro a b
      induction a with
      | nil => simp [ways]
      | cons r l ih => simp only [List.cons_append, ways, ih]; omega
    intro n
    induction n with
    | zero => intro i j _ hj; omega
    | succ n ih =>
      intro i j hij hj hf hg
      rw [List.range_succ, List.map_append, happ]
      by_cases e : j = n
      · subst e
        have := hw j i hij hf
        simp only [List.map_cons, List.map_nil, ways, if_pos hg]; omega
      · have := ih i j hij (by omega) hf hg; omega
  have hlt : ∀ i, k i ≠ no → i < 16 := fun i hi => (hk i).resolve_left hi
  rcases h with ⟨i, j, hne, hi, hj⟩ | ⟨hx, i, hi⟩
  · have : 2 ≤ ways ((List.range 16).map f) := by
      rcases Nat.lt_or_gt_of_ne hne with q | q
      · exact hw2 16 i j q (hlt j hj) (h0 i hi) (h0 j hj)
      · exact hw2 16 j i q (hlt i hi) (h0 j hj) (h0 i hi)
    omega
  · have h1 := hw 16 i (hlt i hi) (h0 i hi)
    have : 0 < x.length := List.length_pos_iff.2 hx
    rw [if_pos this]; omega
theorem wn_all : ∀ (t : Tr) {B : Nat}, Tr.Ok B t → B ≤ 64 → Vb t → Wn (nodeP t) := by
  intro t
  induction t with
  | no => intro B h; exact h.elim
  | leaf p x =>
    intro B h hB hv
    obtain ⟨h1, h2, h3⟩ := h
    obtain ⟨v1, v2, v3⟩ := hv
    have hx : 0 < x.length := List.length_pos_iff.2 h3
    refine ⟨⟨v1, v2, ok_r0, fun r hr => by simp [nodeP] at hr⟩, ?_, ?_⟩
    · have hr := nb_right h1
      simp [NR, nright, nodeP, knownP, rpathP, rvalueP, rchildP, rkidsP, rrefP, r0, hr]
      exact ⟨decide_eq_true (Nat.le_trans h2 hB), h3, decide_eq_true v3⟩
    · show byt (.mk true [] [.mk false (packP p true).1 [], .mk false x []])
      rw [byt_eq]
      exact ⟨(fun y hy => by simp at hy), byts_of fun u hu => by
        simp at hu
        rcases hu with rfl | rfl
        · exact pack_y v1 true
        · exact val_y v2⟩
  | ext p c ih =>
    intro B h hB hv
    obtain ⟨h1, h2, h3, h4, h5⟩ := h
    have hw := ih h5 (by omega) hv.2
    have hcn : c ≠ no := h5.ne
    have he := encT_node hcn
    obtain ⟨w1, w2, w3, w4⟩ := hw.ref
    obtain ⟨i1, i2, i3⟩ := hw.isB
    have hk3 : (nodeP c).k = 3 := by cases c with
      | br k x => rfl
      | no => cases h4
      | leaf _ _ => cases h4
      | ext _ _ => cases h4
    rw [← he] at w1 w2 w3 w4 i1
    rw [hk3] at w3
    refine ⟨⟨hv.1, (fun x hx => by simp [nodeP] at hx), ref_isB _ i1, fun r hr => by simp [nodeP] at hr⟩, ?_, ?_⟩
    · have hr := nb_right h1
      have hp : p.length ≠ 0 := fun e => h2 (List.eq_nil_of_length_eq_zero e)
      simp only [NR, nright, nodeP, knownP, rpathP, rvalueP, rchildP, rkidsP, w1, hr]
      simp [h2]
      exact ⟨decide_eq_true (Nat.le_trans h3 hB), w3.imp (fun q => decide_eq_true q) (fun q => decide_eq_true q)⟩
    · show byt (.mk true [] [.mk false (packP p false).1 [], refItemP (referP (encT c))])
      rw [byt_eq]
      exact ⟨(fun y hy => by simp at hy), byts_of fun u hu => by
        simp at hu
        rcases hu with rfl | rfl
        · exact pack_y hv.1 false
        · exact w4⟩
  | br k x ih =>
    intro B h hB hv
    obtain ⟨h1, h2⟩ := h
    have hkid : ∀ i, k i ≠ no → i < 16 ∧ Wn (nodeP (k i)) := fun i hi => by
      rcases h1 i with q | ⟨q1, q2, q3⟩
      · exact absurd q hi
      · exact ⟨q1, ih i q3 (by omega) (hv.2 i q1)⟩
    have hno : ∀ i, (k i).isNo = false → k i ≠ no := fun i hi e => by rw [e] at hi; cases hi
    have hall : ∀ r ∈ (nodeP (br k x)).ks, ∃ i, r = if (k i).isNo then r0 else referP (encT (k i)) := by
      intro r hr
      simp only [nodeP, List.mem_map] at hr
      obtain ⟨i, _, e⟩ := hr
      exact ⟨i, e.symm⟩
    refine ⟨⟨(fun y hy => by simp [nodeP] at hy), hv.1.1, ok_r0, fun r hr => ?_⟩, ?_, ?_⟩
    · obtain ⟨i, rfl⟩ := hall r hr
      cases hq : (k i).isNo with
      | true => rw [if_pos rfl]; exact ok_r0
      | false =>
        rw [if_neg (by simp), encT_node (hno i hq)]
        exact ref_isB _ (hkid i (hno i hq)).2.isB.1
    · have hk : (nodeP (br k x)).ks.all (rrefP KD) = true := by
        rw [List.all_eq_true]
        intro r hr
        obtain ⟨i, rfl⟩ := hall r hr
        cases hq : (k i).isNo with
        | true => rw [if_pos rfl]; simp [rrefP, r0]
        | false =>
          rw [if_neg (by simp), encT_node (hno i hq)]
          exact (hkid i (hno i hq)).2.ref.1
      have hw := ways_two h2 (fun i => (h1 i).imp id (fun q => q.1)) (fun i => if (k i).isNo then r0 else referP (encT (k i))) (fun i hi => by
        have hq : (k i).isNo = false := by
          cases hq : (k i).isNo with
          | false => rfl
          | true => exact absurd (isNo_iff.1 hq) hi
        simp only [hq]
        rw [if_neg (by simp), encT_node hi]
        exact (hkid i hi).2.ref.2.1)
      simp only [NR, nright, knownP, rpathP, rvalueP, rchildP, rkidsP, hk]
      simp only [nodeP] at hw ⊢
      simp [rrefP, r0] at hw ⊢
      exact ⟨decide_eq_true hv.1.2, decide_eq_true hw⟩
    · show byt (.mk true [] ((nodeP (br k x)).ks.map refItemP ++ [.mk false x []]))
      rw [byt_eq]
      refine ⟨(fun y hy => by simp at hy), byts_of fun u hu => ?_⟩
      rcases List.mem_append.1 hu with q | q
      · obtain ⟨r, hr, rfl⟩ := List.mem_map.1 q
        obtain ⟨i, rfl⟩ := hall r hr
        cases hq : (k i).isNo with
        | true => rw [if_pos rfl]; exact val_y (p := []) (fun y hy => by simp at hy)
        | false =>
          rw [if_neg (by simp), encT_node (hno i hq)]
          exact (hkid i (hno i hq)).2.ref.2.2.2
      · rw [List.mem_singleton.1 q]; exact val_y hv.1.1
/-- Each path of a value, behind p, is that of a key. -/
def Kys (p : List Int) (t : Tr) : Prop := Nb p ∧ ∀ q, Nb q → Tr.get t q ≠ [] → ∃ k, Byk k ∧ k.length ≤ 32 ∧ p ++ q = Ni.nib k
theorem Rel.kys {t : Tr} {l : PList} (h : Rel t l) : Kys [] t := ⟨(fun i hi => by simp at hi), fun q hq hg => h.e q hq hg⟩
theorem nib_key {k : List Int} (h : Byk k) : (Ni.keyP (Ni.nib k)).2 = true := by
  have hr := nb_right (byk_nb h)
  rw [Ni.keyP_yes hr (by rw [Ni.nib_len]; omega)]
theorem Kys.leaf {p q x : List Int} (h : Kys p (leaf q x)) (hq : Nb q) (hx : x ≠ []) : (Ni.keyP (p ++ q)).2 = true ∧ (p ++ q).length ≤ 64 := by
  obtain ⟨k, h1, h2, h3⟩ := h.2 q hq (by simp [Tr.get, hx])
  rw [h3]
  exact ⟨nib_key h1, by rw [Ni.nib_len]; omega⟩
theorem Kys.ext {p q : List Int} {c : Tr} (h : Kys p (ext q c)) (hq : Nb q) : Kys (p ++ q) c := ⟨h.1.app hq, fun r hr hg => by
  rw [List.append_assoc]
  exact h.2 (q ++ r) (hq.app hr) (by simpa [Tr.get] using hg)⟩
theorem Kys.val {p x : List Int} {k : Nat → Tr} (h : Kys p (br k x)) (hx : x ≠ []) : (Ni.keyP p).2 = true := by
  obtain ⟨y, h1, h2, h3⟩ := h.2 [] (fun i hi => by simp at hi) (by simpa [Tr.get] using hx)
  rw [List.append_nil] at h3
  rw [h3]; exact nib_key h1
theorem Kys.kid {p x : List Int} {k : Nat → Tr} (h : Kys p (br k x)) {i : Nat} (hi : i < 16) : Kys (p ++ [((i : Nat) : Int)]) (k i) := by
  have hn : Nb [((i : Nat) : Int)] := fun j hj => by rw [List.mem_singleton.1 hj]; omega
  refine ⟨h.1.app hn, fun r hr hg => ?_⟩
  rw [List.append_assoc]
  exact h.2 (((i : Nat) : Int) :: r) (hn.app hr) (by simpa [Tr.get] using hg)
theorem Kys.len {p : List Int} {t : Tr} {B : Nat} (h : Kys p t) (ho : Tr.Ok B t) : p.length ≤ 64 := by
  obtain ⟨q, h1, h2, h3⟩ := ho.some
  obtain ⟨k, k1, k2, k3⟩ := h.2 q h1 h3
  have := congrArg List.length k3
  rw [Ni.nib_len, List.length_append] at this
  omega
end Go.Proofs.YtalhnnjpjaeakaaGreat
/- Byte strings compared. -/
namespace Go.Proofs.YtalhnnjpjaeakaaGreat
open Go.RowKit
set_option linter.unusedVariables false
set_option maxRecDepth 100000
open Ni (lessP less_one)
theorem loadBytes_run {P : Program} {w : World} {gb : Nat} : ∀ (bs : List Int) (off : Nat) (acc : ByteArray), (∀ j, j < bs.length → w.cell? ⟨gb, off + j, none⟩ = some (.int .u8 (bs.getD j 0))) → (Extern.Bytes.loadBytes ⟨gb, off, none⟩ bs.length acc).run P w = .ok ⟨acc.data ++ (Lib.bytesOf bs).toArray⟩ w
  | [], off, acc, h => by
    obtain ⟨d⟩ := acc
    simp [Extern.Bytes.loadBytes, Lib.bytesOf]
  | x :: r, off, acc, h => by
    have h0 := h 0 (by simp)
    rw [Nat.add_zero] at h0
    have e : (Extern.Bytes.loadBytes ⟨gb, off, none⟩ (x :: r).length acc).run P w = (Extern.Bytes.loadBytes ⟨gb, off + 1, none⟩ r.length (acc.push x.toNat.toUInt8)).run P w := by
      rw [List.length_cons, Extern.Bytes.loadBytes, Sem.run_bind, run_load, h0]
      simp only [List.getD_cons_zero, Result.andThen]
      rfl
    rw [e, loadBytes_run r (off + 1) (acc.push x.toNat.toUInt8) (fun j hj => by
      have := h (j + 1) (by simp; omega)
      rw [show off + 1 + j = off + (j + 1) from by omega, this]
      simp)]
    obtain ⟨d⟩ := acc
    simp [Lib.bytesOf, ByteArray.push, Nat.toUInt8]
theorem bytesOf_run {P : Program} {K : Nat → Prop} {w : World} {a : Option Addr} {n c : Nat} {p : List Int} (h : Sk K w a n c p) : (Extern.Bytes.bytesOf (.slice a n c)).run P w = .ok ⟨(Lib.bytesOf p).toArray⟩ w := by
  have hl := h.len
  rcases h.ag.i with ⟨h1, h2⟩ | ⟨gb, off, h1, h2, h3, h4, h5, h7⟩
  · subst h1; subst h2
    cases a with
    | none => rfl
    | some ad => rfl
  · subst h1
    have := loadBytes_run (P := P) p off ByteArray.empty (fun j hj => h7 j (by omega))
    rw [hl] at this
    show (Extern.Bytes.loadBytes ⟨gb, off, none⟩ n ByteArray.empty).run P w = _
    rw [this]
    show Result.ok (⟨(#[] : Array UInt8) ++ (Lib.bytesOf p).toArray⟩ : ByteArray) w = _
    rw [Array.empty_append]
theorem u8_lt {x y : Int} (hx : 0 ≤ x ∧ x < 256) (hy : 0 ≤ y ∧ y < 256) : (UInt8.ofNat x.toNat < UInt8.ofNat y.toNat) ↔ x < y := by
  rw [UInt8.lt_iff_toNat_lt, UInt8.toNat_ofNat', UInt8.toNat_ofNat']
  omega
theorem cmpB_eq : ∀ p q : List Int, (∀ x ∈ p, 0 ≤ x ∧ x < 256) → (∀ x ∈ q, 0 ≤ x ∧ x < 256) → Lib.compareBytes (Lib.bytesOf p) (Lib.bytesOf q) = cmpP p q
  | [], [], _, _ => rfl
  | [], y :: q, _, _ => by simp [Lib.bytesOf, Lib.compareBytes, cmpP, lessP]
  | x :: p, [], _, _ => by simp [Lib.bytesOf, Lib.compareBytes, cmpP, lessP]
  | x :: p, y :: q, hp, hq => by
    have hx := hp x (by simp)
    have hy := hq y (by simp)
    have ih := cmpB_eq p q (fun z hz => hp z (List.mem_cons_of_mem _ hz)) (fun z hz => hq z (List.mem_cons_of_mem _ hz))
    have e : Lib.compareBytes (Lib.bytesOf (x :: p)) (Lib.bytesOf (y :: q)) = if UInt8.ofNat x.toNat < UInt8.ofNat y.toNat then -1 else if UInt8.ofNat y.toNat < UInt8.ofNat x.toNat then 1 else Lib.compareBytes (Lib.bytesOf p) (Lib.bytesOf q) := rfl
    rw [e, ih]
    simp only [u8_lt hx hy, u8_lt hy hx]
    by_cases h : x = y
    · subst h
      have e2 : cmpP (x :: p) (x :: q) = cmpP p q := by
        unfold cmpP
        simp [lessP]
      rw [e2]
      simp
    · have e2 : cmpP (x :: p) (y :: q) = if x < y then -1 else 1 := by
        unfold cmpP
        simp [lessP, h]
      rw [e2]
      by_cases h1 : x < y
      · simp [h1]
      · rw [if_neg h1, if_neg h1, if_pos (by omega)]
theorem cmp_run {P : Program} {K K' : Nat → Prop} {w : World} {a a' : Option Addr} {n c n' c' : Nat} {p q : List Int} (h1 : Sk K w a n c p) (h2 : Sk K' w a' n' c' q) : (Extern.BytealgCompare.compare #[.slice a n c, .slice a' n' c']).run P w = .ok (.int .i64 (cmpP p q)) w := by
  change Sem.run P (do pure (goInt (Extern.BytealgCompare.cmp (← Extern.Bytes.bytesOf (.slice a n c)) (← Extern.Bytes.bytesOf (.slice a' n' c'))))) w = _
  simp only [Sem.run_bind, bytesOf_run h1, bytesOf_run h2, Sem.run_pure, Result.andThen]
  rw [Lib.cmp_eq]
  show Result.ok (goInt (Lib.compareBytes (Lib.bytesOf p) (Lib.bytesOf q))) w = _
  rw [cmpB_eq p q h1.ag.b h2.ag.b]
  rfl
theorem ol_cmp {w : World} {ρ : Operand → Value} {o : Oper} {u v r : Value} (x y : Operand) (tys : Array TypeId) (ho : o.op = .call { callee := .value (.func 62), args := #[x, y], argTypes := tys }) (hf : ρ (.func 62) = .func (.func 62) #[] #[]) (hx : ρ x = u) (hy : ρ y = v) (hr : (Extern.BytealgCompare.compare #[u, v]).run Tryz.prog w = .ok r w) : (execOp ρ o).run Tryz.prog w = .ok (.value r) w := by
  unfold execOp
  simp only [ho, resolve, hf, Deferred.ofValue, Sem.run_bind, Sem.run_pure, Result.andThen_ok, List.map_toArray, List.map_cons, List.map_nil, hx, hy, invoke, List.append_toArray, List.nil_append, List.append_nil]
  rw [run_callFunc_extern Tryz.func62 (by kernel_rfl) (by kernel_rfl) (by kernel_rfl) (e := Extern.BytealgCompare.compare) (by kernel_rfl), hr]
  rfl
theorem bcmp_any {K K' : Nat → Prop} {w : World} {a a' : Option Addr} {n c n' c' : Nat} {p q : List Int} (h1 : Sk K w a n c p) (h2 : Sk K' w a' n' c' q) :
    Calls Tryz.prog 42 #[.slice a n c, .slice a' n' c'] w fun e w' => e = .returned (.int .i64 (cmpP p q)) ∧ w' = w := by
  refine cw_enter Tryz.func42 rfl 8 rfl ?_
  show CW _ _ _ _ _ _ _ [(0, .slice a n c), (1, .slice a' n' c')] _
  refine cw_seq ?_
  refine cw_region ?_
  refine rp 4 (.int .i64 0) ?_
  refine rw_nil ?_
  refine nw_then ?_
  refine cw_seq ?_
  refine cw_region ?_
  refine rp 5 (.slice a n c) ?_
  refine rp 6 (.slice a' n' c') ?_
  refine rv 7 (.int .i64 (cmpP p q)) (fun _ => ol_cmp _ _ _ rfl rfl (by kernel_rfl) (by kernel_rfl) (cmp_run h1 h2)) ?_
  refine rp 4 (.int .i64 (cmpP p q)) ?_
  refine rw_nil ?_
  refine nw_then ?_
  refine cw_ret ?_
  exact nw_ret_body (.int .i64 (cmpP p q)) (fun _ => by kernel_rfl) ⟨rfl, rfl⟩
end Go.Proofs.YtalhnnjpjaeakaaGreat
/- Rows of byte strings in memory; two of them compared. -/
namespace Go.Proofs.YtalhnnjpjaeakaaGreat
open Go.RowKit
open Tr
set_option linter.unusedVariables false
set_option maxRecDepth 100000
/-- A row of slices of bytes. -/
structure Bt (K : Nat → Prop) (w : World) (a : Option Addr) (n : Nat) (M : List (List Int)) : Prop where
  len : M.length = n
  row : ∀ j, j < n → ∃ g off a' n' c', a = some ⟨g, off, none⟩ ∧ w.cell? ⟨g, off + j * 1, none⟩ = some (.slice a' n' c') ∧ Sk K w a' n' c' (M.getD j [])
theorem Bt.go {K : Nat → Prop} {w w' : World} {a : Option Addr} {n : Nat} {M : List (List Int)} (h : Bt K w a n M) (hb : Below w.heap.size w w') : Bt K w' a n M := ⟨h.len, fun j hj => by
  obtain ⟨g, off, a', n', c', h1, h2, h3⟩ := h.row j hj
  exact ⟨g, off, a', n', c', h1, (hb.cell (p := ⟨g, off + j * 1, none⟩) (block_lt_of_cell h2)).trans h2, h3.go hb⟩⟩
/-- Two slices in memory, by their cells. -/
structure Two (K K' : Nat → Prop) (w : World) (p p' : Addr) (a a' : Option Addr) (n c n' c' : Nat) (x y : List Int) : Prop where
  cc : w.cell? p = some (.slice a n c)
  sk : Sk K w a n c x
  cc' : w.cell? p' = some (.slice a' n' c')
  sk' : Sk K' w a' n' c' y
theorem Two.drew {K K' : Nat → Prop} {w : World} {p p' : Addr} {a a' : Option Addr} {n c n' c' : Nat} {x y : List Int} (h : Two K K' w p p' a a' n c n' c' x y) : Two K K' w.drew p p' a a' n c n' c' x y := ⟨h.cc, h.sk.drew, h.cc', h.sk'.drew⟩
theorem Two.go {K K' : Nat → Prop} {w w' : World} {p p' : Addr} {a a' : Option Addr} {n c n' c' : Nat} {x y : List Int} (h : Two K K' w p p' a a' n c n' c' x y) (hb : Below w.heap.size w w') : Two K K' w' p p' a a' n c n' c' x y := ⟨(hb.cell (p := p) (block_lt_of_cell h.cc)).trans h.cc, h.sk.go hb, (hb.cell (p := p') (block_lt_of_cell h.cc')).trans h.cc', h.sk'.go hb⟩
end Go.Proofs.YtalhnnjpjaeakaaGreat
/- That no two of some byte strings have one digest. -/
namespace Go.Proofs.YtalhnnjpjaeakaaGreat
open Go.RowKit
open Tr
open Di (dref)
set_option linter.unusedVariables false
set_option maxRecDepth 100000
theorem ol_eqDD {ρ : Operand → Value} {w : World} {x y : Operand} {o : Oper} {ds es : List Int} (ho : o.op = .binOp .eql 49 x y 49) (hx : ρ x = .agg (B8 ds)) (hy : ρ y = .agg (B8 es)) (h1 : ds.length = 32) (h2 : es.length = 32) : (execOp ρ o).run Tryz.prog w = .ok (.value (.bool (ds == es))) w := by
  have e := eqD ds es h1 h2 w
  unfold execOp
  rw [ho]
  simp only [hx, hy]
  go_simp
/-- No two of these have one digest. -/
def Unl (M : List (List Int)) (n : Nat) : Prop := ∀ i, i < n → ∀ k, k < i → dref (M.getD i []) ≠ dref (M.getD k [])
set_option maxHeartbeats 2000000 in
theorem unlike_any {K : Nat → Prop} {w : World} {a : Option Addr} {n c : Nat} {M : List (List Int)} (hX : Bt K w a n M) (hn : n ≤ 7600000000002) (hsm : ∀ j, j < n → (M.getD j []).length ≤ 65540) :
    Calls Tryz.prog 24 #[.slice a n c] w fun e w' => ∃ u, e = .returned u ∧ (fun u w' => (∃ b, u = .bool b ∧ (b = true → Unl M n)) ∧ Bl w w') u w' := by
  have hB := Bl.refl w
  refine cw_enter Tryz.func24 rfl 27 rfl ?_
  show CW _ _ _ _ _ _ _ [(0, .slice a n c)] _
  refine cw_seq ?_
  refine cw_region ?_
  refine rp 2 (.bool false) ?_
  refine rw_nil ?_
  refine nw_then ?_
  refine cw_seq ?_
  refine cw_seq ?_
  refine cw_region ?_
  refine rp 5 (.slice a n c) ?_
  refine rp 6 (.int .i64 n) ?_
  refine rp 7 (.int .i64 0) ?_
  refine rw_nil ?_
  refine nw_then ?_
  refine cw_block ?_
  refine cw_loop (X := Nat) (fun j => [(7, .int .i64 ((j : Nat) : Int)), (6, .int .i64 n), (0, .slice a n c)]) (fun j v => Bl w v ∧ j ≤ n ∧ Unl M j) (fun j => n - j) 0 (by exact ⟨fun _ => by kernel_rfl, ⟨fun _ => by kernel_rfl, ⟨fun _ => by kernel_rfl, trivial⟩⟩⟩) ⟨hB, Nat.zero_le _, fun i hi => by omega⟩ ?_
  clear hB
  rintro j v ⟨hB, hj, hU⟩
  by_cases hlt : j < n
  · skip
    obtain ⟨g1, o1, a1, n1, c1, e1, hc1, hs1⟩ := hX.row j hlt
    subst e1
    have hm1 := hsm j hlt
    have hl1 := hs1.len
    obtain ⟨x, ex⟩ : ∃ x, M.getD j [] = x := ⟨_, rfl⟩
    rw [ex] at hs1 hm1 hl1
    refine cw_seq ?_
    refine cw_region ?_
    refine rv 8 (.bool true) (fun _ => ol_conv (v := .bool (decide (((j : Nat) : Int) < (n : Int)))) (by kernel_rfl) (congrArg Value.bool (decide_eq_true (by omega)))) ?_
    refine rw_nil ?_
    refine nw_then ?_
    refine cw_seq ?_
    refine cw_cond_t (fun _ => by kernel_rfl) ?_
    refine cw_skip ?_
    refine nw_then ?_
    refine cw_seq ?_
    refine cw_block ?_
    refine cw_seq ?_
    refine cw_region ?_
    refine rp 9 (.int .i64 ((j : Nat) : Int)) ?_
    refine rp 3 (.int .i64 ((j : Nat) : Int)) ?_
    refine rw_nil ?_
    refine nw_then ?_
    refine cw_seq ?_
    refine cw_region ?_
    refine rp 10 (.int .i64 ((j : Nat) : Int)) ?_
    refine rp 11 (.int .i64 0) ?_
    refine rw_nil ?_
    refine nw_then ?_
    refine cw_block ?_
    refine cw_loop (X := Nat) (fun q => [(11, .int .i64 ((q : Nat) : Int)), (10, .int .i64 ((j : Nat) : Int)), (3, .int .i64 ((j : Nat) : Int)), (7, .int .i64 ((j : Nat) : Int)), (6, .int .i64 n), (0, .slice (some ⟨g1, o1, none⟩) n c)]) (fun q v => Bl w v ∧ q ≤ j ∧ ∀ k, k < q → dref x ≠ dref (M.getD k [])) (fun q => j - q) 0 (by exact ⟨fun _ => by kernel_rfl, ⟨fun _ => by kernel_rfl, ⟨fun _ => by kernel_rfl, ⟨fun _ => by kernel_rfl, ⟨fun _ => by kernel_rfl, ⟨fun _ => by kernel_rfl, trivial⟩⟩⟩⟩⟩⟩) ⟨hB, Nat.zero_le _, fun i hi => by omega⟩ ?_
    clear hB
    rintro q v ⟨hB, hq, hI⟩
    show CW _ _ _ _ _ _ _ [(11, .int .i64 ((q : Nat) : Int)), (10, .int .i64 ((j : Nat) : Int)), (3, .int .i64 ((j : Nat) : Int)), (7, .int .i64 ((j : Nat) : Int)), (6, .int .i64 n), (0, .slice (some ⟨g1, o1, none⟩) n c)] _
    by_cases hqt : q < j
    · skip
      obtain ⟨g2, o2, a2, n2, c2, e2, hc2, hs2⟩ := hX.row q (by omega)
      cases e2
      have hm2 := hsm q (by omega)
      have hl2 := hs2.len
      obtain ⟨y, ey⟩ : ∃ y, M.getD q [] = y := ⟨_, rfl⟩
      rw [ey] at hs2 hm2 hl2
      refine cw_seq ?_
      refine cw_region ?_
      refine rv 12 (.bool true) (fun _ => ol_conv (v := .bool (decide (((q : Nat) : Int) < ((j : Nat) : Int)))) (by kernel_rfl) (congrArg Value.bool (decide_eq_true (by omega)))) ?_
      refine rw_nil ?_
      refine nw_then ?_
      refine cw_seq ?_
      refine cw_cond_t (fun _ => by kernel_rfl) ?_
      refine cw_skip ?_
      refine nw_then ?_
      refine cw_seq ?_
      refine cw_block ?_
      refine cw_seq ?_
      refine cw_region ?_
      refine rp 13 (.int .i64 ((q : Nat) : Int)) ?_
      refine rp 4 (.int .i64 ((q : Nat) : Int)) ?_
      refine rw_nil ?_
      refine nw_then ?_
      refine cw_seq ?_
      refine cw_draw (fun v => Bl w v) (by kernel_rfl) (hB.drew) ?_
      replace hB := hB.drew
      refine dt 0 14 (.slice (some ⟨g1, o1, none⟩) n c) (fun v hv _ => by kernel_rfl) hB ?_
      refine dt 1 15 (.int .i64 ((j : Nat) : Int)) (fun v hv _ => by kernel_rfl) hB ?_
      refine dt 2 16 (.pointer (some ⟨g1, o1 + j * 1, none⟩)) (fun v hv _ => ol_index 41 _ _ g1 o1 j n c 1 27 rfl (by kernel_rfl) (by kernel_rfl) (by omega) Tryz.underlying41 (by kernel_rfl)) hB ?_
      refine dt 3 17 (.slice a1 n1 c1) (fun v hv _ => ol_cell 27 _ _ _ _ rfl (by kernel_rfl) ((Below.cell hv (block_lt_of_cell hc1)).trans hc1) Tryz.underlying27 rfl) hB ?_
      refine dt 5 19 (.slice (some ⟨g1, o1, none⟩) n c) (fun v hv _ => by kernel_rfl) hB ?_
      refine dt 6 20 (.int .i64 ((q : Nat) : Int)) (fun v hv _ => by kernel_rfl) hB ?_
      refine dt 7 21 (.pointer (some ⟨g1, o1 + q * 1, none⟩)) (fun v hv _ => ol_index 41 _ _ g1 o1 q n c 1 27 rfl (by kernel_rfl) (by kernel_rfl) (by omega) Tryz.underlying41 (by kernel_rfl)) hB ?_
      refine dt 8 22 (.slice a2 n2 c2) (fun v hv _ => ol_cell 27 _ _ _ _ rfl (by kernel_rfl) ((Below.cell hv (block_lt_of_cell hc2)).trans hc2) Tryz.underlying27 rfl) hB ?_
      refine dw_ready [4] (by kernel_rfl) (by simp) ?_
      refine ar_call 4 18 46 #[.slice a1 n1 c1] rfl (fun _ => by kernel_rfl) (fun _ => by kernel_rfl) (R := fun u w' => u = .agg (B8 (dref x)) ∧ Bl (v.drew) w') ((rdof_any a1 n1 c1 x (v.drew) (hs1.go hB).ag (by omega)).mono (fun e w' h => ⟨_, h.1, rfl, h.2⟩)) (fun u w' h => hB.go h.2) ?_ ar_nil
      rintro _ u1 ⟨rfl, hb1⟩
      replace hB := hB.go hb1
      refine dw_ready [9] (by kernel_rfl) (by simp) ?_
      refine ar_call 9 23 46 #[.slice a2 n2 c2] rfl (fun _ => by kernel_rfl) (fun _ => by kernel_rfl) (R := fun u w' => u = .agg (B8 (dref y)) ∧ Bl (u1) w') ((rdof_any a2 n2 c2 y (u1) (hs2.go hB).ag (by omega)).mono (fun e w' h => ⟨_, h.1, rfl, h.2⟩)) (fun u w' h => hB.go h.2) ?_ ar_nil
      rintro _ u2 ⟨rfl, hb2⟩
      replace hB := hB.go hb2
      refine dt 10 24 (.bool (dref x == dref y)) (fun v hv _ => ol_eqDD rfl (by kernel_rfl) (by kernel_rfl) (dref_len _) (dref_len _)) hB ?_
      refine dw_done (by kernel_rfl) ?_
      refine nw_then ?_
      by_cases hxy : dref x = dref y
      · skip
        rw [show (dref x == dref y) = true from by simp [hxy]]
        refine cw_cond_t (fun _ => by kernel_rfl) ?_
        refine cw_seq ?_
        refine cw_region ?_
        refine rp 2 (.bool false) ?_
        refine rw_nil ?_
        refine nw_then ?_
        refine cw_ret ?_
        refine nw_ret_block ?_
        refine nw_ret_then ?_
        refine nw_ret_then ?_
        refine nw_ret_block ?_
        refine nw_ret_block ?_
        refine nw_ret_then ?_
        refine nw_ret_then ?_
        refine nw_ret_block ?_
        refine nw_ret_then ?_
        exact nw_ret_body (.bool false) (fun _ => by kernel_rfl) ⟨_, rfl, ⟨false, rfl, fun e => by cases e⟩, hB⟩
      · skip
        rw [show (dref x == dref y) = false from by simp [hxy]]
        refine cw_cond_f (fun _ => by kernel_rfl) ?_
        refine cw_skip ?_
        refine nw_block ?_
        refine nw_then ?_
        refine cw_region ?_
        refine rv 25 (.int .i64 (((q : Nat) : Int) + 1)) (fun _ => ol_conv (v := .int .i64 (IntKind.i64.wrap (((q : Nat) : Int) + 1))) (by kernel_rfl) (congrArg (Value.int .i64) (wrap64 (by omega) (by omega)))) ?_
        refine rp 11 (.int .i64 (((q : Nat) : Int) + 1)) ?_
        refine rw_nil ?_
        exact nw_round (E := fun q => [(11, .int .i64 ((q : Nat) : Int)), (10, .int .i64 ((j : Nat) : Int)), (3, .int .i64 ((j : Nat) : Int)), (7, .int .i64 ((j : Nat) : Int)), (6, .int .i64 n), (0, .slice (some ⟨g1, o1, none⟩) n c)]) (R := fun q v => Bl w v ∧ q ≤ j ∧ ∀ k, k < q → dref x ≠ dref (M.getD k [])) (μ := fun q => j - q) (x := q) (q + 1) (by exact ⟨fun _ => by kernel_rfl, ⟨fun _ => by kernel_rfl, ⟨fun _ => by kernel_rfl, ⟨fun _ => by kernel_rfl, ⟨fun _ => by kernel_rfl, ⟨fun _ => by kernel_rfl, trivial⟩⟩⟩⟩⟩⟩) ⟨hB, by omega, fun k hk => by
          by_cases e : k = q
          · subst e; rw [ey]; exact hxy
          · exact hI k (by omega)⟩ (by show j - (q + 1) < j - q; omega)
    obtain rfl : j = q := by omega
    refine cw_seq ?_
    refine cw_region ?_
    refine rv 12 (.bool false) (fun _ => ol_conv (v := .bool (decide (((j : Nat) : Int) < ((j : Nat) : Int)))) (by kernel_rfl) (congrArg Value.bool (decide_eq_false (by omega)))) ?_
    refine rw_nil ?_
    refine nw_then ?_
    refine cw_seq ?_
    refine cw_cond_f (fun _ => by kernel_rfl) ?_
    refine cw_exit ?_
    refine nw_exit_then ?_
    refine nw_exit_then ?_
    refine nw_exit_here ?_
    refine nw_block ?_
    refine nw_then ?_
    refine cw_region ?_
    refine rv 26 (.int .i64 (((j : Nat) : Int) + 1)) (fun _ => ol_conv (v := .int .i64 (IntKind.i64.wrap (((j : Nat) : Int) + 1))) (by kernel_rfl) (congrArg (Value.int .i64) (wrap64 (by omega) (by omega)))) ?_
    refine rp 7 (.int .i64 (((j : Nat) : Int) + 1)) ?_
    refine rw_nil ?_
    exact nw_round (E := fun j => [(7, .int .i64 ((j : Nat) : Int)), (6, .int .i64 n), (0, .slice (some ⟨g1, o1, none⟩) n c)]) (R := fun j v => Bl w v ∧ j ≤ n ∧ Unl M j) (μ := fun j => n - j) (x := j) (j + 1) (by exact ⟨fun _ => by kernel_rfl, ⟨fun _ => by kernel_rfl, ⟨fun _ => by kernel_rfl, trivial⟩⟩⟩) ⟨hB, by omega, fun i hi k hk => by
      by_cases e : i = j
      · subst e; rw [ex]; exact hI k hk
      · exact hU i (by omega) k hk⟩ (by show n - (j + 1) < n - j; omega)
  obtain rfl : j = n := by omega
  refine cw_seq ?_
  refine cw_region ?_
  refine rv 8 (.bool false) (fun _ => ol_conv (v := .bool (decide (((j : Nat) : Int) < (j : Int)))) (by kernel_rfl) (congrArg Value.bool (decide_eq_false (by omega)))) ?_
  refine rw_nil ?_
  refine nw_then ?_
  refine cw_seq ?_
  refine cw_cond_f (fun _ => by kernel_rfl) ?_
  refine cw_exit ?_
  refine nw_exit_then ?_
  refine nw_exit_then ?_
  refine nw_exit_here ?_
  refine nw_then ?_
  refine cw_seq ?_
  refine cw_region ?_
  refine rp 2 (.bool true) ?_
  refine rw_nil ?_
  refine nw_then ?_
  refine cw_ret ?_
  exact nw_ret_body (.bool true) (fun _ => by kernel_rfl) ⟨_, rfl, ⟨true, rfl, fun _ => hU⟩, hB⟩
end Go.Proofs.YtalhnnjpjaeakaaGreat
