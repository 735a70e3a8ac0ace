/- Structs of words and digests held against each other. -/
import Derived.DeepKeys
import Derived.Test.YtmaajddofmahpaaRows
import Derived.Test.YtmaajddofmahpaaG13
namespace Go.Proofs.Ytmaajddofmahpaa
set_option linter.unusedVariables false
section
variable {P : Program}
theorem kl_u8 {t : TypeId} (hu : P.underlying t = some (.int .u8)) (d : Nat) {n : Int} (h : 0 ≤ n ∧ n < 256) : P.keyLits (d + 1) t [.int .u8 n] = some [.int .u8 n] := by
  unfold Program.keyLits
  rw [hu]
  simp only
  rw [if_pos ⟨trivial, by simp only [Lit.wf, Bool.and_eq_true, decide_eq_true_eq]; exact ⟨h.1, Int.le_of_lt_add_one h.2⟩⟩]
theorem kl_u64 {t : TypeId} (hu : P.underlying t = some (.int .u64)) (d : Nat) {n : Int} (h : 0 ≤ n ∧ n < 18446744073709551616) : P.keyLits (d + 1) t [.int .u64 n] = some [.int .u64 n] := by
  unfold Program.keyLits
  rw [hu]
  simp only
  rw [if_pos ⟨trivial, by simp only [Lit.wf, Bool.and_eq_true, decide_eq_true_eq]; exact ⟨h.1, Int.le_of_lt_add_one h.2⟩⟩]
theorem kl_row {t : TypeId} (hu : P.underlying t = some (.int .u8)) (hc : P.cellsOf t = 1) (d : Nat) (ds : List Int) (h : ∀ x ∈ ds, 0 ≤ x ∧ x < 256) :
    ∀ (n k : Nat), k + n = ds.length → (List.range' k n).mapM (fun i => P.keyLits (d + 1) t (((ds.map (Value.int .u8)).drop (i * P.cellsOf t)).take (P.cellsOf t))) = some ((ds.drop k).map fun z => [Lit.int .u8 z])
  | 0, k, hk => by
    rw [List.drop_of_length_le (by omega)]
    simp
  | n + 1, k, hk => by
    have hlt : k < ds.length := by omega
    rw [List.range'_succ, List.mapM_cons]
    have ih := kl_row hu hc d ds h n (k + 1) (by omega)
    rw [hc] at ih ⊢
    have e1 : ((ds.map (Value.int .u8)).drop (k * 1)).take 1 = [.int .u8 ds[k]] := by
      rw [Nat.mul_one, List.drop_eq_getElem_cons (by simpa using hlt)]
      simp
    rw [e1, kl_u8 hu d (h _ (List.getElem_mem hlt)), ih, List.drop_eq_getElem_cons hlt]
    rfl
theorem kl_dig {t tD : TypeId} {m : Nat} (hu : P.underlying t = some (.int .u8)) (hc : P.cellsOf t = 1) (hD : P.underlying tD = some (.array m t)) (hcD : P.cellsOf tD = m) (d : Nat) (ds : List Int) (hl : ds.length = m) (h : ∀ x ∈ ds, 0 ≤ x ∧ x < 256) :
    P.keyLits (d + 2) tD (ds.map (Value.int .u8)) = some (ds.map (Lit.int .u8)) := by
  have e := kl_row hu hc d ds h m 0 (by omega)
  unfold Program.keyLits
  rw [hD]
  simp only
  rw [if_pos (by rw [List.length_map, hcD, hl]), List.range_eq_range', e]
  simp only [Option.map_some, List.drop_zero, Option.some.injEq]
  clear e h hl
  induction ds with
  | nil => rfl
  | cons x r ih => simpa using ih
/-- What is known of the type of an account. -/
structure AccTy (P : Program) (tA tD t8 t64 : TypeId) (f0 f1 f2 f3 : Field) : Prop where
  a : P.underlying tA = some (.struct #[f0, f1, f2, f3])
  n : (#[f0, f1, f2, f3].all (·.name != "_")) = true
  ca : P.cellsOf tA = 66
  cd : P.cellsOf tD = 32
  c8 : P.cellsOf t8 = 1
  c64 : P.cellsOf t64 = 1
  d : P.underlying tD = some (.array 32 t8)
  u8 : P.underlying t8 = some (.int .u8)
  u64 : P.underlying t64 = some (.int .u64)
  t0 : f0.type = t64 ∧ f0.offset = 0
  t1 : f1.type = t64 ∧ f1.offset = 1
  t2 : f2.type = tD ∧ f2.offset = 2
  t3 : f3.type = tD ∧ f3.offset = 34
  k : P.keyTypeAt 3 tA = true
def AVs (n b : Nat) (c s : List Int) : List Value := .int .u64 n :: .int .u64 b :: (c.map (Value.int .u8) ++ s.map (Value.int .u8))
variable {tA tD t8 t64 : TypeId} {f0 f1 f2 f3 : Field}
theorem kl_acc (H : AccTy P tA tD t8 t64 f0 f1 f2 f3) (n b : Nat) (c s : List Int) (hn : n < 18446744073709551616) (hb : b < 18446744073709551616) (hc : c.length = 32) (hs : s.length = 32) (bc : ∀ x ∈ c, 0 ≤ x ∧ x < 256) (bs : ∀ x ∈ s, 0 ≤ x ∧ x < 256) :
    P.keyLits 3 tA (AVs n b c s) = some (.int .u64 n :: .int .u64 b :: (c.map (Lit.int .u8) ++ s.map (Lit.int .u8))) := by
  have hl : (AVs n b c s).length = 66 := by simp [AVs, hc, hs]
  unfold Program.keyLits
  rw [H.a]
  simp only
  rw [if_pos ⟨by rw [hl, H.ca], H.n⟩]
  have e0 : ((AVs n b c s).drop 0).take 1 = [.int .u64 n] := rfl
  have e1 : ((AVs n b c s).drop 1).take 1 = [.int .u64 b] := rfl
  have e2 : ((AVs n b c s).drop 2).take 32 = c.map (Value.int .u8) := by
    show ((c.map (Value.int .u8) ++ s.map (Value.int .u8))).take 32 = _
    rw [List.take_append_of_le_length (by simp [hc]), List.take_of_length_le (by simp [hc])]
  have e3 : ((AVs n b c s).drop 34).take 32 = s.map (Value.int .u8) := by
    show ((c.map (Value.int .u8) ++ s.map (Value.int .u8)).drop 32).take 32 = _
    rw [List.drop_append_of_le_length (by simp [hc]), List.drop_of_length_le (by simp [hc]), List.nil_append, List.take_of_length_le (by simp [hs])]
  simp only [List.mapM_cons, List.mapM_nil, H.t0.1, H.t0.2, H.t1.1, H.t1.2, H.t2.1, H.t2.2, H.t3.1, H.t3.2, H.cd, H.c64, e0, e1, e2, e3]
  rw [kl_u64 H.u64 1 (n := (n : Int)) (by omega), kl_u64 H.u64 1 (n := (b : Int)) (by omega), kl_dig H.u8 H.c8 H.d H.cd 0 c hc bc, kl_dig H.u8 H.c8 H.d H.cd 0 s hs bs]
  simp
theorem map_u8_inj : ∀ {x y : List Int}, x.map (Lit.int .u8) = y.map (Lit.int .u8) → x = y
  | [], [], _ => rfl
  | [], _ :: _, h => by cases h
  | _ :: _, [], h => by cases h
  | a :: x, b :: y, h => by
    simp only [List.map_cons, List.cons.injEq, Lit.int.injEq, true_and] at h
    rw [h.1, map_u8_inj h.2]
theorem eq_acc (H : AccTy P tA tD t8 t64 f0 f1 f2 f3) (n b : Nat) (c s : List Int) (hn : n < 18446744073709551616) (hb : b < 18446744073709551616) (hc : c.length = 32) (hs : s.length = 32) (bc : ∀ x ∈ c, 0 ≤ x ∧ x < 256) (bs : ∀ x ∈ s, 0 ≤ x ∧ x < 256)
    (n' b' : Nat) (c' s' : List Int) (hn' : n' < 18446744073709551616) (hb' : b' < 18446744073709551616) (hc' : c'.length = 32) (hs' : s'.length = 32) (bc' : ∀ x ∈ c', 0 ≤ x ∧ x < 256) (bs' : ∀ x ∈ s', 0 ≤ x ∧ x < 256) (w : World) :
    (Op.equalIn 10000 tA (.agg (AVs n b c s).toArray) (.agg (AVs n' b' c' s').toArray)).run P w = .ok (decide (n = n' ∧ b = b' ∧ c = c' ∧ s = s')) w := by
  have k1 := kl_acc H n b c s hn hb hc hs bc bs
  have k2 := kl_acc H n' b' c' s' hn' hb' hc' hs' bc' bs'
  have l1 : (AVs n b c s).length = 66 := by simp [AVs, hc, hs]
  have l2 : (AVs n' b' c' s').length = 66 := by simp [AVs, hc', hs']
  obtain ⟨r, hr, hiff⟩ := run_equalIn_deep 9997 3 tA H.k w 3 3 (.agg (AVs n b c s).toArray) (.agg (AVs n' b' c' s').toArray) _ _ (by simp [Value.formed, H.a, H.ca, l1]) (by simp [Value.formed, H.a, H.ca, l2]) k1 k2
  rw [hr]
  congr 1
  have h2 : r = true ↔ (n = n' ∧ b = b' ∧ c = c' ∧ s = s') := by
    rw [hiff]
    constructor
    · intro h
      simp only [List.cons.injEq, Lit.int.injEq, true_and] at h
      obtain ⟨q1, q2, q3⟩ := h
      obtain ⟨q4, q5⟩ := List.append_inj q3 (by simp [hc, hc'])
      exact ⟨by omega, by omega, map_u8_inj q4, map_u8_inj q5⟩
    · rintro ⟨rfl, rfl, rfl, rfl⟩; rfl
  cases r
  · rw [eq_comm, decide_eq_false_iff_not]; exact fun q => by cases h2.2 q
  · rw [eq_comm, decide_eq_true_eq]; exact h2.1 rfl
end
end Go.Proofs.Ytmaajddofmahpaa
/- How an account that is handed in reads as data. -/
namespace Go.Proofs.Ytmaajddofmahpaa
open Go.ChangeShapes Go.WideShapes Go.ChangeAt Go.RowKit
set_option linter.unusedVariables false
section
variable {P : Program} {H : Type} {enc : TypeId × Value → H} {w : World} {base : Nat} {spare : Nat → Bool} {held : Bool} {tA tD t8 t64 : TypeId} {f0 f1 f2 f3 : Field}
theorem open_digG {fuel : Nat} {cs : List Value} {x : DataW H × List MemPlace} (h8 : P.underlying t8 = some (.int .u8)) (c8 : P.cellsOf t8 = 1) (hD : P.underlying tD = some (.array 32 t8)) (cD : P.cellsOf tD = 32)
    (hf : DataW.trod enc P w base spare held fuel tD cs = some x) : ∃ ds : List Int, cs = ds.map (Value.int .u8) ∧ ds.length = 32 ∧ ∀ x ∈ ds, 0 ≤ x ∧ x < 256 := by
  obtain ⟨ys, m, _, _, hlen, hyl, hel⟩ := DataW.trod_array hD hf
  rw [cD] at hlen
  have hc : ∀ i, i < 32 → ∃ n : Int, cs[i]? = some (.int .u8 n) ∧ 0 ≤ n ∧ n < 256 := by
    intro i hi
    have hy : i < ys.length := by omega
    have e := hel i hi
    rw [c8, List.getElem?_eq_getElem hy, Nat.mul_one] at e
    obtain ⟨n, hn, _, hwf⟩ := DataW.trod_int h8 e
    have h0 : ((cs.drop i).take 1)[0]? = some (.int .u8 n) := by rw [hn]; rfl
    rw [List.getElem?_take_of_lt (by omega), List.getElem?_drop] at h0
    exact ⟨n, by simpa using h0, by have := bounds_u8 hwf; omega, by have := bounds_u8 hwf; omega⟩
  refine ⟨cs.map fun v => match v with | .int _ n => n | _ => 0, ?_, by simp [hlen], ?_⟩
  · apply List.ext_getElem
    · simp
    · intro i h1 h2
      obtain ⟨n, hn, _⟩ := hc i (by omega)
      have e := (List.getElem?_eq_some_iff.1 hn).2
      simp only [List.getElem_map]
      rw [e]
  · intro x hx
    obtain ⟨v, hv, rfl⟩ := List.mem_map.1 hx
    obtain ⟨i, hi, he⟩ := List.mem_iff_getElem.1 hv
    obtain ⟨n, hn, h0, h1⟩ := hc i (by omega)
    have e := (List.getElem?_eq_some_iff.1 hn).2
    rw [← he, e]
    exact ⟨h0, h1⟩
theorem open_u64G {fuel : Nat} {cs : List Value} {x : DataW H × List MemPlace} (h64 : P.underlying t64 = some (.int .u64)) (hf : DataW.trod enc P w base spare held fuel t64 cs = some x) : ∃ n : Nat, cs = [.int .u64 n] ∧ n < 18446744073709551616 := by
  obtain ⟨n, hn, _, hwf⟩ := DataW.trod_int h64 hf
  simp only [Lit.wf, Bool.and_eq_true, decide_eq_true_eq] at hwf
  have h0 : 0 ≤ n := hwf.1
  have h1 : n ≤ 18446744073709551615 := hwf.2
  exact ⟨n.toNat, by rw [hn, Int.toNat_of_nonneg h0], by omega⟩
theorem split4 {cs : List Value} {a b c d : Nat} (h : cs.length = a + b + c + d) : cs = cs.take a ++ ((cs.drop a).take b ++ ((cs.drop (a + b)).take c ++ (cs.drop (a + b + c)).take d)) := by
  have h1 : (cs.drop (a + b + c)).take d = cs.drop (a + b + c) := List.take_of_length_le (by simp [h])
  rw [h1, show cs.drop (a + b + c) = (cs.drop (a + b)).drop c from by rw [List.drop_drop], List.take_append_drop, show cs.drop (a + b) = (cs.drop a).drop b from by rw [List.drop_drop], List.take_append_drop, List.take_append_drop]
/-- An account that came in, opened. -/
theorem open_acc (T : AccTy P tA tD t8 t64 f0 f1 f2 f3) {b0 : Nat} {r : Reach} {v : Value} {d : DataW H} {p : List MemPlace}
    (hv : Value.okWide P w r b0 tA v) (h : DataW.Trod enc P w base spare held tA v d p) :
    ∃ (n b : Nat) (c s : List Int), v = .agg (AVs n b c s).toArray ∧ n < 18446744073709551616 ∧ b < 18446744073709551616 ∧ c.length = 32 ∧ (∀ x ∈ c, 0 ≤ x ∧ x < 256) ∧ s.length = 32 ∧ ∀ x ∈ s, 0 ≤ x ∧ x < 256 := by
  obtain ⟨cs, rfl⟩ : ∃ cs, v = .agg cs := by
    simp only [Value.okWide, T.a] at hv
    obtain ⟨cs, h1, _⟩ := hv
    exact ⟨cs, h1⟩
  obtain ⟨fuel, hf⟩ := h
  have hcells : (Value.agg cs).cells.toList = cs.toList := by simp [Value.cells]
  rw [hcells] at hf
  obtain ⟨xs, m, _, hx, hcl, hxl, hel⟩ := DataW.trod_struct T.a hf
  rw [T.ca] at hcl
  have hxl4 : xs.length = 4 := hxl
  have e0 := hel 0 f0 rfl
  have e1 := hel 1 f1 rfl
  have e2 := hel 2 f2 rfl
  have e3 := hel 3 f3 rfl
  rw [T.t0.1, T.t0.2, T.c64, List.getElem?_eq_getElem (by omega)] at e0
  rw [T.t1.1, T.t1.2, T.c64, List.getElem?_eq_getElem (by omega)] at e1
  rw [T.t2.1, T.t2.2, T.cd, List.getElem?_eq_getElem (by omega)] at e2
  rw [T.t3.1, T.t3.2, T.cd, List.getElem?_eq_getElem (by omega)] at e3
  obtain ⟨n, hn, bn⟩ := open_u64G T.u64 e0
  obtain ⟨b, hb, bb⟩ := open_u64G T.u64 e1
  obtain ⟨c, hc, lc, bc⟩ := open_digG T.u8 T.c8 T.d T.cd e2
  obtain ⟨s, hs, ls, bs⟩ := open_digG T.u8 T.c8 T.d T.cd e3
  refine ⟨n, b, c, s, ?_, bn, bb, lc, bc, ls, bs⟩
  congr 1
  apply Array.ext'
  have e := split4 (cs := cs.toList) (a := 1) (b := 1) (c := 32) (d := 32) (by omega)
  rw [List.drop_zero] at hn
  rw [e, hn, hb, hc, hs]
  simp [AVs]
end
end Go.Proofs.Ytmaajddofmahpaa
