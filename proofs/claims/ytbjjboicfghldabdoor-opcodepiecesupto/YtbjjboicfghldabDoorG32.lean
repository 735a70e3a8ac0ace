/- A push and a mark behind a code: plain; shifts; rows of places that are joined. -/
import Derived.Test.YtbjjboicfghldabDoorG29
import Derived.Test.YtbjjboicfghldabDoorG30
import Derived.Test.YtbjjboicfghldabDoorG31
namespace Go.Proofs.YtbjjboicfghldabDoor
open Go.RowKit
open Wo
set_option linter.unusedVariables false
set_option maxRecDepth 100000
/-- Does a code end within an operation's own bytes? -/
def ctP : Nat → List Int → Bool
  | 0, _ => false
  | n + 1, l => match l with
    | [] => false
    | x :: r => (match ofP x with | none => false | some o => decide (r.length < o.bh)) || ctP n ((x :: r).drop (szP (x :: r)))
theorem ct_nil : ∀ n : Nat, ctP n [] = false
  | 0 => rfl
  | _ + 1 => rfl
theorem ct_fuel : ∀ (n m : Nat) (l : List Int), l.length ≤ n → l.length ≤ m → ctP n l = ctP m l
  | _, _, [], _, _ => by rw [ct_nil, ct_nil]
  | 0, _, x :: r, h, _ => by simp at h
  | _, 0, x :: r, _, h => by simp at h
  | n + 1, m + 1, x :: r, h1, h2 => by
    have hd := drop_lt (x := x) (r := r)
    simp only [List.length_cons] at h1 h2
    simp only [ctP]
    rw [ct_fuel n m _ (by omega) (by omega)]
def ctF (l : List Int) : Bool := ctP l.length l
theorem ctF_cons (x : Int) (r : List Int) : ctF (x :: r) = ((match ofP x with | none => false | some o => decide (r.length < o.bh)) || ctF ((x :: r).drop (szP (x :: r)))) := by
  unfold ctF
  rw [List.length_cons, ctP, ct_fuel r.length _ _ drop_lt (Nat.le_refl _)]
theorem ct_no {x : Int} {r : List Int} (h : ofP x = none) : ctF (x :: r) = ctF ((x :: r).drop (szP (x :: r))) := by rw [ctF_cons, h]; rfl
theorem ct_lt {x : Int} {r : List Int} {o : Nf} (h : ofP x = some o) (hl : r.length < o.bh) : ctF (x :: r) = true := by rw [ctF_cons, h]; simp only; rw [decide_eq_true hl]; rfl
theorem ct_ge {x : Int} {r : List Int} {o : Nf} (h : ofP x = some o) (hl : ¬ r.length < o.bh) : ctF (x :: r) = ctF ((x :: r).drop (szP (x :: r))) := by rw [ctF_cons, h]; simp only; rw [decide_eq_false hl]; rfl
theorem sz_app {x : Int} {r v : List Int} (h : ctF (x :: r) = false) : szP (x :: (r ++ v)) = szP (x :: r) ∧ ctF ((x :: r).drop (szP (x :: r))) = false := by
  cases hof : ofP x with
  | none => rw [szP_no hof, szP_no hof]; rw [ct_no hof, szP_no hof] at h; exact ⟨rfl, h⟩
  | some o =>
    by_cases hl : r.length < o.bh
    · rw [ct_lt hof hl] at h; cases h
    · rw [szP_ge hof hl, szP_ge hof (by rw [List.length_append]; omega)]
      rw [ct_ge hof hl, szP_ge hof hl] at h
      exact ⟨rfl, h⟩
theorem mk_app : ∀ (n : Nat) (l v : List Int) (p : Nat), l.length ≤ n → ctF l = false → mkF p (l ++ v) = mkF p l ++ mkF (p + l.length) v
  | _, [], v, p, _, _ => rfl
  | 0, x :: r, v, p, h, _ => by simp at h
  | n + 1, x :: r, v, p, h, hc => by
    obtain ⟨h1, h2⟩ := sz_app (v := v) hc
    have hd := drop_lt (x := x) (r := r)
    have hle := szP_le (l := x :: r) (by simp)
    rw [List.length_cons] at h
    rw [List.cons_append, mkF_cons, mkF_cons, h1, ← List.cons_append, List.drop_append_of_le_length hle, mk_app n _ v _ (by omega) h2, List.append_assoc, List.length_drop]
    congr 3
    omega
theorem mk_push {b L : List Int} (hc : ctF b = false) (hL : L.length = 8) : mkF 0 (((b ++ [39]) ++ L) ++ [66]) = mkF 0 b ++ [b.length + 9] := by
  have e : ((b ++ [39]) ++ L) ++ [66] = b ++ (39 :: (L ++ [66])) := by simp
  have hof : ofP 39 = some ⟨pushW, 8, 0, 1, 1⟩ := rfl
  have hs : szP (39 :: (L ++ [66])) = 9 := szP_ge (o := ⟨pushW, 8, 0, 1, 1⟩) hof (by rw [List.length_append, hL]; decide)
  have hdp : (L ++ [66]).drop 8 = [66] := List.drop_left' hL
  rw [e, mk_app _ b _ 0 (Nat.le_refl _) hc, Nat.zero_add, mkF_cons, if_neg (by decide), hs, List.nil_append, List.drop_succ_cons, hdp]
  rfl
theorem pr_ne2 {b : List Int} (hb : Byt b) (hne : b ≠ []) (hl : ¬ 256 < b.length) : 0 < (prP b).1.length := by
  rw [pr_of hl]
  show 0 < (jnP ((pcF b).map wr)).length
  obtain ⟨h1, h2⟩ := pc_all b.length b (Nat.le_refl _) hb
  cases hp : pcF b with
  | nil => rw [hp] at h1; exact absurd h1.symm hne
  | cons c L =>
    rw [hp] at h2
    obtain ⟨w, t, e, _, hwn, _⟩ := wr_sts (h2 c List.mem_cons_self)
    have : 0 < w.length := List.length_pos_iff.2 hwn
    rw [List.map_cons]
    simp only [jnP]
    rw [e, List.length_append, List.length_append]
    omega
theorem ol_shr {w : World} {ρ : Operand → Value} {o : Oper} (T : TypeId) (x y : Operand) (r : TypeId) (k b : Int) (ho : o.op = .binOp .shr T x y r) (hx : ρ x = .int .u64 k) (hy : ρ y = .int .i64 b) (h0 : 0 ≤ b) (h1 : b ≤ 64) : (execOp ρ o).run Tryd.prog w = .ok (.value (.int .u64 (k / 2 ^ b.toNat))) w := by
  have := shift_shr_u64 .i64 k b h0 h1
  unfold execOp
  rw [ho]
  simp only [hx, hy]
  go_simp
  try rw [this]
  try rfl
theorem wrap8_bd (x : Int) : 0 ≤ IntKind.u8.wrap x ∧ IntKind.u8.wrap x < 256 := by
  unfold IntKind.wrap
  simp [IntKind.bits, IntKind.signed]
  try omega
/-- Places behind a row of one's own. -/
theorem app_ints {w : World} {base b2 : Nat} {v u : Value} {xs : List Value} {ns : List Nat} (h : Own 3 w base v xs) (hu : Own 3 w b2 u (ns.map intV)) (hb : (xs.length + ns.length) * 8 ≤ 140737488355328) (hbase : base ≤ w.heap.size) :
    ∃ v' w', (∀ ty, (Builtin.append_ #[30, 30] ty #[v, u]).run Tryd.prog w = .ok v' w') ∧ Own 3 w' base v' (xs ++ ns.map intV) ∧ Below base w w' := by
  have hi : (Tryd.prog.info? 3).map (fun i => (i.zero, i.size, i.bytes)) = some (some (.int .i64 0), 1, 8) := by kernel_rfl
  cases hq : Tryd.prog.info? 3 with
  | none => rw [hq] at hi; simp at hi
  | some i =>
    rw [hq] at hi
    simp at hi
    have hu0 := hu
    obtain ⟨hl0, h2⟩ := hu
    rcases h2 with ⟨rfl, hn⟩ | ⟨g, cap, cur, rfl, hg, hh, hn, hcap, hsz, ht⟩
    · have hn0 : ns = [] := List.eq_nil_of_length_eq_zero (by simpa using hn)
      subst hn0
      rw [List.map_nil, List.append_nil]
      exact ⟨v, w, fun ty => run_append_owned_none w base 30 ty 3 i 1 Tryd.underlying30 hq v _ _ h, h, Below.refl _ _⟩
    · obtain ⟨v', w', r1, r2, r3, _⟩ := run_append_own w base 30 0 3 i (.int .i64 0) 1 8 Tryd.underlying30 hq hi.1 hi.2.1 hi.2.2 rfl (by decide) v xs.length xs h ⟨g, 0, none⟩ (ns.map intV).length cap (ns.map intV) (Nat.mul_one _).symm (fun j x hx => by
        have hj : j < (ns.map intV).length := (List.getElem?_eq_some_iff.1 hx).1
        rw [addr_add, Nat.zero_add, cell_of_row w g j _ _ _ hh]
        have e : (cur.toList.take ((ns.map intV).length * 1))[j]? = (ns.map intV)[j]? := by rw [ht]
        rw [List.getElem?_take_of_lt (by omega)] at e
        simp only [Array.getElem?_toList] at e
        rw [e, hx]) (fun x hx => by obtain ⟨y, _, rfl⟩ := List.mem_map.1 hx; rfl) (by rw [List.length_map]; unfold maxLen; omega) (by rw [List.length_map]; omega) hbase
      refine ⟨v', w', fun ty => r1, ?_, (Below.refl _ _).grown r3 hbase (fun k hk => (World.ownsRow.lt h k hk).1)⟩
      unfold Own
      rw [List.length_append]
      exact r2
end Go.Proofs.YtbjjboicfghldabDoor
