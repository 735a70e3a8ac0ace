/- The document's Put, Delete on a list of keys and values. -/
import Derived.Test.YtalhnnjpjaeakaaGreatG31
import Derived.Test.YtalhnnjpjaeakaaGreatG01
import Derived.Test.YtalhnnjpjaeakaaGreatG29
import Derived.ProofKit
import Derived.OpenShut
import Derived.ShutString
import Derived.ChangeOld
import Derived.SizedLaws
import Derived.Test.YtalhnnjpjaeakaaGreatG19
import Derived.Test.YtalhnnjpjaeakaaGreatRows
import Derived.JoinedCond
namespace Go.Proofs.YtalhnnjpjaeakaaGreat
open Go.RowKit
open Tr
set_option linter.unusedVariables false
set_option maxRecDepth 100000
theorem ownB_new0 {w w' : World} {g base : Nat} (h : New w w' g #[] 5) (hb : base ≤ w.heap.size) : OwnB w' base (.slice (some ⟨g, 0, none⟩) 0 0) [] := ⟨rfl, .inr ⟨g, 0, #[], rfl, by rw [h.hg]; exact hb, h.row, Nat.le_refl _, by unfold maxLen; omega, rfl, rfl⟩⟩
theorem ol_appP {w w' : World} {v u r : Value} {ρ : Operand → Value} {o : Oper} (hr : ∀ ty, (Builtin.append_ #[26, 26] ty #[v, u]).run Tryz.prog w = .ok r w') (x y : Operand) (ho : o.op = .call { callee := .builtin .append, args := #[x, y], argTypes := #[26, 26] }) (hx : ρ x = v) (hy : ρ y = u) : (execOp ρ o).run Tryz.prog w = .ok (.value r) w' := by
  unfold execOp
  simp only [ho, resolve, invoke, builtin, Sem.run_bind, Sem.run_pure, Result.andThen_ok, List.map_toArray, List.map_cons, List.map_nil, hx, hy, hr]
set_option maxHeartbeats 2000000 in
theorem rput_long {K K' : Nat → Prop} {w : World} {a : Option Addr} {n c : Nat} {vs : List (Value × Value)} {l : PList} (hl : PAt K w a n c vs l) {ak : Option Addr} {nk ck : Nat} {k : List Int} (hk : Sk K' w ak nk ck k) (hb : n ≤ 1000000000000) {K2 : Nat → Prop} {av : Option Addr} {nv cv : Nat} {x : List Int} (hx : Sk K2 w av nv cv x) (hlen : ∀ (j : Nat) k x, l[j]? = some (k, x) → k.length ≤ 1000000) (hn : 32 < nk) :
    Calls Tryz.prog 16 #[.slice a n c, .slice ak nk ck, .slice av nv cv] w fun e w' => ∃ u, e = .returned u ∧ (fun u w' => (∃ a n c vs, u = .tuple #[.slice a n c, .int .i64 (putE k x)] ∧ PAt An w' a n c vs (putL l k x)) ∧ Bl w w') u w' := by
  have hB := Bl.refl w
  have lk := hk.len
  have lx := hx.len
  have ll := hl.ll
  refine cw_enter Tryz.func16 rfl 53 rfl ?_
  show CW _ _ _ _ _ _ _ [(0, .slice a n c), (1, .slice ak nk ck), (2, .slice av nv cv)] _
  refine cw_seq ?_
  refine cw_region ?_
  refine rp 6 (.slice none 0 0) ?_
  refine rp 7 (.int .i64 0) ?_
  refine rw_nil ?_
  refine nw_then ?_
  refine cw_seq ?_
  refine cw_seq ?_
  refine cw_region ?_
  refine rp 11 (.slice ak nk ck) ?_
  refine rp 12 (.int .i64 nk) ?_
  refine rv 13 (.bool true) (fun _ => ol_conv (v := .bool (decide ((nk : Int) > (32 : Int)))) (by kernel_rfl) (congrArg Value.bool (decide_eq_true (by omega)))) ?_
  refine rw_nil ?_
  refine nw_then ?_
  refine cw_cond_t (fun _ => by kernel_rfl) ?_
  refine cw_seq ?_
  refine cw_region ?_
  refine rp 14 (.slice a n c) ?_
  refine rp 6 (.slice a n c) ?_
  refine rp 7 (.int .i64 70) ?_
  refine rw_nil ?_
  refine nw_then ?_
  refine cw_ret ?_
  refine nw_ret_then ?_
  exact nw_ret_body (.tuple #[.slice a n c, .int .i64 70]) (fun _ => by kernel_rfl) ⟨_, rfl, ⟨a, n, c, vs, by rw [show putE k x = 70 from by unfold putE; rw [if_neg (by omega)]], by unfold putL; rw [if_neg (by omega)]; exact (hl.go hB).mono (fun _ _ => trivial)⟩, hB⟩
set_option maxHeartbeats 2000000 in
theorem rput_v0 {K K' : Nat → Prop} {w : World} {a : Option Addr} {n c : Nat} {vs : List (Value × Value)} {l : PList} (hl : PAt K w a n c vs l) {ak : Option Addr} {nk ck : Nat} {k : List Int} (hk : Sk K' w ak nk ck k) (hb : n ≤ 1000000000000) {K2 : Nat → Prop} {av : Option Addr} {nv cv : Nat} {x : List Int} (hx : Sk K2 w av nv cv x) (hlen : ∀ (j : Nat) k x, l[j]? = some (k, x) → k.length ≤ 1000000) (hn : nk ≤ 32) (hv : nv < 1) :
    Calls Tryz.prog 16 #[.slice a n c, .slice ak nk ck, .slice av nv cv] w fun e w' => ∃ u, e = .returned u ∧ (fun u w' => (∃ a n c vs, u = .tuple #[.slice a n c, .int .i64 (putE k x)] ∧ PAt An w' a n c vs (putL l k x)) ∧ Bl w w') u w' := by
  have hB := Bl.refl w
  have lk := hk.len
  have lx := hx.len
  have ll := hl.ll
  refine cw_enter Tryz.func16 rfl 53 rfl ?_
  show CW _ _ _ _ _ _ _ [(0, .slice a n c), (1, .slice ak nk ck), (2, .slice av nv cv)] _
  refine cw_seq ?_
  refine cw_region ?_
  refine rp 6 (.slice none 0 0) ?_
  refine rp 7 (.int .i64 0) ?_
  refine rw_nil ?_
  refine nw_then ?_
  refine cw_seq ?_
  refine cw_seq ?_
  refine cw_region ?_
  refine rp 11 (.slice ak nk ck) ?_
  refine rp 12 (.int .i64 nk) ?_
  refine rv 13 (.bool false) (fun _ => ol_conv (v := .bool (decide ((nk : Int) > (32 : Int)))) (by kernel_rfl) (congrArg Value.bool (decide_eq_false (by omega)))) ?_
  refine rw_nil ?_
  refine nw_then ?_
  refine cw_cond_f (fun _ => by kernel_rfl) ?_
  refine cw_skip ?_
  refine nw_then ?_
  refine cw_seq ?_
  refine cw_seq ?_
  refine cw_region ?_
  refine rp 15 (.slice av nv cv) ?_
  refine rp 16 (.int .i64 nv) ?_
  refine rv 17 (.bool true) (fun _ => ol_conv (v := .bool (decide ((nv : Int) < (1 : Int)))) (by kernel_rfl) (congrArg Value.bool (decide_eq_true (by omega)))) ?_
  refine rp 18 (.bool true) ?_
  refine rw_off 19 (fun _ => by kernel_rfl) ?_
  refine rw_off 20 (fun _ => by kernel_rfl) ?_
  refine rw_off 21 (fun _ => by kernel_rfl) ?_
  refine rp 22 (.bool true) ?_
  refine rw_nil ?_
  refine nw_then ?_
  refine cw_cond_t (fun _ => by kernel_rfl) ?_
  refine cw_seq ?_
  refine cw_region ?_
  refine rp 23 (.slice a n c) ?_
  refine rp 6 (.slice a n c) ?_
  refine rp 7 (.int .i64 71) ?_
  refine rw_nil ?_
  refine nw_then ?_
  refine cw_ret ?_
  refine nw_ret_then ?_
  exact nw_ret_body (.tuple #[.slice a n c, .int .i64 71]) (fun _ => by kernel_rfl) ⟨_, rfl, ⟨a, n, c, vs, by rw [show putE k x = 71 from by unfold putE; rw [if_pos (by omega), if_neg (by omega)]], by unfold putL; rw [if_neg (by omega)]; exact (hl.go hB).mono (fun _ _ => trivial)⟩, hB⟩
set_option maxHeartbeats 2000000 in
theorem rput_vf {K K' : Nat → Prop} {w : World} {a : Option Addr} {n c : Nat} {vs : List (Value × Value)} {l : PList} (hl : PAt K w a n c vs l) {ak : Option Addr} {nk ck : Nat} {k : List Int} (hk : Sk K' w ak nk ck k) (hb : n ≤ 1000000000000) {K2 : Nat → Prop} {av : Option Addr} {nv cv : Nat} {x : List Int} (hx : Sk K2 w av nv cv x) (hlen : ∀ (j : Nat) k x, l[j]? = some (k, x) → k.length ≤ 1000000) (hn : nk ≤ 32) (hv : 256 < nv) :
    Calls Tryz.prog 16 #[.slice a n c, .slice ak nk ck, .slice av nv cv] w fun e w' => ∃ u, e = .returned u ∧ (fun u w' => (∃ a n c vs, u = .tuple #[.slice a n c, .int .i64 (putE k x)] ∧ PAt An w' a n c vs (putL l k x)) ∧ Bl w w') u w' := by
  have hB := Bl.refl w
  have lk := hk.len
  have lx := hx.len
  have ll := hl.ll
  refine cw_enter Tryz.func16 rfl 53 rfl ?_
  show CW _ _ _ _ _ _ _ [(0, .slice a n c), (1, .slice ak nk ck), (2, .slice av nv cv)] _
  refine cw_seq ?_
  refine cw_region ?_
  refine rp 6 (.slice none 0 0) ?_
  refine rp 7 (.int .i64 0) ?_
  refine rw_nil ?_
  refine nw_then ?_
  refine cw_seq ?_
  refine cw_seq ?_
  refine cw_region ?_
  refine rp 11 (.slice ak nk ck) ?_
  refine rp 12 (.int .i64 nk) ?_
  refine rv 13 (.bool false) (fun _ => ol_conv (v := .bool (decide ((nk : Int) > (32 : Int)))) (by kernel_rfl) (congrArg Value.bool (decide_eq_false (by omega)))) ?_
  refine rw_nil ?_
  refine nw_then ?_
  refine cw_cond_f (fun _ => by kernel_rfl) ?_
  refine cw_skip ?_
  refine nw_then ?_
  refine cw_seq ?_
  refine cw_seq ?_
  refine cw_region ?_
  refine rp 15 (.slice av nv cv) ?_
  refine rp 16 (.int .i64 nv) ?_
  refine rv 17 (.bool false) (fun _ => ol_conv (v := .bool (decide ((nv : Int) < (1 : Int)))) (by kernel_rfl) (congrArg Value.bool (decide_eq_false (by omega)))) ?_
  refine rp 18 (.bool false) ?_
  refine rp 19 (.slice av nv cv) ?_
  refine rp 20 (.int .i64 nv) ?_
  refine rv 21 (.bool true) (fun _ => ol_conv (v := .bool (decide ((nv : Int) > (256 : Int)))) (by kernel_rfl) (congrArg Value.bool (decide_eq_true (by omega)))) ?_
  refine rp 22 (.bool true) ?_
  refine rw_nil ?_
  refine nw_then ?_
  refine cw_cond_t (fun _ => by kernel_rfl) ?_
  refine cw_seq ?_
  refine cw_region ?_
  refine rp 23 (.slice a n c) ?_
  refine rp 6 (.slice a n c) ?_
  refine rp 7 (.int .i64 71) ?_
  refine rw_nil ?_
  refine nw_then ?_
  refine cw_ret ?_
  refine nw_ret_then ?_
  exact nw_ret_body (.tuple #[.slice a n c, .int .i64 71]) (fun _ => by kernel_rfl) ⟨_, rfl, ⟨a, n, c, vs, by rw [show putE k x = 71 from by unfold putE; rw [if_pos (by omega), if_neg (by omega)]], by unfold putL; rw [if_neg (by omega)]; exact (hl.go hB).mono (fun _ _ => trivial)⟩, hB⟩
set_option maxHeartbeats 2000000 in
theorem rput_is {K K' : Nat → Prop} {w : World} {a : Option Addr} {n c : Nat} {vs : List (Value × Value)} {l : PList} (hl : PAt K w a n c vs l) {ak : Option Addr} {nk ck : Nat} {k : List Int} (hk : Sk K' w ak nk ck k) (hb : n ≤ 1000000000000) {K2 : Nat → Prop} {av : Option Addr} {nv cv : Nat} {x : List Int} (hx : Sk K2 w av nv cv x) (hlen : ∀ (j : Nat) k x, l[j]? = some (k, x) → k.length ≤ 1000000) (hn : nk ≤ 32) (hv1 : 0 < nv) (hv2 : nv ≤ 256) (hat : isAt k l = true) :
    Calls Tryz.prog 16 #[.slice a n c, .slice ak nk ck, .slice av nv cv] w fun e w' => ∃ u, e = .returned u ∧ (fun u w' => (∃ a n c vs, u = .tuple #[.slice a n c, .int .i64 (putE k x)] ∧ PAt An w' a n c vs (putL l k x)) ∧ Bl w w') u w' := by
  have hB := Bl.refl w
  have lk := hk.len
  have lx := hx.len
  have ll := hl.ll
  refine cw_enter Tryz.func16 rfl 53 rfl ?_
  show CW _ _ _ _ _ _ _ [(0, .slice a n c), (1, .slice ak nk ck), (2, .slice av nv cv)] _
  refine cw_seq ?_
  refine cw_region ?_
  refine rp 6 (.slice none 0 0) ?_
  refine rp 7 (.int .i64 0) ?_
  refine rw_nil ?_
  refine nw_then ?_
  refine cw_seq ?_
  refine cw_seq ?_
  refine cw_region ?_
  refine rp 11 (.slice ak nk ck) ?_
  refine rp 12 (.int .i64 nk) ?_
  refine rv 13 (.bool false) (fun _ => ol_conv (v := .bool (decide ((nk : Int) > (32 : Int)))) (by kernel_rfl) (congrArg Value.bool (decide_eq_false (by omega)))) ?_
  refine rw_nil ?_
  refine nw_then ?_
  refine cw_cond_f (fun _ => by kernel_rfl) ?_
  refine cw_skip ?_
  refine nw_then ?_
  refine cw_seq ?_
  refine cw_seq ?_
  refine cw_region ?_
  refine rp 15 (.slice av nv cv) ?_
  refine rp 16 (.int .i64 nv) ?_
  refine rv 17 (.bool false) (fun _ => ol_conv (v := .bool (decide ((nv : Int) < (1 : Int)))) (by kernel_rfl) (congrArg Value.bool (decide_eq_false (by omega)))) ?_
  refine rp 18 (.bool false) ?_
  refine rp 19 (.slice av nv cv) ?_
  refine rp 20 (.int .i64 nv) ?_
  refine rv 21 (.bool false) (fun _ => ol_conv (v := .bool (decide ((nv : Int) > (256 : Int)))) (by kernel_rfl) (congrArg Value.bool (decide_eq_false (by omega)))) ?_
  refine rp 22 (.bool false) ?_
  refine rw_nil ?_
  refine nw_then ?_
  refine cw_cond_f (fun _ => by kernel_rfl) ?_
  refine cw_skip ?_
  refine nw_then ?_
  refine cw_seq ?_
  refine cw_region ?_
  refine rp 25 (.slice a n c) ?_
  refine rp 26 (.slice ak nk ck) ?_
  refine rw_call 27 37 #[.slice a n c, .slice ak nk ck] (fun _ => by kernel_rfl) (fun _ => by kernel_rfl) (R := fun u w' => u = .tuple #[.int .i64 ((atN k l : Nat) : Int), .bool (isAt k l)] ∧ Bl (w) w') ((at_any (hl.go hB) (hk.go hB) hb hlen)) ?_
  rintro _ u1 ⟨rfl, hb2⟩
  replace hB := hB.go hb2
  rw [hat]
  have hle := atN_le k l
  have hl0 := hl.old
  have hlt : atN k l < n := by by_cases h : atN k l < n; exact h; rw [isAt_end (by omega)] at hat; cases hat
  refine rp 24 (.tuple #[.int .i64 ((atN k l : Nat) : Int), .bool true]) ?_
  refine rp 28 (.int .i64 ((atN k l : Nat) : Int)) ?_
  refine rp 29 (.bool true) ?_
  refine rp 8 (.int .i64 ((atN k l : Nat) : Int)) ?_
  refine rp 9 (.bool true) ?_
  refine rw_nil ?_
  refine nw_then ?_
  refine cw_seq ?_
  refine cw_region ?_
  refine rw_newS 30 #[] 45 0 (fun _ => by kernel_rfl) (fun _ => by kernel_rfl) ?_
  intro w0 g0 hn0
  have hO : OwnL w0 w.heap.size (.slice (some ⟨g0, 0, none⟩) 0 0) [] := OwnL.new hn0 hB.size
  replace hB := hB.go hn0.below
  refine rp 31 (.slice a n c) ?_
  refine rp 32 (.int .i64 ((atN k l : Nat) : Int)) ?_
  obtain ⟨a1, n1, c1, hc1, hP1⟩ := (hl0.go hB).cutTo (atN k l) (by omega)
  refine rv 33 (.slice a1 n1 c1) (fun _ => hc1 _ _ _ _ _ rfl (by kernel_rfl) (by kernel_rfl)) ?_
  have ht1 := hP1.ll
  obtain ⟨VA, wA, hrA, hOA, hbA⟩ := appP hO hP1 (fun b hb e => by have := (hO.own b e).1; omega) (by rw [List.length_take] at ht1; simp; omega) hB.size
  refine rw_v 34 VA (fun _ => by kernel_rfl) (fun _ => ol_appP hrA _ _ rfl (by kernel_rfl) (by kernel_rfl)) ?_
  replace hB : Bl w wA := Below.trans hB hbA
  replace hO := hOA
  rw [List.nil_append] at hO
  refine rp 10 (VA) ?_
  refine rw_nil ?_
  have hOown := hO.own
  refine nw_then ?_
  refine cw_seq ?_
  refine cw_region ?_
  refine rp 35 (VA) ?_
  have hzk := Nat.le_refl (World.heap wA).size
  refine rw_newS 36 #[] 5 0 (fun _ => by kernel_rfl) (fun _ => by kernel_rfl) ?_
  intro wk gk hnk
  have hqk := ownB_new0 hnk (Nat.le_refl _)
  refine rp 37 (.slice ak nk ck) ?_
  obtain ⟨Vk, wkb, hrk, hok, hbk⟩ := app_run hqk (hk.go (hB.go hnk.below)).ag (by simp; omega) (by have := hnk.below.size; omega)
  rw [List.nil_append] at hok
  refine rw_v 38 Vk (fun _ => by kernel_rfl) (fun _ => ol_app hrk _ _ rfl (by kernel_rfl) (by kernel_rfl)) ?_
  have hfk : Below wA.heap.size wA wkb := hnk.below.trans hbk
  obtain ⟨bk, dk, rfl, hsk⟩ := hok.sk (K := fun b => wA.heap.size ≤ b) hk.ag.b (fun b hb => hb)
  replace hB := hB.go hfk
  replace hO := hO.far hfk
  have hzx := Nat.le_refl (World.heap wkb).size
  refine rw_newS 39 #[] 5 0 (fun _ => by kernel_rfl) (fun _ => by kernel_rfl) ?_
  intro wx gx hnx
  have hqx := ownB_new0 hnx (Nat.le_refl _)
  refine rp 40 (.slice av nv cv) ?_
  obtain ⟨Vx, wxb, hrx, hox, hbx⟩ := app_run hqx (hx.go (hB.go hnx.below)).ag (by simp; omega) (by have := hnx.below.size; omega)
  rw [List.nil_append] at hox
  refine rw_v 41 Vx (fun _ => by kernel_rfl) (fun _ => ol_app hrx _ _ rfl (by kernel_rfl) (by kernel_rfl)) ?_
  have hfx : Below wkb.heap.size wkb wxb := hnx.below.trans hbx
  obtain ⟨bx, dx, rfl, hsx⟩ := hox.sk (K := fun b => wkb.heap.size ≤ b) hx.ag.b (fun b hb => hb)
  replace hB := hB.go hfx
  replace hO := hO.far hfx
  replace hsk := hsk.go hfx
  refine rp 42 (.agg #[.slice bk k.length dk, .slice bx x.length dx]) ?_
  have hown := hO.own
  have hsx2 := hfx.size
  have hsk2 := hfk.size
  refine rw_newS 43 #[.slice bk k.length dk, .slice bx x.length dx] 45 1 (fun _ => by kernel_rfl) (fun _ => by kernel_rfl) ?_
  intro wL gL hnL
  have hP2 := PAt.one hnL (hsk.mono (K' := fun b => wA.heap.size ≤ b) (fun b hb => hb)) (hsx.mono (K' := fun b => wA.heap.size ≤ b) (fun b hb => by omega))
  replace hB := hB.go hnL.below
  have hOA := hO
  replace hO := hO.far hnL.below
  have hoA := hOown
  obtain ⟨VC, wC, hrC, hOC, hbC⟩ := appP hO hP2 (fun b hb e => by have := (hoA b e).2; omega) (by simp; omega) hB.size
  refine rw_v 44 VC (fun _ => by kernel_rfl) (fun _ => ol_appP hrC _ _ rfl (by kernel_rfl) (by kernel_rfl)) ?_
  replace hB : Bl w wC := Below.trans hB hbC
  replace hO := hOC
  refine rp 10 (VC) ?_
  refine rw_nil ?_
  refine nw_then ?_
  refine cw_seq ?_
  refine cw_seq ?_
  refine cw_region ?_
  refine rp 45 (.bool true) ?_
  refine rw_nil ?_
  refine nw_then ?_
  refine cw_cond_t (fun _ => by kernel_rfl) ?_
  refine cw_region ?_
  refine rp 46 (.int .i64 ((atN k l : Nat) : Int)) ?_
  refine rv 47 (.int .i64 ((atN k l + 1 : Nat) : Int)) (fun _ => ol_conv (v := .int .i64 (IntKind.i64.wrap (((atN k l : Nat) : Int) + 1))) (by kernel_rfl) (congrArg (Value.int .i64) (by rw [wrap64 (by omega) (by omega)]; omega))) ?_
  refine rp 8 (.int .i64 ((atN k l + 1 : Nat) : Int)) ?_
  refine rw_nil ?_
  refine nw_then ?_
  refine cw_seq ?_
  refine cw_region ?_
  refine rp 48 (VC) ?_
  refine rp 49 (.slice a n c) ?_
  refine rp 50 (.int .i64 ((atN k l + 1 : Nat) : Int)) ?_
  obtain ⟨a3, n3, c3, hc3, hP3⟩ := (hl0.go hB).cutFrom (atN k l + 1) (by omega)
  refine rv 51 (.slice a3 n3 c3) (fun _ => hc3 _ _ _ _ _ rfl (by kernel_rfl) (by kernel_rfl)) ?_
  have ht3 := hP3.ll
  obtain ⟨VE, wE, hrE, hOE, hbE⟩ := appP hO hP3 (fun b hb e => by have := (hO.own b e).1; omega) (by rw [List.length_drop] at ht3; simp; omega) hB.size
  refine rw_v 52 VE (fun _ => by kernel_rfl) (fun _ => ol_appP hrE _ _ rfl (by kernel_rfl) (by kernel_rfl)) ?_
  replace hB : Bl w wE := Below.trans hB hbE
  replace hO := hOE
  refine rp 6 (VE) ?_
  refine rp 7 (.int .i64 0) ?_
  refine rw_nil ?_
  refine nw_then ?_
  refine cw_ret ?_
  have hpl : putL l k x = l.take (atN k l) ++ [(k, x)] ++ l.drop (atN k l + 1) := by unfold putL; rw [if_pos (by omega), putR_cut, hat]; rfl
  rw [← hpl] at hO
  obtain ⟨aF, cF, vsF, eF, hF⟩ := hO.pat
  subst eF
  exact nw_ret_body (.tuple #[.slice aF (putL l k x).length cF, .int .i64 0]) (fun _ => by kernel_rfl) ⟨_, rfl, ⟨aF, _, cF, vsF, by rw [show putE k x = 0 from by unfold putE; rw [if_pos (by omega), if_pos (by omega)]], hF⟩, hB⟩
set_option maxHeartbeats 2000000 in
theorem rput_not {K K' : Nat → Prop} {w : World} {a : Option Addr} {n c : Nat} {vs : List (Value × Value)} {l : PList} (hl : PAt K w a n c vs l) {ak : Option Addr} {nk ck : Nat} {k : List Int} (hk : Sk K' w ak nk ck k) (hb : n ≤ 1000000000000) {K2 : Nat → Prop} {av : Option Addr} {nv cv : Nat} {x : List Int} (hx : Sk K2 w av nv cv x) (hlen : ∀ (j : Nat) k x, l[j]? = some (k, x) → k.length ≤ 1000000) (hn : nk ≤ 32) (hv1 : 0 < nv) (hv2 : nv ≤ 256) (hat : isAt k l = false) :
    Calls Tryz.prog 16 #[.slice a n c, .slice ak nk ck, .slice av nv cv] w fun e w' => ∃ u, e = .returned u ∧ (fun u w' => (∃ a n c vs, u = .tuple #[.slice a n c, .int .i64 (putE k x)] ∧ PAt An w' a n c vs (putL l k x)) ∧ Bl w w') u w' := by
  have hB := Bl.refl w
  have lk := hk.len
  have lx := hx.len
  have ll := hl.ll
  refine cw_enter Tryz.func16 rfl 53 rfl ?_
  show CW _ _ _ _ _ _ _ [(0, .slice a n c), (1, .slice ak nk ck), (2, .slice av nv cv)] _
  refine cw_seq ?_
  refine cw_region ?_
  refine rp 6 (.slice none 0 0) ?_
  refine rp 7 (.int .i64 0) ?_
  refine rw_nil ?_
  refine nw_then ?_
  refine cw_seq ?_
  refine cw_seq ?_
  refine cw_region ?_
  refine rp 11 (.slice ak nk ck) ?_
  refine rp 12 (.int .i64 nk) ?_
  refine rv 13 (.bool false) (fun _ => ol_conv (v := .bool (decide ((nk : Int) > (32 : Int)))) (by kernel_rfl) (congrArg Value.bool (decide_eq_false (by omega)))) ?_
  refine rw_nil ?_
  refine nw_then ?_
  refine cw_cond_f (fun _ => by kernel_rfl) ?_
  refine cw_skip ?_
  refine nw_then ?_
  refine cw_seq ?_
  refine cw_seq ?_
  refine cw_region ?_
  refine rp 15 (.slice av nv cv) ?_
  refine rp 16 (.int .i64 nv) ?_
  refine rv 17 (.bool false) (fun _ => ol_conv (v := .bool (decide ((nv : Int) < (1 : Int)))) (by kernel_rfl) (congrArg Value.bool (decide_eq_false (by omega)))) ?_
  refine rp 18 (.bool false) ?_
  refine rp 19 (.slice av nv cv) ?_
  refine rp 20 (.int .i64 nv) ?_
  refine rv 21 (.bool false) (fun _ => ol_conv (v := .bool (decide ((nv : Int) > (256 : Int)))) (by kernel_rfl) (congrArg Value.bool (decide_eq_false (by omega)))) ?_
  refine rp 22 (.bool false) ?_
  refine rw_nil ?_
  refine nw_then ?_
  refine cw_cond_f (fun _ => by kernel_rfl) ?_
  refine cw_skip ?_
  refine nw_then ?_
  refine cw_seq ?_
  refine cw_region ?_
  refine rp 25 (.slice a n c) ?_
  refine rp 26 (.slice ak nk ck) ?_
  refine rw_call 27 37 #[.slice a n c, .slice ak nk ck] (fun _ => by kernel_rfl) (fun _ => by kernel_rfl) (R := fun u w' => u = .tuple #[.int .i64 ((atN k l : Nat) : Int), .bool (isAt k l)] ∧ Bl (w) w') ((at_any (hl.go hB) (hk.go hB) hb hlen)) ?_
  rintro _ u1 ⟨rfl, hb2⟩
  replace hB := hB.go hb2
  rw [hat]
  have hle := atN_le k l
  have hl0 := hl.old
  refine rp 24 (.tuple #[.int .i64 ((atN k l : Nat) : Int), .bool false]) ?_
  refine rp 28 (.int .i64 ((atN k l : Nat) : Int)) ?_
  refine rp 29 (.bool false) ?_
  refine rp 8 (.int .i64 ((atN k l : Nat) : Int)) ?_
  refine rp 9 (.bool false) ?_
  refine rw_nil ?_
  refine nw_then ?_
  refine cw_seq ?_
  refine cw_region ?_
  refine rw_newS 30 #[] 45 0 (fun _ => by kernel_rfl) (fun _ => by kernel_rfl) ?_
  intro w0 g0 hn0
  have hO : OwnL w0 w.heap.size (.slice (some ⟨g0, 0, none⟩) 0 0) [] := OwnL.new hn0 hB.size
  replace hB := hB.go hn0.below
  refine rp 31 (.slice a n c) ?_
  refine rp 32 (.int .i64 ((atN k l : Nat) : Int)) ?_
  obtain ⟨a1, n1, c1, hc1, hP1⟩ := (hl0.go hB).cutTo (atN k l) (by omega)
  refine rv 33 (.slice a1 n1 c1) (fun _ => hc1 _ _ _ _ _ rfl (by kernel_rfl) (by kernel_rfl)) ?_
  have ht1 := hP1.ll
  obtain ⟨VA, wA, hrA, hOA, hbA⟩ := appP hO hP1 (fun b hb e => by have := (hO.own b e).1; omega) (by rw [List.length_take] at ht1; simp; omega) hB.size
  refine rw_v 34 VA (fun _ => by kernel_rfl) (fun _ => ol_appP hrA _ _ rfl (by kernel_rfl) (by kernel_rfl)) ?_
  replace hB : Bl w wA := Below.trans hB hbA
  replace hO := hOA
  rw [List.nil_append] at hO
  refine rp 10 (VA) ?_
  refine rw_nil ?_
  have hOown := hO.own
  refine nw_then ?_
  refine cw_seq ?_
  refine cw_region ?_
  refine rp 35 (VA) ?_
  have hzk := Nat.le_refl (World.heap wA).size
  refine rw_newS 36 #[] 5 0 (fun _ => by kernel_rfl) (fun _ => by kernel_rfl) ?_
  intro wk gk hnk
  have hqk := ownB_new0 hnk (Nat.le_refl _)
  refine rp 37 (.slice ak nk ck) ?_
  obtain ⟨Vk, wkb, hrk, hok, hbk⟩ := app_run hqk (hk.go (hB.go hnk.below)).ag (by simp; omega) (by have := hnk.below.size; omega)
  rw [List.nil_append] at hok
  refine rw_v 38 Vk (fun _ => by kernel_rfl) (fun _ => ol_app hrk _ _ rfl (by kernel_rfl) (by kernel_rfl)) ?_
  have hfk : Below wA.heap.size wA wkb := hnk.below.trans hbk
  obtain ⟨bk, dk, rfl, hsk⟩ := hok.sk (K := fun b => wA.heap.size ≤ b) hk.ag.b (fun b hb => hb)
  replace hB := hB.go hfk
  replace hO := hO.far hfk
  have hzx := Nat.le_refl (World.heap wkb).size
  refine rw_newS 39 #[] 5 0 (fun _ => by kernel_rfl) (fun _ => by kernel_rfl) ?_
  intro wx gx hnx
  have hqx := ownB_new0 hnx (Nat.le_refl _)
  refine rp 40 (.slice av nv cv) ?_
  obtain ⟨Vx, wxb, hrx, hox, hbx⟩ := app_run hqx (hx.go (hB.go hnx.below)).ag (by simp; omega) (by have := hnx.below.size; omega)
  rw [List.nil_append] at hox
  refine rw_v 41 Vx (fun _ => by kernel_rfl) (fun _ => ol_app hrx _ _ rfl (by kernel_rfl) (by kernel_rfl)) ?_
  have hfx : Below wkb.heap.size wkb wxb := hnx.below.trans hbx
  obtain ⟨bx, dx, rfl, hsx⟩ := hox.sk (K := fun b => wkb.heap.size ≤ b) hx.ag.b (fun b hb => hb)
  replace hB := hB.go hfx
  replace hO := hO.far hfx
  replace hsk := hsk.go hfx
  refine rp 42 (.agg #[.slice bk k.length dk, .slice bx x.length dx]) ?_
  have hown := hO.own
  have hsx2 := hfx.size
  have hsk2 := hfk.size
  refine rw_newS 43 #[.slice bk k.length dk, .slice bx x.length dx] 45 1 (fun _ => by kernel_rfl) (fun _ => by kernel_rfl) ?_
  intro wL gL hnL
  have hP2 := PAt.one hnL (hsk.mono (K' := fun b => wA.heap.size ≤ b) (fun b hb => hb)) (hsx.mono (K' := fun b => wA.heap.size ≤ b) (fun b hb => by omega))
  replace hB := hB.go hnL.below
  have hOA := hO
  replace hO := hO.far hnL.below
  have hoA := hOown
  obtain ⟨VC, wC, hrC, hOC, hbC⟩ := appP hO hP2 (fun b hb e => by have := (hoA b e).2; omega) (by simp; omega) hB.size
  refine rw_v 44 VC (fun _ => by kernel_rfl) (fun _ => ol_appP hrC _ _ rfl (by kernel_rfl) (by kernel_rfl)) ?_
  replace hB : Bl w wC := Below.trans hB hbC
  replace hO := hOC
  refine rp 10 (VC) ?_
  refine rw_nil ?_
  refine nw_then ?_
  refine cw_seq ?_
  refine cw_seq ?_
  refine cw_region ?_
  refine rp 45 (.bool false) ?_
  refine rw_nil ?_
  refine nw_then ?_
  refine cw_cond_f (fun _ => by kernel_rfl) ?_
  refine cw_skip ?_
  refine nw_then ?_
  refine cw_seq ?_
  refine cw_region ?_
  refine rp 48 (VC) ?_
  refine rp 49 (.slice a n c) ?_
  refine rp 50 (.int .i64 ((atN k l : Nat) : Int)) ?_
  obtain ⟨a3, n3, c3, hc3, hP3⟩ := (hl0.go hB).cutFrom (atN k l) (by omega)
  refine rv 51 (.slice a3 n3 c3) (fun _ => hc3 _ _ _ _ _ rfl (by kernel_rfl) (by kernel_rfl)) ?_
  have ht3 := hP3.ll
  obtain ⟨VE, wE, hrE, hOE, hbE⟩ := appP hO hP3 (fun b hb e => by have := (hO.own b e).1; omega) (by rw [List.length_drop] at ht3; simp; omega) hB.size
  refine rw_v 52 VE (fun _ => by kernel_rfl) (fun _ => ol_appP hrE _ _ rfl (by kernel_rfl) (by kernel_rfl)) ?_
  replace hB : Bl w wE := Below.trans hB hbE
  replace hO := hOE
  refine rp 6 (VE) ?_
  refine rp 7 (.int .i64 0) ?_
  refine rw_nil ?_
  refine nw_then ?_
  refine cw_ret ?_
  have hpl : putL l k x = l.take (atN k l) ++ [(k, x)] ++ l.drop (atN k l) := by unfold putL; rw [if_pos (by omega), putR_cut, hat]; rfl
  rw [← hpl] at hO
  obtain ⟨aF, cF, vsF, eF, hF⟩ := hO.pat
  subst eF
  exact nw_ret_body (.tuple #[.slice aF (putL l k x).length cF, .int .i64 0]) (fun _ => by kernel_rfl) ⟨_, rfl, ⟨aF, _, cF, vsF, by rw [show putE k x = 0 from by unfold putE; rw [if_pos (by omega), if_pos (by omega)]], hF⟩, hB⟩
theorem rput_any {K K' : Nat → Prop} {w : World} {a : Option Addr} {n c : Nat} {vs : List (Value × Value)} {l : PList} (hl : PAt K w a n c vs l) {ak : Option Addr} {nk ck : Nat} {k : List Int} (hk : Sk K' w ak nk ck k) (hb : n ≤ 1000000000000) {K2 : Nat → Prop} {av : Option Addr} {nv cv : Nat} {x : List Int} (hx : Sk K2 w av nv cv x) (hlen : ∀ (j : Nat) k x, l[j]? = some (k, x) → k.length ≤ 1000000) :
    Calls Tryz.prog 16 #[.slice a n c, .slice ak nk ck, .slice av nv cv] w fun e w' => ∃ u, e = .returned u ∧ (fun u w' => (∃ a n c vs, u = .tuple #[.slice a n c, .int .i64 (putE k x)] ∧ PAt An w' a n c vs (putL l k x)) ∧ Bl w w') u w' := by
  by_cases hn : nk ≤ 32
  · by_cases h1 : nv < 1
    · exact rput_v0 hl hk hb hx hlen hn h1
    · by_cases h2 : nv ≤ 256
      · cases hat : isAt k l with
        | true => exact rput_is hl hk hb hx hlen hn (by omega) h2 hat
        | false => exact rput_not hl hk hb hx hlen hn (by omega) h2 hat
      · exact rput_vf hl hk hb hx hlen hn (by omega)
  · exact rput_long hl hk hb hx hlen (by omega)
end Go.Proofs.YtalhnnjpjaeakaaGreat
/- The statement TrieOneRoot: the same keys and values, laid in from the other end, and others that come and go, give the same root and the same nodes. -/
namespace Go.Proofs.YtalhnnjpjaeakaaGreat
open Go.RowKit
open Tr
set_option linter.unusedVariables false
set_option maxRecDepth 100000
def goB : List Int := [116, 111, 32, 103, 111]
/-- '[]byte("to go")' -/
theorem const_g {w1 w2 : World} {g : Nat} (hn : New w1 w2 g #[.int .u8 116, .int .u8 111, .int .u8 32, .int .u8 103, .int .u8 111] 5) {K : Nat → Prop} (hK : ∀ b, w1.heap.size ≤ b → K b) : ∃ w3, (∀ (ρ : Operand → Value) (o : Oper) (y : Operand), o.op = .convert 27 27 y → ρ y = .slice (some ⟨g, 0, none⟩) 5 5 → (execOp ρ o).run Tryz.prog w2 = .ok (.value (.slice (some ⟨g, 0, none⟩) 5 5)) w3) ∧ Below w1.heap.size w1 w3 ∧ Sk K w3 (some ⟨g, 0, none⟩) 5 5 goB := by
  obtain ⟨rfl, rfl⟩ := hn
  refine ⟨w1.alloc (.cells #[.int .u8 116, .int .u8 111, .int .u8 32, .int .u8 103, .int .u8 111] 5 (5, 6)), ?_, (Below.refl _ _).alloc (Nat.le_refl _) _, ?_⟩
  · intro ρ o y ho hy
    have := Lib.run_convert_bytes_const (P := Tryz.prog) w1 27 5 #[.int .u8 116, .int .u8 111, .int .u8 32, .int .u8 103, .int .u8 111] 5 5 Tryz.underlying27 Tryz.underlying5
    unfold execOp
    simp only [ho, hy, Sem.run_bind, this, Result.andThen_ok, Sem.run_pure]
    rfl
  · refine ⟨⟨.inr ⟨w1.heap.size, 0, rfl, rfl, by omega, by omega, by unfold maxLen; omega, fun j hj => ?_⟩, (fun e => by cases e), rfl, fun y hy => by simp [goB] at hy; omega⟩, fun y hy _ => ?_⟩
    · have hj5 : j < 5 := hj
      rw [cell_of_row _ _ _ _ _ _ (heap_alloc_new w1 _)]
      match j, hj5 with
      | 0, _ | 1, _ | 2, _ | 3, _ | 4, _ => rfl
      | j + 5, h => omega
    · cases hy
      exact hK _ (Nat.le_refl _)
theorem Tri.touch {K K' : Nat → Prop} {w w' : World} {g g' : Nat} {t t' : Tr} (h : Tri K w g t) (ht : Touch g' w w') (hT : Tri K' w g' t') (hne : g ≠ g') : Tri K w' g t := by
  obtain ⟨⟨v, h1, h2⟩, h3⟩ := h
  refine ⟨⟨v, h1.touch ht hne, ?_⟩, h3⟩
  have hs : ∀ {a : Option Addr} {n c : Nat} {bs : List Int}, Sk K w a n c bs → Sk K w' a n c bs := fun h => h.touch ht hT
  clear h1 h3
  revert v
  induction t with
  | no => intro v h2; exact h2
  | leaf p x => rintro v ⟨a, n, c, a', n', c', h1, h2, h3, h4⟩; exact ⟨a, n, c, a', n', c', h1, hs h2, hs h3, h4⟩
  | ext p t ih => rintro v ⟨a, n, c, u, h1, h2, h3⟩; exact ⟨a, n, c, u, h1, hs h2, ih u h3⟩
  | br k x ih => rintro v ⟨vs, a, n, c, h1, h2, h3, h4⟩; exact ⟨vs, a, n, c, h1, fun i hi => ih i _ (h2 i hi), hs h3, h4⟩
/-- So far: the list's keys from i on have their values, and all that is there is the list's or another's. -/
structure Lay (u : Tr) (l : PList) (i : Nat) (A : List Int → Prop) : Prop where
  ok : u = no ∨ Tr.Ok 64 u
  s : Sup u (fun k => A k ∨ ∃ x, (k, x) ∈ l)
  v : ∀ (j : Nat) k x, i ≤ j → l[j]? = some (k, x) → Tr.get u (Ni.nib k) = x
theorem srt_inj {l : PList} (h : SrtP l) {i j : Nat} {k x y : List Int} (hi : l[i]? = some (k, x)) (hj : l[j]? = some (k, y)) : i = j := by
  obtain ⟨hi1, hi2⟩ := List.getElem?_eq_some_iff.1 hi
  obtain ⟨hj1, hj2⟩ := List.getElem?_eq_some_iff.1 hj
  have hp := List.pairwise_iff_getElem.1 h
  rcases Nat.lt_trichotomy i j with q | q | q
  · have := hp i j hi1 hj1 q
    rw [hi2, hj2, less_irr] at this; cases this
  · exact q
  · have := hp j i hj1 hi1 q
    rw [hi2, hj2, less_irr] at this; cases this
theorem Lay.put {t u : Tr} {l : PList} {i : Nat} {A : List Int → Prop} (hR : Rel t l) (h : Lay u l (i + 1) A) {k x : List Int} (he : l[i]? = some (k, x)) : Lay (putT u k x) l i A := by
  have hm : (k, x) ∈ l := List.mem_of_getElem? he
  obtain ⟨k1, k2, k3, k4⟩ := (hR.m k x).1 hm
  have hc : k.length ≤ 32 ∧ 0 < x.length ∧ x.length ≤ 256 := ⟨k2, List.length_pos_iff.2 k3, hR.v k x hm⟩
  refine ⟨putT_ok h.ok k1, (h.s.put h.ok k1).mono (fun y _ _ hy => ?_), fun j k' x' hj he' => ?_⟩
  · rcases hy with rfl | hy
    · exact .inr ⟨x, hm⟩
    · exact hy
  · obtain ⟨k1', _, _, _⟩ := (hR.m k' x').1 (List.mem_of_getElem? he')
    rw [putT_get h.ok k1 (byk_nb k1')]
    by_cases e : k' = k
    · subst e
      obtain rfl := srt_inj hR.s he he'
      rw [he] at he'
      cases he'
      rw [if_pos ⟨hc, rfl⟩]
    · rw [if_neg (fun z => e (nib_inj z.2))]
      refine h.v j k' x' ?_ he'
      rcases Nat.lt_or_ge i j with q | q
      · exact q
      · have : i = j := by omega
        subst this
        rw [he] at he'
        cases he'
        exact absurd rfl e
theorem Lay.del {t u : Tr} {l : PList} {A : List Int → Prop} (hR : Rel t l) (h : Lay u l 0 A) {k : List Int} (hk : Byk k) (hn : k.length ≤ 32 → isAt k l = false) : Lay (delT u k) l 0 (fun y => y ≠ k ∧ A y) := by
  have hno : ∀ x, (k, x) ∈ l → False := fun x hx => by
    have := (isAt_iff k l hR.s).2 ⟨x, hx⟩
    rw [hn ((hR.m k x).1 hx).2.1] at this; cases this
  refine ⟨delT_ok h.ok hk, (h.s.del h.ok hk).mono (fun y _ _ hy => ?_), fun j k' x' hj he' => ?_⟩
  · rcases hy.2 with q | q
    · exact .inl ⟨hy.1, q⟩
    · exact .inr q
  · obtain ⟨k1', _, _, _⟩ := (hR.m k' x').1 (List.mem_of_getElem? he')
    rw [delT_get h.ok hk (byk_nb k1'), if_neg (fun z => hno x' (by rw [← nib_inj z.2]; exact List.mem_of_getElem? he'))]
    exact h.v j k' x' hj he'
theorem Lay.mono {u : Tr} {l : PList} {i : Nat} {A A' : List Int → Prop} (h : Lay u l i A) (hA : ∀ k, Byk k → k.length ≤ 32 → A k → A' k ∨ ∃ x, (k, x) ∈ l) : Lay u l i A' := ⟨h.ok, h.s.mono (fun k k1 k2 hk => by
  rcases hk with q | q
  · exact hA k k1 k2 q
  · exact .inr q), h.v⟩
theorem Lay.one {t u : Tr} {l : PList} {A : List Int → Prop} (hR : Rel t l) (h : Lay u l 0 A) (hA : ∀ k, ¬ A k) : u = t := by
  refine hR.one h.ok (h.s.mono (fun k _ _ hk => ?_)) (fun k x hx => ?_)
  · rcases hk with q | q
    · exact absurd q (hA k)
    · exact q
  · obtain ⟨j, hj⟩ := List.mem_iff_getElem?.1 hx
    exact h.v j k x (Nat.zero_le _) hj
theorem Rel.klen {t : Tr} {l : PList} (h : Rel t l) (j : Nat) (k x : List Int) (he : l[j]? = some (k, x)) : k.length ≤ 1000000 := by
  have := ((h.m k x).1 (List.mem_of_getElem? he)).2.1
  omega
set_option maxHeartbeats 8000000 in
theorem one_any (a : Option Addr) (n c : Nat) (xs : List Opx) (ao : Option Addr) (no_ co : Nat) (Mo : List (List Int)) (w : World) (hO : OAt w a n xs) (hn : n ≤ 1048576) (hMo : Bt An w ao no_ Mo) (hno : no_ ≤ 1048576) :
    Calls Tryz.prog 5 #[.slice a n c, .slice ao no_ co] w fun e w' => e = .returned (.bool true) ∧ Below w.heap.size w w' := by
  have hB := Bl.refl w
  refine cw_enter Tryz.func5 rfl 132 rfl ?_
  show CW _ _ _ _ _ _ _ [(0, .slice a n c), (1, .slice ao no_ co)] _
  refine cw_seq ?_
  refine cw_region ?_
  refine rp 4 (.bool false) ?_
  refine rw_nil ?_
  refine nw_then ?_
  refine cw_seq ?_
  refine cw_region ?_
  refine rw_call 20 8 #[] (fun _ => by kernel_rfl) (fun _ => by kernel_rfl) (R := fun u w' => (∃ g, u = .tuple #[.pointer (some ⟨g, 0, none⟩), .bool true] ∧ (w).heap.size ≤ g ∧ Tri An w' g no) ∧ Bl (w) w') (begun_any (K := An) (fun _ _ => trivial)) ?_
  rintro _ u1 ⟨⟨g, rfl, hgw, hT⟩, hb2⟩
  replace hB := hB.go hb2
  refine rp 19 (.tuple #[.pointer (some ⟨g, 0, none⟩), .bool true]) ?_
  refine rp 21 (.pointer (some ⟨g, 0, none⟩)) ?_
  refine rp 22 (.bool true) ?_
  refine rp 5 (.pointer (some ⟨g, 0, none⟩)) ?_
  refine rp 6 (.bool true) ?_
  refine rw_nil ?_
  refine nw_then ?_
  refine cw_seq ?_
  refine cw_region ?_
  refine rw_call 23 15 #[] (fun _ => by kernel_rfl) (fun _ => by kernel_rfl) (R := fun u w' => (∃ g, u = .pointer (some ⟨g, 0, none⟩) ∧ (u1).heap.size ≤ g ∧ Tri An w' g no) ∧ Bl (u1) w') (new_any (K := An)) ?_
  rintro _ u3 ⟨⟨gU, rfl, hgU, hU⟩, hb4⟩
  have hgl0 := hT.lt
  have hgu : w.heap.size ≤ gU := Nat.le_trans hB.size hgU
  have hne : gU ≠ g := by omega
  replace hB := hB.go hb4
  replace hT := hT.go hb4
  refine rp 7 (.pointer (some ⟨gU, 0, none⟩)) ?_
  refine rw_nil ?_
  refine nw_then ?_
  refine cw_seq ?_
  refine cw_seq ?_
  refine cw_region ?_
  refine rp 24 (.bool true) ?_
  refine rp 25 (.bool false) ?_
  refine rp 26 (.bool false) ?_
  refine rp 27 (.pointer (some ⟨g, 0, none⟩)) ?_
  refine rp 28 (.bool false) ?_
  refine rp 29 (.bool false) ?_
  refine rp 30 (.bool false) ?_
  refine rp 31 (.pointer (some ⟨gU, 0, none⟩)) ?_
  refine rp 32 (.bool false) ?_
  refine rp 33 (.bool false) ?_
  refine rw_nil ?_
  refine nw_then ?_
  refine cw_cond_f (fun _ => by kernel_rfl) ?_
  refine cw_skip ?_
  refine nw_then ?_
  refine cw_seq ?_
  refine cw_region ?_
  refine rp 8 (.slice none 0 0) ?_
  refine rw_nil ?_
  refine nw_then ?_
  refine cw_seq ?_
  refine cw_seq ?_
  refine cw_region ?_
  refine rp 34 (.slice a n c) ?_
  refine rp 35 (.int .i64 n) ?_
  refine rp 36 (.int .i64 0) ?_
  refine rw_nil ?_
  refine nw_then ?_
  refine cw_block ?_
  refine cw_loop (X := Nat × Tr × PList × Option Addr × Nat × Nat) (fun z => [(36, .int .i64 ((z.1 : Nat) : Int)), (34, .slice a n c), (35, .int .i64 n), (1, .slice ao no_ co), (4, .bool false), (5, .pointer (some ⟨g, 0, none⟩)), (7, .pointer (some ⟨gU, 0, none⟩)), (8, .slice z.2.2.2.1 z.2.2.2.2.1 z.2.2.2.2.2)]) (fun z v => Bl w v ∧ Tri An v g z.2.1 ∧ Tri An v gU no ∧ (∃ vs, PAt An v z.2.2.2.1 z.2.2.2.2.1 z.2.2.2.2.2 vs z.2.2.1) ∧ Rel z.2.1 z.2.2.1 ∧ z.1 ≤ n ∧ Tr.sz z.2.1 ≤ 3 * z.1 ∧ z.2.2.1.length ≤ z.1) (fun z => n - z.1) (0, no, [], none, 0, 0) (by exact ⟨fun _ => by kernel_rfl, ⟨fun _ => by kernel_rfl, ⟨fun _ => by kernel_rfl, ⟨fun _ => by kernel_rfl, ⟨fun _ => by kernel_rfl, ⟨fun _ => by kernel_rfl, ⟨fun _ => by kernel_rfl, ⟨fun _ => by kernel_rfl, trivial⟩⟩⟩⟩⟩⟩⟩⟩) ⟨hB, hT, hU, ⟨_, PAt.empty _ _⟩, Rel.nil, Nat.zero_le _, by simp [Tr.sz], Nat.le_refl _⟩ ?_
  clear hB hT hU
  rintro ⟨j, t, l, aL, nL, cL⟩ v ⟨hB, hT, hU, ⟨vsL, hP⟩, hRel, hj, hz, hll⟩
  simp only at hB hT hU hP hRel hj hz hll
  show CW _ _ _ _ _ _ _ [(36, .int .i64 ((j : Nat) : Int)), (34, .slice a n c), (35, .int .i64 n), (1, .slice ao no_ co), (4, .bool false), (5, .pointer (some ⟨g, 0, none⟩)), (7, .pointer (some ⟨gU, 0, none⟩)), (8, .slice aL nL cL)] _
  by_cases hlt : j < n
  · skip
    have hjx : j < xs.length := by rw [hO.len]; exact hlt
    obtain ⟨y, hy⟩ : ∃ y, xs[j]? = some y := ⟨_, List.getElem?_eq_getElem hjx⟩
    have hym : y ∈ xs := List.mem_of_getElem? hy
    obtain ⟨gS, oS, ea, hrow⟩ := hO.row j y hy
    subst ea
    have hk1 := (hO.k y hym).an
    have hk2 := (hO.x y hym).an
    refine cw_seq ?_
    refine cw_region ?_
    refine rv 37 (.bool true) (fun _ => ol_conv (v := .bool (decide (((j : Nat) : Int) < (n : Int)))) (by kernel_rfl) (congrArg Value.bool (decide_eq_true (by omega)))) ?_
    refine rw_nil ?_
    refine nw_then ?_
    refine cw_seq ?_
    refine cw_cond_t (fun _ => by kernel_rfl) ?_
    refine cw_skip ?_
    refine nw_then ?_
    refine cw_seq ?_
    refine cw_block ?_
    refine cw_seq ?_
    refine cw_region ?_
    refine rv 38 (.pointer (some ⟨gS, oS + j * 3, none⟩)) (fun _ => ol_index 22 _ _ gS oS j n c 3 29 rfl (by kernel_rfl) (by kernel_rfl) hlt Tryz.underlying22 (by kernel_rfl)) ?_
    refine rv 39 (.agg #[.int .i64 y.z, .slice y.ka y.kn y.kc, .slice y.va y.vn y.vc]) (fun _ => ol_mid 29 _ gS (oS + j * 3) y.cells.toList _ rfl (by kernel_rfl) (rng_go hrow hB) Tryz.underlying29 rfl (by kernel_rfl)) ?_
    refine rw_new 10 #[.int .i64 0, .slice none 0 0, .slice none 0 0] 29 (fun _ => by kernel_rfl) (fun _ => by kernel_rfl) ?_
    intro wA gA hnA
    refine rw_put gA #[.int .i64 y.z, .slice y.ka y.kn y.kc, .slice y.va y.vn y.vc] (fun _ => by kernel_rfl) (fun _ => ol_store 29 _ _ _ _ _ _ rfl (by kernel_rfl) (by kernel_rfl) hnA.row (by kernel_rfl) rfl (by kernel_rfl)) ?_
    intro wC hpC
    have hnC := hnA.put hpC
    have hgA := hnC.hg
    have htl := hT.lt
    replace hB := hB.go hnC.below
    replace hT := hT.go hnC.below
    replace hU := hU.go hnC.below
    replace hP := hP.go hnC.below
    have hrA : Rw gA wC #[.int .i64 y.z, .slice y.ka y.kn y.kc, .slice y.va y.vn y.vc] 29 := hnC.row
    refine rw_nil ?_
    refine nw_then ?_
    refine cw_seq ?_
    refine cw_region ?_
    refine rp 40 (.pointer (some ⟨g, 0, none⟩)) ?_
    refine rp 41 (.pointer (some ⟨gA, 1, none⟩)) ?_
    refine rv 42 (.slice y.ka y.kn y.kc) (fun _ => ol_cell 27 _ ⟨gA, 1, none⟩ _ _ rfl (by kernel_rfl) (by rw [cell_of_row _ _ _ _ _ _ hrA]; rfl) Tryz.underlying27 rfl) ?_
    refine rp 43 (.pointer (some ⟨gA, 2, none⟩)) ?_
    refine rv 44 (.slice y.va y.vn y.vc) (fun _ => ol_cell 27 _ ⟨gA, 2, none⟩ _ _ rfl (by kernel_rfl) (by rw [cell_of_row _ _ _ _ _ _ hrA]; rfl) Tryz.underlying27 rfl) ?_
    refine rw_call 45 11 #[.pointer (some ⟨g, 0, none⟩), .slice y.ka y.kn y.kc, .slice y.va y.vn y.vc] (fun _ => by kernel_rfl) (fun _ => by kernel_rfl) (R := fun u w' => u = .int .i64 (putE y.k y.x) ∧ Tri An w' g (putT t y.k y.x) ∧ Touch g (wC) w') ((tput_any hT (hk1.go hB) (hk2.go hB) (fun _ _ => trivial))) ?_
    rintro _ u5 ⟨rfl, hTn, hto⟩
    have hgl := hT.lt
    replace hU := hU.touch hto hT (by omega)
    replace hP := hP.touch hto hT
    replace hrA := hrA.touch hto (by have := hT.lt; have := hU.lt; omega)
    replace hB : Bl w u5 := hto.below hB hgw hB.size
    replace hT := hTn
    refine rw_nil ?_
    refine nw_then ?_
    refine cw_region ?_
    refine rp 47 (.slice aL nL cL) ?_
    refine rp 48 (.pointer (some ⟨gA, 1, none⟩)) ?_
    refine rv 49 (.slice y.ka y.kn y.kc) (fun _ => ol_cell 27 _ ⟨gA, 1, none⟩ _ _ rfl (by kernel_rfl) (by rw [cell_of_row _ _ _ _ _ _ hrA]; rfl) Tryz.underlying27 rfl) ?_
    refine rp 50 (.pointer (some ⟨gA, 2, none⟩)) ?_
    refine rv 51 (.slice y.va y.vn y.vc) (fun _ => ol_cell 27 _ ⟨gA, 2, none⟩ _ _ rfl (by kernel_rfl) (by rw [cell_of_row _ _ _ _ _ _ hrA]; rfl) Tryz.underlying27 rfl) ?_
    refine rw_call 52 16 #[.slice aL nL cL, .slice y.ka y.kn y.kc, .slice y.va y.vn y.vc] (fun _ => by kernel_rfl) (fun _ => by kernel_rfl) (R := fun u w' => (∃ a n c vs, u = .tuple #[.slice a n c, .int .i64 (putE y.k y.x)] ∧ PAt An w' a n c vs (putL l y.k y.x)) ∧ Bl (u5) w') ((rput_any hP (hk1.go hB) (by have := hP.ll; omega) (hk2.go hB) hRel.klen)) ?_
    rintro _ u6 ⟨⟨aL2, nL2, cL2, vsL2, rfl, hPn⟩, hb7⟩
    clear hP
    replace hB := hB.go hb7
    replace hT := hT.go hb7
    replace hU := hU.go hb7
    replace hrA := hrA.go hb7
    have hP := hPn
    clear hPn
    refine rp 46 (.tuple #[.slice aL2 nL2 cL2, .int .i64 (putE y.k y.x)]) ?_
    refine rp 53 (.slice aL2 nL2 cL2) ?_
    refine rp 54 (.int .i64 (putE y.k y.x)) ?_
    refine rp 8 (.slice aL2 nL2 cL2) ?_
    refine rw_nil ?_
    refine nw_block ?_
    refine nw_then ?_
    refine cw_region ?_
    refine rv 55 (.int .i64 (((j : Nat) : Int) + 1)) (fun _ => ol_conv (v := .int .i64 (IntKind.i64.wrap (((j : Nat) : Int) + 1))) (by kernel_rfl) (congrArg (Value.int .i64) (wrap64 (by omega) (by omega)))) ?_
    refine rp 36 (.int .i64 (((j : Nat) : Int) + 1)) ?_
    refine rw_nil ?_
    have hz2 := sz_putT t y.k y.x
    have hl2 := len_putL l y.k y.x
    exact nw_round (E := fun z => [(36, .int .i64 ((z.1 : Nat) : Int)), (34, .slice (some ⟨gS, oS, none⟩) n c), (35, .int .i64 n), (1, .slice ao no_ co), (4, .bool false), (5, .pointer (some ⟨g, 0, none⟩)), (7, .pointer (some ⟨gU, 0, none⟩)), (8, .slice z.2.2.2.1 z.2.2.2.2.1 z.2.2.2.2.2)]) (R := fun z v => Bl w v ∧ Tri An v g z.2.1 ∧ Tri An v gU no ∧ (∃ vs, PAt An v z.2.2.2.1 z.2.2.2.2.1 z.2.2.2.2.2 vs z.2.2.1) ∧ Rel z.2.1 z.2.2.1 ∧ z.1 ≤ n ∧ Tr.sz z.2.1 ≤ 3 * z.1 ∧ z.2.2.1.length ≤ z.1) (μ := fun z => n - z.1) (x := (j, t, l, aL, nL, cL)) (j + 1, putT t y.k y.x, putL l y.k y.x, aL2, nL2, cL2) (by exact ⟨fun _ => by kernel_rfl, ⟨fun _ => by kernel_rfl, ⟨fun _ => by kernel_rfl, ⟨fun _ => by kernel_rfl, ⟨fun _ => by kernel_rfl, ⟨fun _ => by kernel_rfl, ⟨fun _ => by kernel_rfl, ⟨fun _ => by kernel_rfl, trivial⟩⟩⟩⟩⟩⟩⟩⟩) ⟨hB, hT, hU, ⟨_, hP⟩, hRel.put (k := y.k) (x := y.x) hk1.ag.b, by omega, by show Tr.sz (putT t y.k y.x) ≤ 3 * (j + 1); omega, by show (putL l y.k y.x).length ≤ j + 1; omega⟩ (by show n - (j + 1) < n - j; omega)
  obtain rfl : j = n := by omega
  have hM : (nmd t).length + 1 ≤ 5000000000000 := by have := nmd_le t; omega
  have hdl := rootP_len t
  obtain ⟨ds, hds⟩ : ∃ ds, rootP t = ds := ⟨_, rfl⟩
  rw [hds] at hdl
  have hll2 := hP.ll
  show CW _ _ _ _ _ _ _ [(36, .int .i64 ((j : Nat) : Int)), (34, .slice a j c), (35, .int .i64 ((j : Nat) : Int)), (1, .slice ao no_ co), (4, .bool false), (5, .pointer (some ⟨g, 0, none⟩)), (7, .pointer (some ⟨gU, 0, none⟩)), (8, .slice aL nL cL)] _
  refine cw_seq ?_
  refine cw_region ?_
  refine rv 37 (.bool false) (fun _ => ol_conv (v := .bool (decide (((j : Nat) : Int) < ((j : Nat) : Int)))) (by kernel_rfl) (congrArg Value.bool (decide_eq_false (by omega)))) ?_
  refine rw_nil ?_
  refine nw_then ?_
  refine cw_seq ?_
  refine cw_cond_f (fun _ => by kernel_rfl) ?_
  refine cw_exit ?_
  refine nw_exit_then ?_
  refine nw_exit_then ?_
  refine nw_exit_here ?_
  refine nw_then ?_
  refine cw_seq ?_
  refine cw_seq ?_
  refine cw_region ?_
  refine rp 56 (.slice ao no_ co) ?_
  refine rp 57 (.int .i64 no_) ?_
  refine rp 58 (.int .i64 0) ?_
  refine rw_nil ?_
  refine nw_then ?_
  refine cw_block ?_
  refine cw_loop (X := Nat × Tr) (fun z => [(58, .int .i64 ((z.1 : Nat) : Int)), (56, .slice ao no_ co), (57, .int .i64 no_), (1, .slice ao no_ co), (4, .bool false), (5, .pointer (some ⟨g, 0, none⟩)), (7, .pointer (some ⟨gU, 0, none⟩)), (8, .slice aL nL cL)]) (fun z v => Bl w v ∧ Tri An v g t ∧ Tri An v gU z.2 ∧ PAt An v aL nL cL vsL l ∧ z.1 ≤ no_ ∧ (z.2 = no ∨ Tr.Ok 64 z.2) ∧ Sup z.2 (fun k => k ∈ Mo)) (fun z => no_ - z.1) (0, no) (by exact ⟨fun _ => by kernel_rfl, ⟨fun _ => by kernel_rfl, ⟨fun _ => by kernel_rfl, ⟨fun _ => by kernel_rfl, ⟨fun _ => by kernel_rfl, ⟨fun _ => by kernel_rfl, ⟨fun _ => by kernel_rfl, ⟨fun _ => by kernel_rfl, trivial⟩⟩⟩⟩⟩⟩⟩⟩) ⟨hB, hT, hU, hP, Nat.zero_le _, .inl rfl, Sup.none _⟩ ?_
  clear hB hT hU hP
  rintro ⟨i, tu⟩ v ⟨hB, hT, hU, hP, hi, huok, hsup⟩
  simp only at hB hT hU hP hi huok hsup
  show CW _ _ _ _ _ _ _ [(58, .int .i64 ((i : Nat) : Int)), (56, .slice ao no_ co), (57, .int .i64 no_), (1, .slice ao no_ co), (4, .bool false), (5, .pointer (some ⟨g, 0, none⟩)), (7, .pointer (some ⟨gU, 0, none⟩)), (8, .slice aL nL cL)] _
  by_cases hlt : i < no_
  · skip
    obtain ⟨g1, o1, a1, n1, c1, e1, hc1, hs1⟩ := (hMo.go hB).row i hlt
    subst e1
    have hmi : Mo.getD i [] ∈ Mo := by rw [List.getD, List.getElem?_eq_getElem (by rw [hMo.len]; exact hlt)]; exact List.getElem_mem _
    obtain ⟨kk, hkk⟩ : ∃ kk, Mo.getD i [] = kk := ⟨_, rfl⟩
    rw [hkk] at hs1 hmi
    refine cw_seq ?_
    refine cw_region ?_
    refine rv 59 (.bool true) (fun _ => ol_conv (v := .bool (decide (((i : Nat) : Int) < (no_ : Int)))) (by kernel_rfl) (congrArg Value.bool (decide_eq_true (by omega)))) ?_
    refine rw_nil ?_
    refine nw_then ?_
    refine cw_seq ?_
    refine cw_cond_t (fun _ => by kernel_rfl) ?_
    refine cw_skip ?_
    refine nw_then ?_
    refine cw_seq ?_
    refine cw_block ?_
    refine cw_seq ?_
    refine cw_region ?_
    refine rv 60 (.pointer (some ⟨g1, o1 + i * 1, none⟩)) (fun _ => ol_index 41 _ _ g1 o1 i no_ co 1 27 rfl (by kernel_rfl) (by kernel_rfl) hlt Tryz.underlying41 (by kernel_rfl)) ?_
    refine rv 61 (.slice a1 n1 c1) (fun _ => ol_cell 27 _ _ _ _ rfl (by kernel_rfl) hc1 Tryz.underlying27 rfl) ?_
    refine rp 12 (.slice a1 n1 c1) ?_
    refine rw_nil ?_
    refine nw_then ?_
    refine cw_region ?_
    refine rp 62 (.pointer (some ⟨gU, 0, none⟩)) ?_
    refine rp 63 (.slice a1 n1 c1) ?_
    refine rw_newS 64 #[.int .u8 116, .int .u8 111, .int .u8 32, .int .u8 103, .int .u8 111] 5 5 (fun _ => by kernel_rfl) (fun _ => by kernel_rfl) ?_
    intro wG gG hnG
    obtain ⟨wH, hrH, hbH, hsG⟩ := const_g hnG (K := An) (fun _ _ => trivial)
    refine rw_v 65 (.slice (some ⟨gG, 0, none⟩) 5 5) (fun _ => by kernel_rfl) (fun _ => hrH _ _ _ rfl (by kernel_rfl)) ?_
    replace hB := hB.go hbH
    replace hT := hT.go hbH
    replace hU := hU.go hbH
    replace hP := hP.go hbH
    replace hs1 := hs1.go hbH
    refine rw_call 66 11 #[.pointer (some ⟨gU, 0, none⟩), .slice a1 n1 c1, .slice (some ⟨gG, 0, none⟩) 5 5] (fun _ => by kernel_rfl) (fun _ => by kernel_rfl) (R := fun u w' => u = .int .i64 (putE kk goB) ∧ Tri An w' gU (putT tu kk goB) ∧ Touch gU (wH) w') ((tput_any hU hs1 hsG (fun _ _ => trivial))) ?_
    rintro _ u8 ⟨rfl, hTn, hto⟩
    have hgl := hU.lt
    replace hT := hT.touch hto hU (by omega)
    replace hP := hP.touch hto hU
    replace hs1 := hs1.touch hto hU
    replace hsG := hsG.touch hto hU
    replace hB : Bl w u8 := hto.below hB hgu hB.size
    replace hU := hTn
    refine rw_nil ?_
    refine nw_block ?_
    refine nw_then ?_
    refine cw_region ?_
    refine rv 67 (.int .i64 (((i : Nat) : Int) + 1)) (fun _ => ol_conv (v := .int .i64 (IntKind.i64.wrap (((i : Nat) : Int) + 1))) (by kernel_rfl) (congrArg (Value.int .i64) (wrap64 (by omega) (by omega)))) ?_
    refine rp 58 (.int .i64 (((i : Nat) : Int) + 1)) ?_
    refine rw_nil ?_
    exact nw_round (E := fun z => [(58, .int .i64 ((z.1 : Nat) : Int)), (56, .slice (some ⟨g1, o1, none⟩) no_ co), (57, .int .i64 no_), (1, .slice (some ⟨g1, o1, none⟩) no_ co), (4, .bool false), (5, .pointer (some ⟨g, 0, none⟩)), (7, .pointer (some ⟨gU, 0, none⟩)), (8, .slice aL nL cL)]) (R := fun z v => Bl w v ∧ Tri An v g t ∧ Tri An v gU z.2 ∧ PAt An v aL nL cL vsL l ∧ z.1 ≤ no_ ∧ (z.2 = no ∨ Tr.Ok 64 z.2) ∧ Sup z.2 (fun k => k ∈ Mo)) (μ := fun z => no_ - z.1) (x := (i, tu)) (i + 1, putT tu kk goB) (by exact ⟨fun _ => by kernel_rfl, ⟨fun _ => by kernel_rfl, ⟨fun _ => by kernel_rfl, ⟨fun _ => by kernel_rfl, ⟨fun _ => by kernel_rfl, ⟨fun _ => by kernel_rfl, ⟨fun _ => by kernel_rfl, ⟨fun _ => by kernel_rfl, trivial⟩⟩⟩⟩⟩⟩⟩⟩) ⟨hB, hT, hU, hP, by omega, putT_ok huok hs1.ag.b, (hsup.put huok hs1.ag.b).mono (fun y _ _ hy => by rcases hy with rfl | hy; exact hmi; exact hy)⟩ (by show no_ - (i + 1) < no_ - i; omega)
  obtain rfl : i = no_ := by omega
  show CW _ _ _ _ _ _ _ [(58, .int .i64 ((i : Nat) : Int)), (56, .slice ao i co), (57, .int .i64 ((i : Nat) : Int)), (1, .slice ao i co), (4, .bool false), (5, .pointer (some ⟨g, 0, none⟩)), (7, .pointer (some ⟨gU, 0, none⟩)), (8, .slice aL nL cL)] _
  refine cw_seq ?_
  refine cw_region ?_
  refine rv 59 (.bool false) (fun _ => ol_conv (v := .bool (decide (((i : Nat) : Int) < ((i : Nat) : Int)))) (by kernel_rfl) (congrArg Value.bool (decide_eq_false (by omega)))) ?_
  refine rw_nil ?_
  refine nw_then ?_
  refine cw_seq ?_
  refine cw_cond_f (fun _ => by kernel_rfl) ?_
  refine cw_exit ?_
  refine nw_exit_then ?_
  refine nw_exit_then ?_
  refine nw_exit_here ?_
  refine nw_then ?_
  refine cw_seq ?_
  refine cw_seq ?_
  refine cw_region ?_
  refine rp 68 (.slice aL nL cL) ?_
  refine rp 69 (.int .i64 nL) ?_
  refine rv 70 (.int .i64 (((nL : Nat) : Int) - 1)) (fun _ => ol_conv (v := .int .i64 (IntKind.i64.wrap (((nL : Nat) : Int) - 1))) (by kernel_rfl) (congrArg (Value.int .i64) (wrap64 (by omega) (by omega)))) ?_
  refine rp 13 (.int .i64 (((nL : Nat) : Int) - 1)) ?_
  refine rw_nil ?_
  refine nw_then ?_
  refine cw_block ?_
  refine cw_loop (X := Nat × Tr) (fun z => [(13, .int .i64 (((z.1 : Nat) : Int) - 1)), (1, .slice ao i co), (4, .bool false), (5, .pointer (some ⟨g, 0, none⟩)), (7, .pointer (some ⟨gU, 0, none⟩)), (8, .slice aL nL cL)]) (fun z v => Bl w v ∧ Tri An v g t ∧ Tri An v gU z.2 ∧ PAt An v aL nL cL vsL l ∧ z.1 ≤ nL ∧ Lay z.2 l z.1 (fun k => k ∈ Mo)) (fun z => z.1) (nL, tu) (by exact ⟨fun _ => by kernel_rfl, ⟨fun _ => by kernel_rfl, ⟨fun _ => by kernel_rfl, ⟨fun _ => by kernel_rfl, ⟨fun _ => by kernel_rfl, ⟨fun _ => by kernel_rfl, trivial⟩⟩⟩⟩⟩⟩) ⟨hB, hT, hU, hP, Nat.le_refl _, ⟨huok, hsup.mono (fun _ _ _ h => .inl h), fun q k x hq he => by rw [List.getElem?_eq_none (by omega)] at he; cases he⟩⟩ ?_
  clear hB hT hU hP huok hsup
  rintro ⟨m, tu⟩ v ⟨hB, hT, hU, hP, hm, hLay⟩
  simp only at hB hT hU hP hm hLay
  show CW _ _ _ _ _ _ _ [(13, .int .i64 (((m : Nat) : Int) - 1)), (1, .slice ao i co), (4, .bool false), (5, .pointer (some ⟨g, 0, none⟩)), (7, .pointer (some ⟨gU, 0, none⟩)), (8, .slice aL nL cL)] _
  cases m with
  | zero =>
    show CW _ _ _ _ _ _ _ [(13, .int .i64 (-1)), (1, .slice ao i co), (4, .bool false), (5, .pointer (some ⟨g, 0, none⟩)), (7, .pointer (some ⟨gU, 0, none⟩)), (8, .slice aL nL cL)] _
    refine cw_seq ?_
    refine cw_seq ?_
    refine cw_region ?_
    refine rp 71 (.int .i64 (-1)) ?_
    refine rp 72 (.bool false) ?_
    refine rw_nil ?_
    refine nw_then ?_
    refine cw_cond_f (fun _ => by kernel_rfl) ?_
    refine cw_exit ?_
    refine nw_exit_then ?_
    refine nw_exit_then ?_
    refine nw_exit_here ?_
    refine nw_then ?_
    refine cw_seq ?_
    refine cw_seq ?_
    refine cw_region ?_
    refine rp 87 (.slice ao i co) ?_
    refine rp 88 (.int .i64 i) ?_
    refine rp 89 (.int .i64 0) ?_
    refine rw_nil ?_
    refine nw_then ?_
    refine cw_block ?_
    refine cw_loop (X := Nat × Tr) (fun z => [(89, .int .i64 ((z.1 : Nat) : Int)), (87, .slice ao i co), (88, .int .i64 i), (4, .bool false), (5, .pointer (some ⟨g, 0, none⟩)), (7, .pointer (some ⟨gU, 0, none⟩)), (8, .slice aL nL cL)]) (fun z v => Bl w v ∧ Tri An v g t ∧ Tri An v gU z.2 ∧ PAt An v aL nL cL vsL l ∧ z.1 ≤ i ∧ Lay z.2 l 0 (fun k => k ∈ Mo.drop z.1)) (fun z => i - z.1) (0, tu) (by exact ⟨fun _ => by kernel_rfl, ⟨fun _ => by kernel_rfl, ⟨fun _ => by kernel_rfl, ⟨fun _ => by kernel_rfl, ⟨fun _ => by kernel_rfl, ⟨fun _ => by kernel_rfl, ⟨fun _ => by kernel_rfl, trivial⟩⟩⟩⟩⟩⟩⟩) ⟨hB, hT, hU, hP, Nat.zero_le _, hLay⟩ ?_
    clear hB hT hU hP hLay
    rintro ⟨i4, tu⟩ v ⟨hB, hT, hU, hP, hi, hLay⟩
    simp only at hB hT hU hP hi hLay
    show CW _ _ _ _ _ _ _ [(89, .int .i64 ((i4 : Nat) : Int)), (87, .slice ao i co), (88, .int .i64 i), (4, .bool false), (5, .pointer (some ⟨g, 0, none⟩)), (7, .pointer (some ⟨gU, 0, none⟩)), (8, .slice aL nL cL)] _
    by_cases hlt : i4 < i
    · skip
      obtain ⟨g1, o1, a1, n1, c1, e1, hc1, hs1⟩ := (hMo.go hB).row i4 hlt
      subst e1
      obtain ⟨kk, hkk⟩ : ∃ kk, Mo.getD i4 [] = kk := ⟨_, rfl⟩
      rw [hkk] at hs1
      have hdr : Mo.drop i4 = kk :: Mo.drop (i4 + 1) := by rw [List.drop_eq_getElem_cons (by rw [hMo.len]; exact hlt)]; rw [← hkk]; simp [List.getD, show i4 < Mo.length by rw [hMo.len]; exact hlt]
      have lk1 := hs1.len
      refine cw_seq ?_
      refine cw_region ?_
      refine rv 90 (.bool true) (fun _ => ol_conv (v := .bool (decide (((i4 : Nat) : Int) < (i : Int)))) (by kernel_rfl) (congrArg Value.bool (decide_eq_true (by omega)))) ?_
      refine rw_nil ?_
      refine nw_then ?_
      refine cw_seq ?_
      refine cw_cond_t (fun _ => by kernel_rfl) ?_
      refine cw_skip ?_
      refine nw_then ?_
      refine cw_seq ?_
      refine cw_block ?_
      refine cw_seq ?_
      refine cw_region ?_
      refine rv 91 (.pointer (some ⟨g1, o1 + i4 * 1, none⟩)) (fun _ => ol_index 41 _ _ g1 o1 i4 i co 1 27 rfl (by kernel_rfl) (by kernel_rfl) hlt Tryz.underlying41 (by kernel_rfl)) ?_
      refine rv 92 (.slice a1 n1 c1) (fun _ => ol_cell 27 _ _ _ _ rfl (by kernel_rfl) hc1 Tryz.underlying27 rfl) ?_
      refine rp 15 (.slice a1 n1 c1) ?_
      refine rw_nil ?_
      refine nw_then ?_
      refine cw_seq ?_
      refine cw_region ?_
      refine rp 94 (.slice aL nL cL) ?_
      refine rp 95 (.slice a1 n1 c1) ?_
      by_cases hn32 : n1 ≤ 32
      · skip
        cases hat : isAt kk l with
        | true =>
          refine rw_call 96 17 #[.slice aL nL cL, .slice a1 n1 c1] (fun _ => by kernel_rfl) (fun _ => by kernel_rfl) (R := fun u w' => (∃ a2 n2 c2, u = .tuple #[.slice a2 n2 c2, .bool true, .int .i64 0] ∧ ∃ x, l[atN kk l]? = some (kk, x) ∧ Sk An w' a2 n2 c2 x) ∧ Bl (v) w') (rget_is hP hs1 (by omega) hRel.klen hn32 hat) ?_
          rintro _ u9 ⟨⟨a9, n9, c9, rfl, x9, _, hs9⟩, hb10⟩
          replace hB := hB.go hb10
          replace hT := hT.go hb10
          replace hU := hU.go hb10
          replace hP := hP.go hb10
          replace hs1 := hs1.go hb10
          refine rp 93 (.tuple #[.slice a9 n9 c9, .bool true, .int .i64 0]) ?_
          refine rp 97 (.slice a9 n9 c9) ?_
          refine rp 98 (.bool true) ?_
          refine rp 99 (.int .i64 0) ?_
          refine rp 16 (.slice a9 n9 c9) ?_
          refine rp 17 (.bool true) ?_
          refine rp 18 (.int .i64 0) ?_
          refine rw_nil ?_
          refine nw_then ?_
          refine cw_seq ?_
          refine cw_region ?_
          refine rp 100 (.bool true) ?_
          refine rp 101 (.bool false) ?_
          refine rw_nil ?_
          refine nw_then ?_
          refine cw_cond_f (fun _ => by kernel_rfl) ?_
          refine cw_skip ?_
          refine nw_block ?_
          refine nw_then ?_
          refine cw_region ?_
          refine rv 105 (.int .i64 (((i4 : Nat) : Int) + 1)) (fun _ => ol_conv (v := .int .i64 (IntKind.i64.wrap (((i4 : Nat) : Int) + 1))) (by kernel_rfl) (congrArg (Value.int .i64) (wrap64 (by omega) (by omega)))) ?_
          refine rp 89 (.int .i64 (((i4 : Nat) : Int) + 1)) ?_
          refine rw_nil ?_
          exact nw_round (E := fun z => [(89, .int .i64 ((z.1 : Nat) : Int)), (87, .slice (some ⟨g1, o1, none⟩) i co), (88, .int .i64 i), (4, .bool false), (5, .pointer (some ⟨g, 0, none⟩)), (7, .pointer (some ⟨gU, 0, none⟩)), (8, .slice aL nL cL)]) (R := fun z v => Bl w v ∧ Tri An v g t ∧ Tri An v gU z.2 ∧ PAt An v aL nL cL vsL l ∧ z.1 ≤ i ∧ Lay z.2 l 0 (fun k => k ∈ Mo.drop z.1)) (μ := fun z => i - z.1) (x := (i4, tu)) (i4 + 1, tu) (by exact ⟨fun _ => by kernel_rfl, ⟨fun _ => by kernel_rfl, ⟨fun _ => by kernel_rfl, ⟨fun _ => by kernel_rfl, ⟨fun _ => by kernel_rfl, ⟨fun _ => by kernel_rfl, ⟨fun _ => by kernel_rfl, trivial⟩⟩⟩⟩⟩⟩⟩) ⟨hB, hT, hU, hP, by omega, hLay.mono (fun y _ _ hy => by rw [hdr] at hy; rcases List.mem_cons.1 hy with rfl | hy; exact .inr ((isAt_iff _ l hRel.s).1 hat); exact .inl hy)⟩ (by show i - (i4 + 1) < i - i4; omega)
        | false =>
          refine rw_call 96 17 #[.slice aL nL cL, .slice a1 n1 c1] (fun _ => by kernel_rfl) (fun _ => by kernel_rfl) (R := fun u w' => u = .tuple #[.slice none 0 0, .bool false, .int .i64 0] ∧ Bl (v) w') (rget_not hP hs1 (by omega) hRel.klen hn32 hat) ?_
          rintro _ u11 ⟨rfl, hb12⟩
          replace hB := hB.go hb12
          replace hT := hT.go hb12
          replace hU := hU.go hb12
          replace hP := hP.go hb12
          replace hs1 := hs1.go hb12
          refine rp 93 (.tuple #[.slice none 0 0, .bool false, .int .i64 0]) ?_
          refine rp 97 (.slice none 0 0) ?_
          refine rp 98 (.bool false) ?_
          refine rp 99 (.int .i64 0) ?_
          refine rp 16 (.slice none 0 0) ?_
          refine rp 17 (.bool false) ?_
          refine rp 18 (.int .i64 0) ?_
          refine rw_nil ?_
          refine nw_then ?_
          refine cw_seq ?_
          refine cw_region ?_
          refine rp 100 (.bool false) ?_
          refine rp 101 (.bool true) ?_
          refine rw_nil ?_
          refine nw_then ?_
          refine cw_cond_t (fun _ => by kernel_rfl) ?_
          refine cw_region ?_
          refine rp 102 (.pointer (some ⟨gU, 0, none⟩)) ?_
          refine rp 103 (.slice a1 n1 c1) ?_
          refine rw_call 104 12 #[.pointer (some ⟨gU, 0, none⟩), .slice a1 n1 c1] (fun _ => by kernel_rfl) (fun _ => by kernel_rfl) (R := fun u w' => (∃ b z, u = .tuple #[.bool b, .int .i64 z]) ∧ Tri An w' gU (delT tu kk) ∧ Touch gU (u11) w') ((tdel_any hU hs1 (fun _ _ => trivial))) ?_
          rintro _ u13 ⟨⟨bD, zD, rfl⟩, hTn, hto⟩
          have hgl := hU.lt
          replace hT := hT.touch hto hU (by omega)
          replace hP := hP.touch hto hU
          replace hs1 := hs1.touch hto hU
          replace hB : Bl w u13 := hto.below hB hgu hB.size
          replace hU := hTn
          refine rw_nil ?_
          refine nw_block ?_
          refine nw_then ?_
          refine cw_region ?_
          refine rv 105 (.int .i64 (((i4 : Nat) : Int) + 1)) (fun _ => ol_conv (v := .int .i64 (IntKind.i64.wrap (((i4 : Nat) : Int) + 1))) (by kernel_rfl) (congrArg (Value.int .i64) (wrap64 (by omega) (by omega)))) ?_
          refine rp 89 (.int .i64 (((i4 : Nat) : Int) + 1)) ?_
          refine rw_nil ?_
          exact nw_round (E := fun z => [(89, .int .i64 ((z.1 : Nat) : Int)), (87, .slice (some ⟨g1, o1, none⟩) i co), (88, .int .i64 i), (4, .bool false), (5, .pointer (some ⟨g, 0, none⟩)), (7, .pointer (some ⟨gU, 0, none⟩)), (8, .slice aL nL cL)]) (R := fun z v => Bl w v ∧ Tri An v g t ∧ Tri An v gU z.2 ∧ PAt An v aL nL cL vsL l ∧ z.1 ≤ i ∧ Lay z.2 l 0 (fun k => k ∈ Mo.drop z.1)) (μ := fun z => i - z.1) (x := (i4, tu)) (i4 + 1, delT tu kk) (by exact ⟨fun _ => by kernel_rfl, ⟨fun _ => by kernel_rfl, ⟨fun _ => by kernel_rfl, ⟨fun _ => by kernel_rfl, ⟨fun _ => by kernel_rfl, ⟨fun _ => by kernel_rfl, ⟨fun _ => by kernel_rfl, trivial⟩⟩⟩⟩⟩⟩⟩) ⟨hB, hT, hU, hP, by omega, (hLay.del hRel hs1.ag.b (fun h => hat)).mono (fun y _ _ hy => by rw [hdr] at hy; rcases List.mem_cons.1 hy.2 with q | hy2; exact absurd q hy.1; exact .inl hy2)⟩ (by show i - (i4 + 1) < i - i4; omega)
      refine rw_call 96 17 #[.slice aL nL cL, .slice a1 n1 c1] (fun _ => by kernel_rfl) (fun _ => by kernel_rfl) (R := fun u w' => u = .tuple #[.slice none 0 0, .bool false, .int .i64 70] ∧ Bl (v) w') (rget_long hP hs1 (by omega) (by omega)) ?_
      rintro _ u14 ⟨rfl, hb15⟩
      replace hB := hB.go hb15
      replace hT := hT.go hb15
      replace hU := hU.go hb15
      replace hP := hP.go hb15
      replace hs1 := hs1.go hb15
      refine rp 93 (.tuple #[.slice none 0 0, .bool false, .int .i64 70]) ?_
      refine rp 97 (.slice none 0 0) ?_
      refine rp 98 (.bool false) ?_
      refine rp 99 (.int .i64 70) ?_
      refine rp 16 (.slice none 0 0) ?_
      refine rp 17 (.bool false) ?_
      refine rp 18 (.int .i64 70) ?_
      refine rw_nil ?_
      refine nw_then ?_
      refine cw_seq ?_
      refine cw_region ?_
      refine rp 100 (.bool false) ?_
      refine rp 101 (.bool true) ?_
      refine rw_nil ?_
      refine nw_then ?_
      refine cw_cond_t (fun _ => by kernel_rfl) ?_
      refine cw_region ?_
      refine rp 102 (.pointer (some ⟨gU, 0, none⟩)) ?_
      refine rp 103 (.slice a1 n1 c1) ?_
      refine rw_call 104 12 #[.pointer (some ⟨gU, 0, none⟩), .slice a1 n1 c1] (fun _ => by kernel_rfl) (fun _ => by kernel_rfl) (R := fun u w' => (∃ b z, u = .tuple #[.bool b, .int .i64 z]) ∧ Tri An w' gU (delT tu kk) ∧ Touch gU (u14) w') ((tdel_any hU hs1 (fun _ _ => trivial))) ?_
      rintro _ u16 ⟨⟨bD, zD, rfl⟩, hTn, hto⟩
      have hgl := hU.lt
      replace hT := hT.touch hto hU (by omega)
      replace hP := hP.touch hto hU
      replace hs1 := hs1.touch hto hU
      replace hB : Bl w u16 := hto.below hB hgu hB.size
      replace hU := hTn
      refine rw_nil ?_
      refine nw_block ?_
      refine nw_then ?_
      refine cw_region ?_
      refine rv 105 (.int .i64 (((i4 : Nat) : Int) + 1)) (fun _ => ol_conv (v := .int .i64 (IntKind.i64.wrap (((i4 : Nat) : Int) + 1))) (by kernel_rfl) (congrArg (Value.int .i64) (wrap64 (by omega) (by omega)))) ?_
      refine rp 89 (.int .i64 (((i4 : Nat) : Int) + 1)) ?_
      refine rw_nil ?_
      exact nw_round (E := fun z => [(89, .int .i64 ((z.1 : Nat) : Int)), (87, .slice (some ⟨g1, o1, none⟩) i co), (88, .int .i64 i), (4, .bool false), (5, .pointer (some ⟨g, 0, none⟩)), (7, .pointer (some ⟨gU, 0, none⟩)), (8, .slice aL nL cL)]) (R := fun z v => Bl w v ∧ Tri An v g t ∧ Tri An v gU z.2 ∧ PAt An v aL nL cL vsL l ∧ z.1 ≤ i ∧ Lay z.2 l 0 (fun k => k ∈ Mo.drop z.1)) (μ := fun z => i - z.1) (x := (i4, tu)) (i4 + 1, delT tu kk) (by exact ⟨fun _ => by kernel_rfl, ⟨fun _ => by kernel_rfl, ⟨fun _ => by kernel_rfl, ⟨fun _ => by kernel_rfl, ⟨fun _ => by kernel_rfl, ⟨fun _ => by kernel_rfl, ⟨fun _ => by kernel_rfl, trivial⟩⟩⟩⟩⟩⟩⟩) ⟨hB, hT, hU, hP, by omega, (hLay.del hRel hs1.ag.b (fun h => absurd h (by omega))).mono (fun y _ _ hy => by rw [hdr] at hy; rcases List.mem_cons.1 hy.2 with q | hy2; exact absurd q hy.1; exact .inl hy2)⟩ (by show i - (i4 + 1) < i - i4; omega)
    obtain rfl : i4 = i := by omega
    obtain rfl : t = tu := (hLay.one hRel (fun y hy => by rw [List.drop_eq_nil_of_le (by rw [hMo.len]; exact Nat.le_refl _)] at hy; cases hy)).symm
    show CW _ _ _ _ _ _ _ [(89, .int .i64 ((i4 : Nat) : Int)), (87, .slice ao i4 co), (88, .int .i64 ((i4 : Nat) : Int)), (4, .bool false), (5, .pointer (some ⟨g, 0, none⟩)), (7, .pointer (some ⟨gU, 0, none⟩)), (8, .slice aL nL cL)] _
    refine cw_seq ?_
    refine cw_region ?_
    refine rv 90 (.bool false) (fun _ => ol_conv (v := .bool (decide (((i4 : Nat) : Int) < ((i4 : Nat) : Int)))) (by kernel_rfl) (congrArg Value.bool (decide_eq_false (by omega)))) ?_
    refine rw_nil ?_
    refine nw_then ?_
    refine cw_seq ?_
    refine cw_cond_f (fun _ => by kernel_rfl) ?_
    refine cw_exit ?_
    refine nw_exit_then ?_
    refine nw_exit_then ?_
    refine nw_exit_here ?_
    refine nw_then ?_
    refine cw_seq ?_
    refine cw_region ?_
    refine rp 106 (.pointer (some ⟨g, 0, none⟩)) ?_
    refine rw_call 107 18 #[.pointer (some ⟨g, 0, none⟩)] (fun _ => by kernel_rfl) (fun _ => by kernel_rfl) (R := fun u w' => u = .agg (B8 ds) ∧ Bl (v) w') (((root_any hT hM).mono (fun e w' ⟨u, e1, e2, e3⟩ => ⟨u, e1, by rw [e2, hds], e3⟩))) ?_
    rintro _ u17 ⟨rfl, hb18⟩
    replace hB := hB.go hb18
    replace hT := hT.go hb18
    replace hU := hU.go hb18
    replace hP := hP.go hb18
    refine rp 108 (.pointer (some ⟨gU, 0, none⟩)) ?_
    refine rw_call 109 18 #[.pointer (some ⟨gU, 0, none⟩)] (fun _ => by kernel_rfl) (fun _ => by kernel_rfl) (R := fun u w' => u = .agg (B8 ds) ∧ Bl (u17) w') (((root_any hU hM).mono (fun e w' ⟨u, e1, e2, e3⟩ => ⟨u, e1, by rw [e2, hds], e3⟩))) ?_
    rintro _ u19 ⟨rfl, hb20⟩
    replace hB := hB.go hb20
    replace hT := hT.go hb20
    replace hU := hU.go hb20
    replace hP := hP.go hb20
    refine rv 110 (.bool true) (fun _ => ol_eqD rfl (by kernel_rfl) (by kernel_rfl) hdl) ?_
    refine rp 111 (.bool true) ?_
    refine rp 112 (.pointer (some ⟨g, 0, none⟩)) ?_
    refine rw_call 113 20 #[.pointer (some ⟨g, 0, none⟩)] (fun _ => by kernel_rfl) (fun _ => by kernel_rfl) (R := RNo (u19) t) (nodes_any hT hM) ?_
    rintro _ u21 ⟨⟨aN, nN, cN, rfl, hN, hNb, hNn⟩, hb22⟩
    replace hB := hB.go hb22
    replace hT := hT.go hb22
    replace hU := hU.go hb22
    replace hP := hP.go hb22
    refine rp 114 (.pointer (some ⟨gU, 0, none⟩)) ?_
    refine rw_call 115 20 #[.pointer (some ⟨gU, 0, none⟩)] (fun _ => by kernel_rfl) (fun _ => by kernel_rfl) (R := RNo (u21) t) (nodes_any hU hM) ?_
    rintro _ u23 ⟨⟨aO, nO, cO, rfl, hO2, hOb, hOn⟩, hb24⟩
    replace hB := hB.go hb24
    replace hT := hT.go hb24
    replace hU := hU.go hb24
    replace hP := hP.go hb24
    replace hN := hN.go hb24
    refine rw_call 116 19 #[.slice aN nN cN, .slice aO nO cO] (fun _ => by kernel_rfl) (fun _ => by kernel_rfl) (R := fun u w' => u = .bool true ∧ Bl (u23) w') (((sameall_any hN hO2 (by omega)).mono (fun e w' ⟨u, e1, e2, e3⟩ => ⟨u, e1, by rw [e2, decide_eq_true rfl], e3⟩))) ?_
    rintro _ u25 ⟨rfl, hb26⟩
    replace hB := hB.go hb26
    replace hT := hT.go hb26
    replace hU := hU.go hb26
    replace hP := hP.go hb26
    replace hN := hN.go hb26
    replace hO2 := hO2.go hb26
    refine rp 117 (.bool true) ?_
    refine rp 118 (.bool true) ?_
    refine rp 119 (.pointer (some ⟨g, 0, none⟩)) ?_
    refine rw_call 120 21 #[.pointer (some ⟨g, 0, none⟩)] (fun _ => by kernel_rfl) (fun _ => by kernel_rfl) (R := fun u w' => u = .int .i64 ((nL : Nat) : Int) ∧ Bl (u25) w') (((len_any hT (by rw [hRel.ents, hP.ll]; omega)).mono (fun e w' ⟨u, e1, e2, e3⟩ => ⟨u, e1, by rw [e2, hRel.ents, hP.ll], e3⟩))) ?_
    rintro _ u27 ⟨rfl, hb28⟩
    replace hB := hB.go hb28
    replace hT := hT.go hb28
    replace hU := hU.go hb28
    replace hP := hP.go hb28
    replace hN := hN.go hb28
    replace hO2 := hO2.go hb28
    refine rp 121 (.slice aL nL cL) ?_
    refine rp 122 (.int .i64 nL) ?_
    refine rv 123 (.bool true) (fun _ => ol_conv (v := .bool (((nL : Nat) : Int) == (nL : Int))) (by kernel_rfl) (congrArg Value.bool (beq_self_eq_true _))) ?_
    refine rp 124 (.bool true) ?_
    refine rp 125 (.bool true) ?_
    refine rp 126 (.pointer (some ⟨gU, 0, none⟩)) ?_
    refine rw_call 127 21 #[.pointer (some ⟨gU, 0, none⟩)] (fun _ => by kernel_rfl) (fun _ => by kernel_rfl) (R := fun u w' => u = .int .i64 ((nL : Nat) : Int) ∧ Bl (u27) w') (((len_any hU (by rw [hRel.ents, hP.ll]; omega)).mono (fun e w' ⟨u, e1, e2, e3⟩ => ⟨u, e1, by rw [e2, hRel.ents, hP.ll], e3⟩))) ?_
    rintro _ u29 ⟨rfl, hb30⟩
    replace hB := hB.go hb30
    replace hT := hT.go hb30
    replace hU := hU.go hb30
    replace hP := hP.go hb30
    replace hN := hN.go hb30
    replace hO2 := hO2.go hb30
    refine rp 128 (.slice aL nL cL) ?_
    refine rp 129 (.int .i64 nL) ?_
    refine rv 130 (.bool true) (fun _ => ol_conv (v := .bool (((nL : Nat) : Int) == (nL : Int))) (by kernel_rfl) (congrArg Value.bool (beq_self_eq_true _))) ?_
    refine rp 131 (.bool true) ?_
    refine rp 4 (.bool true) ?_
    refine rw_nil ?_
    refine nw_then ?_
    refine cw_ret ?_
    exact nw_ret_body (.bool true) (fun _ => by kernel_rfl) ⟨rfl, hB⟩
  | succ m =>
    have hlt : m < nL := by omega
    obtain ⟨g3, o3, a1, n1, c1, a2, n2, c2, k1, x1, ea, hej, hc1, hc2, hs1, hs2⟩ := hP.at hlt
    subst ea
    rw [show (((m + 1 : Nat) : Int) - 1) = ((m : Nat) : Int) from by omega]
    show CW _ _ _ _ _ _ _ [(13, .int .i64 ((m : Nat) : Int)), (1, .slice ao i co), (4, .bool false), (5, .pointer (some ⟨g, 0, none⟩)), (7, .pointer (some ⟨gU, 0, none⟩)), (8, .slice (some ⟨g3, o3, none⟩) nL cL)] _
    have hS : Cl2 v ⟨g3, o3 + m * 2, none⟩ ⟨g3, o3 + m * 2 + 1, none⟩ (.slice a1 n1 c1) (.slice a2 n2 c2) := ⟨hc1, hc2⟩
    refine cw_seq ?_
    refine cw_seq ?_
    refine cw_region ?_
    refine rp 71 (.int .i64 ((m : Nat) : Int)) ?_
    refine rv 72 (.bool true) (fun _ => ol_conv (v := .bool (decide (((m : Nat) : Int) ≥ (0 : Int)))) (by kernel_rfl) (congrArg Value.bool (decide_eq_true (by omega)))) ?_
    refine rw_nil ?_
    refine nw_then ?_
    refine cw_cond_t (fun _ => by kernel_rfl) ?_
    refine cw_skip ?_
    refine nw_then ?_
    refine cw_seq ?_
    refine cw_block ?_
    have hSt : ∀ w', Touch gU v.drew w' → Cl2 w' ⟨g3, o3 + m * 2, none⟩ ⟨g3, o3 + m * 2 + 1, none⟩ (.slice a1 n1 c1) (.slice a2 n2 c2) := fun w' ht => ⟨by have hne2 : g3 ≠ gU := (fun e => by subst e; exact hU.noslice _ _ _ _ hc1); exact (World.cell?_of_block (a := ⟨g3, o3 + m * 2, none⟩) (ht.block g3 (block_lt_of_cell hc1) hne2)).trans hc1, by have hne2 : g3 ≠ gU := (fun e => by subst e; exact hU.noslice _ _ _ _ hc2); exact (World.cell?_of_block (a := ⟨g3, o3 + m * 2 + 1, none⟩) (ht.block g3 (block_lt_of_cell hc2) hne2)).trans hc2⟩
    refine cw_draw (fun v => Cl2 v ⟨g3, o3 + m * 2, none⟩ ⟨g3, o3 + m * 2 + 1, none⟩ (.slice a1 n1 c1) (.slice a2 n2 c2)) (by kernel_rfl) (hS.drew) ?_
    replace hS := hS.drew
    replace hB := hB.drew
    replace hT := hT.drew
    replace hU := hU.drew
    replace hP := hP.drew
    replace hs1 := hs1.drew
    replace hs2 := hs2.drew
    refine dt 0 75 (.pointer (some ⟨gU, 0, none⟩)) (fun v hv _ => by kernel_rfl) hS ?_
    refine dt 1 76 (.slice (some ⟨g3, o3, none⟩) nL cL) (fun v hv _ => by kernel_rfl) hS ?_
    refine dt 2 77 (.int .i64 ((m : Nat) : Int)) (fun v hv _ => by kernel_rfl) hS ?_
    refine dt 3 78 (.pointer (some ⟨g3, o3 + m * 2, none⟩)) (fun v hv _ => ol_index 26 _ _ g3 o3 m nL cL 2 45 rfl (by kernel_rfl) (by kernel_rfl) hlt Tryz.underlying26 (by kernel_rfl)) hS ?_
    refine dt 4 79 (.pointer (some ⟨g3, o3 + m * 2, none⟩)) (fun v hv _ => by kernel_rfl) hS ?_
    refine dt 5 80 (.slice a1 n1 c1) (fun v hv _ => ol_cell 27 _ _ _ _ rfl (by kernel_rfl) hv.cx Tryz.underlying27 rfl) hS ?_
    refine dt 6 81 (.slice (some ⟨g3, o3, none⟩) nL cL) (fun v hv _ => by kernel_rfl) hS ?_
    refine dt 7 82 (.int .i64 ((m : Nat) : Int)) (fun v hv _ => by kernel_rfl) hS ?_
    refine dt 8 83 (.pointer (some ⟨g3, o3 + m * 2, none⟩)) (fun v hv _ => ol_index 26 _ _ g3 o3 m nL cL 2 45 rfl (by kernel_rfl) (by kernel_rfl) hlt Tryz.underlying26 (by kernel_rfl)) hS ?_
    refine dt 9 84 (.pointer (some ⟨g3, o3 + m * 2 + 1, none⟩)) (fun v hv _ => by kernel_rfl) hS ?_
    refine dt 10 85 (.slice a2 n2 c2) (fun v hv _ => ol_cell 27 _ _ _ _ rfl (by kernel_rfl) hv.cy Tryz.underlying27 rfl) hS ?_
    refine dw_ready [11] (by kernel_rfl) (by simp) ?_
    have hS0 := hS
    refine ar_call 11 86 11 #[.pointer (some ⟨gU, 0, none⟩), .slice a1 n1 c1, .slice a2 n2 c2] rfl (fun _ => by kernel_rfl) (fun _ => by kernel_rfl) (R := fun u w' => u = .int .i64 (putE k1 x1) ∧ Tri An w' gU (putT tu k1 x1) ∧ Touch gU (v.drew) w') ((tput_any hU hs1 hs2 (fun _ _ => trivial))) (fun u w' h => hSt _ h.2.2) ?_ ar_nil
    rintro _ u31 ⟨rfl, hTn, hto⟩
    have hgl := hU.lt
    replace hT := hT.touch hto hU (by omega)
    replace hP := hP.touch hto hU
    replace hs1 := hs1.touch hto hU
    replace hs2 := hs2.touch hto hU
    replace hB : Bl w u31 := hto.below hB hgu hB.size
    replace hU := hTn
    refine dw_done (by kernel_rfl) ?_
    refine nw_block ?_
    refine nw_then ?_
    refine cw_region ?_
    refine rp 73 (.int .i64 ((m : Nat) : Int)) ?_
    refine rv 74 (.int .i64 (((m : Nat) : Int) - 1)) (fun _ => ol_conv (v := .int .i64 (IntKind.i64.wrap (((m : Nat) : Int) - 1))) (by kernel_rfl) (congrArg (Value.int .i64) (wrap64 (by omega) (by omega)))) ?_
    refine rp 13 (.int .i64 (((m : Nat) : Int) - 1)) ?_
    refine rw_nil ?_
    exact nw_round (E := fun z => [(13, .int .i64 (((z.1 : Nat) : Int) - 1)), (1, .slice ao i co), (4, .bool false), (5, .pointer (some ⟨g, 0, none⟩)), (7, .pointer (some ⟨gU, 0, none⟩)), (8, .slice (some ⟨g3, o3, none⟩) nL cL)]) (R := fun z v => Bl w v ∧ Tri An v g t ∧ Tri An v gU z.2 ∧ PAt An v (some ⟨g3, o3, none⟩) nL cL vsL l ∧ z.1 ≤ nL ∧ Lay z.2 l z.1 (fun k => k ∈ Mo)) (μ := fun z => z.1) (x := (m + 1, tu)) (m, putT tu k1 x1) (by exact ⟨fun _ => by kernel_rfl, ⟨fun _ => by kernel_rfl, ⟨fun _ => by kernel_rfl, ⟨fun _ => by kernel_rfl, ⟨fun _ => by kernel_rfl, ⟨fun _ => by kernel_rfl, trivial⟩⟩⟩⟩⟩⟩) ⟨hB, hT, hU, hP, by omega, hLay.put hRel hej⟩ (by show m < m + 1; omega)
end Go.Proofs.YtalhnnjpjaeakaaGreat
/- How a slice of bytes that is handed in reads as data: nil, or a row of bytes that takes no more than the form's own reach. -/
namespace Go.Proofs.YtalhnnjpjaeakaaGreat
open Go.ChangeShapes Go.WideShapes Go.ChangeAt Go.RowKit
open Go.ChangeMaps (open_string shut_string)
set_option linter.unusedVariables false
set_option maxRecDepth 100000
theorem own : ownKnob Tryz.prog.godebug = none := by kernel_rfl
theorem laidOut : laidOutB Tryz.prog = true := by kernel_rfl
theorem cells5 : Tryz.prog.cellsOf 5 = 1 := by kernel_rfl
end Go.Proofs.YtalhnnjpjaeakaaGreat
/- How a list of calls on a trie that is handed in reads as data, where it is of a bounded bulk. -/
namespace Go.Proofs.YtalhnnjpjaeakaaGreat
open Go.ChangeShapes Go.WideShapes Go.ChangeAt Go.RowKit
set_option linter.unusedVariables false
set_option maxRecDepth 100000
theorem cellsOP : Tryz.prog.cellsOf 29 = 3 := by kernel_rfl
theorem cells3 : Tryz.prog.cellsOf 3 = 1 := by kernel_rfl
theorem cellsB : Tryz.prog.cellsOf 27 = 1 := by kernel_rfl
theorem bulk_pos {H : Type} (d : DataW H) : 1 ≤ Rows.uptoBulk d := by
  cases d with
  | lit l => cases l <;> simp [Rows.uptoBulk]
  | _ => simp [Rows.uptoBulk]
theorem bulk_len {H : Type} : ∀ ds : List (DataW H), ds.length ≤ Rows.uptoBulkAll ds
  | [] => by simp [Rows.uptoBulkAll]
  | d :: r => by
    have := bulk_len r
    have := bulk_pos d
    simp only [Rows.uptoBulkAll, List.length_cons]
    omega
section
variable {H : Type} {enc : TypeId × Value → H} {w : World} {held : Bool}
theorem open_agF {fuel : Nat} {cs : List Value} {x : DataW H × List MemPlace} (hf : DataW.trod enc Tryz.prog w 0 (fun _ => true) held fuel 27 cs = some x) : ∃ a len cap bs, cs = [.slice a len cap] ∧ Ag w a len cap bs := by
  rcases open_ints Tryz.underlying27 Tryz.underlying5 cells5 hf with ⟨hcs, _⟩ | ⟨p, len, cap, zs, hcs, _, hl, hm, hz, hx, hcell, hwz⟩
  · exact ⟨none, 0, 0, [], hcs, ⟨.inl ⟨rfl, rfl⟩, fun _ => ⟨rfl, rfl⟩, rfl, fun x hx => by cases hx⟩⟩
  · have hz2 : zs.length = cap := by simpa using hz
    have hlen : (zs.take len).length = len := by rw [List.length_take]; omega
    have hbd : ∀ n ∈ zs.take len, 0 ≤ n ∧ n < 256 := fun n hn => by
      have := bounds_u8 (hwz n (List.mem_of_mem_take hn))
      omega
    refine ⟨some p, len, cap, zs.take len, hcs, ⟨?_, (fun h => by cases h), hlen, hbd⟩⟩
    by_cases h0 : len = 0
    · subst h0
      exact .inl ⟨rfl, by simp⟩
    · obtain ⟨b, off, spot⟩ := p
      have hc := hcell 0 (by omega)
      have hspot : spot = none := by simpa [Addr.add] using World.cell?_spot hc
      subst hspot
      refine .inr ⟨b, off, rfl, hlen, by omega, hl, hm, fun j hj => ?_⟩
      rw [hlen] at hj
      have := hcell j (by omega)
      rw [addr_add] at this
      rw [this, List.getD, List.getD, List.getElem?_take_of_lt hj]
theorem split111 {cs : List Value} (h : cs.length = 3) : cs = (cs.drop 0).take 1 ++ ((cs.drop 1).take 1 ++ (cs.drop 2).take 1) := by
  match cs, h with
  | [a, b, c], _ => rfl
theorem open_opF {fuel : Nat} {cs : List Value} {x : DataW H × List MemPlace} (hf : DataW.trod enc Tryz.prog w 0 (fun _ => true) held fuel 29 cs = some x)
    : ∃ y : Opx, cs = y.cells.toList ∧ Ag w y.ka y.kn y.kc y.k ∧ Ag w y.va y.vn y.vc y.x := by
  obtain ⟨xs, n, hfu, hx, hcl, hxl, hel⟩ := DataW.trod_struct Tryz.underlying29 hf
  rw [cellsOP] at hcl
  have e0 := hel 0 _ rfl
  have e1 := hel 1 _ rfl
  have e2 := hel 2 _ rfl
  have hxl3 : xs.length = 3 := hxl
  obtain ⟨x0, x1, x2, rfl⟩ : ∃ x0 x1 x2, xs = [x0, x1, x2] := by
    match xs, hxl3 with
    | [a, b, c], _ => exact ⟨a, b, c, rfl⟩
  subst hx
  have f0 : DataW.trod enc Tryz.prog w 0 (fun _ => true) held n 3 ((cs.drop 0).take (Tryz.prog.cellsOf 3)) = some x0 := e0
  have f1 : DataW.trod enc Tryz.prog w 0 (fun _ => true) held n 27 ((cs.drop 1).take (Tryz.prog.cellsOf 27)) = some x1 := e1
  have f2 : DataW.trod enc Tryz.prog w 0 (fun _ => true) held n 27 ((cs.drop 2).take (Tryz.prog.cellsOf 27)) = some x2 := e2
  rw [cells3] at f0
  rw [cellsB] at f1
  rw [cellsB] at f2
  obtain ⟨k, hk, _, _⟩ := DataW.trod_int Tryz.underlying3 f0
  obtain ⟨a1, m1, c1, b1, hb1, hag1⟩ := open_agF f1
  obtain ⟨a2, m2, c2, b2, hb2, hag2⟩ := open_agF f2
  refine ⟨⟨k, a1, m1, c1, a2, m2, c2, b1, b2⟩, ?_, hag1, hag2⟩
  rw [split111 (cs := cs) hcl, hk, hb1, hb2]
  rfl
theorem open_opsF {fuel : Nat} {cs : List Value} {x : DataW H × List MemPlace} (hf : DataW.trod enc Tryz.prog w 0 (fun _ => true) held fuel 22 cs = some x)
    (hbk : Rows.uptoBulk x.1 ≤ 1048576) : ∃ a m c xs, cs = [.slice a m c] ∧ OAt w a m xs ∧ m ≤ 1048576 := by
  rcases DataW.trod_slice Tryz.underlying22 hf with ⟨hcs, _⟩ | ⟨p, len, cap, elems, rest, n, hfu, hcs, hx, _, hl, hm, hlen, hel, _, _⟩
  · exact ⟨none, 0, 0, [], hcs, ⟨rfl, fun j r hr => by simp at hr, (fun x hx => by cases hx), fun x hx => by cases hx⟩, by omega⟩
  · subst hx
    have hb : Rows.uptoBulk (DataW.slice (elems.map (·.1)) (rest.map (·.1))) ≤ 1048576 := hbk
    simp only [Rows.uptoBulk] at hb
    have hlb := bulk_len (elems.map (·.1))
    rw [List.length_map] at hlb
    have hthing : ∀ i, i < len → ∃ y : Opx, (∀ k, k < 3 → w.cell? ((p.add (i * 3)).add k) = y.cells.toList[k]?) ∧ Ag w y.ka y.kn y.kc y.k ∧ Ag w y.va y.vn y.vc y.x := by
      intro i hi
      have he := hel i hi
      rw [cellsOP, List.getElem?_eq_getElem (by omega), Option.bind_eq_some_iff] at he
      obtain ⟨cs', hc1, hc2⟩ := he
      obtain ⟨_, hc3, hc4⟩ := World.cells?_some hc1
      obtain ⟨y, hcs', hr⟩ := open_opF hc2
      refine ⟨y, ?_, hr⟩
      rw [hcs'] at hc4
      exact hc4
    have hspot : 0 < len → p.spot = none := by
      intro h
      obtain ⟨y, hc, hr⟩ := hthing 0 h
      have c0 := hc 0 (by omega)
      rw [show y.cells.toList[0]? = some (.int .i64 y.z) from rfl] at c0
      simpa [Addr.add] using World.cell?_spot c0
    have hall : ∀ d k, k + d = len → ∃ ks : List Opx, ks.length = d ∧ (∀ j r, ks[j]? = some r → ∃ g off, (some p : Option Addr) = some ⟨g, off, none⟩ ∧ w.rangeAt g (off + (k + j) * 3) r.cells.toList) ∧ ∀ y ∈ ks, Ag w y.ka y.kn y.kc y.k ∧ Ag w y.va y.vn y.vc y.x := by
      intro d
      induction d with
      | zero => intro k _; exact ⟨[], rfl, (fun j r hr => by simp at hr), fun x hx => by cases hx⟩
      | succ d ihd =>
        intro k hk
        obtain ⟨ks, h1, h2, h3⟩ := ihd (k + 1) (by omega)
        obtain ⟨y, hc, hr⟩ := hthing k (by omega)
        refine ⟨y :: ks, by rw [List.length_cons, h1], fun j s hs => ?_, fun x hx => ?_⟩
        · cases j with
          | zero =>
            simp at hs
            subst hs
            obtain ⟨g, off, spot⟩ := p
            have hsp : spot = none := hspot (by omega)
            subst hsp
            refine ⟨g, off, rfl, fun i u hu => ?_⟩
            have hi : i < 3 := (List.getElem?_eq_some_iff.1 hu).1
            have := hc i hi
            rw [addr_add, addr_add, hu] at this
            exact this
          | succ j =>
            obtain ⟨g, off, e, h3⟩ := h2 j s (by simpa using hs)
            rw [show k + 1 + j = k + (j + 1) from by omega] at h3
            exact ⟨g, off, e, h3⟩
        · rcases List.mem_cons.1 hx with rfl | hx
          · exact hr
          · exact h3 x hx
    obtain ⟨ks, h1, h2, h3⟩ := hall len 0 (by omega)
    refine ⟨some p, len, cap, ks, hcs, ⟨h1, fun j r hr => ?_, fun y hy => (h3 y hy).1, fun y hy => (h3 y hy).2⟩, by omega⟩
    obtain ⟨g, off, e, h3⟩ := h2 j r hr
    rw [Nat.zero_add] at h3
    exact ⟨g, off, e, h3⟩
end
theorem open_opsB {H : Type} {enc : TypeId × Value → H} {w : World} {b0 : Nat} {r : Reach} {held : Bool} {v : Value} {d : DataW H} {p : List MemPlace}
    (hv : Value.okWide Tryz.prog w r b0 22 v) (h : DataW.Trod enc Tryz.prog w 0 (fun _ => true) held 22 v d p)
    (hbk : Rows.uptoBulk d ≤ 1048576) : ∃ a m c xs, v = .slice a m c ∧ OAt w a m xs ∧ m ≤ 1048576 := by
  obtain ⟨a, len, cap, rfl⟩ := okWide_slice Tryz.underlying22 hv
  obtain ⟨fuel, hf⟩ := h
  obtain ⟨a', m, c, xs, hcs, hx⟩ := open_opsF hf hbk
  simp [Value.cells] at hcs
  obtain ⟨rfl, rfl, rfl⟩ := hcs
  exact ⟨_, _, _, xs, rfl, hx⟩
end Go.Proofs.YtalhnnjpjaeakaaGreat
