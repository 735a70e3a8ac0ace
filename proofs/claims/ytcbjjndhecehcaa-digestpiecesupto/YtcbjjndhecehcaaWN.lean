/- What New, Len and Clone of a Hash answer; that DigestClones answers true, for every three byte strings of at most 1048576 bytes each. -/
import Derived.Test.YtcbjjndhecehcaaWL
namespace Go.Proofs.Ytcbjjndhecehcaa
open Go.RowKit
set_option linter.unusedVariables false
set_option maxHeartbeats 400000 in
theorem len_any (g : Nat) (s : S4) (tl : List Int) (n : Nat) (w : World) (hl : tl.length = 32) (hg : w.heap[g]? = some (.cells (HC s tl n) 47)) :
    Calls Try.prog 16 #[.pointer (some ⟨g, 0, none⟩)] w fun e w' => e = .returned (.int .i64 n) ∧ w' = w := by
  obtain ⟨xa, xb, xc, xd⟩ := s
  obtain ⟨c0, c1, c2, c3, c36, cf⟩ := cellsH hg hl
  clear hg
  go_enter Try.func16, Try.ntmps16
  go_wp2
  go_ret
  exact ⟨rfl, rfl⟩
set_option maxHeartbeats 1000000 in
theorem new_any (w : World) : Calls Try.prog 13 #[] w fun e w' => (∃ g, e = .returned (.pointer (some ⟨g, 0, none⟩)) ∧ w.heap.size ≤ g ∧ w'.heap[g]? = some (.cells (HC s0 (List.replicate 32 0) 0) 47)) ∧ Below w.heap.size w w' := by
  go_enter Try.func13, Try.ntmps13
  go_wp2_with fail
  refine (start_any _).mono ?_
  rintro e w1 ⟨⟨xa, xb, xc, xd, rfl, H⟩, hb1⟩
  go_wp2_with fail
  go_ret
  refine ⟨⟨_, rfl, hb1.size, ?_⟩, hb1.alloc hb1.size _⟩
  rw [heap_alloc_new, ← H.out, HC_zero]
/-- A load and a store of a whole Hash, kept whole. -/
def load47V (v : Value) : Sem Value := Instr.loadAt 47 v
theorem load47_fold (v : Value) : Instr.loadAt 47 v = load47V v := rfl
theorem load47_run {w : World} {N : Nat} {C : Array Value} (h : w.heap[N]? = some (.cells C 47)) (hl : C.size = 37) : (load47V (.pointer (some ⟨N, 0, none⟩))).run Try.prog w = .ok (.agg C) w := by
  have hs : (Try.prog.info? 47).map (·.size) = some C.size := by rw [hl]; kernel_rfl
  simp only [load47V, Instr.loadAt, Instr.sureAddr, Sem.run_bind, Sem.run_pure, Result.andThen_ok, run_loadVar_row w N 47 47 C (0, 0) _ h Try.underlying47 rfl hs]
attribute [local go_sem ↓] load47_fold
set_option maxHeartbeats 1000000 in
theorem clone_any (g : Nat) (s : S4) (tl : List Int) (n : Nat) (w : World) (hl : tl.length = 32) (hg : w.heap[g]? = some (.cells (HC s tl n) 47)) :
    Calls Try.prog 17 #[.pointer (some ⟨g, 0, none⟩)] w fun e w' => (∃ g', e = .returned (.pointer (some ⟨g', 0, none⟩)) ∧ w.heap.size ≤ g' ∧ w'.heap[g']? = some (.cells (HC s tl n) 47)) ∧ Below w.heap.size w w' := by
  have hsz : (HC s tl n).size = 37 := by rw [HC_size, hl]
  have l1 := load47_run hg hsz
  have HI : Hid ((Try.prog.info? 47).map (·.size) = some (HC s tl n).size) := by unfold Hid; rw [hsz]; kernel_rfl
  have HS := Hid.mk hsz
  clear hsz hg
  go_enter Try.func17, Try.ntmps17
  go_wp2_with (first | refine wpList_store_row rfl 47 _ _ rfl _ (HC s tl n) rfl rfl 47 _ (heap_alloc_new w _) HI.out (by rw [HS.out]; rfl) (HC_one _ _ _) ?_)
  go_ret
  exact ⟨⟨_, rfl, Nat.le_refl _, setRow_heap _ _ _ _ _ _ (heap_alloc_new w _)⟩, Below.setRow ((Below.refl _ _).alloc (Nat.le_refl _) _) (Nat.le_refl _) _⟩
theorem app_any {w : World} {ops : Array Oper} {rest : List Oper} {o : Oper} {a : Act} {Q : Exit → Act → World → Prop} (hgd : o.guard = none) (s x : Operand)
    (ho : o.op = .call { callee := .builtin .append, args := #[s, x], argTypes := #[22, 22] }) (base : Nat) (v : Value) (bs : List Int) (hs : a.eval s = v) (hown : OwnB w base v bs)
    (ad : Option Addr) (m c : Nat) (news : List Int) (hx : a.eval x = .slice ad m c) (hin : In0 w ad m c news) (hnil : ad = none → m = 0 ∧ c = 0) (hl : news.length = m)
    (hbytes : bs.length + m ≤ 140737488355328) (hbase : base ≤ w.heap.size)
    (h : ∀ v' w', OwnB w' base v' (bs ++ news) → Below base w w' → wpList Try.prog ops Q rest (a.put o.dst v') w') : wpList Try.prog ops Q (o :: rest) a w := by
  cases ad with
  | none =>
    obtain ⟨rfl, rfl⟩ := hnil rfl
    have hn0 : news = [] := List.eq_nil_of_length_eq_zero hl
    subst hn0
    refine app_none hgd s x ho base v bs hs hown hx ?_
    exact h v w (by rw [List.append_nil]; exact hown) (Below.refl _ _)
  | some ad =>
    have hB := hin.inB hnil
    have hc : ∀ j u, (news.map (Value.int .u8))[j]? = some u → w.cell? (ad.add j) = some u := by
      rcases hB with ⟨h, _⟩ | ⟨ad', h1, _, h3⟩
      · cases h
      · cases h1; exact h3
    refine app_own hgd s x ho base v bs hs hown ad m c news hx hl hc hbytes hbase ?_
    intro v' w' o' g' _
    exact h v' w' o' ((Below.refl _ _).grown g' hbase hown.lt)
/-- What is handed in, wherever the walk stands. -/
structure Ag (w0 : World) (a : Option Addr) (len cap : Nat) (bs : List Int) : Prop where
  i : In0 w0 a len cap bs
  nil : a = none → len = 0 ∧ cap = 0
  l : bs.length = len
  b : ∀ x ∈ bs, 0 ≤ x ∧ x < 256
theorem Ag.at {w0 w : World} {a : Option Addr} {len cap : Nat} {bs : List Int} (h : Ag w0 a len cap bs) (hb : Below w0.heap.size w0 w) : Ag w a len cap bs := ⟨h.i.mono hb, h.nil, h.l, h.b⟩
theorem Ag.in2 {w : World} {a : Option Addr} {len cap : Nat} {bs : List Int} {w0 : World} (h : Ag w0 a len cap bs) (hb : Below w0.heap.size w0 w) {g : Nat} (hg : w0.heap.size ≤ g) : In2 g w a len cap bs := h.i.at (Nat.le_refl _) hb g hg
theorem OwnB.ag {w : World} {base : Nat} {v : Value} {bs : List Int} (h : OwnB w base v bs) (hb : ∀ x ∈ bs, 0 ≤ x ∧ x < 256) : ∃ a cap, v = .slice a bs.length cap ∧ Ag w a bs.length cap bs := by
  obtain ⟨a, cap, hv, h1, h2⟩ := h.in0
  exact ⟨a, cap, hv, h1, h2, rfl, hb⟩
theorem mem_app {xs ys : List Int} (h1 : ∀ x ∈ xs, 0 ≤ x ∧ x < 256) (h2 : ∀ x ∈ ys, 0 ≤ x ∧ x < 256) : ∀ x ∈ xs ++ ys, 0 ≤ x ∧ x < 256 := by
  intro x hx
  rcases List.mem_append.1 hx with hx | hx
  · exact h1 x hx
  · exact h2 x hx
/-- A Hash that lies at block g and has taken some bytes. -/
structure Hs (g : Nat) (w : World) (all : List Int) (n : Nat) : Prop where
  ex : ∃ s tl, Inv all s tl n ∧ w.heap[g]? = some (.cells (HC s tl n) 47)
theorem Hs.below {g : Nat} {w w' : World} {all : List Int} {n : Nat} (h : Hs g w all n) (hb : Below w.heap.size w w') : Hs g w' all n := by
  obtain ⟨s, tl, h1, h2⟩ := h.ex
  exact ⟨s, tl, h1, Below.row hb h2⟩
theorem Hs.lt {g : Nat} {w : World} {all : List Int} {n : Nat} (h : Hs g w all n) : g < w.heap.size := by
  obtain ⟨s, tl, h1, h2⟩ := h.ex
  exact lt_of_get h2
theorem Hs.touch {g k : Nat} {w w' : World} {all : List Int} {n : Nat} (h : Hs g w all n) (t : Touch k w w') (hk : g ≠ k) : Hs g w' all n := by
  obtain ⟨s, tl, h1, h2⟩ := h.ex
  exact ⟨s, tl, h1, (t.block g (lt_of_get h2) hk).trans h2⟩
theorem hs_new (w : World) : Calls Try.prog 13 #[] w fun e w' => (∃ g, e = .returned (.pointer (some ⟨g, 0, none⟩)) ∧ w.heap.size ≤ g ∧ Hs g w' [] 0) ∧ Below w.heap.size w w' := by
  refine (new_any w).mono ?_
  rintro e w' ⟨⟨g, h1, h2, h3⟩, hb⟩
  exact ⟨⟨g, h1, h2, ⟨_, _, inv_new, h3⟩⟩, hb⟩
theorem hs_write (g : Nat) (a : Option Addr) (len cap : Nat) (n : Nat) (all bs : List Int) (w : World) (h : Hs g w all n) (hin : In2 g w a len cap bs) (hsum : n + len < 9223372036854775808) (hb : ∀ x ∈ bs, 0 ≤ x ∧ x < 256) :
    Calls Try.prog 14 #[.pointer (some ⟨g, 0, none⟩), .slice a len cap] w fun e w' => e = .returned (.tuple #[]) ∧ Hs g w' (all ++ bs) (n + len) ∧ Touch g w w' := by
  obtain ⟨s, tl, h1, h2⟩ := h.ex
  refine (write_any g a len cap s tl n all bs w h1 hin hsum hb h2).mono ?_
  rintro e w' ⟨he, ⟨s', tl', h3, h4⟩, t⟩
  exact ⟨he, ⟨s', tl', h3, h4⟩, t⟩
theorem hs_sum (g : Nat) (n : Nat) (all : List Int) (w : World) (h : Hs g w all n) (hn : n < 9223372036854775808) : Calls Try.prog 15 #[.pointer (some ⟨g, 0, none⟩)] w fun e w' => e = .returned (.agg (B8 (dref all))) ∧ Below w.heap.size w w' := by
  obtain ⟨s, tl, h1, h2⟩ := h.ex
  exact sum_ref g s tl n all w h1 hn h2
theorem hs_len (g : Nat) (n : Nat) (all : List Int) (w : World) (h : Hs g w all n) : Calls Try.prog 16 #[.pointer (some ⟨g, 0, none⟩)] w fun e w' => e = .returned (.int .i64 n) ∧ w' = w := by
  obtain ⟨s, tl, h1, h2⟩ := h.ex
  exact len_any g s tl n w h1.hl h2
theorem hs_clone (g : Nat) (n : Nat) (all : List Int) (w : World) (h : Hs g w all n) : Calls Try.prog 17 #[.pointer (some ⟨g, 0, none⟩)] w fun e w' => (∃ g', e = .returned (.pointer (some ⟨g', 0, none⟩)) ∧ w.heap.size ≤ g' ∧ Hs g' w' all n) ∧ Below w.heap.size w w' := by
  obtain ⟨s, tl, h1, h2⟩ := h.ex
  refine (clone_any g s tl n w h1.hl h2).mono ?_
  rintro e w' ⟨⟨g', h3, h4, h5⟩, hb⟩
  exact ⟨⟨g', h3, h4, ⟨s, tl, h1, h5⟩⟩, hb⟩
theorem ag_ref {w0 w : World} {a : Option Addr} {len cap : Nat} {bs : List Int} (h : Ag w0 a len cap bs) (hb : Below w0.heap.size w0 w) (hm : len ≤ 140737488351232) :
    Calls Try.prog 11 #[.slice a len cap] w fun e w' => e = .returned (.agg (B8 (dref bs))) ∧ Below w.heap.size w w' :=
  rof_any a len cap bs w ((h.at hb).i.inB h.nil) h.b (by rw [h.l]; exact hm)
set_option maxHeartbeats 4000000 in
theorem lawClones (a1 a2 a3 : Option Addr) (l1 c1 l2 c2 l3 c3 : Nat) (b1 b2 b3 : List Int) (w : World) (A1 : Ag w a1 l1 c1 b1) (A2 : Ag w a2 l2 c2 b2) (A3 : Ag w a3 l3 c3 b3) (h1 : l1 ≤ 1048576) (h2 : l2 ≤ 1048576) (h3 : l3 ≤ 1048576) :
    Calls Try.prog 5 #[.slice a1 l1 c1, .slice a2 l2 c2, .slice a3 l3 c3] w fun e w' => e = .returned (.bool true) ∧ Below w.heap.size w w' := by
  go_enter Try.func5, Try.ntmps5
  go_wp2_with fail
  refine (hs_new w).mono ?_
  rintro e v1 ⟨⟨g, rfl, hg, H⟩, hb⟩
  go_wp2_with fail
  refine (alive_any v1).mono ?_
  rintro e v2 ⟨rfl, hb2⟩
  replace H := H.below hb2
  replace hb := hb.trans (hb2.mono hb.size)
  clear hb2
  go_wp2_with fail
  refine (hs_write g a1 l1 c1 0 [] b1 v2 H (A1.in2 hb hg) (by omega) A1.b).mono ?_
  rintro e v3 ⟨rfl, H3, t3⟩
  rw [List.nil_append, Nat.zero_add] at H3
  have hb3 := Touch.below hb t3 hg hb.size
  clear t3 H hb
  go_wp2_with fail
  refine (hs_clone g l1 b1 v3 H3).mono ?_
  rintro e v4 ⟨⟨k, rfl, hk, K4⟩, hb4⟩
  have H4 := H3.below hb4
  have hgk : g < k := Nat.lt_of_lt_of_le H3.lt hk
  have hk0 : w.heap.size ≤ k := by omega
  have hb5 := hb3.trans (hb4.mono hb3.size)
  clear H3 hb3 hb4 hk
  go_wp2_with fail
  refine (hs_write g a2 l2 c2 l1 b1 b2 v4 H4 (A2.in2 hb5 hg) (by omega) A2.b).mono ?_
  rintro e v5 ⟨rfl, H5, t5⟩
  have K5 := K4.touch t5 (by omega)
  have hb6 := Touch.below hb5 t5 hg hb5.size
  clear t5 H4 K4 hb5
  go_wp2_with fail
  refine (hs_write k a3 l3 c3 l1 b1 b3 v5 K5 (A3.in2 hb6 hk0) (by omega) A3.b).mono ?_
  rintro e v6 ⟨rfl, K6, t6⟩
  have H6 := H5.touch t6 (by omega)
  have hb7 := Touch.below hb6 t6 hk0 hb6.size
  clear t6 H5 K5 hb6
  have hz6 := hb7.size
  have Q1 := Hid.mk (A1.at (hb7.alloc hz6 (.cells #[] 5)))
  have N6 := OwnB.new v6
  go_wp2_with (first
    | (at_builtin; refine app_any rfl (.tmp 31) (.tmp 32) rfl v6.heap.size _ [] rfl N6 a1 l1 c1 b1 rfl Q1.out.i A1.nil A1.l (by simp; omega) (by simp) ?_; intro x1 v7 o7 hb8; rw [List.nil_append] at o7; have hb9 := ((Below.refl v6.heap.size v6).alloc (Nat.le_refl _) _).trans hb8; clear hb8; have hbw7 := hb7.trans (hb9.mono hz6); have hz7 := hb9.size)
    | (at_builtin; refine app_any rfl (.tmp 33) (.tmp 34) rfl v6.heap.size _ b1 rfl o7 a2 l2 c2 b2 rfl (A2.at hbw7).i A2.nil A2.l (by rw [A1.l]; omega) hz7 ?_; intro x2 v8 o8 hb10; have hb11 := hb9.trans hb10; clear hb10; have hbw8 := hb7.trans (hb11.mono hz6); have hz8 := hbw8.size; have Q2 := Hid.mk (A1.at (hbw8.alloc hz8 (.cells #[] 5))); have N8 := OwnB.new v8)
    | (at_builtin; refine app_any rfl (.tmp 36) (.tmp 37) rfl v8.heap.size _ [] rfl N8 a1 l1 c1 b1 rfl Q2.out.i A1.nil A1.l (by simp; omega) (by simp) ?_; intro y1 v9 o9 hb12; rw [List.nil_append] at o9; have hb13 := ((Below.refl v8.heap.size v8).alloc (Nat.le_refl _) _).trans hb12; clear hb12; have hbw9 := hbw8.trans (hb13.mono hz8); have hz9 := hb13.size)
    | (at_builtin; refine app_any rfl (.tmp 38) (.tmp 39) rfl v8.heap.size _ b1 rfl o9 a3 l3 c3 b3 rfl (A3.at hbw9).i A3.nil A3.l (by rw [A1.l]; omega) hz9 ?_; intro y2 v10 o10 hb14; have hb15 := hb13.trans hb14; clear hb14; have hbw10 := hbw8.trans (hb15.mono hz8)))
  have H8 := (H6.below hb11).below hb15
  have K8 := (K6.below hb11).below hb15
  obtain ⟨xa, xc, hxv, X⟩ := o8.ag (mem_app A1.b A2.b)
  obtain ⟨ya, yc, hyv, Y⟩ := o10.ag (mem_app A1.b A3.b)
  have X10 := X.at hb15
  have lx : (b1 ++ b2).length = l1 + l2 := by rw [List.length_append, A1.l, A2.l]
  have ly : (b1 ++ b3).length = l1 + l3 := by rw [List.length_append, A1.l, A3.l]
  rw [lx] at hxv X10
  rw [ly] at hyv Y
  rw [hxv, hyv]
  clear o8 o10 o7 o9 N6 N8 Q1 Q2 hb9 hb11 hb13 hb15 hbw7 hbw8 hbw9 H6 K6 X hxv hyv A1 A2 A3 hb7 hz6 hz7 hz8 hz9 lx ly
  have q1 : ∀ x, (Op.equalIn 10000 24 (.agg (B8 (dref (b1 ++ b2)))) (.agg (B8 (dref (b1 ++ b2))))).run Try.prog x = .ok true x := fun x => by rw [eq24 _ _ (dref_len _) (dref_len _)]; simp
  have q2 : ∀ x, (Op.equalIn 10000 24 (.agg (B8 (dref (b1 ++ b3)))) (.agg (B8 (dref (b1 ++ b3))))).run Try.prog x = .ok true x := fun x => by rw [eq24 _ _ (dref_len _) (dref_len _)]; simp
  have hsz := hbw10.size
  refine (hs_sum g _ _ v10 H8 (by omega)).mono ?_
  rintro e v11 ⟨rfl, k11⟩
  go_wp2_with fail
  refine (ag_ref X10 k11 (by omega)).mono ?_
  rintro e v12 ⟨rfl, k12⟩
  have k13 := k11.trans (k12.mono k11.size)
  clear k11 k12
  go_wp2_with fail
  refine (hs_sum k _ _ v12 (K8.below k13) (by omega)).mono ?_
  rintro e v13 ⟨rfl, k14⟩
  have k15 := k13.trans (k14.mono k13.size)
  clear k13 k14
  go_wp2_with fail
  refine (ag_ref Y k15 (by omega)).mono ?_
  rintro e v14 ⟨rfl, k16⟩
  have k17 := k15.trans (k16.mono k15.size)
  clear k15 k16
  go_wp2_with fail
  refine (hs_len g _ _ v14 (H8.below k17)).mono ?_
  rintro e v15 ⟨rfl, rfl⟩
  go_wp2_with fail
  refine (hs_len k _ _ _ (K8.below k17)).mono ?_
  rintro e v16 ⟨rfl, rfl⟩
  go_wp2_with fail
  go_ret
  exact ⟨rfl, hbw10.trans (k17.mono hsz)⟩
end Go.Proofs.Ytcbjjndhecehcaa
