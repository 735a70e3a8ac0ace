/- The statement's step: List; every kind. -/
import Derived.Test.YtjpcfdhkgfaeeaaG15
import Derived.Test.YtjpcfdhkgfaeeaaG16
import Derived.Test.YtjpcfdhkgfaeeaaG17
import Derived.Test.YtjpcfdhkgfaeeaaG21
import Derived.Test.YtjpcfdhkgfaeeaaG14
import Derived.Test.YtjpcfdhkgfaeeaaG00
import Derived.ProofKit
import Derived.OpenShut
import Derived.ShutString
import Derived.ChangeOld
import Derived.SizedLaws
namespace Go.Proofs.Ytjpcfdhkgfaeeaa
open Go.RowKit
set_option linter.unusedVariables false
set_option maxRecDepth 100000
set_option maxHeartbeats 4000000 in
theorem step3_any {w : World} {g m : Nat} {most : Int} {L : List Th} {a : Option Addr} {n c : Nat} (h : Sto w g m most L) (hl : Ls w a n c L) (hv0 : Iv L) (x : Cl) (k0 : x.k = 3) (hd : x.d.length = 32) (hn : n ≤ 2199023255549) :
    Calls Try.prog 11 #[.pointer (some ⟨g, 0, none⟩), .agg #[.int .i64 most, .slice a n c], .agg x.cells.toArray] w fun e w' => e = .returned (.tuple #[.agg #[.int .i64 most, .slice a n c], .bool true]) ∧ Sto w' g m most L ∧ Ls w' a n c L ∧ Below w.heap.size w w' := by
  have hlt := h.lts
  have hll : L.length ≤ 2199023255549 := by rw [← hl.l]; exact hn
  refine cw_enter Try.func11 rfl 140 rfl ?_
  show CW _ _ _ _ _ _ _ [(0, .pointer (some ⟨g, 0, none⟩)), (1, .agg #[.int .i64 most, .slice a n c]), (2, .agg x.cells.toArray)] _
  refine cw_seq ?_
  refine cw_region ?_
  refine rw_new 4 (#[.int .i64 most, .slice a n c]) 28 (fun _ => by kernel_rfl) (fun _ => by kernel_rfl) ?_
  intro w1 g2 hn3
  refine rw_new 5 x.cells.toArray 32 (fun _ => by kernel_rfl) (fun _ => by kernel_rfl) ?_
  intro w4 g5 hn6
  refine rw_new 6 (#[.int .i64 0, .slice none 0 0]) 28 (fun _ => by kernel_rfl) (fun _ => by kernel_rfl) ?_
  intro w7 g8 hn9
  refine rw_p 7 (.bool false) (fun _ => by kernel_rfl) (fun _ => by kernel_rfl) ?_
  refine rw_nil ?_
  have hP : Sp w w7 g m most L a n c x := by rw [hn9.hw, hn6.hw, hn3.hw]; exact sp_new h hl x
  obtain rfl : g2 = w.heap.size := hn3.hg
  obtain rfl : g5 = w.heap.size + 1 := by rw [hn6.hg, hn3.size]
  obtain rfl : g8 = w.heap.size + 2 := by rw [hn9.hg, hn6.size]
  clear hn9 hn6 hn3
  refine nw_sub [(6, .pointer (some ⟨w.heap.size + 2, 0, none⟩)), (5, .pointer (some ⟨w.heap.size + 1, 0, none⟩)), (4, .pointer (some ⟨w.heap.size, 0, none⟩)), (0, .pointer (some ⟨g, 0, none⟩))] (by exact ⟨fun _ => by kernel_rfl, ⟨fun _ => by kernel_rfl, ⟨fun _ => by kernel_rfl, ⟨fun _ => by kernel_rfl, trivial⟩⟩⟩⟩) ?_
  replace hP := hP.sr
  refine nw_then ?_
  refine cw_seq ?_
  refine cw_seq ?_
  refine cw_region ?_
  refine rw_p 22 (.pointer (some ⟨w.heap.size + 1, 0, none⟩)) (fun _ => by kernel_rfl) (fun _ => by kernel_rfl) ?_
  refine rw_p 23 (.int .i64 3) (fun _ => by kernel_rfl) (fun _ => ol_cell 3 _ _ _ _ rfl (by kernel_rfl) (by rw [hP.cb.c0, k0]) Try.underlying3 rfl) ?_
  refine rw_nil ?_
  refine nw_then ?_
  refine cw_block ?_
  refine cw_seq ?_
  refine cw_region ?_
  refine rw_p 25 (.bool false) (fun _ => by kernel_rfl) (fun _ => by kernel_rfl) ?_
  refine rw_p 24 (.bool false) (fun _ => by kernel_rfl) (fun _ => by kernel_rfl) ?_
  refine rw_nil ?_
  refine nw_then ?_
  refine cw_cond_f (fun _ => by kernel_rfl) ?_
  refine cw_seq ?_
  refine cw_region ?_
  refine rw_p 51 (.bool false) (fun _ => by kernel_rfl) (fun _ => by kernel_rfl) ?_
  refine rw_p 50 (.bool false) (fun _ => by kernel_rfl) (fun _ => by kernel_rfl) ?_
  refine rw_nil ?_
  refine nw_then ?_
  refine cw_cond_f (fun _ => by kernel_rfl) ?_
  refine cw_seq ?_
  refine cw_region ?_
  refine rw_p 77 (.bool false) (fun _ => by kernel_rfl) (fun _ => by kernel_rfl) ?_
  refine rw_p 76 (.bool false) (fun _ => by kernel_rfl) (fun _ => by kernel_rfl) ?_
  refine rw_nil ?_
  refine nw_then ?_
  refine cw_cond_f (fun _ => by kernel_rfl) ?_
  refine cw_seq ?_
  refine cw_region ?_
  refine rw_p 126 (.bool true) (fun _ => by kernel_rfl) (fun _ => by kernel_rfl) ?_
  refine rw_p 125 (.bool true) (fun _ => by kernel_rfl) (fun _ => by kernel_rfl) ?_
  refine rw_nil ?_
  refine nw_then ?_
  refine cw_cond_t (fun _ => by kernel_rfl) ?_
  refine cw_seq ?_
  refine cw_draw (fun v => Sr w v g m most L a n c x) (by kernel_rfl) (hP.drew) ?_
  refine dw_take 0 127 (.agg #[.int .i64 most, .slice a n c]) rfl (by kernel_rfl) (fun _ _ _ h => h) (fun _ => by kernel_rfl) (fun v hv _ => ol_row 28 _ _ _ _ _ _ rfl (by kernel_rfl) hv.sb Try.underlying28 rfl (by kernel_rfl)) hP.drew ?_
  refine dw_take 1 128 (.pointer (some ⟨g, 0, none⟩)) rfl (by kernel_rfl) (fun _ _ _ h => h) (fun _ => by kernel_rfl) (fun v hv _ => by kernel_rfl) hP.drew ?_
  refine dw_take 3 130 (.agg #[.int .i64 most, .slice a n c]) rfl (by kernel_rfl) (fun _ _ _ h => h) (fun _ => by kernel_rfl) (fun v hv _ => ol_row 28 _ _ _ _ _ _ rfl (by kernel_rfl) hv.sb Try.underlying28 rfl (by kernel_rfl)) hP.drew ?_
  refine dw_ready [2] (by kernel_rfl) (by simp) ?_
  refine ar_call 2 129 13 #[.pointer (some ⟨g, 0, none⟩)] rfl (fun _ => by kernel_rfl) (fun _ => by kernel_rfl) (R := fun val w' => (∃ a1 n1 c1 M1, val = .slice a1 n1 c1 ∧ Ds w' a1 n1 c1 M1 ∧ Srt M1 ∧ M1.Perm (L.map Th.d)) ∧ Below (w7.drew).heap.size (w7.drew) w') ((list_any hP.drew.st hv0 hll).mono (fun e w' h => by obtain ⟨⟨a1, n1, c1, M1, rfl, h⟩, hb⟩ := h; exact ⟨_, rfl, ⟨a1, n1, c1, M1, rfl, h⟩, hb⟩)) (fun val w' h => hP.drew.go h.2) ?_ ar_nil
  rintro val u10 ⟨⟨a1, n1, c1, M1, rfl, hd1, hs1, hp1⟩, hb11⟩
  have Su10 := hP.drew.go hb11
  refine dw_ready [4] (by kernel_rfl) (by simp) ?_
  refine ar_call 4 131 14 #[.agg #[.int .i64 most, .slice a n c]] rfl (fun _ => by kernel_rfl) (fun _ => by kernel_rfl) (R := fun val w' => (∃ a2 n2 c2 M2, val = .slice a2 n2 c2 ∧ Ds w' a2 n2 c2 M2 ∧ Srt M2 ∧ M2.Perm (L.map Th.d)) ∧ Below (u10).heap.size (u10) w') ((rlist_any most a n c L (u10) Su10.ls hv0.nd hn).mono (fun e w' h => by obtain ⟨⟨a1, n1, c1, M1, rfl, h⟩, hb⟩ := h; exact ⟨_, rfl, ⟨a1, n1, c1, M1, rfl, h⟩, hb⟩)) (fun val w' h => Su10.go h.2) ?_ ar_nil
  rintro val u12 ⟨⟨a2, n2, c2, M2, rfl, hd2, hs2, hp2⟩, hb13⟩
  have Su12 := Su10.go hb13
  replace hd1 := hd1.go hb13
  obtain rfl : M1 = M2 := srt_eq hs1 hs2 (hp1.trans hp2.symm)
  refine dw_ready [5] (by kernel_rfl) (by simp) ?_
  refine ar_call 5 132 12 #[.slice a1 n1 c1, .slice a2 n2 c2] rfl (fun _ => by kernel_rfl) (fun _ => by kernel_rfl) (R := fun val w' => val = .bool true ∧ Below (u12).heap.size (u12) w') ((same_any hd1 hd2).mono (fun e w' h => ⟨_, h.1, by simp, h.2⟩)) (fun val w' h => Su12.go h.2) ?_ ar_nil
  rintro val u14 ⟨rfl, hb15⟩
  have Su14 := Su12.go hb15
  refine dw_ready [6] (by kernel_rfl) (by simp) ?_
  refine ar_put 6 (w.heap.size + 2) (#[.int .i64 most, .slice a n c]) rfl (fun _ => by kernel_rfl) (fun _ => Su14.store _ _ rfl (by kernel_rfl) (by kernel_rfl)) (fun w' h => (Su14.put hlt h).1) ?_ ar_nil
  intro w16 hp17
  have hE := Su14.put hlt hp17
  refine dw_take 7 7 (.bool true) rfl (by kernel_rfl) (fun _ _ _ h => h) (fun _ => by kernel_rfl) (fun v hv _ => by kernel_rfl) hE.1 ?_
  refine dw_done (by kernel_rfl) ?_
  refine nw_then ?_
  refine cw_ret ?_
  refine nw_ret_block ?_
  refine nw_ret_then ?_
  exact nw_ret_body (.tuple #[.agg #[.int .i64 most, .slice a n c], .bool true]) (fun _ => results_s1' Try.results11 _ _ (w.heap.size + 2) most _ n c rfl hE.2) ⟨rfl, hE.1.st, hE.1.ls, hE.1.bel⟩
/-- What a call leaves of the list of things. -/
def stepL (most : Int) (x : Cl) (L : List Th) : List Th := if x.k = 0 then (putP most x.s L).1 else if x.k = 1 then (dropT x.nm L).1 else L
theorem stepL_iv {most : Int} {x : Cl} {L : List Th} (h : Iv L) (hd : x.d.length = 32) (hs : x.s.size ≤ 140737488351232) : Iv (stepL most x L) := by
  unfold stepL
  split
  · exact h.putP most hs
  · split
    · exact h.dropT (Cl.nml hd)
    · exact h
theorem stepL_len (most : Int) (x : Cl) (L : List Th) : (stepL most x L).length ≤ L.length + 1 := by
  unfold stepL
  split
  · exact putP_length _ _ _
  · split
    · have := dropT_length x.nm L; omega
    · omega
theorem step_any {w : World} {g m : Nat} {most : Int} {L : List Th} {a : Option Addr} {n c : Nat} (h : Sto w g m most L) (hl : Ls w a n c L) (hv : Iv L) (x : Cl) (hd : x.d.length = 32) (hs : x.s.size ≤ 140737488351232) (hn : n ≤ 2199023255549) :
    Calls Try.prog 11 #[.pointer (some ⟨g, 0, none⟩), .agg #[.int .i64 most, .slice a n c], .agg x.cells.toArray] w fun e w' => (∃ a' n' c', e = .returned (.tuple #[.agg #[.int .i64 most, .slice a' n' c'], .bool true]) ∧ Ls w' a' n' c' (stepL most x L)) ∧ Sto w' g m most (stepL most x L) ∧ Touch m w w' := by
  unfold stepL
  by_cases k0 : x.k = 0
  · rw [if_pos k0]
    exact step0_any h hl hv x k0 hs hn
  rw [if_neg k0]
  by_cases k1 : x.k = 1
  · rw [if_pos k1]
    exact step1_any h hl hv x k1 hd hs hn
  rw [if_neg k1]
  by_cases k2 : x.k = 2
  · exact (step2_any h hl hv x k2 hd hs hn).mono fun e w' q => ⟨⟨a, n, c, q.1, q.2.2.1⟩, q.2.1, Touch.of_below q.2.2.2⟩
  by_cases k3 : x.k = 3
  · exact (step3_any h hl hv x k3 hd hn).mono fun e w' q => ⟨⟨a, n, c, q.1, q.2.2.1⟩, q.2.1, Touch.of_below q.2.2.2⟩
  · exact (step4_any h hl x k0 k1 k2 k3).mono fun e w' q => ⟨⟨a, n, c, q.1, q.2.2.1⟩, q.2.1, Touch.of_below q.2.2.2⟩
end Go.Proofs.Ytjpcfdhkgfaeeaa
/- How a slice of bytes that is handed in reads as data: nil, or a row of bytes that takes no more than the form's own reach. -/
namespace Go.Proofs.Ytjpcfdhkgfaeeaa
open Go.ChangeShapes Go.WideShapes Go.ChangeAt Go.RowKit
open Go.ChangeMaps (open_string shut_string)
set_option linter.unusedVariables false
set_option maxRecDepth 100000
theorem own : ownKnob Try.prog.godebug = none := by kernel_rfl
theorem laidOut : laidOutB Try.prog = true := by kernel_rfl
theorem cells5 : Try.prog.cellsOf 5 = 1 := by kernel_rfl
theorem bytes5 : Try.prog.bytesOf 5 = 1 := by kernel_rfl
/-- A slice of bytes that came in, opened: its bytes; it takes no more than the reach. -/
theorem open_bytes {H : Type} {enc : TypeId × Value → H} {w : World} {base b0 : Nat} {r : Reach} {held : Bool} {v : Value} {d : DataW H} {p : List MemPlace}
    (hv : Value.okWide Try.prog w r b0 54 v) (h : DataW.Trod enc Try.prog w base (fun _ => true) held 54 v d p)
    (hsz : ∀ elems spare, d = .slice elems spare → (elems.length + spare.length) * Try.prog.bytesOf 5 ≤ reachBytes) :
    ∃ a len cap bs, v = .slice a len cap ∧ In0 w a len cap bs ∧ (a = none → len = 0 ∧ cap = 0) ∧ bs.length = len ∧ (∀ x ∈ bs, 0 ≤ x ∧ x < 256) ∧ len ≤ 140737488351232 := by
  obtain ⟨a, len, cap, rfl⟩ := okWide_slice Try.underlying54 hv
  obtain ⟨fuel, hf⟩ := h
  rcases open_ints Try.underlying54 Try.underlying5 cells5 hf with ⟨hcs, _⟩ | ⟨x, l, c, zs, hcs, _, hl, hm, hz, hx, hcell, hwz⟩
  · simp [Value.cells] at hcs
    obtain ⟨rfl, rfl, rfl⟩ := hcs
    exact ⟨none, 0, 0, [], rfl, .inl ⟨rfl, rfl⟩, fun _ => ⟨rfl, rfl⟩, rfl, (fun x hx => by cases hx), by omega⟩
  · simp [Value.cells] at hcs
    obtain ⟨rfl, rfl, rfl⟩ := hcs
    have hz2 : zs.length = cap := by simpa using hz
    have hsz2 := hsz _ _ (Prod.mk.inj hx).1
    rw [bytes5] at hsz2
    simp only [lits, List.length_map, List.length_take, List.length_drop, reachBytes] at hsz2
    have hlen : (zs.take len).length = len := by rw [List.length_take]; omega
    have hbd : ∀ n ∈ zs.take len, 0 ≤ n ∧ n < 256 := fun n hn => by
      have := bounds_u8 (hwz n (List.mem_of_mem_take hn))
      omega
    refine ⟨some x, len, cap, zs.take len, rfl, ?_, (fun h => by cases h), hlen, hbd, by omega⟩
    by_cases h0 : len = 0
    · subst h0
      exact .inl ⟨rfl, by simp⟩
    · obtain ⟨b, off, spot⟩ := x
      have hc := hcell 0 (by omega)
      have hspot : spot = none := by simpa [Addr.add] using World.cell?_spot hc
      subst hspot
      refine .inr ⟨b, off, rfl, hlen, by omega, hl, hm, fun j hj => ?_⟩
      rw [hlen] at hj
      have := hcell j (by omega)
      rw [addr_add] at this
      rw [this, List.getD, List.getD, List.getElem?_take_of_lt hj]
theorem open_ag {H : Type} {enc : TypeId × Value → H} {w : World} {base b0 : Nat} {r : Reach} {held : Bool} {v : Value} {d : DataW H} {p : List MemPlace}
    (hv : Value.okWide Try.prog w r b0 54 v) (h : DataW.Trod enc Try.prog w base (fun _ => true) held 54 v d p)
    (hsz : ∀ elems spare, d = .slice elems spare → (elems.length + spare.length) * Try.prog.bytesOf 5 ≤ reachBytes) :
    ∃ a len cap bs, v = .slice a len cap ∧ Ag w a len cap bs ∧ len ≤ 140737488351232 := by
  obtain ⟨a, len, cap, bs, h1, h2, h3, h4, h5, h6⟩ := open_bytes hv h hsz
  exact ⟨a, len, cap, bs, h1, ⟨h2, h3, h4, h5⟩, h6⟩
end Go.Proofs.Ytjpcfdhkgfaeeaa
