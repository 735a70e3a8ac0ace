/- What EmptyRoot and EmptyCode answer, the program's and the document's. -/
import Derived.Test.YtdkpilgelgjieaaG17
import Derived.Test.YtdkpilgelgjieaaG18
import Derived.Test.YtdkpilgelgjieaaG06
import Derived.Lib.SlBytesConst
import Derived.Maps.AppendAt
import Derived.Deep.DeepAppendWide
namespace Go.Proofs.Ytdkpilgelgjieaa
open Go.RowKit
open Di (dref)
set_option linter.unusedVariables false
set_option maxRecDepth 100000
theorem z8_size {ds : List Int} (h : ds.length = 32) : (B8 z32).size = (B8 ds).size := by rw [B8_size, B8_size, h]; rfl
theorem infoD' {ds : List Int} (h : ds.length = 32) : (Try.prog.info? 24).map (·.size) = some (B8 ds).size := by rw [infoD, B8_size, h]
theorem B8_one (bs : List Int) : (B8 bs).all (·.oneCell') = true := all_oneCell_toArray (B8_one2 bs)
theorem enc_t0 : encP t0 = ([128], 0) := by decide +kernel
set_option maxHeartbeats 2000000 in
theorem emptyRoot_any (w : World) : Calls Try.prog 16 #[] w fun e w' => e = .returned (.agg (B8 (dref [128]))) ∧ Below w.heap.size w w' := by
  have HDL := Hid.mk (dref_len [128])
  have HOF := Hid.mk (fun (v : World) (a : Option Addr) (c : Nat) (h : Ag v a 1 c [128]) => dof_any a 1 c [128] v h (by omega))
  obtain ⟨ds, hds⟩ : ∃ ds, dref [128] = ds := ⟨_, rfl⟩
  rw [hds] at HOF HDL ⊢
  clear hds
  have HTX := Hid.mk (fun v => text_any none 0 0 [] v ⟨.inl ⟨rfl, rfl⟩, fun _ => ⟨rfl, rfl⟩, rfl, fun x hx => by cases hx⟩ (by omega))
  go_enter Try.func16, Try.ntmps16
  go_upto_region 1 with fail
  refine gen_w (p := fun v => Code.wp _ _ _ _ v) (q := fun v => v.heap[w.heap.size]? = some (.cells (B8 z32) 24) ∧ Below w.heap.size w v) ⟨heap_alloc_new _ _, below_new _ _⟩ ?_
  rintro v ⟨hrow, hb⟩
  have HROW := Hid.mk hrow
  have HB := Hid.mk hb
  clear hrow hb
  go_wp2_with fail
  refine (HTX.out v).mono ?_
  rintro e w1 ⟨rfl, hr1, hb1⟩
  have hlies := liesP_lies _ _ (liesP_txt (P := fun _ => True) (n := 0) hr1 rfl (fun x hx => by cases hx) (by omega) trivial)
  have hen := encode_own (.mk false [] []) ⟨false, some ⟨v.heap.size + 1, 0, none⟩, 0, 0, none, 0, 0⟩ w1 hlies
  rw [show encP (.mk false [] []) = ([128], 0) from enc_t0] at hen
  have HEN := Hid.mk hen
  have HB1 := Hid.mk (below_go HB.out hb1)
  have HR1 := Hid.mk (Below.row hb1 HROW.out)
  clear hr1 hb1 hlies hen HROW HB
  go_wp2_with fail
  refine HEN.out.mono ?_
  rintro e w2 ⟨⟨a, m, c, rfl, hag, -⟩, hb2⟩
  have hm : m = 1 := hag.l.symm
  subst hm
  have HO2 := Hid.mk (HOF.out w2 a c hag)
  have HB2 := Hid.mk (below_go HB1.out hb2)
  have HR2 := Hid.mk (Below.row hb2 HR1.out)
  clear hag hb2
  go_wp2_with fail
  refine HO2.out.mono ?_
  rintro e w3 ⟨rfl, hb3⟩
  have HR3 := Hid.mk (Below.row hb3 HR2.out)
  have HB3 := Hid.mk (below_go HB2.out hb3)
  clear hb3
  go_wp2_with (first | refine wpList_store_row rfl 24 _ _ rfl _ (B8 ds) rfl rfl 24 _ HR3.out (infoD' HDL.out) (z8_size HDL.out) (B8_one _) ?_)
  refine bodyPost_ret (results_cell_row Try.results16 _ _ w.heap.size 24 (B8 ds) (0, 0) _ rfl (setRow_heap _ _ _ _ _ _ HR3.out) Try.underlying24 rfl (infoD' HDL.out)) rfl ?_
  exact ⟨rfl, Below.setRow HB3.out (Nat.le_refl _) _⟩
end Go.Proofs.Ytdkpilgelgjieaa
/- An empty trie's root; what is done ahead of the statements. -/
namespace Go.Proofs.Ytdkpilgelgjieaa
open Go.RowKit
open Tr
open Di (dref)
set_option linter.unusedVariables false
set_option maxRecDepth 100000
theorem results_d {fn : Func} {p : Tmp} {f : Nat → Value} (h : fn.results = #[.cell p 24]) (w : World) (g : Nat) (ds : List Int) (hl : ds.length = 32) (hp : f p = .pointer (some ⟨g, 0, none⟩)) (hg : Rw g w (B8 ds) 24) : (resF f fn.results).run Try.prog w = .ok (.agg (B8 ds)) w := by
  have := run_loadVar_row (P := Try.prog) w g 24 24 _ _ _ hg Try.underlying24 rfl (infoD' hl)
  unfold resF
  rw [h]
  simp [hp, this, asAddr]
theorem ol_eqD {ρ : Operand → Value} {w : World} {x y : Operand} {o : Oper} {ds : List Int} (ho : o.op = .binOp .eql 24 x y 24) (hx : ρ x = .agg (B8 ds)) (hy : ρ y = .agg (B8 ds)) (hl : ds.length = 32) : (execOp ρ o).run Try.prog w = .ok (.value (.bool true)) w := by
  have e := eqD ds ds hl hl w
  simp at e
  unfold execOp
  rw [ho]
  simp only [hx, hy]
  go_simp
/-- '[]byte("a")' -/
theorem const_a {w1 w2 : World} {g : Nat} {x : Int} (hx : 0 ≤ x ∧ x < 256) (hn : New w1 w2 g #[.int .u8 x] 5) {K : Nat → Prop} (hK : ∀ b, w1.heap.size ≤ b → K b) : ∃ w3, (∀ (ρ : Operand → Value) (o : Oper) (y : Operand), o.op = .convert 29 29 y → ρ y = .slice (some ⟨g, 0, none⟩) 1 1 → (execOp ρ o).run Try.prog w2 = .ok (.value (.slice (some ⟨g, 0, none⟩) 1 1)) w3) ∧ Below w1.heap.size w1 w3 ∧ Sk K w3 (some ⟨g, 0, none⟩) 1 1 [x] := by
  obtain ⟨rfl, rfl⟩ := hn
  refine ⟨w1.alloc (.cells #[.int .u8 x] 5 (1, 2)), ?_, (Below.refl _ _).alloc (Nat.le_refl _) _, ?_⟩
  · intro ρ o y ho hy
    have := Lib.run_convert_bytes_const (P := Try.prog) w1 29 5 #[.int .u8 x] 1 1 Try.underlying29 Try.underlying5
    unfold execOp
    simp only [ho, hy, Sem.run_bind, this, Result.andThen_ok, Sem.run_pure]
    rfl
  · refine ⟨⟨.inr ⟨w1.heap.size, 0, rfl, rfl, by omega, by omega, by unfold maxLen; omega, fun j hj => ?_⟩, (fun e => by cases e), rfl, fun y hy => by rw [List.mem_singleton.1 hy]; exact hx⟩, fun y hy _ => ?_⟩
    · have : j = 0 := by simpa using hj
      subst this
      rw [cell_of_row _ _ _ _ _ _ (heap_alloc_new w1 _)]; rfl
    · cases hy
      exact hK _ (Nat.le_refl _)
/-- What a Put does to the tree, what it answers. -/
def putT (t : Tr) (k x : List Int) : Tr := if k.length ≤ 32 ∧ 0 < x.length ∧ x.length ≤ 256 then put t (Ni.nib k) x else t
end Go.Proofs.Ytdkpilgelgjieaa
/- What is old; what a block that is written over leaves alone. -/
namespace Go.Proofs.Ytdkpilgelgjieaa
open Go.RowKit
open Tr
set_option linter.unusedVariables false
set_option maxRecDepth 100000
end Go.Proofs.Ytdkpilgelgjieaa
/- An append onto a row of one's own, up to the greatest that the machine grants: where its result lies. -/
namespace Go.Proofs.Ytdkpilgelgjieaa
open Go.RowKit
set_option linter.unusedVariables false
end Go.Proofs.Ytdkpilgelgjieaa
