/- What the document's rot, word and Padded (pergolaref01) answer, for every input of at most 2^47 - 4096 bytes. -/
import Derived.Test.YtjpcfdhkgfaeeaaG04
import Derived.Laws.CopyOwn
import Derived.Laws.AppendOwnNone
namespace Go.Proofs.Ytjpcfdhkgfaeeaa.Di
set_option maxRecDepth 100000
open Go.RowKit
set_option maxHeartbeats 400000 in
theorem rrot (x k : Int) (w : World) (hk0 : 0 ≤ k) (hk1 : k < 64) :
    Calls Try.prog 35 #[.int .u64 x, .int .i64 k] w fun e w' => e = .returned (.int .u64 (rotl x k)) ∧ ∃ n, w' = w.drewN n := by
  go_enter Try.func35, Try.ntmps35
  go_wp2_with fail
  go_quiet (fail)
  go_wp2
  go_ret
  exact ⟨rfl, _, rfl⟩
/-- The word of k bytes from a place on. -/
def wd (bs : List Int) (at_ : Nat) : Nat → Int
  | 0 => 0
  | k + 1 => or8 (wd bs at_ k) (bs.getD (at_ + k) 0)
theorem or8_sum (m b : Int) : IntKind.u64.wrap (IntKind.u64.wrap (m * 256) + b) = or8 m b := by
  unfold or8 wr
  simp only [IntKind.wrap_u64]
  omega
theorem ret_int {k : IntKind} {a b : Int} (h : a = b) : Ending.returned (.int k a) = .returned (.int k b) := by rw [h]
set_option maxHeartbeats 400000 in
theorem word_any (g len cap at_ : Nat) (bs : List Int) (w : World) (hlen : at_ + 8 ≤ len) (hm : len ≤ maxLen)
    (hc : ∀ k, k < 8 → w.cell? ⟨g, at_ + k, none⟩ = some (.int .u8 (bs.getD (at_ + k) 0))) (hb : ∀ k, k < 8 → 0 ≤ bs.getD (at_ + k) 0 ∧ bs.getD (at_ + k) 0 < 256) :
    Calls Try.prog 34 #[.slice (some ⟨g, 0, none⟩) len cap, .int .i64 at_] w fun e w' => e = .returned (.int .u64 (wd bs at_ 8)) ∧ w' = w := by
  unfold maxLen at hm
  have HC := Hid.mk hc
  have HB := Hid.mk hb
  clear hc hb
  go_enter Try.func34, Try.ntmps34
  go_wp2_with fail
  go_loop [5, 6] (fun v i => ∃ k : Nat, k ≤ 8 ∧ i = .int .i64 k ∧ v = .int .u64 (wd bs at_ k)) (fun _ i => 8 - (intOf i).toNat)
  case atStart => exact ⟨0, by omega, rfl, rfl⟩
  case round =>
    obtain ⟨k, hk, rfl, rfl⟩ := hrel
    by_cases hlt : k < 8
    · have hcell := HC.out k hlt
      have hbd := HB.out k hlt
      have HS : Hid (wd bs at_ (k + 1) = or8 (wd bs at_ k) (bs.getD (at_ + k) 0)) := rfl
      generalize bs.getD (at_ + k) 0 = b at hcell hbd HS
      obtain ⟨hb0, hb1⟩ := hbd
      generalize wd bs at_ k = m at HS
      have hidx : (at_ : Int) + k < len := by omega
      have hfit : ((at_ : Int) + k).toNat = at_ + k := by omega
      go_wp2
      go_round
      case rel => exact ⟨k + 1, by omega, by go_num, by rw [HS.out, or8_sum]⟩
      case measure => simp [intOf]; omega
    · have hk2 : k = 8 := by omega
      subst hk2
      go_wp2
      go_ret
      exact ⟨rfl, rfl⟩
theorem B8_one2 (bs : List Int) : ∀ v ∈ bs.map (Value.int .u8), v.oneCell' = true := by
  intro v hv
  obtain ⟨x, _, rfl⟩ := List.mem_map.1 hv
  rfl
/-- A slice of bytes of the call's own, from block 'base' on. -/
def OwnB (w : World) (base : Nat) (v : Value) (bs : List Int) : Prop := w.ownsRow base 5 1 v bs.length (bs.map (Value.int .u8))
theorem info5 : ∃ i, Try.prog.info? 5 = some i ∧ i.zero = some (.int .u8 0) ∧ i.size = 1 ∧ i.bytes = 1 := by
  have h : (Try.prog.info? 5).map (fun i => (i.zero, i.size, i.bytes)) = some (some (.int .u8 0), 1, 1) := by kernel_rfl
  cases hq : Try.prog.info? 5 with
  | none => rw [hq] at h; simp at h
  | some i => rw [hq] at h; simp at h; exact ⟨i, rfl, h.1, h.2.1, h.2.2⟩
theorem app_own {w : World} {ops : Array Oper} {rest : List Oper} {o : Oper} {a : Act} {Q : Exit → Act → World → Prop} (hgd : o.guard = none) (s x : Operand)
    (ho : o.op = .call { callee := .builtin .append, args := #[s, x], argTypes := #[54, 54] }) (base : Nat) (v : Value) (bs : List Int) (hs : a.eval s = v) (hown : OwnB w base v bs)
    (ad : Addr) (m c : Nat) (news : List Int) (hx : a.eval x = .slice (some ad) m c) (hl : news.length = m) (hnews : ∀ j u, (news.map (Value.int .u8))[j]? = some u → w.cell? (ad.add j) = some u)
    (hbytes : bs.length + m ≤ 140737488355328) (hbase : base ≤ w.heap.size)
    (h : ∀ v' w', OwnB w' base v' (bs ++ news) → w.grownBy w' v.ownBlock → (v' = .slice none 0 0 ↔ v = .slice none 0 0 ∧ m = 0) → wpList Try.prog ops Q rest (a.put o.dst v') w') : wpList Try.prog ops Q (o :: rest) a w := by
  obtain ⟨i, hi, hz, hsz, hby⟩ := info5
  refine wpList_append_own w hgd s x 54 ho base 5 i (.int .u8 0) 1 1 Try.underlying54 hi hz hsz hby rfl (by decide) v bs.length (bs.map (Value.int .u8)) hs hown ad m c (news.map (Value.int .u8)) hx (by simpa using hl) hnews (B8_one2 _) (by unfold maxLen; omega) (by omega) hbase ?_
  intro v' w' h1 h2 h3
  refine h v' w' ?_ h2 h3
  unfold OwnB
  rw [List.length_append, hl, List.map_append]
  exact h1
theorem app_none {w : World} {ops : Array Oper} {rest : List Oper} {o : Oper} {a : Act} {Q : Exit → Act → World → Prop} (hgd : o.guard = none) (s x : Operand)
    (ho : o.op = .call { callee := .builtin .append, args := #[s, x], argTypes := #[54, 54] }) (base : Nat) (v : Value) (bs : List Int) (hs : a.eval s = v) (hown : OwnB w base v bs)
    (hx : a.eval x = .slice none 0 0) (h : wpList Try.prog ops Q rest (a.put o.dst v) w) : wpList Try.prog ops Q (o :: rest) a w := by
  obtain ⟨i, hi, _, _, _⟩ := info5
  exact wpList_append_own_none hgd s x 54 ho base 5 i 1 Try.underlying54 hi v bs.length _ hs hown hx h
/-- Bytes that came in: nil, or a row of cells. -/
def InB (w : World) (a : Option Addr) (len cap : Nat) (bs : List Int) : Prop :=
  (a = none ∧ len = 0 ∧ cap = 0 ∧ bs = []) ∨ ∃ ad, a = some ad ∧ bs.length = len ∧ ∀ j u, (bs.map (Value.int .u8))[j]? = some u → w.cell? (ad.add j) = some u
def zc (n : Nat) : Nat := (55 - n % 32) % 32
def len8 (n : Nat) (k : Nat) : List Int := (List.range k).map fun i => (n : Int) / 2 ^ (56 - 8 * i) % 256
def padded (bs : List Int) : List Int := bs ++ [128] ++ List.replicate (zc bs.length) 0 ++ len8 bs.length 8
theorem len8_length (n k : Nat) : (len8 n k).length = k := by simp [len8]
theorem len8_succ (n k : Nat) : len8 n k ++ [(n : Int) / 2 ^ (56 - 8 * k) % 256] = len8 n (k + 1) := by simp [len8, List.range_succ]
theorem cells_grow {w w1 : World} {row : Option Nat} (hg : w.grownBy w1 row) {p : Addr} (h1 : p.block < w.heap.size) (h2 : some p.block ≠ row) : w1.cell? p = w.cell? p :=
  World.cell?_of_block (w := w) (hg.block _ h1 h2)
def lenOf : Value → Nat | .slice _ n _ => n | _ => 0
theorem OwnB.slice {w : World} {base : Nat} {v : Value} {bs : List Int} (h : OwnB w base v bs) (hne : 0 < bs.length) :
    ∃ g cap, v = .slice (some ⟨g, 0, none⟩) bs.length cap ∧ base ≤ g ∧ g < w.heap.size ∧ bs.length ≤ cap ∧ cap ≤ maxLen ∧ ∀ j, j < bs.length → w.cell? ⟨g, j, none⟩ = some (.int .u8 (bs.getD j 0)) := by
  obtain ⟨_, h2⟩ := h
  rcases h2 with ⟨_, h2⟩ | ⟨g, cap, cur, hv, hg, hh, hn, hcap, hsz, ht⟩
  · omega
  · refine ⟨g, cap, hv, hg, lt_of_get hh, hn, hcap, ?_⟩
    intro j hj
    rw [cell_of_row w g j _ _ _ hh]
    have e : (cur.toList.take (bs.length * 1))[j]? = (bs.map (Value.int .u8))[j]? := by rw [ht]
    rw [List.getElem?_take_of_lt (by omega)] at e
    simp at e
    rw [e]
    simp [List.getElem?_eq_getElem hj]
theorem OwnB.alloc {w : World} {base : Nat} {v : Value} {bs : List Int} (h : OwnB w base v bs) (o : Obj) : OwnB (w.alloc o) base v bs := World.ownsRow.alloc h o
theorem OwnB.new (w : World) : OwnB (w.alloc (.cells #[] 5)) w.heap.size (.slice (some ⟨w.heap.size, 0, none⟩) 0 0) [] :=
  ⟨rfl, .inr ⟨w.heap.size, 0, #[], rfl, Nat.le_refl _, heap_alloc_new _ _, Nat.le_refl _, by unfold maxLen; omega, rfl, rfl⟩⟩
theorem OwnB.lt {w : World} {base : Nat} {v : Value} {bs : List Int} (h : OwnB w base v bs) : ∀ k, v.ownBlock = some k → base ≤ k := fun k hk => (World.ownsRow.lt h k hk).1
theorem one_new (w : World) (x : Int) : ∀ j u, ([x].map (Value.int .u8))[j]? = some u → (w.alloc (.cells #[.int .u8 x] 5)).cell? ((⟨w.heap.size, 0, none⟩ : Addr).add j) = some u := by
  intro j u h
  cases j with
  | zero =>
    simp at h
    subst h
    rw [show (⟨w.heap.size, 0, none⟩ : Addr).add 0 = ⟨w.heap.size, 0, none⟩ from rfl, cell_of_row _ _ _ _ _ _ (heap_alloc_new w _)]
    rfl
  | succ j => simp at h
theorem OwnB.len {w : World} {base : Nat} {v : Value} {bs : List Int} (h : OwnB w base v bs) : lenOf v = bs.length := by
  obtain ⟨_, h2⟩ := h
  rcases h2 with ⟨hv, h2⟩ | ⟨g, cap, cur, hv, _⟩
  · rw [hv, h2]; rfl
  · rw [hv]; rfl
theorem zc_step (n k : Nat) (hk : k ≤ zc n) : ((n + 1 + k) % 32 = 24 ↔ k = zc n) := by
  unfold zc at *
  omega
set_option maxHeartbeats 400000 in
theorem padded_any (a : Option Addr) (len cap : Nat) (bs : List Int) (w : World) (hin : InB w a len cap bs) (hlen : bs.length ≤ 140737488351232) :
    Calls Try.prog 33 #[.slice a len cap] w fun e w' => ∃ v', e = .returned v' ∧ OwnB w' w.heap.size v' (padded bs) ∧ Below w.heap.size w w' := by
  rcases hin with ⟨rfl, rfl, rfl, rfl⟩ | ⟨ad, rfl, rfl, hc⟩
  · have hm : Hid ((0 : Nat) ≤ 140737488351232) := Nat.zero_le _
    go_enter Try.func33, Try.ntmps33
    go_wp2_with (first
      | (at_builtin; refine app_none rfl (.tmp 6) (.tmp 7) rfl w.heap.size _ [] rfl (OwnB.new w) rfl ?_)
      | (at_builtin; refine app_own rfl (.tmp 9) (.tmp 10) rfl w.heap.size _ [] rfl (OwnB.alloc (OwnB.new w) _) ⟨w.heap.size + 1, 0, none⟩ 1 1 [128] rfl rfl (by have := one_new (w.alloc (.cells #[] 5)) 128; simpa using this) (by simp) (by simp; omega) ?_; intro v2 w2 o2 g2 n2))
    have b2 : Below w.heap.size w w2 := (((Below.refl _ _).alloc (Nat.le_refl _) _).alloc (by simp) _).grown g2 (by simp; omega) (OwnB.new w).lt
    clear g2 n2
    clear hm
    obtain ⟨bs, hbs⟩ : ∃ bs : List Int, [] = bs := ⟨_, rfl⟩
    have o3 : OwnB w2 w.heap.size v2 (bs ++ [128]) := by rw [← hbs]; exact o2
    have hm : Hid (bs.length ≤ 140737488351232) := by unfold Hid; rw [← hbs]; exact Nat.zero_le _
    have hbb := Hid.mk hbs
    clear hbs o2
    have o2 := o3
    clear o3
    obtain ⟨z, hz⟩ : ∃ z, zc bs.length = z := ⟨_, rfl⟩
    have hz31 : z ≤ 31 := by unfold zc at hz; omega
    have HZ := Hid.mk hz
    clear hz
    have hli : (bs.length : Int) ≤ 140737488351232 := by have := hm.out; omega
    go_loopw [3] (fun s v => ∃ k : Nat, k ≤ z ∧ OwnB v w.heap.size s (bs ++ [128] ++ List.replicate k 0) ∧ Below w.heap.size w v) (fun s _ => bs.length + 1 + z - lenOf s)
    case atStart => exact ⟨0, by omega, by simpa using o2, b2⟩
    case round =>
      clear o2 b2
      obtain ⟨k, hk, ow, bw⟩ := hrel
      have hL : (bs ++ [128] ++ List.replicate k 0).length = bs.length + 1 + k := by rw [List.length_append, List.length_append, List.length_replicate]; rfl
      obtain ⟨g, c, hv, hg0, hg1, hg2, hg3, _⟩ := ow.slice (by omega)
      rw [hL] at hv
      have hz := zc_step bs.length k (by rw [HZ.out]; exact hk)
      rw [HZ.out] at hz
      subst hv
      by_cases hlt : k = z
      · have ht : ((bs.length : Int) + 1 + (k : Int)) % 32 = 24 := by have := hz.2 hlt; omega
        have ht2 : (((bs.length : Int) + 1 + (k : Int)) % 32 != 24) = false := by rw [ht]; rfl
        clear hz hL hg0 hg1 hg2 hg3 ht
        subst hlt
        go_wp2_with fail
        go_loopw [3, 5] (fun s i v => ∃ j : Nat, j ≤ 8 ∧ i = .int .i64 j ∧ OwnB v w.heap.size s (bs ++ [128] ++ List.replicate k 0 ++ len8 bs.length j) ∧ Below w.heap.size w v) (fun _ i _ => 8 - (intOf i).toNat)
        case atStart => exact ⟨0, by omega, rfl, by simpa [len8] using ow, bw⟩
        case round =>
          clear ow bw
          obtain ⟨j, hj, rfl, ow, bw⟩ := hrel
          have hL : (bs ++ [128] ++ List.replicate k 0 ++ len8 bs.length j).length = bs.length + 1 + k + j := by rw [List.length_append, List.length_append, List.length_append, List.length_replicate, len8_length]; rfl
          by_cases hlt : j < 8
          · have hbs := bw.size
            go_wp2_with (first
              | (at_builtin; refine app_own rfl (.tmp 26) (.tmp 33) rfl w.heap.size _ (bs ++ [128] ++ List.replicate k 0 ++ len8 bs.length j) rfl (ow.alloc _) ⟨wr.heap.size, 0, none⟩ 1 1 [0] rfl rfl (one_new wr _) (by rw [hL]; have := hm.out; omega) (by simp; omega) ?_; intro v5 w5 o5 g5 n5))
            refine ⟨⟨j + 1, by omega, by go_num, ?_, (bw.alloc (by omega) _).grown g5 (by simp; omega) (ow.lt)⟩, by simp [intOf]; omega⟩
            rw [← len8_succ, ← List.append_assoc, show ((bs.length : Int) / 2 ^ (56 - 8 * j) % 256) = 0 from by rw [← hbb.out]; simp]
            exact o5
          · have hj8 : j = 8 := by omega
            subst hj8
            go_wp2
            go_ret
            refine ⟨_, rfl, ?_, bw⟩
            rw [hbb.out]
            unfold padded
            rw [HZ.out]
            exact ow
      · have ht : (((bs.length : Int) + 1 + (k : Int)) % 32 != 24) = true := by
          rw [bne_iff_ne]; intro h; exact hlt (hz.1 (by omega))
        have hkz : k < z := by omega
        clear hz hlt
        have hbs := bw.size
        go_wp2_with (first
          | (at_builtin; refine app_own rfl (.tmp 16) (.tmp 17) rfl w.heap.size _ (bs ++ [128] ++ List.replicate k 0) rfl (ow.alloc _) ⟨wr.heap.size, 0, none⟩ 1 1 [0] rfl rfl (one_new wr 0) (by rw [hL]; have := hm.out; omega) (by simp; omega) ?_; intro v4 w4 o4 g4 n4))
        have e : bs ++ [128] ++ List.replicate k 0 ++ [0] = bs ++ [128] ++ List.replicate (k + 1) (0 : Int) := by rw [List.append_assoc, ← List.replicate_succ']
        rw [e] at o4
        refine ⟨⟨k + 1, by omega, o4, (bw.alloc (by omega) _).grown g4 (by simp; omega) (ow.lt)⟩, ?_⟩
        rw [o4.len]
        simp [lenOf]
        omega
  · have hc' : ∀ j u, (bs.map (Value.int .u8))[j]? = some u → (w.alloc (.cells #[] 5)).cell? (ad.add j) = some u := fun j u h => by
      exact (World.cell?_of_block (w := w) (Below.heap_alloc w _ _ (block_lt_of_cell (hc j u h)))).trans (hc j u h)
    have HC := Hid.mk hc'
    have hm := Hid.mk hlen
    clear hc hc' hlen
    go_enter Try.func33, Try.ntmps33
    go_wp2_with (first
      | (at_builtin; refine app_own rfl (.tmp 6) (.tmp 7) rfl w.heap.size _ [] rfl (OwnB.new w) ad bs.length cap bs rfl rfl HC.out (by have := hm.out; simp; omega) (by simp) ?_; intro v1 w1 o1 g1 n1; rw [List.nil_append] at o1)
      | (at_builtin; refine app_own rfl (.tmp 9) (.tmp 10) rfl w.heap.size _ bs rfl (OwnB.alloc o1 _) ⟨w1.heap.size, 0, none⟩ 1 1 [128] rfl rfl (one_new w1 128) (by have := hm.out; omega) (by have := g1.size; simp at this; simp; omega) ?_; intro v2 w2 o2 g2 n2))
    have b2 : Below w.heap.size w w2 := ((((Below.refl _ _).alloc (Nat.le_refl _) _).grown g1 (by simp) (OwnB.new w).lt).alloc (by have := g1.size; simp at this; omega) _).grown g2 (by have := g1.size; simp at this; simp; omega) (o1.lt)
    clear g1 g2 n1 n2 o1
    obtain ⟨z, hz⟩ : ∃ z, zc bs.length = z := ⟨_, rfl⟩
    have hz31 : z ≤ 31 := by unfold zc at hz; omega
    have HZ := Hid.mk hz
    clear hz
    have hli : (bs.length : Int) ≤ 140737488351232 := by have := hm.out; omega
    go_loopw [3] (fun s v => ∃ k : Nat, k ≤ z ∧ OwnB v w.heap.size s (bs ++ [128] ++ List.replicate k 0) ∧ Below w.heap.size w v) (fun s _ => bs.length + 1 + z - lenOf s)
    case atStart => exact ⟨0, by omega, by simpa using o2, b2⟩
    case round =>
      clear o2 b2
      obtain ⟨k, hk, ow, bw⟩ := hrel
      have hL : (bs ++ [128] ++ List.replicate k 0).length = bs.length + 1 + k := by rw [List.length_append, List.length_append, List.length_replicate]; rfl
      obtain ⟨g, c, hv, hg0, hg1, hg2, hg3, _⟩ := ow.slice (by omega)
      rw [hL] at hv
      have hz := zc_step bs.length k (by rw [HZ.out]; exact hk)
      rw [HZ.out] at hz
      subst hv
      by_cases hlt : k = z
      · have ht : ((bs.length : Int) + 1 + (k : Int)) % 32 = 24 := by have := hz.2 hlt; omega
        have ht2 : (((bs.length : Int) + 1 + (k : Int)) % 32 != 24) = false := by rw [ht]; rfl
        clear hz hL hg0 hg1 hg2 hg3 ht
        subst hlt
        go_wp2_with fail
        go_loopw [3, 5] (fun s i v => ∃ j : Nat, j ≤ 8 ∧ i = .int .i64 j ∧ OwnB v w.heap.size s (bs ++ [128] ++ List.replicate k 0 ++ len8 bs.length j) ∧ Below w.heap.size w v) (fun _ i _ => 8 - (intOf i).toNat)
        case atStart => exact ⟨0, by omega, rfl, by simpa [len8] using ow, bw⟩
        case round =>
          clear ow bw
          obtain ⟨j, hj, rfl, ow, bw⟩ := hrel
          have hL : (bs ++ [128] ++ List.replicate k 0 ++ len8 bs.length j).length = bs.length + 1 + k + j := by rw [List.length_append, List.length_append, List.length_append, List.length_replicate, len8_length]; rfl
          by_cases hlt : j < 8
          · have hbs := bw.size
            go_wp2_with (first
              | (at_builtin; refine app_own rfl (.tmp 26) (.tmp 33) rfl w.heap.size _ (bs ++ [128] ++ List.replicate k 0 ++ len8 bs.length j) rfl (ow.alloc _) ⟨wr.heap.size, 0, none⟩ 1 1 [(bs.length : Int) / 2 ^ (56 - 8 * j) % 256] rfl rfl (one_new wr _) (by rw [hL]; have := hm.out; omega) (by simp; omega) ?_; intro v5 w5 o5 g5 n5))
            refine ⟨⟨j + 1, by omega, by go_num, ?_, (bw.alloc (by omega) _).grown g5 (by simp; omega) (ow.lt)⟩, by simp [intOf]; omega⟩
            rw [← len8_succ, ← List.append_assoc]
            exact o5
          · have hj8 : j = 8 := by omega
            subst hj8
            go_wp2
            go_ret
            refine ⟨_, rfl, ?_, bw⟩
            unfold padded
            rw [HZ.out]
            exact ow
      · have ht : (((bs.length : Int) + 1 + (k : Int)) % 32 != 24) = true := by
          rw [bne_iff_ne]; intro h; exact hlt (hz.1 (by omega))
        have hkz : k < z := by omega
        clear hz hlt
        have hbs := bw.size
        go_wp2_with (first
          | (at_builtin; refine app_own rfl (.tmp 16) (.tmp 17) rfl w.heap.size _ (bs ++ [128] ++ List.replicate k 0) rfl (ow.alloc _) ⟨wr.heap.size, 0, none⟩ 1 1 [0] rfl rfl (one_new wr 0) (by rw [hL]; have := hm.out; omega) (by simp; omega) ?_; intro v4 w4 o4 g4 n4))
        have e : bs ++ [128] ++ List.replicate k 0 ++ [0] = bs ++ [128] ++ List.replicate (k + 1) (0 : Int) := by rw [List.append_assoc, ← List.replicate_succ']
        rw [e] at o4
        refine ⟨⟨k + 1, by omega, o4, (bw.alloc (by omega) _).grown g4 (by simp; omega) (ow.lt)⟩, ?_⟩
        rw [o4.len]
        simp [lenOf]
        omega
end Go.Proofs.Ytjpcfdhkgfaeeaa.Di
