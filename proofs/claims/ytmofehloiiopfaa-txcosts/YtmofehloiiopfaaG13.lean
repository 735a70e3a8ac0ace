/- What the document's rot, word and Padded (pergolaref01) answer, for every input of at most 2^47 - 4096 bytes. -/
import Derived.Test.YtmofehloiiopfaaG12
import Derived.Laws.CopyOwn
import Derived.Laws.AppendOwnNone
import Derived.Deep.RegionHeld3
namespace Go.Proofs.Ytmofehloiiopfaa.Di
set_option maxRecDepth 100000
open Go.RowKit
set_option maxHeartbeats 400000 in
theorem rrot (x k : Int) (w : World) (hk0 : 0 ≤ k) (hk1 : k < 64) :
    Calls Try.prog 60 #[.int .u64 x, .int .i64 k] w fun e w' => e = .returned (.int .u64 (rotl x k)) ∧ ∃ n, w' = w.drewN n := by
  go_enter Try.func60, Try.ntmps60
  go_wp2_with fail
  go_quiet (fail)
  go_wp2
  go_ret
  exact ⟨rfl, _, rfl⟩
/-- The word of k bytes from a place on. -/
def wd (bs : List Int) (at_ : Nat) : Nat → Int
  | 0 => 0
  | k + 1 => or8 (wd bs at_ k) (bs.getD (at_ + k) 0)
theorem or8_sum (m b : Int) : IntKind.u64.wrap (IntKind.u64.wrap (m * 256) + b) = or8 m b := by
  unfold or8 wr
  simp only [IntKind.wrap_u64]
  omega
set_option maxHeartbeats 400000 in
theorem word_any (g len cap at_ : Nat) (bs : List Int) (w : World) (hlen : at_ + 8 ≤ len) (hm : len ≤ maxLen)
    (hc : ∀ k, k < 8 → w.cell? ⟨g, at_ + k, none⟩ = some (.int .u8 (bs.getD (at_ + k) 0))) (hb : ∀ k, k < 8 → 0 ≤ bs.getD (at_ + k) 0 ∧ bs.getD (at_ + k) 0 < 256) :
    Calls Try.prog 59 #[.slice (some ⟨g, 0, none⟩) len cap, .int .i64 at_] w fun e w' => e = .returned (.int .u64 (wd bs at_ 8)) ∧ w' = w := by
  unfold maxLen at hm
  have HC := Hid.mk hc
  have HB := Hid.mk hb
  clear hc hb
  go_enter Try.func59, Try.ntmps59
  go_wp2_with fail
  go_loop [5, 6] (fun v i => ∃ k : Nat, k ≤ 8 ∧ i = .int .i64 k ∧ v = .int .u64 (wd bs at_ k)) (fun _ i => 8 - (intOf i).toNat)
  case atStart => exact ⟨0, by omega, rfl, rfl⟩
  case round =>
    obtain ⟨k, hk, rfl, rfl⟩ := hrel
    by_cases hlt : k < 8
    · have hcell := HC.out k hlt
      have hbd := HB.out k hlt
      have HS : Hid (wd bs at_ (k + 1) = or8 (wd bs at_ k) (bs.getD (at_ + k) 0)) := rfl
      generalize bs.getD (at_ + k) 0 = b at hcell hbd HS
      obtain ⟨hb0, hb1⟩ := hbd
      generalize wd bs at_ k = m at HS
      have hidx : (at_ : Int) + k < len := by omega
      have hfit : ((at_ : Int) + k).toNat = at_ + k := by omega
      go_wp2
      go_round
      case rel => exact ⟨k + 1, by omega, by go_num, by rw [HS.out, or8_sum]⟩
      case measure => simp [intOf]; omega
    · have hk2 : k = 8 := by omega
      subst hk2
      go_wp2
      go_ret
      exact ⟨rfl, rfl⟩
theorem B8_one2 (bs : List Int) : ∀ v ∈ bs.map (Value.int .u8), v.oneCell' = true := by
  intro v hv
  obtain ⟨x, _, rfl⟩ := List.mem_map.1 hv
  rfl
/-- A slice of bytes of the call's own, from block 'base' on. -/
def OwnB (w : World) (base : Nat) (v : Value) (bs : List Int) : Prop := w.ownsRow base 5 1 v bs.length (bs.map (Value.int .u8))
theorem info5 : ∃ i, Try.prog.info? 5 = some i ∧ i.zero = some (.int .u8 0) ∧ i.size = 1 ∧ i.bytes = 1 := by
  have h : (Try.prog.info? 5).map (fun i => (i.zero, i.size, i.bytes)) = some (some (.int .u8 0), 1, 1) := by kernel_rfl
  cases hq : Try.prog.info? 5 with
  | none => rw [hq] at h; simp at h
  | some i => rw [hq] at h; simp at h; exact ⟨i, rfl, h.1, h.2.1, h.2.2⟩
theorem app_own {w : World} {ops : Array Oper} {rest : List Oper} {o : Oper} {a : Act} {Q : Exit → Act → World → Prop} (hgd : o.guard = none) (s x : Operand)
    (ho : o.op = .call { callee := .builtin .append, args := #[s, x], argTypes := #[24, 24] }) (base : Nat) (v : Value) (bs : List Int) (hs : a.eval s = v) (hown : OwnB w base v bs)
    (ad : Addr) (m c : Nat) (news : List Int) (hx : a.eval x = .slice (some ad) m c) (hl : news.length = m) (hnews : ∀ j u, (news.map (Value.int .u8))[j]? = some u → w.cell? (ad.add j) = some u)
    (hbytes : bs.length + m ≤ 140737488355328) (hbase : base ≤ w.heap.size)
    (h : ∀ v' w', OwnB w' base v' (bs ++ news) → w.grownBy w' v.ownBlock → (v' = .slice none 0 0 ↔ v = .slice none 0 0 ∧ m = 0) → wpList Try.prog ops Q rest (a.put o.dst v') w') : wpList Try.prog ops Q (o :: rest) a w := by
  obtain ⟨i, hi, hz, hsz, hby⟩ := info5
  refine wpList_append_own w hgd s x 24 ho base 5 i (.int .u8 0) 1 1 Try.underlying24 hi hz hsz hby rfl (by decide) v bs.length (bs.map (Value.int .u8)) hs hown ad m c (news.map (Value.int .u8)) hx (by simpa using hl) hnews (B8_one2 _) (by unfold maxLen; omega) (by omega) hbase ?_
  intro v' w' h1 h2 h3
  refine h v' w' ?_ h2 h3
  unfold OwnB
  rw [List.length_append, hl, List.map_append]
  exact h1
theorem app_none {w : World} {ops : Array Oper} {rest : List Oper} {o : Oper} {a : Act} {Q : Exit → Act → World → Prop} (hgd : o.guard = none) (s x : Operand)
    (ho : o.op = .call { callee := .builtin .append, args := #[s, x], argTypes := #[24, 24] }) (base : Nat) (v : Value) (bs : List Int) (hs : a.eval s = v) (hown : OwnB w base v bs)
    (hx : a.eval x = .slice none 0 0) (h : wpList Try.prog ops Q rest (a.put o.dst v) w) : wpList Try.prog ops Q (o :: rest) a w := by
  obtain ⟨i, hi, _, _, _⟩ := info5
  exact wpList_append_own_none hgd s x 24 ho base 5 i 1 Try.underlying24 hi v bs.length _ hs hown hx h
/-- Bytes that came in: nil, or a row of cells. -/
def InB (w : World) (a : Option Addr) (len cap : Nat) (bs : List Int) : Prop :=
  (a = none ∧ len = 0 ∧ cap = 0 ∧ bs = []) ∨ ∃ ad, a = some ad ∧ bs.length = len ∧ ∀ j u, (bs.map (Value.int .u8))[j]? = some u → w.cell? (ad.add j) = some u
def zc (n : Nat) : Nat := (55 - n % 32) % 32
def len8 (n : Nat) (k : Nat) : List Int := (List.range k).map fun i => (n : Int) / 2 ^ (56 - 8 * i) % 256
def padded (bs : List Int) : List Int := bs ++ [128] ++ List.replicate (zc bs.length) 0 ++ len8 bs.length 8
theorem len8_length (n k : Nat) : (len8 n k).length = k := by simp [len8]
theorem len8_succ (n k : Nat) : len8 n k ++ [(n : Int) / 2 ^ (56 - 8 * k) % 256] = len8 n (k + 1) := by simp [len8, List.range_succ]
def lenOf : Value → Nat | .slice _ n _ => n | _ => 0
theorem OwnB.slice {w : World} {base : Nat} {v : Value} {bs : List Int} (h : OwnB w base v bs) (hne : 0 < bs.length) :
    ∃ g cap, v = .slice (some ⟨g, 0, none⟩) bs.length cap ∧ base ≤ g ∧ g < w.heap.size ∧ bs.length ≤ cap ∧ cap ≤ maxLen ∧ ∀ j, j < bs.length → w.cell? ⟨g, j, none⟩ = some (.int .u8 (bs.getD j 0)) := by
  obtain ⟨_, h2⟩ := h
  rcases h2 with ⟨_, h2⟩ | ⟨g, cap, cur, hv, hg, hh, hn, hcap, hsz, ht⟩
  · omega
  · refine ⟨g, cap, hv, hg, lt_of_get hh, hn, hcap, ?_⟩
    intro j hj
    rw [cell_of_row w g j _ _ _ hh]
    have e : (cur.toList.take (bs.length * 1))[j]? = (bs.map (Value.int .u8))[j]? := by rw [ht]
    rw [List.getElem?_take_of_lt (by omega)] at e
    simp at e
    rw [e]
    simp [List.getElem?_eq_getElem hj]
theorem OwnB.alloc {w : World} {base : Nat} {v : Value} {bs : List Int} (h : OwnB w base v bs) (o : Obj) : OwnB (w.alloc o) base v bs := World.ownsRow.alloc h o
theorem OwnB.new (w : World) : OwnB (w.alloc (.cells #[] 5)) w.heap.size (.slice (some ⟨w.heap.size, 0, none⟩) 0 0) [] :=
  ⟨rfl, .inr ⟨w.heap.size, 0, #[], rfl, Nat.le_refl _, heap_alloc_new _ _, Nat.le_refl _, by unfold maxLen; omega, rfl, rfl⟩⟩
theorem OwnB.lt {w : World} {base : Nat} {v : Value} {bs : List Int} (h : OwnB w base v bs) : ∀ k, v.ownBlock = some k → base ≤ k := fun k hk => (World.ownsRow.lt h k hk).1
theorem one_new (w : World) (x : Int) : ∀ j u, ([x].map (Value.int .u8))[j]? = some u → (w.alloc (.cells #[.int .u8 x] 5)).cell? ((⟨w.heap.size, 0, none⟩ : Addr).add j) = some u := by
  intro j u h
  cases j with
  | zero =>
    simp at h
    subst h
    rw [show (⟨w.heap.size, 0, none⟩ : Addr).add 0 = ⟨w.heap.size, 0, none⟩ from rfl, cell_of_row _ _ _ _ _ _ (heap_alloc_new w _)]
    rfl
  | succ j => simp at h
theorem OwnB.len {w : World} {base : Nat} {v : Value} {bs : List Int} (h : OwnB w base v bs) : lenOf v = bs.length := by
  obtain ⟨_, h2⟩ := h
  rcases h2 with ⟨hv, h2⟩ | ⟨g, cap, cur, hv, _⟩
  · rw [hv, h2]; rfl
  · rw [hv]; rfl
theorem zc_step (n k : Nat) (hk : k ≤ zc n) : ((n + 1 + k) % 32 = 24 ↔ k = zc n) := by
  unfold zc at *
  omega
set_option maxHeartbeats 400000 in
theorem padded_any (a : Option Addr) (len cap : Nat) (bs : List Int) (w : World) (hin : InB w a len cap bs) (hlen : bs.length ≤ 140737488351232) :
    Calls Try.prog 58 #[.slice a len cap] w fun e w' => ∃ v', e = .returned v' ∧ OwnB w' w.heap.size v' (padded bs) ∧ Below w.heap.size w w' := by
  rcases hin with ⟨rfl, rfl, rfl, rfl⟩ | ⟨ad, rfl, rfl, hc⟩
  · have hm : Hid ((0 : Nat) ≤ 140737488351232) := Nat.zero_le _
    go_enter Try.func58, Try.ntmps58
    go_wp2_with (first
      | (at_builtin; refine app_none rfl (.tmp 6) (.tmp 7) rfl w.heap.size _ [] rfl (OwnB.new w) rfl ?_)
      | (at_builtin; refine app_own rfl (.tmp 9) (.tmp 10) rfl w.heap.size _ [] rfl (OwnB.alloc (OwnB.new w) _) ⟨w.heap.size + 1, 0, none⟩ 1 1 [128] rfl rfl (by have := one_new (w.alloc (.cells #[] 5)) 128; simpa using this) (by simp) (by simp; omega) ?_; intro v2 w2 o2 g2 n2))
    have b2 : Below w.heap.size w w2 := (((Below.refl _ _).alloc (Nat.le_refl _) _).alloc (by simp) _).grown g2 (by simp; omega) (OwnB.new w).lt
    clear g2 n2
    clear hm
    obtain ⟨bs, hbs⟩ : ∃ bs : List Int, [] = bs := ⟨_, rfl⟩
    have o3 : OwnB w2 w.heap.size v2 (bs ++ [128]) := by rw [← hbs]; exact o2
    have hm : Hid (bs.length ≤ 140737488351232) := by unfold Hid; rw [← hbs]; exact Nat.zero_le _
    have hbb := Hid.mk hbs
    clear hbs o2
    have o2 := o3
    clear o3
    obtain ⟨z, hz⟩ : ∃ z, zc bs.length = z := ⟨_, rfl⟩
    have hz31 : z ≤ 31 := by unfold zc at hz; omega
    have HZ := Hid.mk hz
    clear hz
    have hli : (bs.length : Int) ≤ 140737488351232 := by have := hm.out; omega
    go_loopw [3] (fun s v => ∃ k : Nat, k ≤ z ∧ OwnB v w.heap.size s (bs ++ [128] ++ List.replicate k 0) ∧ Below w.heap.size w v) (fun s _ => bs.length + 1 + z - lenOf s)
    case atStart => exact ⟨0, by omega, by simpa using o2, b2⟩
    case round =>
      clear o2 b2
      obtain ⟨k, hk, ow, bw⟩ := hrel
      have hL : (bs ++ [128] ++ List.replicate k 0).length = bs.length + 1 + k := by rw [List.length_append, List.length_append, List.length_replicate]; rfl
      obtain ⟨g, c, hv, hg0, hg1, hg2, hg3, _⟩ := ow.slice (by omega)
      rw [hL] at hv
      have hz := zc_step bs.length k (by rw [HZ.out]; exact hk)
      rw [HZ.out] at hz
      subst hv
      by_cases hlt : k = z
      · have ht : ((bs.length : Int) + 1 + (k : Int)) % 32 = 24 := by have := hz.2 hlt; omega
        have ht2 : (((bs.length : Int) + 1 + (k : Int)) % 32 != 24) = false := by rw [ht]; rfl
        clear hz hL hg0 hg1 hg2 hg3 ht
        subst hlt
        go_wp2_with fail
        go_loopw [3, 5] (fun s i v => ∃ j : Nat, j ≤ 8 ∧ i = .int .i64 j ∧ OwnB v w.heap.size s (bs ++ [128] ++ List.replicate k 0 ++ len8 bs.length j) ∧ Below w.heap.size w v) (fun _ i _ => 8 - (intOf i).toNat)
        case atStart => exact ⟨0, by omega, rfl, by simpa [len8] using ow, bw⟩
        case round =>
          clear ow bw
          obtain ⟨j, hj, rfl, ow, bw⟩ := hrel
          have hL : (bs ++ [128] ++ List.replicate k 0 ++ len8 bs.length j).length = bs.length + 1 + k + j := by rw [List.length_append, List.length_append, List.length_append, List.length_replicate, len8_length]; rfl
          by_cases hlt : j < 8
          · have hbs := bw.size
            go_wp2_with (first
              | (at_builtin; refine app_own rfl (.tmp 26) (.tmp 33) rfl w.heap.size _ (bs ++ [128] ++ List.replicate k 0 ++ len8 bs.length j) rfl (ow.alloc _) ⟨wr.heap.size, 0, none⟩ 1 1 [0] rfl rfl (one_new wr _) (by rw [hL]; have := hm.out; omega) (by simp; omega) ?_; intro v5 w5 o5 g5 n5))
            refine ⟨⟨j + 1, by omega, by go_num, ?_, (bw.alloc (by omega) _).grown g5 (by simp; omega) (ow.lt)⟩, by simp [intOf]; omega⟩
            rw [← len8_succ, ← List.append_assoc, show ((bs.length : Int) / 2 ^ (56 - 8 * j) % 256) = 0 from by rw [← hbb.out]; simp]
            exact o5
          · have hj8 : j = 8 := by omega
            subst hj8
            go_wp2
            go_ret
            refine ⟨_, rfl, ?_, bw⟩
            rw [hbb.out]
            unfold padded
            rw [HZ.out]
            exact ow
      · have ht : (((bs.length : Int) + 1 + (k : Int)) % 32 != 24) = true := by
          rw [bne_iff_ne]; intro h; exact hlt (hz.1 (by omega))
        have hkz : k < z := by omega
        clear hz hlt
        have hbs := bw.size
        go_wp2_with (first
          | (at_builtin; refine app_own rfl (.tmp 16) (.tmp 17) rfl w.heap.size _ (bs ++ [128] ++ List.replicate k 0) rfl (ow.alloc _) ⟨wr.heap.size, 0, none⟩ 1 1 [0] rfl rfl (one_new wr 0) (by rw [hL]; have := hm.out; omega) (by simp; omega) ?_; intro v4 w4 o4 g4 n4))
        have e : bs ++ [128] ++ List.replicate k 0 ++ [0] = bs ++ [128] ++ List.replicate (k + 1) (0 : Int) := by rw [List.append_assoc, ← List.replicate_succ']
        rw [e] at o4
        refine ⟨⟨k + 1, by omega, o4, (bw.alloc (by omega) _).grown g4 (by simp; omega) (ow.lt)⟩, ?_⟩
        rw [o4.len]
        simp [lenOf]
        omega
  · have hc' : ∀ j u, (bs.map (Value.int .u8))[j]? = some u → (w.alloc (.cells #[] 5)).cell? (ad.add j) = some u := fun j u h => by
      exact (World.cell?_of_block (w := w) (Below.heap_alloc w _ _ (block_lt_of_cell (hc j u h)))).trans (hc j u h)
    have HC := Hid.mk hc'
    have hm := Hid.mk hlen
    clear hc hc' hlen
    go_enter Try.func58, Try.ntmps58
    go_wp2_with (first
      | (at_builtin; refine app_own rfl (.tmp 6) (.tmp 7) rfl w.heap.size _ [] rfl (OwnB.new w) ad bs.length cap bs rfl rfl HC.out (by have := hm.out; simp; omega) (by simp) ?_; intro v1 w1 o1 g1 n1; rw [List.nil_append] at o1)
      | (at_builtin; refine app_own rfl (.tmp 9) (.tmp 10) rfl w.heap.size _ bs rfl (OwnB.alloc o1 _) ⟨w1.heap.size, 0, none⟩ 1 1 [128] rfl rfl (one_new w1 128) (by have := hm.out; omega) (by have := g1.size; simp at this; simp; omega) ?_; intro v2 w2 o2 g2 n2))
    have b2 : Below w.heap.size w w2 := ((((Below.refl _ _).alloc (Nat.le_refl _) _).grown g1 (by simp) (OwnB.new w).lt).alloc (by have := g1.size; simp at this; omega) _).grown g2 (by have := g1.size; simp at this; simp; omega) (o1.lt)
    clear g1 g2 n1 n2 o1
    obtain ⟨z, hz⟩ : ∃ z, zc bs.length = z := ⟨_, rfl⟩
    have hz31 : z ≤ 31 := by unfold zc at hz; omega
    have HZ := Hid.mk hz
    clear hz
    have hli : (bs.length : Int) ≤ 140737488351232 := by have := hm.out; omega
    go_loopw [3] (fun s v => ∃ k : Nat, k ≤ z ∧ OwnB v w.heap.size s (bs ++ [128] ++ List.replicate k 0) ∧ Below w.heap.size w v) (fun s _ => bs.length + 1 + z - lenOf s)
    case atStart => exact ⟨0, by omega, by simpa using o2, b2⟩
    case round =>
      clear o2 b2
      obtain ⟨k, hk, ow, bw⟩ := hrel
      have hL : (bs ++ [128] ++ List.replicate k 0).length = bs.length + 1 + k := by rw [List.length_append, List.length_append, List.length_replicate]; rfl
      obtain ⟨g, c, hv, hg0, hg1, hg2, hg3, _⟩ := ow.slice (by omega)
      rw [hL] at hv
      have hz := zc_step bs.length k (by rw [HZ.out]; exact hk)
      rw [HZ.out] at hz
      subst hv
      by_cases hlt : k = z
      · have ht : ((bs.length : Int) + 1 + (k : Int)) % 32 = 24 := by have := hz.2 hlt; omega
        have ht2 : (((bs.length : Int) + 1 + (k : Int)) % 32 != 24) = false := by rw [ht]; rfl
        clear hz hL hg0 hg1 hg2 hg3 ht
        subst hlt
        go_wp2_with fail
        go_loopw [3, 5] (fun s i v => ∃ j : Nat, j ≤ 8 ∧ i = .int .i64 j ∧ OwnB v w.heap.size s (bs ++ [128] ++ List.replicate k 0 ++ len8 bs.length j) ∧ Below w.heap.size w v) (fun _ i _ => 8 - (intOf i).toNat)
        case atStart => exact ⟨0, by omega, rfl, by simpa [len8] using ow, bw⟩
        case round =>
          clear ow bw
          obtain ⟨j, hj, rfl, ow, bw⟩ := hrel
          have hL : (bs ++ [128] ++ List.replicate k 0 ++ len8 bs.length j).length = bs.length + 1 + k + j := by rw [List.length_append, List.length_append, List.length_append, List.length_replicate, len8_length]; rfl
          by_cases hlt : j < 8
          · have hbs := bw.size
            go_wp2_with (first
              | (at_builtin; refine app_own rfl (.tmp 26) (.tmp 33) rfl w.heap.size _ (bs ++ [128] ++ List.replicate k 0 ++ len8 bs.length j) rfl (ow.alloc _) ⟨wr.heap.size, 0, none⟩ 1 1 [(bs.length : Int) / 2 ^ (56 - 8 * j) % 256] rfl rfl (one_new wr _) (by rw [hL]; have := hm.out; omega) (by simp; omega) ?_; intro v5 w5 o5 g5 n5))
            refine ⟨⟨j + 1, by omega, by go_num, ?_, (bw.alloc (by omega) _).grown g5 (by simp; omega) (ow.lt)⟩, by simp [intOf]; omega⟩
            rw [← len8_succ, ← List.append_assoc]
            exact o5
          · have hj8 : j = 8 := by omega
            subst hj8
            go_wp2
            go_ret
            refine ⟨_, rfl, ?_, bw⟩
            unfold padded
            rw [HZ.out]
            exact ow
      · have ht : (((bs.length : Int) + 1 + (k : Int)) % 32 != 24) = true := by
          rw [bne_iff_ne]; intro h; exact hlt (hz.1 (by omega))
        have hkz : k < z := by omega
        clear hz hlt
        have hbs := bw.size
        go_wp2_with (first
          | (at_builtin; refine app_own rfl (.tmp 16) (.tmp 17) rfl w.heap.size _ (bs ++ [128] ++ List.replicate k 0) rfl (ow.alloc _) ⟨wr.heap.size, 0, none⟩ 1 1 [0] rfl rfl (one_new wr 0) (by rw [hL]; have := hm.out; omega) (by simp; omega) ?_; intro v4 w4 o4 g4 n4))
        have e : bs ++ [128] ++ List.replicate k 0 ++ [0] = bs ++ [128] ++ List.replicate (k + 1) (0 : Int) := by rw [List.append_assoc, ← List.replicate_succ']
        rw [e] at o4
        refine ⟨⟨k + 1, by omega, o4, (bw.alloc (by omega) _).grown g4 (by simp; omega) (ow.lt)⟩, ?_⟩
        rw [o4.len]
        simp [lenOf]
        omega
end Go.Proofs.Ytmofehloiiopfaa.Di
/- What the document's digest (pergolaref01.Of) answers: the pieces of the padded text mixed in, one behind the other, for every text of at most 2^47 - 4096 bytes. -/
namespace Go.Proofs.Ytmofehloiiopfaa.Di
set_option maxRecDepth 100000
open Go.RowKit
theorem info43 : ∃ i, Try.prog.info? 22 = some i ∧ i.zero = some (.int .u64 0) ∧ i.size = 1 ∧ i.bytes = 8 := by
  have h : (Try.prog.info? 22).map (fun i => (i.zero, i.size, i.bytes)) = some (some (.int .u64 0), 1, 8) := by kernel_rfl
  cases hq : Try.prog.info? 22 with
  | none => rw [hq] at h; simp at h
  | some i => rw [hq] at h; simp at h; exact ⟨i, rfl, h.1, h.2.1, h.2.2⟩
/-- 'append([]uint64{}, s...)', s of four words: a new row that begins with them. -/
theorem app_four {w : World} {ops : Array Oper} {rest : List Oper} {o : Oper} {a : Act} {Q : Exit → Act → World → Prop} (hgd : o.guard = none) (s x : Operand)
    (ho : o.op = .call { callee := .builtin .append, args := #[s, x], argTypes := #[23, 23] }) (hs : a.eval s = .slice (some ⟨w.heap.size, 0, none⟩) 0 0)
    (g : Nat) (hx : a.eval x = .slice (some ⟨g, 0, none⟩) 4 4) (xa xb xc xd : Int) (hg : w.heap[g]? = some (.cells #[.int .u64 xa, .int .u64 xb, .int .u64 xc, .int .u64 xd] 22))
    (h : ∀ gp cap w', w.heap.size ≤ gp → gp < w'.heap.size → w'.cell? ⟨gp, 0, none⟩ = some (.int .u64 xa) → w'.cell? ⟨gp, 1, none⟩ = some (.int .u64 xb) → w'.cell? ⟨gp, 2, none⟩ = some (.int .u64 xc) → w'.cell? ⟨gp, 3, none⟩ = some (.int .u64 xd) → Below w.heap.size w w' → wpList Try.prog ops Q rest (a.put o.dst (.slice (some ⟨gp, 0, none⟩) 4 cap)) w') :
    wpList Try.prog ops Q (o :: rest) a (w.alloc (.cells #[] 22)) := by
  obtain ⟨i, hi, hz, hsz, hby⟩ := info43
  have hg' : (w.alloc (.cells #[] 22)).heap[g]? = some (.cells #[.int .u64 xa, .int .u64 xb, .int .u64 xc, .int .u64 xd] 22) := (Below.heap_alloc _ _ _ (lt_of_get hg)).trans hg
  refine wpList_append_own _ hgd s x 23 ho w.heap.size 22 i (.int .u64 0) 1 8 Try.underlying23 hi hz hsz hby rfl (by decide) _ 0 [] hs (World.ownsRow_made w #[] 0 (Nat.le_refl _) (by unfold maxLen; omega) rfl) ⟨g, 0, none⟩ 4 4 [.int .u64 xa, .int .u64 xb, .int .u64 xc, .int .u64 xd] hx rfl ?_ ?_ (by unfold maxLen; omega) (by omega) (by simp) ?_
  · intro j u hu
    have hadd : (⟨g, 0, none⟩ : Addr).add j = ⟨g, j, none⟩ := by unfold Addr.add; split <;> simp_all
    rw [hadd, cell_of_row _ _ _ _ _ _ hg', ← hu]
    rw [← List.getElem?_toArray]
  · intro u hu
    simp at hu
    rcases hu with rfl | rfl | rfl | rfl <;> rfl
  · intro v' w' h1 h2 h3
    obtain ⟨h4, h5⟩ := h1
    rcases h5 with ⟨_, h5⟩ | ⟨gp, cap, cur, rfl, hb, hh, hn, hcap, hcs, ht⟩
    · omega
    · have hc : ∀ j, j < 4 → w'.cell? ⟨gp, j, none⟩ = [Value.int .u64 xa, .int .u64 xb, .int .u64 xc, .int .u64 xd][j]? := by
        intro j hj
        rw [cell_of_row _ _ _ _ _ _ hh]
        have e : (cur.toList.take 4)[j]? = [Value.int .u64 xa, .int .u64 xb, .int .u64 xc, .int .u64 xd][j]? := by
          have := ht; simp at this; rw [this]
        rw [List.getElem?_take_of_lt hj] at e
        simpa using e
      exact h gp cap w' hb (lt_of_get hh) (hc 0 (by omega)) (hc 1 (by omega)) (hc 2 (by omega)) (hc 3 (by omega)) (((Below.refl _ _).alloc (Nat.le_refl _) _).grown h2 (by simp) (fun k hk => by simp [Value.ownBlock] at hk; omega))
/-- The words of the piece that begins at a place. -/
def wordsAt (bs : List Int) (p : Nat) : S4 := ⟨wd bs p 8, wd bs (p + 8) 8, wd bs (p + 16) 8, wd bs (p + 24) 8⟩
def s0 : S4 := ⟨kk, wr (2 * kk), wr (3 * kk), wr (4 * kk)⟩
/-- The state behind i pieces. -/
def stOf (bs : List Int) : Nat → S4
  | 0 => s0
  | i + 1 => mix (stOf bs i) (wordsAt bs (32 * i))
def mAt (m : S4) (k : Nat) : Int := if k % 4 = 0 then m.a else if k % 4 = 1 then m.b else if k % 4 = 2 then m.c else m.d
/-- The words behind k rounds. -/
def rk (s m : S4) : Nat → S4
  | 0 => xor4 s m
  | k + 1 => rnd (rk s m k) (wr (mAt m k + wr ((k + 1 : Nat) * kk)))
theorem rk_mix (s m : S4) : xor4 (rk s m 8) s = mix s m := rfl
/-- What stands while the pieces are mixed: the result's block, the padded text's cells, the state's row. -/
structure OfW (N gt gs : Nat) (w0 w : World) (ps : List Int) (S : S4) : Prop where
  h0 : w.heap[N]? = some (.cells (B8 (List.replicate 32 0)) 56)
  ht : ∀ j, j < ps.length → w.cell? ⟨gt, j, none⟩ = some (.int .u8 (ps.getD j 0))
  hs : w.heap[gs]? = some (.cells (V4 S) 22)
  gtl : gt < w.heap.size
  gsl : N < gs
  bel : Below N w0 w
theorem OfW.call {N gt gs : Nat} {w0 w w' : World} {ps : List Int} {S : S4} (h : OfW N gt gs w0 w ps S) (hb : Below w.heap.size w w') : OfW N gt gs w0 w' ps S := by
  have l0 := lt_of_get h.h0
  have l1 := lt_of_get h.hs
  exact ⟨(hb.block _ l0).trans h.h0, fun j hj => (hb.cell (p := ⟨gt, j, none⟩) h.gtl).trans (h.ht j hj), (hb.block _ l1).trans h.hs, Nat.lt_of_lt_of_le h.gtl hb.size, h.gsl, h.bel.trans (hb.mono (by omega))⟩
theorem OfW.drewN {N gt gs : Nat} {w0 w : World} {ps : List Int} {S : S4} (h : OfW N gt gs w0 w ps S) (n : Nat) : OfW N gt gs w0 (w.drewN n) ps S := ⟨h.h0, h.ht, h.hs, h.gtl, h.gsl, below_drewN h.bel n⟩
theorem OfW.alloc {N gt gs : Nat} {w0 w : World} {ps : List Int} {S : S4} (h : OfW N gt gs w0 w ps S) (o : Obj) : OfW N gt gs w0 (w.alloc o) ps S := h.call ((Below.refl _ _).alloc (Nat.le_refl _) _)
theorem OfW.state {N gt gs : Nat} {w0 w : World} {ps : List Int} {S : S4} (h : OfW N gt gs w0 w ps S) (S' : S4) : OfW N gt w.heap.size w0 (w.alloc (.cells (V4 S') 22)) ps S' := by
  have a := h.alloc (.cells (V4 S') 22)
  have l0 := lt_of_get h.h0
  exact ⟨a.h0, a.ht, heap_alloc_new _ _, a.gtl, l0, a.bel⟩
theorem InB.alloc {w : World} {a : Option Addr} {len cap : Nat} {bs : List Int} (h : InB w a len cap bs) (o : Obj) : InB (w.alloc o) a len cap bs := by
  rcases h with h | ⟨ad, h1, h2, h3⟩
  · exact .inl h
  · exact .inr ⟨ad, h1, h2, fun j u hu => (World.cell?_of_block (w := w) (Below.heap_alloc w _ _ (block_lt_of_cell (h3 j u hu)))).trans (h3 j u hu)⟩
theorem padded_length (bs : List Int) : (padded bs).length = bs.length + 1 + zc bs.length + 8 := by
  unfold padded
  rw [List.length_append, List.length_append, List.length_append, List.length_replicate, len8_length]
  rfl
theorem padded_mod (bs : List Int) : (padded bs).length % 32 = 0 ∧ 0 < (padded bs).length := by
  rw [padded_length]
  unfold zc
  omega
theorem padded_bounds (bs : List Int) (h : ∀ x ∈ bs, 0 ≤ x ∧ x < 256) : ∀ x ∈ padded bs, 0 ≤ x ∧ x < 256 := by
  intro x hx
  unfold padded at hx
  simp only [List.mem_append] at hx
  rcases hx with ((hx | hx) | hx) | hx
  · exact h x hx
  · simp at hx; omega
  · rw [(List.mem_replicate.1 hx).2]; omega
  · unfold len8 at hx
    obtain ⟨i, _, rfl⟩ := List.mem_map.1 hx
    omega
structure OfM (N gt gs gp gm : Nat) (w0 w : World) (ps : List Int) (S M : S4) : Prop where
  f : OfW N gt gs w0 w ps S
  hm : w.heap[gm]? = some (.cells (V4 M) 22)
  p0 : w.cell? ⟨gp, 0, none⟩ = some (.int .u64 S.a)
  p1 : w.cell? ⟨gp, 1, none⟩ = some (.int .u64 S.b)
  p2 : w.cell? ⟨gp, 2, none⟩ = some (.int .u64 S.c)
  p3 : w.cell? ⟨gp, 3, none⟩ = some (.int .u64 S.d)
theorem ofM_new {N gt gs gp : Nat} {w0 w : World} {ps : List Int} {S : S4} (M : S4) (h : OfW N gt gs w0 w ps S) (hd : w.cell? ⟨gp, 0, none⟩ = some (.int .u64 S.a) ∧ w.cell? ⟨gp, 1, none⟩ = some (.int .u64 S.b) ∧ w.cell? ⟨gp, 2, none⟩ = some (.int .u64 S.c) ∧ w.cell? ⟨gp, 3, none⟩ = some (.int .u64 S.d)) :
    OfM N gt gs gp w.heap.size w0 (w.alloc (.cells (V4 M) 22)) ps S M := by
  obtain ⟨d0, d1, d2, d3⟩ := hd
  have l := block_lt_of_cell d0
  have e : ∀ j, (w.alloc (.cells (V4 M) 22)).cell? ⟨gp, j, none⟩ = w.cell? ⟨gp, j, none⟩ := fun j => World.cell?_of_block (w := w) (Below.heap_alloc w _ _ l)
  exact ⟨h.alloc _, heap_alloc_new _ _, by rw [e, d0], by rw [e, d1], by rw [e, d2], by rw [e, d3]⟩
theorem OfM.drewN {N gt gs gp gm : Nat} {w0 w : World} {ps : List Int} {S M : S4} (h : OfM N gt gs gp gm w0 w ps S M) (n : Nat) : OfM N gt gs gp gm w0 (w.drewN n) ps S M := ⟨h.f.drewN n, h.hm, h.p0, h.p1, h.p2, h.p3⟩
theorem gen_w {V : World} {p q : World → Prop} (F : q V) (h : ∀ v, q v → p v) : p V := h V F
def kx (k : Nat) : Int := wr ((k : Int) * kk)
theorem add_step (x : Int) (k : Nat) (h : x = kx k) : IntKind.u64.wrap (x + 11400714819323198485) = kx (k + 1) := by
  subst h
  unfold kx wr kk
  simp only [IntKind.wrap_u64]
  omega
theorem kx_zero : Hid ((0 : Int) = kx 0) := by
  unfold Hid kx wr
  rw [IntKind.wrap_u64]
  simp
theorem a_step (ra rb mm ad : Int) : IntKind.u64.wrap (IntKind.u64.wrap (IntKind.u64.wrap (ra + rb) + mm) + ad) = wr (ra + wr (rb + wr (mm + ad))) := by
  unfold wr
  simp only [IntKind.wrap_u64]
  omega
theorem rnd_of (ra rb rc rd X A D C B A2 D2 C2 B2 : Int) (hA : A = wr (ra + wr (rb + X))) (hD : D = rotl (bits BinOp.xor IntKind.u64 rd A) 32) (hC : C = IntKind.u64.wrap (rc + D)) (hB : B = rotl (bits BinOp.xor IntKind.u64 rb C) 24)
    (hA2 : A2 = IntKind.u64.wrap (A + B)) (hD2 : D2 = rotl (bits BinOp.xor IntKind.u64 D A2) 16) (hC2 : C2 = IntKind.u64.wrap (C + D2)) (hB2 : B2 = rotl (bits BinOp.xor IntKind.u64 B C2) 63) : S4.mk B2 C2 D2 A2 = rnd ⟨ra, rb, rc, rd⟩ X := by
  subst hB2 hC2 hD2 hA2 hB hC hD hA
  rfl
theorem rk_succ {S M : S4} {k : Nat} {r r' : S4} {ad mm : Int} (h : r = rk S M k) (had : ad = kx (k + 1)) (hmm : mAt M k = mm) (h' : r' = rnd r (wr (mm + ad))) : r' = rk S M (k + 1) := by
  rw [h', h, had, ← hmm]
  rfl
theorem OfW.drew {N gt gs : Nat} {w0 w : World} {ps : List Int} {S : S4} (h : OfW N gt gs w0 w ps S) : OfW N gt gs w0 w.drew ps S := ⟨h.h0, h.ht, h.hs, h.gtl, h.gsl, h.bel.drew⟩
theorem OfM.drew {N gt gs gp gm : Nat} {w0 w : World} {ps : List Int} {S M : S4} (h : OfM N gt gs gp gm w0 w ps S M) : OfM N gt gs gp gm w0 w.drew ps S M := ⟨h.f.drew, h.hm, h.p0, h.p1, h.p2, h.p3⟩
theorem OfM.alloc {N gt gs gp gm : Nat} {w0 w : World} {ps : List Int} {S M : S4} (h : OfM N gt gs gp gm w0 w ps S M) (o : Obj) : OfM N gt gs gp gm w0 (w.alloc o) ps S M := by
  have l := block_lt_of_cell h.p0
  have e : ∀ j, (w.alloc o).cell? ⟨gp, j, none⟩ = w.cell? ⟨gp, j, none⟩ := fun j => World.cell?_of_block (w := w) (Below.heap_alloc w _ _ l)
  exact ⟨h.f.alloc _, (Below.heap_alloc _ _ _ (lt_of_get h.hm)).trans h.hm, by rw [e, h.p0], by rw [e, h.p1], by rw [e, h.p2], by rw [e, h.p3]⟩
theorem ofM_s {N gt gs gp gm : Nat} {w0 w : World} {ps : List Int} {sa sb sc sd : Int} {M : S4} (h : OfM N gt gs gp gm w0 w ps ⟨sa, sb, sc, sd⟩ M) : (w.cell? ⟨gp, 0, none⟩ = some (.int .u64 sa) ∧ w.cell? ⟨gp, 1, none⟩ = some (.int .u64 sb) ∧ w.cell? ⟨gp, 2, none⟩ = some (.int .u64 sc) ∧ w.cell? ⟨gp, 3, none⟩ = some (.int .u64 sd)) ∧ OfM N gt gs gp gm w0 w ps ⟨sa, sb, sc, sd⟩ M := ⟨⟨h.p0, h.p1, h.p2, h.p3⟩, h⟩
theorem st_succ {ps : List Int} {i : Nat} {S M r : S4} (hS : S = stOf ps i) (hM : M = wordsAt ps (32 * i)) (hr : r = rk S M 8) : xor4 r S = stOf ps (i + 1) := by
  rw [hr, rk_mix, hS, hM]
  rfl
structure Ex (N gs go : Nat) (w0 w : World) (sa sb sc sd : Int) (ds : List Int) : Prop where
  h0 : w.heap[N]? = some (.cells (B8 (List.replicate 32 0)) 56)
  hs : w.heap[gs]? = some (.cells (V4 ⟨sa, sb, sc, sd⟩) 22)
  ho : w.heap[go]? = some (.cells (B8 ds) 56)
  bel : Below N w0 w
theorem Ex.setO {N gs go : Nat} {w0 w : World} {sa sb sc sd : Int} {ds : List Int} (h : Ex N gs go w0 w sa sb sc sd ds) (hgs : ¬ gs = go) (hgo : N < go) (k : Nat) (x : Int) : Ex N gs go w0 (w.setCell ⟨go, k, none⟩ (.int .u8 x)) sa sb sc sd (ds.set k x) :=
  ⟨(heap_setCell_other _ _ _ _ (by simp; omega)).trans h.h0, (heap_setCell_other _ _ _ _ hgs).trans h.hs, by rw [heap_setCell_same w go k _ 56 _ h.ho, B8_set], h.bel.setCell (by simp; omega) _⟩
theorem s0_row : V4 s0 = #[.int .u64 11400714819323198485, .int .u64 (IntKind.u64.wrap 22801429638646396970), .int .u64 (IntKind.u64.wrap (IntKind.u64.wrap 22801429638646396970 + 11400714819323198485)), .int .u64 (IntKind.u64.wrap (IntKind.u64.wrap (IntKind.u64.wrap 22801429638646396970 + 11400714819323198485) + 11400714819323198485))] := by
  have e2 : wr (2 * kk) = IntKind.u64.wrap 22801429638646396970 := rfl
  have e3 : wr (3 * kk) = IntKind.u64.wrap (IntKind.u64.wrap 22801429638646396970 + 11400714819323198485) := by
    unfold wr kk
    simp only [IntKind.wrap_u64]
    omega
  have e4 : wr (4 * kk) = IntKind.u64.wrap (IntKind.u64.wrap (IntKind.u64.wrap 22801429638646396970 + 11400714819323198485) + 11400714819323198485) := by
    unfold wr kk
    simp only [IntKind.wrap_u64]
    omega
  unfold V4 s0
  simp only [e2, e3, e4]
  rfl
theorem word_at (g len cap : Nat) (p : Int) (at_ : Nat) (bs : List Int) (w : World) (hp : p = at_) (hlen : at_ + 8 ≤ len) (hm : len ≤ maxLen)
    (hc : ∀ k, k < 8 → w.cell? ⟨g, at_ + k, none⟩ = some (.int .u8 (bs.getD (at_ + k) 0))) (hb : ∀ k, k < 8 → 0 ≤ bs.getD (at_ + k) 0 ∧ bs.getD (at_ + k) 0 < 256) :
    Calls Try.prog 59 #[.slice (some ⟨g, 0, none⟩) len cap, .int .i64 p] w fun e w' => e = .returned (.int .u64 (wd bs at_ 8)) ∧ w' = w := by
  subst hp
  exact word_any g len cap at_ bs w hlen hm hc hb
set_option maxHeartbeats 1000000 in
set_option maxRecDepth 100000 in
theorem rof_any (a : Option Addr) (len cap : Nat) (bs : List Int) (w : World) (hin : InB w a len cap bs) (hb : ∀ x ∈ bs, 0 ≤ x ∧ x < 256) (hlen : bs.length ≤ 140737488351232) :
    Calls Try.prog 37 #[.slice a len cap] w fun e w' => e = .returned (.agg (B8 (dig (stOf (padded bs) ((padded bs).length / 32))))) ∧ Below w.heap.size w w' := by
  have hpad := fun v => padded_any a len cap bs v
  have HP := Hid.mk hpad
  clear hpad
  have hin' : ∀ o, InB (w.alloc o) a len cap bs := fun o => hin.alloc o
  have HIN := Hid.mk hin'
  have HL := Hid.mk hlen
  have HB := Hid.mk hb
  clear hin' hin hlen hb
  go_enter Try.func37, Try.ntmps37
  go_wp2_with fail
  refine (HP.out _ (HIN.out _) HL.out).mono ?_
  rintro e w1 ⟨v1, rfl, ow, hb1⟩
  have hlen32 := padded_length bs
  have hpb := Hid.mk (padded_bounds bs HB.out)
  have hpm : (padded bs).length ≤ 140737488352000 := by rw [hlen32]; have := HL.out; unfold zc; omega
  have hpm2 := Hid.mk (padded_mod bs)
  generalize hps : padded bs = ps at ow hpb hpm hpm2
  have HPS := Hid.mk hps
  clear hps
  clear hlen32 HB HIN HL HP
  obtain ⟨q, hq⟩ : ∃ q, ps.length = 32 * q := ⟨ps.length / 32, by have := hpm2.out; omega⟩
  obtain ⟨gt, ct, rfl, hg0, hg1, hg2, hg3, hct⟩ := ow.slice (by have := hpm2.out; omega)
  have hct2 := Hid.mk hct
  clear hct ow hg0
  have hN : w1.heap[w.heap.size]? = some (.cells (B8 (List.replicate 32 0)) 56) := Below.row hb1 (heap_alloc_new w _)
  have F0 : OfW w.heap.size gt w1.heap.size w (w1.alloc (.cells (V4 s0) 22)) ps s0 := by
    have l0 := lt_of_get hN
    refine ⟨(Below.heap_alloc _ _ _ l0).trans hN, fun j hj => (World.cell?_of_block (w := w1) (Below.heap_alloc w1 _ _ hg1)).trans (hct2.out j hj), heap_alloc_new _ _, by simp; omega, l0, ?_⟩
    exact (((Below.refl _ _).alloc (Nat.le_refl _) _).trans (hb1.mono (by simp))).alloc (by omega) _
  clear hN hct2
  have hq1 : 32 * q ≤ 140737488352000 := by omega
  have HQ := Hid.mk hq
  go_wp2_with fail
  go_loopw [5, 6] (fun s t v => ∃ (i gs : Nat) (S : S4), i ≤ q ∧ t = .int .i64 (32 * (i : Int)) ∧ s = .slice (some ⟨gs, 0, none⟩) 4 4 ∧ Hid (S = stOf ps i) ∧ OfW w.heap.size gt gs w v ps S) (fun _ t _ => 32 * q - (intOf t).toNat)
  case atStart =>
    refine ⟨0, w1.heap.size, s0, by omega, rfl, rfl, rfl, ?_⟩
    rw [s0_row] at F0
    exact F0
  case round =>
    clear F0
    obtain ⟨i, gs, ⟨sa, sb, sc, sd⟩, hi, rfl, rfl, HS, F⟩ := hrel
    by_cases hlt : i < q
    · have hg := F.hs
      have hg' : wr.heap[gs]? = some (.cells #[.int .u64 sa, .int .u64 sb, .int .u64 sc, .int .u64 sd] 22) := hg
      have HG := Hid.mk hg'
      clear hg hg'
      go_wp2_with (first | (at_builtin; refine app_four rfl (.tmp 43) (.tmp 44) rfl rfl gs rfl sa sb sc sd HG.out ?_; intro gp cp w2 hgp0 hgp1 d0 d1 d2 d3 hb2))
      have F2 := F.call hb2
      have hsz2 := hb2.size
      have HD := Hid.mk (And.intro d0 (And.intro d1 (And.intro d2 d3)))
      clear d0 d1 d2 d3 hb2
      have hcb : ∀ p, p + 8 ≤ 32 * q → ∀ k, k < 8 → 0 ≤ ps.getD (p + k) 0 ∧ ps.getD (p + k) 0 < 256 := fun p hp k hk => hpb.out _ (getD_mem ps _ (by rw [HQ.out]; omega))
      have HCB := Hid.mk hcb
      clear hcb
      refine (word_at gt (32 * q) ct _ (32 * i) ps _ (by omega) (by omega) (by unfold maxLen; omega) (fun k hk => F2.ht _ (by rw [HQ.out]; omega)) (HCB.out (32 * i) (by omega))).mono ?_
      rintro e w3 ⟨rfl, rfl⟩
      obtain ⟨ma, hma⟩ : ∃ x, wd ps (32 * i) 8 = x := ⟨_, rfl⟩
      rw [hma]
      have Hma := Hid.mk hma
      clear hma
      go_wp2_with fail
      refine (word_at gt (32 * q) ct _ (32 * i + 8) ps _ (by omega) (by omega) (by unfold maxLen; omega) (fun k hk => F2.ht _ (by rw [HQ.out]; omega)) (HCB.out (32 * i + 8) (by omega))).mono ?_
      rintro e w3 ⟨rfl, rfl⟩
      obtain ⟨mb, hmb⟩ : ∃ x, wd ps (32 * i + 8) 8 = x := ⟨_, rfl⟩
      rw [hmb]
      have Hmb := Hid.mk hmb
      clear hmb
      go_wp2_with fail
      refine (word_at gt (32 * q) ct _ (32 * i + 16) ps _ (by omega) (by omega) (by unfold maxLen; omega) (fun k hk => F2.ht _ (by rw [HQ.out]; omega)) (HCB.out (32 * i + 16) (by omega))).mono ?_
      rintro e w3 ⟨rfl, rfl⟩
      obtain ⟨mc, hmc⟩ : ∃ x, wd ps (32 * i + 16) 8 = x := ⟨_, rfl⟩
      rw [hmc]
      have Hmc := Hid.mk hmc
      clear hmc
      go_wp2_with fail
      refine (word_at gt (32 * q) ct _ (32 * i + 24) ps _ (by omega) (by omega) (by unfold maxLen; omega) (fun k hk => F2.ht _ (by rw [HQ.out]; omega)) (HCB.out (32 * i + 24) (by omega))).mono ?_
      rintro e w3 ⟨rfl, rfl⟩
      obtain ⟨md, hmd⟩ : ∃ x, wd ps (32 * i + 24) 8 = x := ⟨_, rfl⟩
      rw [hmd]
      have Hmd := Hid.mk hmd
      clear hmd
      go_wp2_with fail
      have G := ofM_new (S := ⟨sa, sb, sc, sd⟩) ⟨ma, mb, mc, md⟩ F2 HD.out
      clear F F2 HD HCB HG
      obtain ⟨gm, hgm⟩ : ∃ gm, w3.heap.size = gm := ⟨_, rfl⟩
      rw [hgm] at G ⊢
      refine gen_w (p := fun v => Code.wp _ _ _ _ v) (q := fun v => OfM w.heap.size gt gs gp gm w v ps ⟨sa, sb, sc, sd⟩ ⟨ma, mb, mc, md⟩) G ?_
      clear G hgm hsz2 hgp0 hgp1 w3
      intro v G
      obtain ⟨c0, c1, c2, c3, cf⟩ := cells4 (show v.heap[gs]? = some (.cells #[.int .u64 sa, .int .u64 sb, .int .u64 sc, .int .u64 sd] 22) from G.f.hs)
      obtain ⟨e0, e1, e2, e3, ef⟩ := cells4 (show v.heap[gm]? = some (.cells #[.int .u64 ma, .int .u64 mb, .int .u64 mc, .int .u64 md] 22) from G.hm)
      clear cf ef
      go_quiet (fail)
      go_wp2_with fail
      go_quiet (fail)
      go_wp2_with fail
      go_quiet (fail)
      go_wp2_with fail
      go_quiet (fail)
      go_wp2_with fail
      clear c0 c1 c2 c3 e0 e1 e2 e3
      go_loopw [9, 10, 11, 12, 13, 14] (fun ta tb tc td tx tk v => ∃ (k : Nat) (ra rb rc rd x : Int), k ≤ 8 ∧ tk = .int .i64 k ∧ ta = .int .u64 ra ∧ tb = .int .u64 rb ∧ tc = .int .u64 rc ∧ td = .int .u64 rd ∧ tx = .int .u64 x ∧ Hid (S4.mk ra rb rc rd = rk ⟨sa, sb, sc, sd⟩ ⟨ma, mb, mc, md⟩ k) ∧ Hid (x = kx k) ∧ OfM w.heap.size gt gs gp gm w v ps ⟨sa, sb, sc, sd⟩ ⟨ma, mb, mc, md⟩) (fun _ _ _ _ _ tk _ => 8 - (intOf tk).toNat)
      case atStart => exact ⟨0, _, _, _, _, _, by omega, rfl, rfl, rfl, rfl, rfl, rfl, rfl, kx_zero, (((G.drewN _).drewN _).drewN _).drewN _⟩
      case round =>
        clear G
        obtain ⟨k, ra, rb, rc, rd, x, hk, rfl, rfl, rfl, rfl, rfl, rfl, HR, HX, G⟩ := hrel
        by_cases hk8 : k < 8
        · obtain ⟨e0, e1, e2, e3, ef⟩ := cells4 (show wr.heap[gm]? = some (.cells #[.int .u64 ma, .int .u64 mb, .int .u64 mc, .int .u64 md] 22) from G.hm)
          clear ef
          have hc : k % 4 = 0 ∨ k % 4 = 1 ∨ k % 4 = 2 ∨ k % 4 = 3 := by omega
          rcases hc with hc | hc | hc | hc
          · have hq4 : (k : Int) % 4 = 0 := by omega
            have hmm := Hid.mk (show mAt ⟨ma, mb, mc, md⟩ k = ma from by simp [mAt, hc])
            clear hc
            go_wp2_with (first | (go_at_call 60; refine (rrot _ _ _ (by omega) (by omega)).mono ?_; rintro e w' ⟨rfl, nn, rfl⟩))
            refine ⟨⟨k + 1, _, _, _, _, _, by omega, by go_num, rfl, rfl, rfl, rfl, rfl, rk_succ HR.out (add_step _ _ HX.out) hmm.out (rnd_of ra rb rc rd _ _ _ _ _ _ _ _ _ (a_step _ _ _ _) rfl rfl rfl rfl rfl rfl rfl), add_step _ _ HX.out, ?_⟩, by simp [intOf]; omega⟩
            repeat (first | exact G | refine OfM.drewN ?_ _)
          · have hq4 : (k : Int) % 4 = 1 := by omega
            have hmm := Hid.mk (show mAt ⟨ma, mb, mc, md⟩ k = mb from by simp [mAt, hc])
            clear hc
            go_wp2_with (first | (go_at_call 60; refine (rrot _ _ _ (by omega) (by omega)).mono ?_; rintro e w' ⟨rfl, nn, rfl⟩))
            refine ⟨⟨k + 1, _, _, _, _, _, by omega, by go_num, rfl, rfl, rfl, rfl, rfl, rk_succ HR.out (add_step _ _ HX.out) hmm.out (rnd_of ra rb rc rd _ _ _ _ _ _ _ _ _ (a_step _ _ _ _) rfl rfl rfl rfl rfl rfl rfl), add_step _ _ HX.out, ?_⟩, by simp [intOf]; omega⟩
            repeat (first | exact G | refine OfM.drewN ?_ _)
          · have hq4 : (k : Int) % 4 = 2 := by omega
            have hmm := Hid.mk (show mAt ⟨ma, mb, mc, md⟩ k = mc from by simp [mAt, hc])
            clear hc
            go_wp2_with (first | (go_at_call 60; refine (rrot _ _ _ (by omega) (by omega)).mono ?_; rintro e w' ⟨rfl, nn, rfl⟩))
            refine ⟨⟨k + 1, _, _, _, _, _, by omega, by go_num, rfl, rfl, rfl, rfl, rfl, rk_succ HR.out (add_step _ _ HX.out) hmm.out (rnd_of ra rb rc rd _ _ _ _ _ _ _ _ _ (a_step _ _ _ _) rfl rfl rfl rfl rfl rfl rfl), add_step _ _ HX.out, ?_⟩, by simp [intOf]; omega⟩
            repeat (first | exact G | refine OfM.drewN ?_ _)
          · have hq4 : (k : Int) % 4 = 3 := by omega
            have hmm := Hid.mk (show mAt ⟨ma, mb, mc, md⟩ k = md from by simp [mAt, hc])
            clear hc
            go_wp2_with (first | (go_at_call 60; refine (rrot _ _ _ (by omega) (by omega)).mono ?_; rintro e w' ⟨rfl, nn, rfl⟩))
            refine ⟨⟨k + 1, _, _, _, _, _, by omega, by go_num, rfl, rfl, rfl, rfl, rfl, rk_succ HR.out (add_step _ _ HX.out) hmm.out (rnd_of ra rb rc rd _ _ _ _ _ _ _ _ _ (a_step _ _ _ _) rfl rfl rfl rfl rfl rfl rfl), add_step _ _ HX.out, ?_⟩, by simp [intOf]; omega⟩
            repeat (first | exact G | refine OfM.drewN ?_ _)
        · have hk2 : k = 8 := by omega
          subst hk2
          clear hk hk8
          obtain ⟨p0, p1, p2, p3⟩ := And.intro G.p0 (And.intro G.p1 (And.intro G.p2 G.p3))
          have HM : Hid (S4.mk ma mb mc md = wordsAt ps (32 * i)) := by unfold Hid wordsAt; rw [Hma.out, Hmb.out, Hmc.out, Hmd.out]
          have HN := Hid.mk (st_succ HS.out HM.out HR.out)
          clear HM HS HR HX Hma Hmb Hmc Hmd
          go_wp2_with fail
          go_region_held3 (fun v => (v.cell? ⟨gp, 0, none⟩ = some (.int .u64 sa) ∧ v.cell? ⟨gp, 1, none⟩ = some (.int .u64 sb) ∧ v.cell? ⟨gp, 2, none⟩ = some (.int .u64 sc) ∧ v.cell? ⟨gp, 3, none⟩ = some (.int .u64 sd)) ∧ OfM w.heap.size gt gs gp gm w v ps ⟨sa, sb, sc, sd⟩ ⟨ma, mb, mc, md⟩)
            ((first | exact ofM_s G.drew | exact ofM_s (G.alloc _).drew | exact ofM_s (G.drew.alloc _)))
            (fail)
          go_wp2_with fail
          refine ⟨⟨i + 1, wr.heap.size, xor4 ⟨ra, rb, rc, rd⟩ ⟨sa, sb, sc, sd⟩, by omega, by go_num, rfl, HN.out, (G.f.state (xor4 ⟨ra, rb, rc, rd⟩ ⟨sa, sb, sc, sd⟩)).drew⟩, by simp [intOf]; omega⟩
    · have hiq : i = q := by omega
      subst hiq
      have hfin : Hid (dig ⟨sa, sb, sc, sd⟩ = dig (stOf ps (ps.length / 32))) := by unfold Hid; rw [HS.out, HQ.out, Nat.mul_div_cancel_left i (by omega)]
      clear HS HQ
      have hN := F.h0
      have hgN := F.gsl
      have hbel := F.bel
      have l0 := lt_of_get hN
      have l1 := lt_of_get F.hs
      have K0 : Ex w.heap.size gs wr.heap.size w (wr.alloc (.cells (B8 (List.replicate 32 0)) 56)) sa sb sc sd (List.replicate 32 0) := ⟨(Below.heap_alloc _ _ _ l0).trans hN, (Below.heap_alloc _ _ _ l1).trans F.hs, heap_alloc_new _ _, hbel.alloc (by omega) _⟩
      have hNe : ¬ wr.heap.size = w.heap.size := by omega
      clear hN hbel F
      obtain ⟨go, hgo⟩ : ∃ go, wr.heap.size = go := ⟨_, rfl⟩
      rw [hgo] at K0 hNe
      have hgoN : w.heap.size < go := by omega
      have hgs : ¬ gs = go := by omega
      go_wp2_with fail
      refine gen_w (p := fun v => Code.wp _ _ _ _ v) (q := fun v => Ex w.heap.size gs go w v sa sb sc sd (List.replicate 32 0)) K0 ?_
      clear K0 hgo l0 l1 hgN hNe
      intro v K0
      go_loopw [17] (fun t v => ∃ k : Nat, k ≤ 32 ∧ t = .int .i64 k ∧ Ex w.heap.size gs go w v sa sb sc sd (digk ⟨sa, sb, sc, sd⟩ k)) (fun t _ => 32 - (intOf t).toNat)
      case atStart => exact ⟨0, by omega, rfl, K0⟩
      case round =>
        clear K0
        obtain ⟨k, hk, rfl, R⟩ := hrel
        by_cases hlt : k < 32
        · obtain ⟨p, q, r, s, f⟩ := cells4 (show wr.heap[gs]? = some (.cells #[.int .u64 sa, .int .u64 sb, .int .u64 sc, .int .u64 sd] 22) from R.hs)
          clear f
          have hcell := B8_cell R.ho k (by rw [digk_length]; omega)
          have hfr := frozen_of_row _ _ k _ _ R.ho
          generalize (digk ⟨sa, sb, sc, sd⟩ k).getD k 0 = y at hcell
          have hc : k < 8 ∨ (8 ≤ k ∧ k < 16) ∨ (16 ≤ k ∧ k < 24) ∨ 24 ≤ k := by omega
          rcases hc with hc | hc | hc | hc
          · have hq : (k : Int) / 8 = 0 := by omega
            have T := R.setO hgs (by omega) k (bt (sel ⟨sa, sb, sc, sd⟩ k) k)
            have e : sel ⟨sa, sb, sc, sd⟩ k = sa := by simp [sel, hc]
            rw [digk_succ, e] at T
            clear e
            go_wp2_with fail
            exact ⟨⟨k + 1, by omega, by go_num, T⟩, by simp [intOf]; omega⟩
          · have hq : (k : Int) / 8 = 1 := by omega
            have T := R.setO hgs (by omega) k (bt (sel ⟨sa, sb, sc, sd⟩ k) k)
            have e : sel ⟨sa, sb, sc, sd⟩ k = sb := by simp [sel, show ¬ k < 8 from by omega, show k < 16 from by omega]
            rw [digk_succ, e] at T
            clear e
            go_wp2_with fail
            exact ⟨⟨k + 1, by omega, by go_num, T⟩, by simp [intOf]; omega⟩
          · have hq : (k : Int) / 8 = 2 := by omega
            have T := R.setO hgs (by omega) k (bt (sel ⟨sa, sb, sc, sd⟩ k) k)
            have e : sel ⟨sa, sb, sc, sd⟩ k = sc := by simp [sel, show ¬ k < 8 from by omega, show ¬ k < 16 from by omega, show k < 24 from by omega]
            rw [digk_succ, e] at T
            clear e
            go_wp2_with fail
            exact ⟨⟨k + 1, by omega, by go_num, T⟩, by simp [intOf]; omega⟩
          · have hq : (k : Int) / 8 = 3 := by omega
            have T := R.setO hgs (by omega) k (bt (sel ⟨sa, sb, sc, sd⟩ k) k)
            have e : sel ⟨sa, sb, sc, sd⟩ k = sd := by simp [sel, show ¬ k < 8 from by omega, show ¬ k < 16 from by omega, show ¬ k < 24 from by omega]
            rw [digk_succ, e] at T
            clear e
            go_wp2_with fail
            exact ⟨⟨k + 1, by omega, by go_num, T⟩, by simp [intOf]; omega⟩
        · have hk2 : k = 32 := by omega
          subst hk2
          rw [digk_all, hfin.out] at R
          generalize hds : dig (stOf ps (ps.length / 32)) = ds at R
          have hdl : ds.length = 32 := by rw [← hds]; simp [dig]
          have HD := Hid.mk hds
          clear hds hfin
          have HI2 : Hid ((Try.prog.info? 56).map (·.size) = some (B8 ds).size) := by unfold Hid; rw [B8_size, hdl]; kernel_rfl
          have HO := Hid.mk R.ho
          have HN := Hid.mk R.h0
          go_wp2_with (first | refine wpList_load_row rfl 56 _ rfl _ rfl 56 _ _ _ HO.out Try.underlying56 rfl HI2.out ?_ | refine wpList_store_row rfl 56 _ _ rfl _ (B8 ds) rfl rfl 56 _ HN.out HI2.out (by rw [B8_size, B8_size, hdl, List.length_replicate]) (B8_one _) ?_)
          refine bodyPost_ret (results_cell_row Try.results37 _ _ w.heap.size 56 (B8 ds) (0, 0) _ rfl (setRow_heap _ _ _ _ _ _ HN.out) Try.underlying56 rfl HI2.out) rfl ?_
          exact ⟨by rw [HPS.out, HD.out], Below.setRow R.bel (Nat.le_refl _) _⟩
end Go.Proofs.Ytmofehloiiopfaa.Di
/- What digest.start answers, what Write of nothing does to a new Hash, and what digest.Of answers of nothing. -/
namespace Go.Proofs.Ytmofehloiiopfaa.Di
set_option maxRecDepth 100000
open Go.RowKit
set_option maxHeartbeats 400000 in
theorem start_any (w : World) : Calls Try.prog 54 #[] w fun e w' => (∃ a b c d, e = .returned (.agg #[.int .u64 a, .int .u64 b, .int .u64 c, .int .u64 d]) ∧ Hid (S4.mk a b c d = s0)) ∧ Below w.heap.size w w' := by
  go_enter Try.func54, Try.ntmps54
  go_wp2
  go_returns
  refine ⟨⟨_, _, _, _, rfl, rfl⟩, ?_⟩
  repeat' (first | refine Below.setCell ?_ (by simp <;> omega) _ | refine below_drewN ?_ _ | refine Below.alloc ?_ (by simp <;> omega) _ | exact Below.refl _ _)
theorem HC_zero (a b c d : Int) : HC ⟨a, b, c, d⟩ (List.replicate 32 0) 0 = #[.int .u64 a, .int .u64 b, .int .u64 c, .int .u64 d, .int .u8 0, .int .u8 0, .int .u8 0, .int .u8 0, .int .u8 0, .int .u8 0, .int .u8 0, .int .u8 0, .int .u8 0, .int .u8 0, .int .u8 0, .int .u8 0, .int .u8 0, .int .u8 0, .int .u8 0, .int .u8 0, .int .u8 0, .int .u8 0, .int .u8 0, .int .u8 0, .int .u8 0, .int .u8 0, .int .u8 0, .int .u8 0, .int .u8 0, .int .u8 0, .int .u8 0, .int .u8 0, .int .u8 0, .int .u8 0, .int .u8 0, .int .u8 0, .int .i64 0] := by kernel_rfl
theorem HC_one (s : S4) (tl : List Int) (n : Nat) : (HC s tl n).all (·.oneCell') = true := by
  simp [HC, B8, Value.oneCell']
/-- Of's blocks: the result, the Hash. -/
structure OfH (N g : Nat) (w0 w : World) (s : S4) (tl : List Int) (n : Nat) : Prop where
  h0 : w.heap[N]? = some (.cells (B8 (List.replicate 32 0)) 56)
  hg : w.heap[g]? = some (.cells (HC s tl n) 78)
  bel : Below N w0 w
  lt : N < g
end Go.Proofs.Ytmofehloiiopfaa.Di
