/- What package octet makes: contracts of octet.PutLittle, octet.PutBig, octet.New and of the copy that they lean on. Condition: the numbers fit their kinds; a slice that is copied takes at most 2^47 bytes. -/
import Derived.Test.YtkkgfphfilbcdaaOctR
import Derived.Deep.OwnRows
set_option linter.unusedVariables false
namespace Go.Proofs.Ytkkgfphfilbcdaa
open Go.RowKit

/-- a number's byte at a place, the least one first -/
def byteOf (v : Int) (k : Nat) : Int := v / 2 ^ (8 * k) % 256
def LE (v : Int) (n : Nat) : List Int := (List.range n).map (byteOf v)
def LEof (n v : Int) : List Int := if 1 ≤ n ∧ n ≤ 8 then LE v n.toNat else []
theorem LE_len (v : Int) (n : Nat) : (LE v n).length = n := by simp [LE]
theorem LE_get (v : Int) (n i : Nat) (h : i < n) : (LE v n)[i]? = some (byteOf v i) := by simp [LE, h]
theorem LE_bytes (v : Int) (n : Nat) : Bytes (LE v n) := fun x hx => by
  obtain ⟨i, _, rfl⟩ := List.mem_map.1 hx
  unfold byteOf; omega
theorem LEof_bytes (n v : Int) : Bytes (LEof n v) := by
  unfold LEof; split
  · exact LE_bytes _ _
  · exact Bytes.nil
theorem LEof_len (n v : Int) : (LEof n v).length ≤ 8 := by
  unfold LEof; split
  · rw [LE_len]; omega
  · simp

theorem own_of_blk {w : World} {base g n : Nat} {t : TypeId} {cs : Array Value} {l : List Value} (hh : w.heap[g]? = some (.cells cs t (0, 0))) (hb : base ≤ g) (hn : n ≤ maxLen) (hs : cs.size = n) (hl : cs.toList = l) :
    w.ownsRow base t 1 (.slice (some ⟨g, 0, none⟩) n n) n l :=
  ⟨by rw [← hl]; simp [hs], .inr ⟨g, n, cs, rfl, hb, hh, Nat.le_refl _, hn, by simp [hs], by rw [← hl]; apply List.take_of_length_le; simp [hs]⟩⟩
theorem list_of_get {cs : Array Value} {l : List Value} (hs : cs.size = l.length) (h : ∀ i, i < l.length → cs[i]? = l[i]?) : cs.toList = l := by
  apply List.ext_getElem?
  intro i
  rw [Array.getElem?_toList]
  by_cases hi : i < l.length
  · exact h i hi
  · rw [List.getElem?_eq_none (by omega), Array.getElem?_eq_none (by omega)]
theorem made_size (z : Value) (n : Nat) : (madeCells #[z] n).size = n := by simp [madeCells]
theorem byte_wrap (v : Int) (k : Nat) : IntKind.u8.wrap (v / 2 ^ (8 * k)) = byteOf v k := by
  rw [IntKind.wrap_u8]; rfl

set_option maxHeartbeats 400000 in
theorem octPutLittle (n v : Int) (hn : -9223372036854775808 ≤ n ∧ n ≤ 9223372036854775807) (w : World) :
    Calls Try.prog 33 #[.int .i64 n, .int .i64 v] w (Made w (LEof n v)) := by
  have hw : ∀ W, Calls Try.prog 58 #[.int .i64 n] W fun e w' => e = .returned (.bool (decide (1 ≤ n ∧ n ≤ 8))) ∧ W = w' := octWidth n
  by_cases h : 1 ≤ n ∧ n ≤ 8
  · have e1 : decide (1 ≤ n ∧ n ≤ 8) = true := by simp [h]
    rw [e1] at hw
    have e2 : LEof n v = LE v n.toNat := by simp [LEof, h]
    rw [e2]
    obtain ⟨m, rfl⟩ := Int.eq_ofNat_of_zero_le (show 0 ≤ n by omega)
    rw [Int.toNat_natCast]
    have HW := Lib.hid hw; clear hw e1 e2
    have hmk := fun W => run_make_row' (P := Try.prog) 37 5 (.int .u8 0) 1 Try.underlying37 u8_info rfl .i64 .i64 m (by omega) (by omega) W
    go_enter Try.func33, Try.ntmps33
    go_wp2_with (go_at_call 58; refine (HW.out _).mono ?_; rintro e w' ⟨rfl, rfl⟩)
    clear hmk
    go_loopw [13] (fun i wr => ∃ k : Nat, ∃ cs : Array Value, k ≤ m ∧ i = .int .i64 k ∧ wr.heap[w.heap.size]? = some (.cells cs 5 (0, 0)) ∧ cs.size = m ∧ (∀ j, j < k → cs[j]? = some (.int .u8 (byteOf v j))) ∧ Below w.heap.size w wr) (fun i _ => m - (intOf i).toNat)
    case atStart => exact ⟨0, _, Nat.zero_le _, rfl, heap_alloc_new w _, made_size _ _, fun j hj => absurd hj (by omega), (Below.refl _ _).alloc (Nat.le_refl _) _⟩
    case round =>
      obtain ⟨k, cs, hk, rfl, hh, hs, hcs, hbel⟩ := hrel
      by_cases hlt : k < m
      · obtain ⟨u, hc⟩ : ∃ u, wr.cell? ⟨w.heap.size, k, none⟩ = some u := ⟨cs[k]'(by omega), by rw [blk_cell hh]; simp [hs, hlt]⟩
        have hf := blk_free hh k
        have hset := blk_set hh k (.int .u8 (byteOf v k))
        have hbw := byte_wrap v k
        have HS := Lib.hid hset; clear hset
        have HC := Lib.hid hcs; clear hcs
        have HZ := Lib.hid hs; clear hs
        clear hh
        go_wp2
        go_roundw
        case rel => exact ⟨k + 1, _, by omega, by go_num, HS.out, by simpa using HZ.out, fun j hj => by
          by_cases hjk : j = k
          · subst hjk; simp [HZ.out, hlt]
          · rw [Array.getElem?_setIfInBounds_ne (by omega)]; exact HC.out j (by omega), hbel.setCell (Nat.le_refl _) _⟩
        case measure => simp [intOf]; omega
      · obtain rfl : k = m := by omega
        have hl : cs.toList = (LE v k).map (Value.int .u8) := list_of_get (by simp [hs, LE_len]) (fun i hi => by
          rw [List.length_map, LE_len] at hi
          rw [hcs i hi, List.getElem?_map, LE_get v k i hi]; rfl)
        have hown := own_of_blk (base := w.heap.size) hh (Nat.le_refl _) (by simp only [maxLen]; omega) hs hl
        have HO := Lib.hid hown; clear hown hl hcs hh hs
        go_wp2
        go_ret
        exact ⟨some ⟨w.heap.size, 0, none⟩, k, by rw [LE_len]; rfl, own_cast HO.out (LE_len v k).symm rfl, hbel⟩
  · have e1 : decide (1 ≤ n ∧ n ≤ 8) = false := by simp only [decide_eq_false_iff_not]; exact h
    rw [e1] at hw
    have e2 : LEof n v = [] := by simp [LEof, h]
    rw [e2]
    have HW := Lib.hid hw; clear hw e1 e2
    go_enter Try.func33, Try.ntmps33
    go_wp2_with (go_at_call 58; refine (HW.out _).mono ?_; rintro e w' ⟨rfl, rfl⟩)
    go_ret
    exact ⟨none, 0, rfl, World.ownsRow_nil _ _ _ _, Below.refl _ _⟩
set_option maxHeartbeats 400000 in
theorem octPutBig (n v : Int) (hn : -9223372036854775808 ≤ n ∧ n ≤ 9223372036854775807) (w : World) :
    Calls Try.prog 34 #[.int .i64 n, .int .i64 v] w (Made w (LEof n v).reverse) := by
  have hw : ∀ W, Calls Try.prog 58 #[.int .i64 n] W fun e w' => e = .returned (.bool (decide (1 ≤ n ∧ n ≤ 8))) ∧ W = w' := octWidth n
  by_cases h : 1 ≤ n ∧ n ≤ 8
  · have e1 : decide (1 ≤ n ∧ n ≤ 8) = true := by simp [h]
    rw [e1] at hw
    have e2 : (LEof n v).reverse = (LE v n.toNat).reverse := by simp [LEof, h]
    rw [e2]
    obtain ⟨m, rfl⟩ := Int.eq_ofNat_of_zero_le (show 0 ≤ n by omega)
    rw [Int.toNat_natCast]
    have HW := Lib.hid hw; clear hw e1 e2
    have hmk := fun W => run_make_row' (P := Try.prog) 37 5 (.int .u8 0) 1 Try.underlying37 u8_info rfl .i64 .i64 m (by omega) (by omega) W
    go_enter Try.func34, Try.ntmps34
    go_wp2_with (go_at_call 58; refine (HW.out _).mono ?_; rintro e w' ⟨rfl, rfl⟩)
    clear hmk
    go_loopw [13] (fun i wr => ∃ k : Nat, ∃ cs : Array Value, k ≤ m ∧ i = .int .i64 k ∧ wr.heap[w.heap.size]? = some (.cells cs 5 (0, 0)) ∧ cs.size = m ∧ (∀ j, j < k → cs[m - 1 - j]? = some (.int .u8 (byteOf v j))) ∧ Below w.heap.size w wr) (fun i _ => m - (intOf i).toNat)
    case atStart => exact ⟨0, _, Nat.zero_le _, rfl, heap_alloc_new w _, made_size _ _, fun j hj => absurd hj (by omega), (Below.refl _ _).alloc (Nat.le_refl _) _⟩
    case round =>
      obtain ⟨k, cs, hk, rfl, hh, hs, hcs, hbel⟩ := hrel
      by_cases hlt : k < m
      · obtain ⟨q, hq⟩ : ∃ q, m = q + 1 + k := ⟨m - 1 - k, by omega⟩
        obtain ⟨u, hc⟩ : ∃ u, wr.cell? ⟨w.heap.size, q, none⟩ = some u := ⟨cs[q]'(by omega), by rw [blk_cell hh]; simp⟩
        have hf := blk_free hh q
        have hset := blk_set hh q (.int .u8 (byteOf v k))
        have hi1 : (m : Int) - 1 - k = q := by omega
        have hqm : q < m := by omega
        have HQ := Lib.hid hq; clear hq
        have hbw := byte_wrap v k
        have HS := Lib.hid hset; clear hset
        have HC := Lib.hid hcs; clear hcs
        have HZ := Lib.hid hs; clear hs
        clear hh
        go_wp2
        go_roundw
        case rel => exact ⟨k + 1, _, by omega, by go_num, HS.out, by simpa using HZ.out, fun j hj => by
          have hq := HQ.out
          by_cases hjk : j = k
          · subst hjk; rw [show m - 1 - j = q by omega]; simp [HZ.out, hqm]
          · rw [Array.getElem?_setIfInBounds_ne (by omega)]; exact HC.out j (by omega), hbel.setCell (Nat.le_refl _) _⟩
        case measure => simp [intOf]; omega
      · obtain rfl : k = m := by omega
        have hl : cs.toList = (LE v k).reverse.map (Value.int .u8) := list_of_get (by simp [hs, LE_len]) (fun i hi => by
          rw [List.length_map, List.length_reverse, LE_len] at hi
          have := hcs (k - 1 - i) (by omega)
          rw [show k - 1 - (k - 1 - i) = i by omega] at this
          rw [this, List.getElem?_map, List.getElem?_reverse (by rw [LE_len]; exact hi), LE_len, LE_get v k _ (by omega)]; rfl)
        have hown := own_of_blk (base := w.heap.size) hh (Nat.le_refl _) (by simp only [maxLen]; omega) hs hl
        have HO := Lib.hid hown; clear hown hl hcs hh hs
        go_wp2
        go_ret
        exact ⟨some ⟨w.heap.size, 0, none⟩, k, by rw [List.length_reverse, LE_len]; rfl, own_cast HO.out (by rw [List.length_reverse, LE_len]) rfl, hbel⟩
  · have e1 : decide (1 ≤ n ∧ n ≤ 8) = false := by simp only [decide_eq_false_iff_not]; exact h
    rw [e1] at hw
    have e2 : (LEof n v).reverse = [] := by simp [LEof, h]
    rw [e2]
    have HW := Lib.hid hw; clear hw e1 e2
    go_enter Try.func34, Try.ntmps34
    go_wp2_with (go_at_call 58; refine (HW.out _).mono ?_; rintro e w' ⟨rfl, rfl⟩)
    go_ret
    exact ⟨none, 0, rfl, World.ownsRow_nil _ _ _ _, Below.refl _ _⟩

set_option maxHeartbeats 400000 in
theorem octClone (a : Option Addr) (n c : Nat) (l : List Int) (hn : l.length = n) (hm : n ≤ 140737488355328) (w : World) (hb : Bs w w.heap.size a l) :
    Calls Try.prog 59 #[.slice a n c] w (Made w l) := by
  obtain ⟨i0, hi, hz0, hz1, hz2⟩ := info_parts u8_info
  cases a with
  | none =>
    have hl : l = [] := by
      rcases Nat.eq_zero_or_pos l.length with h | h
      · exact List.eq_nil_of_length_eq_zero h
      · obtain ⟨b, off, e, _⟩ := hb.2 h; cases e
    subst hl
    subst hn
    have hnil := fun W => Lib.run_eql_slice_nil (P := Try.prog) W 37 5 none 0 c 0 0 Try.underlying37
    go_enter Try.func59, Try.ntmps59
    go_wp2
    go_ret
    exact ⟨none, 0, rfl, World.ownsRow_nil _ _ _ _, Below.refl _ _⟩
  | some ad =>
    have hcells : ∀ j u, (l.map (Value.int .u8))[j]? = some u → (w.alloc (.cells #[] 5)).cell? (ad.add j) = some u := by
      intro j u hu
      have hj : j < l.length := by
        rcases Nat.lt_or_ge j l.length with h | h
        · exact h
        · rw [List.getElem?_eq_none (by simpa using h)] at hu; cases hu
      obtain ⟨b, off, e, hbl, hc⟩ := hb.at_ hj
      injection e with e
      subst e
      have e2 : (⟨b, off, none⟩ : Addr).add j = ⟨b, off + j, none⟩ := by unfold Addr.add; split <;> simp_all
      rw [e2, World.cell?_alloc_lt _ _ _ hbl, hc, ← hu]
      simp [List.getD_eq_getElem?_getD, hj]
    have HC := Lib.hid hcells; clear hcells
    have hnil := fun W => Lib.run_eql_slice_nil (P := Try.prog) W 37 5 (some ad) n c 0 0 Try.underlying37
    go_enter Try.func59, Try.ntmps59
    go_wp2_with (at_builtin; refine wpList_append_own _ rfl _ _ 37 rfl w.heap.size 5 i0 (.int .u8 0) 1 1 Try.underlying37 hi hz0 hz1 hz2 rfl (by decide) _ 0 [] rfl (World.ownsRow_lit w #[] 0 (Nat.le_refl _) (by decide) rfl) ad n c (l.map (Value.int .u8)) rfl (by simp [hn]) HC.out ?c2 ?c3 ?c4 ?c5 ?_)
    case c2 => intro u hu; obtain ⟨x, _, rfl⟩ := List.mem_map.1 hu; rfl
    case c3 => simp only [maxLen]; omega
    case c4 => omega
    case c5 => simp
    intro v' w1 hown1 hg1 _
    have hb1 : Below w.heap.size w w1 := ((Below.refl w.heap.size w).alloc (Nat.le_refl _) _).grown hg1 (by simp) (fun k hk => by simp [Value.ownBlock] at hk; omega)
    obtain ⟨a2, c2, rfl⟩ := own_shape hown1
    clear hg1
    go_wp2
    go_ret
    exact ⟨a2, c2, by rw [hn]; rfl, own_cast hown1 hn.symm rfl, hb1⟩

/-- what New has made: a block of the call's own is a reader of the bytes l at the beginning -/
def NewRd (w : World) (l : List Int) (e : Ending) (w' : World) : Prop := ∃ g, e = .returned (.pointer (some ⟨g, 0, none⟩)) ∧ w.heap.size ≤ g ∧ Rd w' g l 0 false ∧ Below w.heap.size w w'
theorem own_cap {w : World} {base : Nat} {t : TypeId} {a : Option Addr} {n k c : Nat} {xs : List Value} (h : w.ownsRow base t k (.slice a n c) n xs) : n ≤ c ∧ c ≤ maxLen := by
  rcases h.2 with ⟨e, rfl⟩ | ⟨g, cap, _, e, _, _, h1, h2, _⟩
  · injection e with _ _ e; subst e; exact ⟨Nat.le_refl _, by decide⟩
  · injection e with _ _ e; subst e; exact ⟨h1, h2⟩
theorem octNew (a : Option Addr) (n c : Nat) (l : List Int) (hn : l.length = n) (hm : n ≤ 140737488355328) (w : World) (hb : Bs w w.heap.size a l) :
    Calls Try.prog 38 #[.slice a n c] w (NewRd w l) := by
  have hc := octClone a n c l hn hm w hb
  have HC := Lib.hid hc; clear hc
  subst hn
  go_enter Try.func38, Try.ntmps38
  go_wp2_with (go_at_call 59; refine HC.out.mono ?_; rintro e w1 ⟨a1, c1, rfl, hown, hbel⟩)
  go_ret
  exact ⟨w1.heap.size, rfl, hbel.size, ⟨a1, c1, by simpa using heap_alloc_new w1 (.cells #[.slice a1 l.length c1, .int .i64 0, .bool false] 73), (own_cap hown).1, by omega, (Bs.of_own hown hb.1).alloc (Nat.le_refl _) _, Nat.zero_le _⟩, hbel.alloc hbel.size _⟩
end Go.Proofs.Ytkkgfphfilbcdaa
