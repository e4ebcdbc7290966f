/- What the document's own answers for a number's bytes are: contracts of samovarref02.PutLittle, PutBig. Condition: the numbers fit their kinds. -/
import Derived.Test.YtkkgfphfilbcdaaOctFix
set_option linter.unusedVariables false
namespace Go.Proofs.Ytkkgfphfilbcdaa
open Go.RowKit

theorem mod256 (v : Int) (h : -9223372036854775808 ≤ v ∧ v ≤ 9223372036854775807) : (v.tmod 256 + 256).tmod 256 = v % 256 ∧ 0 ≤ v.tmod 256 + 256 ∧ v.tmod 256 + 256 < 512 := by
  have := mod_count v 256 (by decide); exact this
theorem sub_div (v : Int) : (v - v % 256).tdiv 256 = v / 256 := by
  have e : v - v % 256 = v / 256 * 256 := by omega
  rw [e, Int.mul_tdiv_cancel _ (by decide)]
theorem shift8 (v : Int) (k : Nat) : v / 2 ^ (8 * k) / 256 = v / 2 ^ (8 * (k + 1)) := by
  rw [show (256 : Int) = 2 ^ 8 from rfl, Int.ediv_ediv_of_nonneg (Int.le_of_lt (pow_pos2 _)), ← Int.pow_add]; rfl
theorem LE_succ (v : Int) (k : Nat) : LE v (k + 1) = LE v k ++ [byteOf v k] := by simp [LE, List.range_succ]

set_option maxHeartbeats 400000 in
theorem refPutLittle (n v : Int) (hn : -9223372036854775808 ≤ n ∧ n ≤ 9223372036854775807) (hv : -9223372036854775808 ≤ v ∧ v ≤ 9223372036854775807) (w : World) :
    Calls Try.prog 36 #[.int .i64 n, .int .i64 v] w (Made w (LEof n v)) := by
  by_cases h : 1 ≤ n ∧ n ≤ 8
  · have e2 : LEof n v = LE v n.toNat := by simp [LEof, h]
    rw [e2]
    obtain ⟨m, rfl⟩ := Int.eq_ofNat_of_zero_le (show 0 ≤ n by omega)
    rw [Int.toNat_natCast]
    clear e2
    obtain ⟨i0, hi, hz0, hz1, hz2⟩ := info_parts u8_info
    go_enter Try.func36, Try.ntmps36
    go_wp2
    go_loopw [5, 6, 1] (fun o i x wr => ∃ k : Nat, k ≤ m ∧ i = .int .i64 k ∧ x = .int .i64 (v / 2 ^ (8 * k)) ∧ (∃ a' c', o = .slice a' k c') ∧ wr.ownsRow w.heap.size 5 1 o k ((LE v k).map (Value.int .u8)) ∧ Below w.heap.size w wr) (fun _ i _ _ => m - (intOf i).toNat)
    case atStart => exact ⟨0, Nat.zero_le _, rfl, by simp, ⟨none, 0, rfl⟩, World.ownsRow_nil _ _ _ _, Below.refl _ _⟩
    case round =>
      obtain ⟨k, hk, rfl, rfl, ⟨a', c', rfl⟩, hown, hbel⟩ := hrel
      by_cases hlt : k < m
      · have hs := shift8 v k
        have hL := LE_succ v k
        have hbo : byteOf v k = v / 2 ^ (8 * k) % 256 := rfl
        have hd := div_bd v (8 * k) _ _ (by decide) (by decide) hv
        have HS := Lib.hid hs; clear hs
        have HL := Lib.hid hL; clear hL
        have HB := Lib.hid hbo; clear hbo
        generalize v / 2 ^ (8 * k) = z at *
        obtain ⟨hm1, hm2, hm3⟩ := mod256 z hd
        have hsd := sub_div z
        have hr : 0 ≤ z % 256 ∧ z % 256 ≤ 255 ∧ -9223372036854775808 ≤ z - z % 256 := by omega
        have hsz := hbel.size
        go_wp2_with (at_builtin; refine wpList_append_own _ rfl _ _ 37 rfl w.heap.size 5 i0 (.int .u8 0) 1 1 Try.underlying37 hi hz0 hz1 hz2 rfl (by decide) _ _ _ rfl (hown.alloc _) ⟨wr.heap.size, 0, none⟩ 1 1 [.int .u8 (z % 256)] rfl rfl ?c1 ?c2 ?c3 ?c4 ?c5 ?_)
        case c1 => exact one_new _ _ _
        case c2 => simp [Value.oneCell']
        case c3 => simp only [maxLen]; omega
        case c4 => omega
        case c5 => simp; omega
        intro v' w1 hown1 hg1 _
        have hb1 := grown_below hbel hsz hown hg1
        obtain ⟨a2, c2, rfl⟩ := own_shape hown1
        clear hown hbel hg1
        go_wp2
        go_roundw
        case rel => exact ⟨k + 1, by omega, by go_num, by rw [← HS.out], ⟨a2, c2, rfl⟩, by rw [HL.out, HB.out]; simpa using hown1, hb1⟩
        case measure => simp [intOf]; omega
      · obtain rfl : k = m := by omega
        have hown' := own_cast (n' := (LE v k).length) hown (LE_len v k).symm rfl
        have HO := Lib.hid hown'; clear hown hown'
        go_wp2
        go_ret
        exact ⟨a', c', by rw [LE_len]; rfl, HO.out, hbel⟩
  · have e2 : LEof n v = [] := by simp [LEof, h]
    rw [e2]
    clear e2
    by_cases h1 : n < 1
    · go_enter Try.func36, Try.ntmps36
      go_wp2
      go_ret
      exact ⟨none, 0, rfl, World.ownsRow_nil _ _ _ _, Below.refl _ _⟩
    · have h2 : 8 < n := by omega
      go_enter Try.func36, Try.ntmps36
      go_wp2
      go_ret
      exact ⟨none, 0, rfl, World.ownsRow_nil _ _ _ _, Below.refl _ _⟩

theorem refPutBig (n v : Int) (hn : -9223372036854775808 ≤ n ∧ n ≤ 9223372036854775807) (hv : -9223372036854775808 ≤ v ∧ v ≤ 9223372036854775807) (w : World) :
    Calls Try.prog 37 #[.int .i64 n, .int .i64 v] w (Made w (LEof n v).reverse) := by
  have hl := LEof_len n v
  have hB := LEof_bytes n v
  go_enter Try.func37, Try.ntmps37
  go_wp2_with fail
  refine (refPutLittle n v hn hv _).mono ?_; rintro e w1 ⟨a1, c1, rfl, hown1, hb1⟩
  have hbs := Bs.of_own hown1 hB
  clear hown1
  go_wp2_with fail
  refine (refTurn _ _ _ (LEof n v) rfl (by omega) _ hbs).mono ?_; rintro e w2 ⟨a2, c2, rfl, hown2, hb2⟩
  have HO := Lib.hid hown2; clear hown2
  go_wp2_with fail
  go_ret
  exact ⟨a2, c2, by rw [List.length_reverse]; rfl, own_cast (own_base HO.out hb1.size) rfl rfl, hb1.trans (hb2.mono hb1.size)⟩
end Go.Proofs.Ytkkgfphfilbcdaa
