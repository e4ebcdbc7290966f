/- What the document's own answers for layer 1 are: contracts of samovarref01. Condition: the numbers fit their kinds. -/
import Derived.Test.YtkkgfphfilbcdaaWord
import Derived.Lib.Hide
set_option linter.unusedVariables false
namespace Go.Proofs.Ytkkgfphfilbcdaa
open Go.RowKit

theorem tmod_ex (n M : Int) (hM : 0 < M) : ∃ q, n = M * q + n.tmod M ∧ -M < n.tmod M ∧ n.tmod M < M ∧ (0 ≤ n → 0 ≤ n.tmod M) ∧ (n ≤ 0 → n.tmod M ≤ 0) := by
  refine ⟨n.tdiv M, by rw [Int.mul_tdiv_add_tmod], ?_, Int.tmod_lt_of_pos n hM, Int.tmod_nonneg M, ?_⟩
  · have h2 : (n.tmod M).natAbs < M.natAbs := by rw [Int.natAbs_tmod]; exact Nat.mod_lt _ (by omega)
    omega
  · intro h; have := Int.tmod_nonneg M (a := -n) (by omega); rw [Int.neg_tmod] at this; omega

theorem mod_count (y : Int) (M : Int) (hM : 0 < M) : (y.tmod M + M).tmod M = y % M ∧ 0 ≤ y.tmod M + M ∧ y.tmod M + M < 2 * M := by
  obtain ⟨q, h1, h2, h3, _, _⟩ := tmod_ex y M hM
  refine ⟨?_, by omega, by omega⟩
  rw [Int.tmod_eq_emod_of_nonneg (by omega), Int.add_emod_right]
  have e : y % M = (M * q + y.tmod M) % M := by rw [← h1]
  rw [e, Int.mul_add_emod_self_left]

theorem refLow (n : Int) (w : World) :
    Calls Try.prog 49 #[.int .i64 n] w fun e w' => e = .returned (.int .i64 (wrap32 n)) ∧ w = w' := by
  obtain ⟨q, h1, h2, h3, _, _⟩ := tmod_ex n 4294967296 (by decide)
  have H := Lib.hid h1; clear h1
  go_enter Try.func49, Try.ntmps49
  go_wp2
  all_goals
    go_ret
    refine ⟨ret1 ?_, rfl⟩; have := H.out; unfold wrap32; omega

theorem and1 (z : Int) (h0 : 0 ≤ z) (h : z < 18446744073709551616) : bits .and .u64 z 1 = z % 2 := by
  have h1 := ofInt_toNat 64 z
  have h2 : (BitVec.ofInt 64 1).toNat = 2 ^ 1 - 1 := by decide
  rw [andu64_is, BitVec.toNat_and, h2, Nat.and_two_pow_sub_one_eq_mod, IntWalk.u64_in] <;> omega
theorem u64_is (n : Int) : IntKind.u64.wrap n = n % 18446744073709551616 := by simp [IntKind.wrap, IntKind.bits, IntKind.signed]

theorem refBit (n i : Int) (h0 : 0 ≤ i) (h1 : i ≤ 63) (w : World) :
    Calls Try.prog 63 #[.int .i64 n, .int .i64 i] w fun e w' => e = .returned (.int .i64 (bitAt n i.toNat)) ∧ w = w' := by
  have hd := div_bd (n % 18446744073709551616) i.toNat 0 18446744073709551615 (by decide) (by decide) (by omega)
  have ha := and1 (n % 18446744073709551616 / 2 ^ i.toNat) hd.1 (by omega)
  have hb := bit_mod n 64 i.toNat (by omega)
  have hu := u64_is n
  have HB := Lib.hid hb; clear hb
  go_enter Try.func63, Try.ntmps63
  go_wp2
  go_ret
  refine ⟨ret1 ?_, rfl⟩
  exact HB.out

theorem refUp (a by' : Int) (h0 : 0 ≤ by') (ha : -9223372036854775808 ≤ a ∧ a ≤ 9223372036854775807) (h1 : by' ≤ 63) (w : World) :
    Calls Try.prog 50 #[.int .i64 a, .int .i64 by'] w fun e w' => e = .returned (.int .i64 (wrap64 (a * 2 ^ by'.toNat))) ∧ w = w' := by
  obtain ⟨n, rfl⟩ := Int.eq_ofNat_of_zero_le h0
  rw [Int.toNat_natCast]
  go_enter Try.func50, Try.ntmps50
  go_wp2
  go_loop [0, 1] (fun x i => ∃ k : Nat, k ≤ n ∧ i = .int .i64 ↑(n - k) ∧ x = .int .i64 (wrap64 (a * 2 ^ k))) (fun _ i => (intOf i).toNat)
  case atStart => exact ⟨0, Nat.zero_le _, rfl, by simp [wrap64_in a ha]⟩
  case round =>
    obtain ⟨k, hk, rfl, rfl⟩ := hrel
    by_cases hlt : k < n
    · obtain ⟨m, hm⟩ : ∃ m, n - k = m + 1 := ⟨n - k - 1, by omega⟩
      rw [hm]
      have hm63 : m + 1 ≤ 63 := by omega
      have HM := Lib.hid hm; clear hm
      go_wp2
      go_round
      case rel => exact ⟨k + 1, by omega, by rw [show n - (k + 1) = m by have := HM.out; omega], by
        refine congrArg (Value.int .i64) ?_
        rw [Int.pow_succ, ← Int.mul_assoc]
        unfold wrap64; omega⟩
      case measure => simp [intOf]
    · obtain rfl : k = n := by omega
      rw [Nat.sub_self]
      go_wp2
      go_ret
      exact ⟨rfl, rfl⟩

theorem half (a : Int) (k : Nat) : a / 2 ^ k / 2 = a / 2 ^ (k + 1) := by
  rw [Int.ediv_ediv_of_nonneg (Int.le_of_lt (pow_pos2 k)), Int.pow_succ]
theorem tdiv_half (a : Int) : (a - bitAt a 0).tdiv 2 = a / 2 := by
  have e : a - bitAt a 0 = a / 2 * 2 := by unfold bitAt; simp; omega
  rw [e, Int.mul_tdiv_cancel _ (by decide)]

theorem refDown (a by' : Int) (h0 : 0 ≤ by') (ha : -9223372036854775808 ≤ a ∧ a ≤ 9223372036854775807) (h1 : by' ≤ 63) (w : World) :
    Calls Try.prog 51 #[.int .i64 a, .int .i64 by'] w fun e w' => e = .returned (.int .i64 (a / 2 ^ by'.toNat)) ∧ w = w' := by
  obtain ⟨n, rfl⟩ := Int.eq_ofNat_of_zero_le h0
  rw [Int.toNat_natCast]
  go_enter Try.func51, Try.ntmps51
  go_wp2
  go_loop [0, 1] (fun x i => ∃ k : Nat, k ≤ n ∧ i = .int .i64 ↑(n - k) ∧ x = .int .i64 (a / 2 ^ k)) (fun _ i => (intOf i).toNat)
  case atStart => exact ⟨0, Nat.zero_le _, rfl, by simp⟩
  case round =>
    obtain ⟨k, hk, rfl, rfl⟩ := hrel
    by_cases hlt : k < n
    · obtain ⟨m, hm⟩ : ∃ m, n - k = m + 1 := ⟨n - k - 1, by omega⟩
      rw [hm]
      have hm63 : m + 1 ≤ 63 := by omega
      have HM := Lib.hid hm; clear hm
      have hq := half a k
      have HQ := Lib.hid hq; clear hq
      have hd := div_bd a k _ _ (by decide) (by decide) ha
      have ht := tdiv_half (a / 2 ^ k)
      have hb : 0 ≤ bitAt (a / 2 ^ k) 0 ∧ bitAt (a / 2 ^ k) 0 ≤ 1 ∧ -9223372036854775808 ≤ a / 2 ^ k - bitAt (a / 2 ^ k) 0 := by
        unfold bitAt; generalize a / 2 ^ k = z at *; simp; omega
      generalize a / 2 ^ k = z at *
      go_wp2_with (go_at_call 63; refine (refBit _ _ (by omega) (by omega) _).mono ?_; rintro e w' ⟨rfl, rfl⟩)
      go_round
      case rel => exact ⟨k + 1, by omega, by rw [show n - (k + 1) = m by have := HM.out; omega], by
        refine congrArg (Value.int .i64) ?_
        rw [← HQ.out]⟩
      case measure => simp [intOf]
    · obtain rfl : k = n := by omega
      rw [Nat.sub_self]
      go_wp2
      go_ret
      exact ⟨rfl, rfl⟩

def zf (how x y : Int) : Int := if how = 1 then x + y - x * y else if how = 2 then x + y - 2 * x * y else x * y
theorem zf_bd (how x y : Int) (hx : 0 ≤ x ∧ x ≤ 1) (hy : 0 ≤ y ∧ y ≤ 1) : 0 ≤ zf how x y ∧ zf how x y ≤ 1 := by
  have h1 : x = 0 ∨ x = 1 := by omega
  have h2 : y = 0 ∨ y = 1 := by omega
  unfold zf
  rcases h1 with rfl | rfl <;> rcases h2 with rfl | rfl <;> (repeat' split) <;> decide
theorem bitAt_bd (a : Int) (k : Nat) : 0 ≤ bitAt a k ∧ bitAt a k ≤ 1 := by unfold bitAt; omega
theorem bit_prod (x y : Int) (hx : 0 ≤ x ∧ x ≤ 1) (hy : 0 ≤ y ∧ y ≤ 1) : 0 ≤ x * y ∧ x * y ≤ 1 ∧ x * y ≤ x ∧ 0 ≤ 2 * x * y ∧ 2 * x * y ≤ 2 ∧ 2 * x * y ≤ x + y ∧ x + y - x * y ≤ 1 ∧ x + y - 2 * x * y ≤ 1 := by
  have h1 : x = 0 ∨ x = 1 := by omega
  have h2 : y = 0 ∨ y = 1 := by omega
  rcases h1 with rfl | rfl <;> rcases h2 with rfl | rfl <;> decide
def bsumOf (how a b : Int) (k : Nat) : Int := bsum (fun i => zf how (bitAt a i) (bitAt b i)) k
theorem bsumOf_bd (how a b : Int) (k : Nat) (hk : k ≤ 64) : 0 ≤ bsumOf how a b k ∧ bsumOf how a b k < 18446744073709551616 := by
  have h := bsum_bound (f := fun i => zf how (bitAt a i) (bitAt b i)) (fun i => zf_bd _ _ _ (bitAt_bd _ _) (bitAt_bd _ _)) k
  have h2 : (2 : Int) ^ k ≤ 2 ^ 64 := by
    have := Nat.pow_le_pow_right (n := 2) (by decide) hk
    have e1 : (2 : Int) ^ k = ((2 ^ k : Nat) : Int) := by simp
    omega
  unfold bsumOf
  omega
theorem bsumOf_succ (how a b : Int) (k : Nat) : bsumOf how a b (k + 1) = bsumOf how a b k + zf how (bitAt a k) (bitAt b k) * 2 ^ k := rfl
theorem u64_add (s p : Int) (n : Int) (h : n = s + p) (h0 : 0 ≤ n ∧ n < 18446744073709551616) : IntKind.u64.wrap (s + IntKind.u64.wrap p) = n := by
  rw [u64_is, u64_is]; omega

theorem refBits (a b how : Int) (hh : how = 0 ∨ how = 1 ∨ how = 2) (w : World) :
    Calls Try.prog 52 #[.int .i64 a, .int .i64 b, .int .i64 how] w fun e w' => e = .returned (.int .i64 (wrap64 (bsumOf how a b 64))) ∧ w = w' := by
  have hh2 : 0 ≤ how ∧ how ≤ 2 := by omega
  go_enter Try.func52, Try.ntmps52
  go_wp2
  go_loop [7, 8] (fun o i => ∃ k : Nat, k ≤ 64 ∧ i = .int .i64 k ∧ o = .int .u64 (bsumOf how a b k)) (fun _ i => 64 - (intOf i).toNat)
  case atStart => exact ⟨0, Nat.zero_le _, rfl, rfl⟩
  case round =>
    obtain ⟨k, hk, rfl, rfl⟩ := hrel
    by_cases hlt : k < 64
    · have hs := bsumOf_succ how a b k
      have HS := Lib.hid hs; clear hs
      have hx := bitAt_bd a k
      have hy := bitAt_bd b k
      have hb := bsumOf_bd how a b (k + 1) (by omega)
      have hp := bit_prod _ _ hx hy
      have hz : zf how (bitAt a k) (bitAt b k) = if how = 1 then bitAt a k + bitAt b k - bitAt a k * bitAt b k else if how = 2 then bitAt a k + bitAt b k - 2 * bitAt a k * bitAt b k else bitAt a k * bitAt b k := rfl
      have HZ := Lib.hid hz; clear hz
      rcases hh with rfl | rfl | rfl
      all_goals
        go_wp2_with (go_at_call 63; refine (refBit _ _ (by omega) (by omega) _).mono ?_; rintro e w' ⟨rfl, rfl⟩)
        go_round
        case rel => exact ⟨k + 1, by omega, by go_num, congrArg (Value.int .u64) (u64_add _ _ _ (by rw [HS.out, HZ.out]; simp) ⟨hb.1, by omega⟩)⟩
        case measure => simp [intOf]; omega
    · obtain rfl : k = 64 := by omega
      go_wp2
      go_ret
      exact ⟨rfl, rfl⟩
end Go.Proofs.Ytkkgfphfilbcdaa
