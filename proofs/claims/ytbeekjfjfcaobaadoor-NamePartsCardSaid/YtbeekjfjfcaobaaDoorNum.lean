/- Plain mathematics of numbers of 32 and 64 bits: what the bit operations, the shifts and the wraps of the model are as sums, quotients and remainders. No condition; no program is named. -/
import Derived.WalkKit
namespace Go.Proofs.YtbeekjfjfcaobaaDoor
open Go.RowKit

/-- the bit of a number at a place -/
def bitAt (n : Int) (i : Nat) : Int := n / 2 ^ i % 2
/-- the number whose bits are told -/
def bsum (f : Nat → Int) : Nat → Int
  | 0 => 0
  | n + 1 => bsum f n + f n * 2 ^ n

theorem bsum_congr {f g : Nat → Int} : ∀ n, (∀ i, i < n → f i = g i) → bsum f n = bsum g n
  | 0, _ => rfl
  | n + 1, h => by
    have h1 := bsum_congr n (fun i hi => h i (by omega))
    have h2 := h n (by omega)
    simp only [bsum, h1, h2]

theorem natsum (m : Nat) : ∀ n, ((m % 2 ^ n : Nat) : Int) = bsum (fun i => ((m / 2 ^ i % 2 : Nat) : Int)) n
  | 0 => by simp [bsum, Nat.mod_one]
  | n + 1 => by
    have h := natsum m n
    rw [Nat.mod_pow_succ]
    simp only [bsum]
    rw [← h]
    have e : (2 : Int) ^ n = ((2 ^ n : Nat) : Int) := by simp
    rw [e, Int.natCast_add, Int.natCast_mul, Int.mul_comm]

theorem pow_pos2 (n : Nat) : (0 : Int) < 2 ^ n := Int.pow_pos (by decide)

theorem bsum_bound {f : Nat → Int} (h : ∀ i, 0 ≤ f i ∧ f i ≤ 1) : ∀ n, 0 ≤ bsum f n ∧ bsum f n < 2 ^ n
  | 0 => by simp [bsum]
  | n + 1 => by
    have h1 := bsum_bound h n
    have h2 := h n
    have hp := pow_pos2 n
    simp only [bsum]
    rw [Int.pow_succ]
    have : f n = 0 ∨ f n = 1 := by omega
    rcases this with e | e <;> rw [e] <;> omega

theorem bit_mod (a : Int) (B i : Nat) (h : i < B) : a % 2 ^ B / 2 ^ i % 2 = a / 2 ^ i % 2 := by
  have e : (2 : Int) ^ B = 2 ^ i * (2 ^ (B - i)) := by rw [← Int.pow_add]; congr 1; omega
  have h2 : a % 2 ^ B = a - 2 ^ B * (a / 2 ^ B) := by have := Int.mul_ediv_add_emod a (2 ^ B); omega
  have h3 : (2 : Int) ^ (B - i) = 2 * 2 ^ (B - i - 1) := by
    rw [← Int.pow_succ', show B - i - 1 + 1 = B - i by omega]
  have hp := pow_pos2 i
  rw [h2, e, Int.mul_assoc]
  rw [show a - 2 ^ i * (2 ^ (B - i) * (a / (2 ^ i * 2 ^ (B - i)))) = a + 2 ^ i * (- (2 ^ (B - i) * (a / (2 ^ i * 2 ^ (B - i))))) by rw [Int.mul_neg]; omega]
  rw [Int.add_mul_ediv_left _ _ (by omega), h3]
  generalize a / (2 ^ i * (2 * 2 ^ (B - i - 1))) = q
  rw [Int.mul_assoc]
  omega

theorem ofInt_toNat (B : Nat) (a : Int) : ((BitVec.ofInt B a).toNat : Int) = a % 2 ^ B := by
  rw [BitVec.toNat_ofInt]
  have : (0 : Int) ≤ a % ((2 ^ B : Nat) : Int) := Int.emod_nonneg _ (by have := Nat.two_pow_pos B; omega)
  rw [Int.toNat_of_nonneg this]
  simp

theorem bit_ofInt (B : Nat) (a : Int) (i : Nat) (h : i < B) : (((BitVec.ofInt B a).toNat / 2 ^ i % 2 : Nat) : Int) = bitAt a i := by
  unfold bitAt
  rw [← bit_mod a B i h, ← ofInt_toNat]
  simp

theorem lsb_ofInt (B : Nat) (a : Int) (i : Nat) : (BitVec.ofInt B a).getLsbD i = (decide (i < B) && decide (bitAt a i = 1)) := by
  by_cases h : i < B
  · have h1 := bit_ofInt B a i h
    rw [BitVec.getLsbD, Nat.testBit_eq_decide_div_mod_eq, decide_eq_true h, Bool.true_and, decide_eq_decide]
    omega
  · rw [BitVec.getLsbD_of_ge _ _ (by omega)]; simp [h]

theorem and_bit (x y i : Nat) : (x &&& y) / 2 ^ i % 2 = (x / 2 ^ i % 2) * (y / 2 ^ i % 2) := by
  have h := Nat.testBit_and x y i
  simp only [Nat.testBit_eq_decide_div_mod_eq] at h
  have h1 : x / 2 ^ i % 2 = 0 ∨ x / 2 ^ i % 2 = 1 := by omega
  have h2 : y / 2 ^ i % 2 = 0 ∨ y / 2 ^ i % 2 = 1 := by omega
  rcases h1 with h1 | h1 <;> rcases h2 with h2 | h2 <;> rw [h1, h2] at h ⊢ <;> simp at h <;> omega
theorem or_bit (x y i : Nat) : (((x ||| y) / 2 ^ i % 2 : Nat) : Int) = ((x / 2 ^ i % 2 : Nat) : Int) + ((y / 2 ^ i % 2 : Nat) : Int) - ((x / 2 ^ i % 2 : Nat) : Int) * ((y / 2 ^ i % 2 : Nat) : Int) := by
  have h := Nat.testBit_or x y i
  simp only [Nat.testBit_eq_decide_div_mod_eq] at h
  have h1 : x / 2 ^ i % 2 = 0 ∨ x / 2 ^ i % 2 = 1 := by omega
  have h2 : y / 2 ^ i % 2 = 0 ∨ y / 2 ^ i % 2 = 1 := by omega
  rcases h1 with h1 | h1 <;> rcases h2 with h2 | h2 <;> rw [h1, h2] at h ⊢ <;> simp at h <;> (try rw [h]) <;> omega
theorem xor_bit (x y i : Nat) : (((x ^^^ y) / 2 ^ i % 2 : Nat) : Int) = ((x / 2 ^ i % 2 : Nat) : Int) + ((y / 2 ^ i % 2 : Nat) : Int) - 2 * ((x / 2 ^ i % 2 : Nat) : Int) * ((y / 2 ^ i % 2 : Nat) : Int) := by
  have h := Nat.testBit_xor x y i
  simp only [Nat.testBit_eq_decide_div_mod_eq] at h
  have h1 : x / 2 ^ i % 2 = 0 ∨ x / 2 ^ i % 2 = 1 := by omega
  have h2 : y / 2 ^ i % 2 = 0 ∨ y / 2 ^ i % 2 = 1 := by omega
  rcases h1 with h1 | h1 <;> rcases h2 with h2 | h2 <;> rw [h1, h2] at h ⊢ <;> simp at h <;> omega

theorem toNat_sum (B : Nat) (r : BitVec B) : (r.toNat : Int) = bsum (fun i => ((r.toNat / 2 ^ i % 2 : Nat) : Int)) B := by
  rw [← natsum, Nat.mod_eq_of_lt r.isLt]

theorem wrap64_eq (n : Int) : IntKind.i64.wrap n = wrap64 n := by rw [IntKind.wrap_i64]; unfold wrap64; rfl
theorem wrap32_eq (n : Int) : IntKind.i32.wrap n = wrap32 n := by rw [IntKind.wrap_i32]; unfold wrap32; rfl

theorem and64_is (x y : Int) : bits .and .i64 x y = IntKind.i64.wrap ((BitVec.ofInt 64 x &&& BitVec.ofInt 64 y).toNat : Int) := rfl
theorem or64_is (x y : Int) : bits .or .i64 x y = IntKind.i64.wrap ((BitVec.ofInt 64 x ||| BitVec.ofInt 64 y).toNat : Int) := rfl
theorem xor64_is (x y : Int) : bits .xor .i64 x y = IntKind.i64.wrap ((BitVec.ofInt 64 x ^^^ BitVec.ofInt 64 y).toNat : Int) := rfl
theorem not64_is (x y : Int) : bits .andNot .i64 x y = IntKind.i64.wrap ((BitVec.ofInt 64 x &&& ~~~ BitVec.ofInt 64 y).toNat : Int) := rfl
theorem and32_is (x y : Int) : bits .and .i32 x y = IntKind.i32.wrap ((BitVec.ofInt 32 x &&& BitVec.ofInt 32 y).toNat : Int) := rfl
theorem or32_is (x y : Int) : bits .or .i32 x y = IntKind.i32.wrap ((BitVec.ofInt 32 x ||| BitVec.ofInt 32 y).toNat : Int) := rfl
theorem xor32_is (x y : Int) : bits .xor .i32 x y = IntKind.i32.wrap ((BitVec.ofInt 32 x ^^^ BitVec.ofInt 32 y).toNat : Int) := rfl
theorem not32_is (x y : Int) : bits .andNot .i32 x y = IntKind.i32.wrap ((BitVec.ofInt 32 x &&& ~~~ BitVec.ofInt 32 y).toNat : Int) := rfl
theorem andu64_is (x y : Int) : bits .and .u64 x y = IntKind.u64.wrap ((BitVec.ofInt 64 x &&& BitVec.ofInt 64 y).toNat : Int) := rfl

theorem bits_and64 (a b : Int) : bits .and .i64 a b = wrap64 (bsum (fun i => bitAt a i * bitAt b i) 64) := by
  rw [and64_is, wrap64_eq]
  rw [toNat_sum]
  congr 1
  refine bsum_congr 64 fun i hi => ?_
  rw [BitVec.toNat_and, and_bit, Int.natCast_mul, bit_ofInt _ _ _ hi, bit_ofInt _ _ _ hi]
theorem bits_or64 (a b : Int) : bits .or .i64 a b = wrap64 (bsum (fun i => bitAt a i + bitAt b i - bitAt a i * bitAt b i) 64) := by
  rw [or64_is, wrap64_eq]
  rw [toNat_sum]
  congr 1
  refine bsum_congr 64 fun i hi => ?_
  rw [BitVec.toNat_or, or_bit, bit_ofInt _ _ _ hi, bit_ofInt _ _ _ hi]
theorem bits_xor64 (a b : Int) : bits .xor .i64 a b = wrap64 (bsum (fun i => bitAt a i + bitAt b i - 2 * bitAt a i * bitAt b i) 64) := by
  rw [xor64_is, wrap64_eq]
  rw [toNat_sum]
  congr 1
  refine bsum_congr 64 fun i hi => ?_
  rw [BitVec.toNat_xor, xor_bit, bit_ofInt _ _ _ hi, bit_ofInt _ _ _ hi]

theorem wrap_toInt32 (r : BitVec 32) : IntKind.i32.wrap (r.toNat : Int) = r.toInt := by
  rw [wrap32_eq, BitVec.toInt_eq_toNat_cond]; have := r.isLt; unfold wrap32; split <;> omega
theorem wrap_toInt64 (r : BitVec 64) : IntKind.i64.wrap (r.toNat : Int) = r.toInt := by
  rw [wrap64_eq, BitVec.toInt_eq_toNat_cond]; have := r.isLt; unfold wrap64; split <;> omega

theorem ofInt_sign (x : Int) (h : -2147483648 ≤ x ∧ x ≤ 2147483647) : BitVec.ofInt 64 x = (BitVec.ofInt 32 x).signExtend 64 := by
  rw [BitVec.signExtend, BitVec.toInt_ofInt_eq_self (by decide) (by simpa using h.1) (by have := h.2; simp; omega)]

theorem bits32 (op : BinOp) (hop : op = .and ∨ op = .or ∨ op = .xor) (x y : Int) (hx : -2147483648 ≤ x ∧ x ≤ 2147483647) (hy : -2147483648 ≤ y ∧ y ≤ 2147483647) :
    bits op .i32 x y = bits op .i64 x y := by
  rcases hop with rfl | rfl | rfl
  · rw [and32_is, and64_is, wrap_toInt32, wrap_toInt64, ofInt_sign x hx, ofInt_sign y hy]
    rw [← BitVec.signExtend_and, BitVec.toInt_signExtend_of_le (by decide)]
  · rw [or32_is, or64_is, wrap_toInt32, wrap_toInt64, ofInt_sign x hx, ofInt_sign y hy]
    rw [← BitVec.signExtend_or, BitVec.toInt_signExtend_of_le (by decide)]
  · rw [xor32_is, xor64_is, wrap_toInt32, wrap_toInt64, ofInt_sign x hx, ofInt_sign y hy]
    rw [← BitVec.signExtend_xor, BitVec.toInt_signExtend_of_le (by decide)]

theorem mask31 (n : Int) : bits .and .u64 (IntKind.u64.wrap n) 31 = n % 32 := by
  have h1 := ofInt_toNat 64 (IntKind.u64.wrap n)
  have h2 : (BitVec.ofInt 64 31).toNat = 2 ^ 5 - 1 := by decide
  rw [andu64_is, BitVec.toNat_and, h2, Nat.and_two_pow_sub_one_eq_mod]
  have h3 : IntKind.u64.wrap n = n % 18446744073709551616 := by simp [IntKind.wrap, IntKind.bits, IntKind.signed]
  generalize (BitVec.ofInt 64 (IntKind.u64.wrap n)).toNat = m at *
  rw [h3] at h1
  rw [IntWalk.u64_in] <;> omega
theorem mask63 (n : Int) : bits .and .u64 (IntKind.u64.wrap n) 63 = n % 64 := by
  have h1 := ofInt_toNat 64 (IntKind.u64.wrap n)
  have h2 : (BitVec.ofInt 64 63).toNat = 2 ^ 6 - 1 := by decide
  rw [andu64_is, BitVec.toNat_and, h2, Nat.and_two_pow_sub_one_eq_mod]
  have h3 : IntKind.u64.wrap n = n % 18446744073709551616 := by simp [IntKind.wrap, IntKind.bits, IntKind.signed]
  generalize (BitVec.ofInt 64 (IntKind.u64.wrap n)).toNat = m at *
  rw [h3] at h1
  rw [IntWalk.u64_in] <;> omega

theorem neg_bit (k i : Nat) : bitAt (-(2 ^ k)) i = if k ≤ i then 1 else 0 := by
  unfold bitAt
  have hk := pow_pos2 k
  have hi := pow_pos2 i
  split
  · rename_i h
    have e : (2 : Int) ^ k ≤ 2 ^ i := by
      have := Nat.pow_le_pow_right (n := 2) (by decide) h
      have e1 : (2 : Int) ^ k = ((2 ^ k : Nat) : Int) := by simp
      have e2 : (2 : Int) ^ i = ((2 ^ i : Nat) : Int) := by simp
      omega
    have : (-(2 : Int) ^ k) / 2 ^ i = -1 := by
      rw [show (-(2 : Int) ^ k) = (2 ^ i - 2 ^ k) + 2 ^ i * (-1) by omega, Int.add_mul_ediv_left _ _ (by omega), Int.ediv_eq_zero_of_lt (by omega) (by omega)]; rfl
    rw [this]; decide
  · rename_i h
    have e : (2 : Int) ^ k = 2 ^ i * (2 * 2 ^ (k - i - 1)) := by
      rw [← Int.pow_succ', ← Int.pow_add]; congr 1; omega
    rw [e, ← Int.mul_neg, Int.mul_ediv_cancel_left _ (by omega)]
    omega

theorem bare (B n : Nat) (x m : Int) (hn : n ≤ B) (hm : BitVec.ofInt B m = BitVec.ofInt B (-(2 ^ (B - n)))) :
    ((BitVec.ofInt B (x / 2 ^ n) &&& ~~~ BitVec.ofInt B m).toNat : Int) = x % 2 ^ B / 2 ^ n := by
  have e : BitVec.ofInt B (x / 2 ^ n) &&& ~~~ BitVec.ofInt B m = BitVec.ofInt B x >>> n := by
    rw [hm]
    apply BitVec.eq_of_getLsbD_eq
    intro i hi
    rw [BitVec.getLsbD_and, BitVec.getLsbD_not, BitVec.getLsbD_ushiftRight, lsb_ofInt, lsb_ofInt, lsb_ofInt, neg_bit]
    have e2 : bitAt (x / 2 ^ n) i = bitAt x (n + i) := by
      unfold bitAt
      rw [Int.ediv_ediv_of_nonneg (Int.le_of_lt (pow_pos2 n)), ← Int.pow_add]
    rw [e2]
    by_cases h : B - n ≤ i
    · have h' : ¬ n + i < B := by omega
      simp [h, h', hi]
    · have h' : n + i < B := by omega
      simp [h, h', hi]
  rw [e, BitVec.toNat_ushiftRight, Nat.shiftRight_eq_div_pow, ← ofInt_toNat]
  simp

theorem ofInt_wrap32 (n : Int) : BitVec.ofInt 32 (wrap32 n) = BitVec.ofInt 32 n := by
  apply BitVec.eq_of_toNat_eq
  have h1 := ofInt_toNat 32 (wrap32 n)
  have h2 := ofInt_toNat 32 n
  unfold wrap32 at h1 ⊢
  have : ((n + 2147483648) % 4294967296 - 2147483648) % 2 ^ 32 = n % 2 ^ 32 := by omega
  omega
theorem ofInt_wrap64 (n : Int) : BitVec.ofInt 64 (wrap64 n) = BitVec.ofInt 64 n := by
  apply BitVec.eq_of_toNat_eq
  have h1 := ofInt_toNat 64 (wrap64 n)
  have h2 := ofInt_toNat 64 n
  unfold wrap64 at h1 ⊢
  have : ((n + 9223372036854775808) % 18446744073709551616 - 9223372036854775808) % 2 ^ 64 = n % 2 ^ 64 := by omega
  omega

theorem bare32 (n : Nat) (x : Int) (hn : n ≤ 32) : bits .andNot .i32 (x / 2 ^ n) (wrap32 (-(2 ^ (32 - n)))) = wrap32 (x % 4294967296 / 2 ^ n) := by
  rw [not32_is, wrap32_eq, bare 32 n x _ hn (ofInt_wrap32 _)]; rfl
theorem bare64 (n : Nat) (x : Int) (hn : n ≤ 64) : bits .andNot .i64 (x / 2 ^ n) (wrap64 (-(2 ^ (64 - n)))) = wrap64 (x % 18446744073709551616 / 2 ^ n) := by
  rw [not64_is, wrap64_eq, bare 64 n x _ hn (ofInt_wrap64 _)]; rfl

theorem tmod_ex (n M : Int) (hM : 0 < M) : ∃ q, n = M * q + n.tmod M ∧ -M < n.tmod M ∧ n.tmod M < M ∧ (0 ≤ n → 0 ≤ n.tmod M) ∧ (n ≤ 0 → n.tmod M ≤ 0) := by
  refine ⟨n.tdiv M, by rw [Int.mul_tdiv_add_tmod], ?_, Int.tmod_lt_of_pos n hM, Int.tmod_nonneg M, ?_⟩
  · have h2 : (n.tmod M).natAbs < M.natAbs := by rw [Int.natAbs_tmod]; exact Nat.mod_lt _ (by omega)
    omega
  · intro h; have := Int.tmod_nonneg M (a := -n) (by omega); rw [Int.neg_tmod] at this; omega

theorem mod_count (y : Int) (M : Int) (hM : 0 < M) : (y.tmod M + M).tmod M = y % M ∧ 0 ≤ y.tmod M + M ∧ y.tmod M + M < 2 * M := by
  obtain ⟨q, h1, h2, h3, _, _⟩ := tmod_ex y M hM
  refine ⟨?_, by omega, by omega⟩
  rw [Int.tmod_eq_emod_of_nonneg (by omega), Int.add_emod_right]
  have e : y % M = (M * q + y.tmod M) % M := by rw [← h1]
  rw [e, Int.mul_add_emod_self_left]

theorem bd_i64 {n : Int} (h : (Lit.int .i64 n).wf = true) : -9223372036854775808 ≤ n ∧ n ≤ 9223372036854775807 := by
  simp only [Lit.wf, IntKind.min, IntKind.max, IntKind.signed, IntKind.bits, Bool.and_eq_true, decide_eq_true_eq, if_true] at h; omega
theorem bd_u8 {n : Int} (h : (Lit.int .u8 n).wf = true) : 0 ≤ n ∧ n ≤ 255 := by
  simp [Lit.wf, IntKind.min, IntKind.max, IntKind.signed, IntKind.bits] at h; omega
theorem wrap32_in (n : Int) (h : -2147483648 ≤ n ∧ n ≤ 2147483647) : wrap32 n = n := by unfold wrap32; omega
theorem wrap64_in (n : Int) (h : -9223372036854775808 ≤ n ∧ n ≤ 9223372036854775807) : wrap64 n = n := by unfold wrap64; omega
theorem wrap32_bd (n : Int) : -2147483648 ≤ wrap32 n ∧ wrap32 n ≤ 2147483647 := by unfold wrap32; omega
theorem wrap64_bd (n : Int) : -9223372036854775808 ≤ wrap64 n ∧ wrap64 n ≤ 9223372036854775807 := by unfold wrap64; omega
theorem wrap32_64 (n : Int) : wrap32 (wrap64 n) = wrap32 n := by unfold wrap32 wrap64; omega
theorem wrap32_ex (n : Int) : ∃ k, wrap32 n = n + 4294967296 * k := ⟨-((n + 2147483648) / 4294967296), by unfold wrap32; omega⟩
theorem wrap64_ex (n : Int) : ∃ k, wrap64 n = n + 18446744073709551616 * k := ⟨-((n + 9223372036854775808) / 18446744073709551616), by unfold wrap64; omega⟩
theorem wrap32_of (a b k : Int) (h : a = b + 4294967296 * k) : wrap32 a = wrap32 b := by unfold wrap32; omega
theorem wrap64_of (a b k : Int) (h : a = b + 18446744073709551616 * k) : wrap64 a = wrap64 b := by unfold wrap64; omega

/-- an instruction on two numbers of 32 bits -/
def R32 (op x y : Int) : Int × Int :=
  if op == 96 then (wrap32 (x + y), 0) else if op == 100 then (wrap32 (x - y), 0) else if op == 104 then (wrap32 (x * y), 0)
  else if op == 108 then (if y == 0 then (0, 35) else (wrap32 (x.tdiv y), 0)) else if op == 112 then (if y == 0 then (0, 35) else (x.tmod y, 0))
  else if op == 116 then (wrap32 (-x), 0) else if op == 120 then (wrap32 (x * 2 ^ (y % 32).toNat), 0) else if op == 122 then (x / 2 ^ (y % 32).toNat, 0)
  else if op == 124 then (wrap32 (x % 4294967296 / 2 ^ (y % 32).toNat), 0) else if op == 126 then (bits .and .i64 x y, 0)
  else if op == 128 then (bits .or .i64 x y, 0) else if op == 130 then (bits .xor .i64 x y, 0) else (0, 1)
/-- an instruction on two numbers of 64 bits, told by the number of that on 32 -/
def R64 (op x y : Int) : Int × Int :=
  if op == 96 then (wrap64 (x + y), 0) else if op == 100 then (wrap64 (x - y), 0) else if op == 104 then (wrap64 (x * y), 0)
  else if op == 108 then (if y == 0 then (0, 35) else (wrap64 (x.tdiv y), 0)) else if op == 112 then (if y == 0 then (0, 35) else (x.tmod y, 0))
  else if op == 116 then (wrap64 (-x), 0) else if op == 120 then (wrap64 (x * 2 ^ (y % 64).toNat), 0) else if op == 122 then (x / 2 ^ (y % 64).toNat, 0)
  else if op == 124 then (wrap64 (x % 18446744073709551616 / 2 ^ (y % 64).toNat), 0) else if op == 126 then (bits .and .i64 x y, 0)
  else if op == 128 then (bits .or .i64 x y, 0) else if op == 130 then (bits .xor .i64 x y, 0) else (0, 1)
def WI (op a b : Int) : Int × Int := R32 op (wrap32 a) (wrap32 b)
def WL (op a b : Int) : Int × Int := R64 (wrap64 (op - 1)) a b

theorem div_bd (x : Int) (n : Nat) (lo hi : Int) (hl : lo ≤ 0) (hh : 0 ≤ hi) (h : lo ≤ x ∧ x ≤ hi) : lo ≤ x / 2 ^ n ∧ x / 2 ^ n ≤ hi := by
  have hp := pow_pos2 n
  generalize (2 : Int) ^ n = d at *
  constructor
  · rw [Int.le_ediv_iff_mul_le hp]
    have : lo * d ≤ lo * 1 := Int.mul_le_mul_of_nonpos_left hl (by omega)
    omega
  · by_cases hx : 0 ≤ x
    · have := Int.ediv_le_self d hx; omega
    · have := Int.ediv_neg_of_neg_of_pos (a := x) (b := d) (by omega) hp; omega
theorem tmod_bd (x y lo hi : Int) (hl : lo ≤ 0) (hh : 0 ≤ hi) (h : lo ≤ x ∧ x ≤ hi) : lo ≤ x.tmod y ∧ x.tmod y ≤ hi := by
  by_cases hx : 0 ≤ x
  · have h1 := Int.tmod_nonneg y hx
    have h2 : (x.tmod y).natAbs ≤ x.natAbs := by rw [Int.natAbs_tmod]; exact Nat.mod_le _ _
    omega
  · have h1 := Int.tmod_nonneg y (a := -x) (by omega)
    rw [Int.neg_tmod] at h1
    have h2 : (x.tmod y).natAbs ≤ x.natAbs := by rw [Int.natAbs_tmod]; exact Nat.mod_le _ _
    omega
theorem bits64_bd32 (op : BinOp) (hop : op = .and ∨ op = .or ∨ op = .xor) (x y : Int) (hx : -2147483648 ≤ x ∧ x ≤ 2147483647) (hy : -2147483648 ≤ y ∧ y ≤ 2147483647) :
    -2147483648 ≤ bits op .i64 x y ∧ bits op .i64 x y ≤ 2147483647 := by
  rw [← bits32 op hop x y hx hy]
  unfold bits
  rw [wrap32_eq]
  exact wrap32_bd _
theorem ite_p {α : Type} {P : α → Prop} {c : Prop} [Decidable c] {a b : α} (ha : P a) (hb : P b) : P (if c then a else b) := by split <;> assumption
def In32 (p : Int × Int) : Prop := -2147483648 ≤ p.1 ∧ p.1 ≤ 2147483647
theorem in32_ite {c : Prop} [Decidable c] {a b : Int × Int} (ha : In32 a) (hb : In32 b) : In32 (if c then a else b) := by split <;> assumption
theorem in32_mk {z e : Int} (h : -2147483648 ≤ z ∧ z ≤ 2147483647) : In32 (z, e) := h
theorem R32_in (op x y : Int) (hx : -2147483648 ≤ x ∧ x ≤ 2147483647) (hy : -2147483648 ≤ y ∧ y ≤ 2147483647) : In32 (R32 op x y) := by
  unfold R32
  repeat' apply in32_ite
  all_goals apply in32_mk
  all_goals first | exact wrap32_bd _ | decide | exact tmod_bd _ _ _ _ (by decide) (by decide) hx | exact div_bd _ _ _ _ (by decide) (by decide) hx | skip
  · exact bits64_bd32 _ (by simp) _ _ hx hy
  · exact bits64_bd32 _ (by simp) _ _ hx hy
  · exact bits64_bd32 _ (by simp) _ _ hx hy
theorem R32_bd (op x y : Int) (hx : -2147483648 ≤ x ∧ x ≤ 2147483647) (hy : -2147483648 ≤ y ∧ y ≤ 2147483647) :
    -2147483648 ≤ (R32 op x y).1 ∧ (R32 op x y).1 ≤ 2147483647 := R32_in op x y hx hy
end Go.Proofs.YtbeekjfjfcaobaaDoor
