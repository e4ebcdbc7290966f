/- Plain mathematics of wrapped sums, products, quotients and shifts, for the laws of layer 1. No condition; no program is named. -/
import Derived.Test.YtkkgfphfilbcdaaWordFix
set_option linter.unusedVariables false
namespace Go.Proofs.Ytkkgfphfilbcdaa
open Go.RowKit

theorem wrap32_wrap (n : Int) : wrap32 (wrap32 n) = wrap32 n := wrap32_in _ (wrap32_bd n)
theorem wrap64_wrap (n : Int) : wrap64 (wrap64 n) = wrap64 n := wrap64_in _ (wrap64_bd n)
theorem rk96 (a b : Int) : RK false 96 a b = wrap32 (wrap32 a + wrap32 b) := by simp [RK, WI, R32]
theorem rk100 (a b : Int) : RK false 100 a b = wrap32 (wrap32 a - wrap32 b) := by simp [RK, WI, R32]
theorem rk104 (a b : Int) : RK false 104 a b = wrap32 (wrap32 a * wrap32 b) := by simp [RK, WI, R32]
theorem wlk (k a b : Int) (hk : 0 ≤ k ∧ k < 1000) : RK true (k + 1) a b = (R64 k a b).1 := by simp only [RK, if_true]; rw [wl_is k a b hk]
theorem rk97 (a b : Int) : RK true 97 a b = wrap64 (a + b) := by rw [show (97 : Int) = 96 + 1 from rfl, wlk _ _ _ (by decide)]; simp [R64]
theorem rk101 (a b : Int) : RK true 101 a b = wrap64 (a - b) := by rw [show (101 : Int) = 100 + 1 from rfl, wlk _ _ _ (by decide)]; simp [R64]
theorem rk105 (a b : Int) : RK true 105 a b = wrap64 (a * b) := by rw [show (105 : Int) = 104 + 1 from rfl, wlk _ _ _ (by decide)]; simp [R64]

/-- the five equations that the law asks of sums, products and differences -/
def Ring (l : Bool) (add mul sub a b c : Int) : Prop :=
  RK l add a b = RK l add b a ∧ RK l mul a b = RK l mul b a ∧ RK l add (RK l add a b) c = RK l add a (RK l add b c) ∧
  RK l mul a (RK l add b c) = RK l add (RK l mul a b) (RK l mul a c) ∧ RK l sub (RK l add a b) b = RK l add a 0
theorem wrap32_sum (x y : Int) : wrap32 (wrap32 x + wrap32 y) = wrap32 (x + y) := by unfold wrap32; omega
theorem wrap64_sum (x y : Int) : wrap64 (wrap64 x + wrap64 y) = wrap64 (x + y) := by unfold wrap64; omega
theorem wrap32_mul (x y : Int) : wrap32 (x * wrap32 y) = wrap32 (x * y) := by
  obtain ⟨k, hk⟩ := wrap32_ex y
  exact wrap32_of _ _ (x * k) (by rw [hk, Int.mul_add, ← Int.mul_assoc, Int.mul_comm x 4294967296, Int.mul_assoc])
theorem wrap64_mul (x y : Int) : wrap64 (x * wrap64 y) = wrap64 (x * y) := by
  obtain ⟨k, hk⟩ := wrap64_ex y
  exact wrap64_of _ _ (x * k) (by rw [hk, Int.mul_add, ← Int.mul_assoc, Int.mul_comm x 18446744073709551616, Int.mul_assoc])
theorem wrap32_mul' (x y : Int) : wrap32 (wrap32 x * y) = wrap32 (x * y) := by rw [Int.mul_comm, wrap32_mul, Int.mul_comm]
theorem wrap64_mul' (x y : Int) : wrap64 (wrap64 x * y) = wrap64 (x * y) := by rw [Int.mul_comm, wrap64_mul, Int.mul_comm]
theorem ring32 (a b c : Int) : Ring false 96 104 100 a b c := by
  refine ⟨?_, ?_, ?_, ?_, ?_⟩ <;> simp only [rk96, rk100, rk104, wrap32_wrap]
  · rw [Int.add_comm]
  · rw [Int.mul_comm]
  · unfold wrap32; omega
  · rw [wrap32_mul, wrap32_sum, Int.mul_add]
  · unfold wrap32; omega
theorem ring64 (a b c : Int) : Ring true 97 105 101 a b c := by
  refine ⟨?_, ?_, ?_, ?_, ?_⟩ <;> simp only [rk97, rk101, rk105]
  · rw [Int.add_comm]
  · rw [Int.mul_comm]
  · unfold wrap64; omega
  · rw [wrap64_mul, wrap64_sum, Int.mul_add]
  · unfold wrap64; omega

theorem lawFunc3 (l : Bool) (add mul sub a b c : Int) (h : Ring l add mul sub a b c) (w : World) :
    Calls Try.prog 26 #[.int .i64 a, .int .i64 b, .int .i64 c, .int .i64 add, .int .i64 mul, .int .i64 sub, .bool l] w fun e w' => e = .returned (.bool true) ∧ w = w' := by
  obtain ⟨h1, h2, h3, h4, h5⟩ := h
  have g1 : (RK l add a b != RK l add b a) = false := by rw [h1]; simp
  have g2 : (RK l mul a b != RK l mul b a) = false := by rw [h2]; simp
  have g3 : (RK l add (RK l add a b) c != RK l add a (RK l add b c)) = false := by rw [h3]; simp
  have g4 : (RK l mul a (RK l add b c) != RK l add (RK l mul a b) (RK l mul a c)) = false := by rw [h4]; simp
  have g5 : (RK l sub (RK l add a b) b == RK l add a 0) = true := by rw [h5]; simp
  clear h1 h2 h3 h4 h5
  go_enter Try.func26, Try.ntmps26
  go_wp2_with (go_at_call 27; refine (lawReckon _ _ _ _ _).mono ?_; rintro e w' ⟨rfl, rfl⟩)
  go_ret
  exact ⟨rfl, rfl⟩

theorem wi108 (a b : Int) (h : ¬ wrap32 b = 0) : WI 108 a b = (wrap32 ((wrap32 a).tdiv (wrap32 b)), 0) := by simp [WI, R32, h]
theorem wi112 (a b : Int) (h : ¬ wrap32 b = 0) : WI 112 a b = ((wrap32 a).tmod (wrap32 b), 0) := by simp [WI, R32, h]
theorem wi108_0 (a b : Int) (h : wrap32 b = 0) : WI 108 a b = (0, 35) := by simp [WI, R32, h]
theorem wi112_0 (a b : Int) (h : wrap32 b = 0) : WI 112 a b = (0, 35) := by simp [WI, R32, h]
theorem div_back32 (a b : Int) : RK false 96 (RK false 104 (wrap32 ((wrap32 a).tdiv (wrap32 b))) b) ((wrap32 a).tmod (wrap32 b)) = wrap32 a := by
  simp only [rk96, rk104, wrap32_wrap]
  have e : wrap32 (wrap32 ((wrap32 a).tdiv (wrap32 b)) * wrap32 b) = wrap32 ((wrap32 a).tdiv (wrap32 b) * wrap32 b) := wrap32_mul' _ _
  rw [e, wrap32_sum, Int.mul_comm, Int.mul_tdiv_add_tmod, wrap32_wrap]
theorem div_back64 (a b : Int) (h : -9223372036854775808 ≤ a ∧ a ≤ 9223372036854775807) : RK true 97 (RK true 105 (wrap64 (a.tdiv b)) b) (a.tmod b) = a := by
  simp only [rk97, rk105]
  rw [wrap64_mul']
  have e : wrap64 (wrap64 (a.tdiv b * b) + a.tmod b) = wrap64 (a.tdiv b * b + a.tmod b) := by unfold wrap64; omega
  rw [e, Int.mul_comm, Int.mul_tdiv_add_tmod, wrap64_in a h]

theorem rk120 (a n : Int) (h : 0 ≤ n ∧ n < 32) : RK false 120 a n = wrap32 (wrap32 a * 2 ^ n.toNat) := by
  have : wrap32 n % 32 = n := by unfold wrap32; omega
  simp [RK, WI, R32, this]
theorem rk124 (a n : Int) (h : 0 ≤ n ∧ n < 32) : RK false 124 a n = wrap32 (wrap32 a % 4294967296 / 2 ^ n.toNat) := by
  have : wrap32 n % 32 = n := by unfold wrap32; omega
  simp [RK, WI, R32, this]
theorem rk126 (a b : Int) : RK false 126 a b = bits .and .i64 (wrap32 a) (wrap32 b) := by simp [RK, WI, R32]
theorem rk121 (a n : Int) (h : 0 ≤ n ∧ n < 64) : RK true 121 a n = wrap64 (a * 2 ^ n.toNat) := by
  have : n % 64 = n := by omega
  rw [show (121 : Int) = 120 + 1 from rfl, wlk _ _ _ (by decide)]; simp [R64, this]
theorem rk125 (a n : Int) (h : 0 ≤ n ∧ n < 64) : RK true 125 a n = wrap64 (a % 18446744073709551616 / 2 ^ n.toNat) := by
  have : n % 64 = n := by omega
  rw [show (125 : Int) = 124 + 1 from rfl, wlk _ _ _ (by decide)]; simp [R64, this]

theorem up_up32 (a i k : Int) (hi : 0 ≤ i) (hk : 0 ≤ k) (h : i + k < 32) : RK false 120 (RK false 120 a i) k = RK false 120 a (i + k) := by
  rw [rk120 _ k (by omega), rk120 a i (by omega), rk120 a _ (by omega), wrap32_wrap, wrap32_mul', Int.mul_assoc, ← Int.pow_add, show (i + k).toNat = i.toNat + k.toNat by omega]
theorem up_up64 (a i k : Int) (hi : 0 ≤ i) (hk : 0 ≤ k) (h : i + k < 64) : RK true 121 (RK true 121 a i) k = RK true 121 a (i + k) := by
  rw [rk121 _ k (by omega), rk121 a i (by omega), rk121 a _ (by omega), wrap64_mul', Int.mul_assoc, ← Int.pow_add, show (i + k).toNat = i.toNat + k.toNat by omega]
theorem wrap64_mod (n : Int) : wrap64 n % 18446744073709551616 = n % 18446744073709551616 := by unfold wrap64; omega
theorem wrap32_mod (n : Int) : wrap32 n % 4294967296 = n % 4294967296 := by unfold wrap32; omega
theorem down_down64 (a i k : Int) (hi : 0 ≤ i) (hk : 0 ≤ k) (h : i + k < 64) : RK true 125 (RK true 125 a i) k = RK true 125 a (i + k) := by
  rw [rk125 _ k (by omega), rk125 a i (by omega), rk125 a _ (by omega), wrap64_mod]
  have hd := div_bd (a % 18446744073709551616) i.toNat 0 18446744073709551615 (by decide) (by decide) (by omega)
  rw [Int.emod_eq_of_lt hd.1 (by omega), Int.ediv_ediv_of_nonneg (Int.le_of_lt (pow_pos2 _)), ← Int.pow_add, show (i + k).toNat = i.toNat + k.toNat by omega]

theorem masks : ∀ i : Nat, i < 32 → (4294967295 : Int) / 2 ^ i = 2 ^ (32 - i) - 1 := by decide
theorem and_mask (x : Int) (j : Nat) (hj : j ≤ 32) : ((BitVec.ofInt 32 x &&& BitVec.ofInt 32 (wrap32 (2 ^ j - 1))).toNat : Int) = x % 4294967296 % 2 ^ j := by
  have h1 := ofInt_toNat 32 x
  have h2 := ofInt_toNat 32 ((2 : Int) ^ j - 1)
  have hp := pow_pos2 j
  have hle : (2 : Int) ^ j ≤ 2 ^ 32 := by
    have := Nat.pow_le_pow_right (n := 2) (by decide) hj
    have e1 : (2 : Int) ^ j = ((2 ^ j : Nat) : Int) := by simp
    omega
  rw [Int.emod_eq_of_lt (by omega) (by omega)] at h2
  rw [ofInt_wrap32, BitVec.toNat_and]
  have h3 : (BitVec.ofInt 32 ((2 : Int) ^ j - 1)).toNat = 2 ^ j - 1 := by
    have e1 : (2 : Int) ^ j = ((2 ^ j : Nat) : Int) := by simp
    omega
  rw [h3, Nat.and_two_pow_sub_one_eq_mod, Int.natCast_emod, h1]
  simp
theorem mul_mod_div (x : Int) (i : Nat) (hi : i < 32) : x * 2 ^ i % 4294967296 / 2 ^ i = x % 4294967296 % 2 ^ (32 - i) := by
  have e : (4294967296 : Int) = 2 ^ (32 - i) * 2 ^ i := by rw [← Int.pow_add, show 32 - i + i = 32 by omega]; rfl
  have hp := pow_pos2 i
  have hd : (2 : Int) ^ (32 - i) ∣ 4294967296 := ⟨2 ^ i, e⟩
  rw [Int.emod_emod_of_dvd _ hd]
  rw [e, Int.mul_comm x, Int.mul_comm (2 ^ (32 - i)), Int.mul_emod_mul_of_pos _ _ hp, Int.mul_ediv_cancel_left _ (by omega)]
theorem up_down32 (a i : Int) (h : 0 ≤ i ∧ i < 32) : RK false 124 (RK false 120 a i) i = RK false 126 a (RK false 124 (-1) i) := by
  rw [rk124 _ i h, rk120 a i h, rk126, rk124 _ i h, wrap32_wrap, wrap32_wrap, ← bits32 .and (by simp) _ _ (wrap32_bd _) (wrap32_bd _), and32_is, wrap32_eq]
  rw [show wrap32 (-1) % 4294967296 = 4294967295 by simp [wrap32], masks _ (by omega), and_mask _ _ (by omega), wrap32_mod, mul_mod_div _ _ (by omega)]
end Go.Proofs.Ytkkgfphfilbcdaa
