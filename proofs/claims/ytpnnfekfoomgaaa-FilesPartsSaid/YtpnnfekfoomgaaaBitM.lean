/- Bits of bytes as plain mathematics: the number of some bits, bytes made of bits. No condition; no program is named. -/
import Derived.Test.YtpnnfekfoomgaaaMem
import Derived.Test.YtpnnfekfoomgaaaNum
set_option linter.unusedVariables false
set_option maxRecDepth 100000
namespace Go.Proofs.Ytpnnfekfoomgaaa
open Go.RowKit

theorem pow_cast (i : Nat) : (2 : Int) ^ i = ((2 ^ i : Nat) : Int) := by simp
theorem pow_mono2 {i j : Nat} (h : i ≤ j) : (2 : Int) ^ i ≤ 2 ^ j := by
  rw [pow_cast, pow_cast]; have := Nat.pow_le_pow_right (n := 2) (by decide) h; omega
theorem bsum_split (f : Nat → Int) (m : Nat) : ∀ n, bsum f (m + n) = bsum f m + 2 ^ m * bsum (fun i => f (m + i)) n
  | 0 => by simp [bsum]
  | n + 1 => by
    rw [← Nat.add_assoc]
    simp only [bsum]
    rw [bsum_split f m n, Int.pow_add, Int.mul_add, Int.add_assoc]
    congr 2
    rw [← Int.mul_assoc, Int.mul_comm (f (m + n)) (2 ^ m), Int.mul_assoc]
theorem bsum_div {f : Nat → Int} (h : ∀ i, 0 ≤ f i ∧ f i ≤ 1) (m n : Nat) : bsum f (m + n) / 2 ^ m = bsum (fun i => f (m + i)) n := by
  have hb := bsum_bound h m
  have hp := pow_pos2 m
  rw [bsum_split, Int.add_mul_ediv_left _ _ (by omega), Int.ediv_eq_zero_of_lt hb.1 hb.2, Int.zero_add]
theorem bsum_mod {f : Nat → Int} (h : ∀ i, 0 ≤ f i ∧ f i ≤ 1) (m n : Nat) : bsum f (m + n) % 2 ^ m = bsum f m := by
  have hb := bsum_bound h m
  rw [bsum_split, Int.add_mul_emod_self_left, Int.emod_eq_of_lt hb.1 hb.2]
theorem bsum_cut {f : Nat → Int} (h : ∀ i, 0 ≤ f i ∧ f i ≤ 1) (s n N : Nat) (hN : s + n ≤ N) : bsum f N / 2 ^ s % 2 ^ n = bsum (fun i => f (s + i)) n := by
  obtain ⟨k, rfl⟩ : ∃ k, N = s + (n + k) := ⟨N - s - n, by omega⟩
  rw [bsum_div h, bsum_mod (fun i => h _)]
theorem bsum_zero {f : Nat → Int} : ∀ n, (∀ i, i < n → f i = 0) → bsum f n = 0
  | 0, _ => rfl
  | n + 1, h => by simp only [bsum]; rw [bsum_zero n (fun i hi => h i (by omega)), h n (by omega)]; simp
theorem mod_bsum (x : Int) : ∀ n, x % 2 ^ n = bsum (bitAt x) n
  | 0 => by simp [bsum, Int.emod_one]
  | n + 1 => by
    have ih := mod_bsum x n
    simp only [bsum]
    rw [← ih, Int.pow_succ]
    have hp := pow_pos2 n
    have e1 := Int.mul_ediv_add_emod x (2 ^ n)
    have e2 := Int.mul_ediv_add_emod (x / 2 ^ n) 2
    have e3 : x / 2 ^ n / 2 = x / (2 ^ n * 2) := Int.ediv_ediv_of_nonneg (by omega)
    have e4 := Int.mul_ediv_add_emod x (2 ^ n * 2)
    have hc : bitAt x n = x / 2 ^ n % 2 := rfl
    rw [hc]
    rw [e3] at e2
    generalize x / (2 ^ n * 2) = q at *
    generalize x % (2 ^ n * 2) = r at *
    generalize x / 2 ^ n % 2 = b at *
    generalize x % 2 ^ n = s at *
    generalize (2 : Int) ^ n = P at *
    rw [← e2, Int.mul_add, ← Int.mul_assoc] at e1
    rw [Int.mul_comm b P]
    omega
theorem bitAt_bd (x : Int) (i : Nat) : 0 ≤ bitAt x i ∧ bitAt x i ≤ 1 := by unfold bitAt; omega

/-- a bit of bytes -/
def bt (l : List Int) (j : Nat) : Int := bitAt (l.getD (j / 8) 0) (j % 8)
theorem bt_bd (l : List Int) (j : Nat) : 0 ≤ bt l j ∧ bt l j ≤ 1 := bitAt_bd _ _
theorem bt_at (l : List Int) (q i : Nat) (hi : i < 8) : bt l (8 * q + i) = bitAt (l.getD q 0) i := by
  unfold bt
  rw [show (8 * q + i) / 8 = q by omega, show (8 * q + i) % 8 = i by omega]
/-- the number of n bits from the bit p on -/
def tk (l : List Int) (p n : Nat) : Int := bsum (fun i => bt l (p + i)) n
theorem tk_bd (l : List Int) (p n : Nat) : 0 ≤ tk l p n ∧ tk l p n < 2 ^ n := bsum_bound (fun i => bt_bd _ _) n
theorem tk_succ (l : List Int) (p n : Nat) : tk l p (n + 1) = tk l p n + bt l (p + n) * 2 ^ n := rfl
theorem byte_bits (l : List Int) (h : Bytes l) (q : Nat) : l.getD q 0 = tk l (8 * q) 8 := by
  have hb := h.at_ q
  have h1 := mod_bsum (l.getD q 0) 8
  have e : (2 : Int) ^ 8 = 256 := by decide
  rw [e, Int.emod_eq_of_lt hb.1 (by omega)] at h1
  rw [h1]
  exact bsum_congr 8 fun i hi => by rw [bt_at _ _ _ hi]
theorem tk_byte (l : List Int) (h : Bytes l) (F m : Nat) : tk l (8 * F) (8 * (m + 1)) = tk l (8 * F) (8 * m) + l.getD (F + m) 0 * 2 ^ (8 * m) := by
  have e : 8 * (m + 1) = 8 * m + 8 := by omega
  unfold tk
  rw [e, bsum_split, byte_bits l h (F + m), Int.mul_comm (2 ^ (8 * m))]
  unfold tk
  congr 2
  exact bsum_congr 8 fun i _ => by congr 1; omega
theorem tk_cut (l : List Int) (F s n N : Nat) (h : s + n ≤ N) : tk l (8 * F) N / 2 ^ s % 2 ^ n = tk l (8 * F + s) n := by
  unfold tk
  rw [bsum_cut (fun i => bt_bd _ _) s n N h]
  exact bsum_congr n fun i _ => by congr 1; omega

theorem u8_wrap' (n : Int) : IntKind.u8.wrap n = n % 256 := by simp [IntKind.wrap, IntKind.bits, IntKind.signed]
theorem u64_wrap (n : Int) : IntKind.u64.wrap n = n % 18446744073709551616 := by simp [IntKind.wrap, IntKind.bits, IntKind.signed]
theorem or_u64 (v x : Int) (i : Nat) (hv : 0 ≤ v ∧ v < 2 ^ i) (hx : 0 ≤ x) (h : x * 2 ^ i + v < 18446744073709551616) : bits .or .u64 v (x * 2 ^ i) = v + x * 2 ^ i := by
  obtain ⟨V, rfl⟩ := Int.eq_ofNat_of_zero_le hv.1
  obtain ⟨X, rfl⟩ := Int.eq_ofNat_of_zero_le hx
  have hp := Nat.two_pow_pos i
  rw [pow_cast] at *
  have hlt : V < 2 ^ i := by omega
  have e0 : (X : Int) * ((2 ^ i : Nat) : Int) = ((2 ^ i * X : Nat) : Int) := by rw [Nat.mul_comm, Int.natCast_mul]
  rw [e0] at h ⊢
  have h1 : (BitVec.ofInt 64 (V : Int)).toNat = V := by rw [BitVec.ofInt_natCast, BitVec.toNat_ofNat]; exact Nat.mod_eq_of_lt (by omega)
  have h2 : (BitVec.ofInt 64 ((2 ^ i * X : Nat) : Int)).toNat = 2 ^ i * X := by rw [BitVec.ofInt_natCast, BitVec.toNat_ofNat]; exact Nat.mod_eq_of_lt (by omega)
  show IntKind.u64.wrap (((BitVec.ofInt 64 (V : Int) ||| BitVec.ofInt 64 ((2 ^ i * X : Nat) : Int)).toNat : Nat) : Int) = _
  rw [BitVec.toNat_or, h1, h2, Nat.or_comm, ← Nat.two_pow_add_eq_or_of_lt hlt, IntWalk.u64_in] <;> omega
theorem or_step (v x : Int) (j : Nat) (hj : j < 7) (hv : 0 ≤ v ∧ v < 2 ^ (8 * j)) (hx : 0 ≤ x ∧ x ≤ 255) :
    bits .or .u64 v (IntKind.u64.wrap (x * 2 ^ (8 * j))) = v + x * 2 ^ (8 * j) := by
  have h1 := pow_mono2 (show 8 * j ≤ 48 by omega)
  have h2 : x * 2 ^ (8 * j) ≤ 255 * 2 ^ (8 * j) := Int.mul_le_mul_of_nonneg_right hx.2 (Int.le_of_lt (pow_pos2 _))
  have h3 : 0 ≤ x * 2 ^ (8 * j) := Int.mul_nonneg hx.1 (Int.le_of_lt (pow_pos2 _))
  have h4 : (2 : Int) ^ 48 = 281474976710656 := by decide
  rw [IntWalk.u64_in _ (by omega)]
  exact or_u64 v x (8 * j) hv hx.1 (by omega)
/-- a mask of n ones -/
theorem and_mask (x : Int) (n : Nat) (hn : n ≤ 16) (hx : 0 ≤ x ∧ x < 18446744073709551616) : bits .and .u64 x (2 ^ n - 1) = x % 2 ^ n := by
  have h1 := ofInt_toNat 64 x
  have hm := pow_mono2 (show n ≤ 16 by omega)
  have hp := pow_pos2 n
  have e16 : (2 : Int) ^ 16 = 65536 := by decide
  have h2 : (BitVec.ofInt 64 ((2 : Int) ^ n - 1)).toNat = 2 ^ n - 1 := by
    have := ofInt_toNat 64 ((2 : Int) ^ n - 1)
    have e1 := pow_cast n
    omega
  have e : (((BitVec.ofInt 64 x).toNat % 2 ^ n : Nat) : Int) = x % 2 ^ n := by
    rw [Int.natCast_emod, h1, ← pow_cast, Int.emod_eq_of_lt hx.1 (by omega)]
  have hlt := Int.emod_lt_of_pos x hp
  have hge := Int.emod_nonneg x (b := (2 : Int) ^ n) (by omega)
  rw [andu64_is, BitVec.toNat_and, h2, Nat.and_two_pow_sub_one_eq_mod, e, IntWalk.u64_in _ (by omega)]
/-- bits that are apart from each other, in a byte -/
theorem or_u8 (x V : Int) (s : Nat) (hs : s ≤ 7) (hx : 0 ≤ x ∧ x < 2 ^ s) (hV : 0 ≤ V) : bits .or .u8 x (V * 2 ^ s % 256) = (x + V * 2 ^ s) % 256 := by
  obtain ⟨X, rfl⟩ := Int.eq_ofNat_of_zero_le hx.1
  obtain ⟨v, rfl⟩ := Int.eq_ofNat_of_zero_le hV
  have hp := Nat.two_pow_pos s
  rw [pow_cast] at *
  have hlt : X < 2 ^ s := by omega
  have e256 : 256 = 2 ^ s * 2 ^ (8 - s) := by rw [← Nat.pow_add, show s + (8 - s) = 8 by omega]
  have e1 : ((v : Int) * ((2 ^ s : Nat) : Int)) % 256 = ((2 ^ s * (v % 2 ^ (8 - s)) : Nat) : Int) := by
    have : (v * 2 ^ s) % 256 = 2 ^ s * (v % 2 ^ (8 - s)) := by
      rw [e256, Nat.mul_comm v, Nat.mul_mod_mul_left]
    rw [← this]; simp only [Int.natCast_emod, Int.natCast_mul]; rfl
  have hq := Nat.mod_lt v (Nat.two_pow_pos (8 - s))
  have hle : 2 ^ s * (v % 2 ^ (8 - s)) + 2 ^ s ≤ 256 := by
    have := Nat.mul_le_mul_left (2 ^ s) (show v % 2 ^ (8 - s) + 1 ≤ 2 ^ (8 - s) by omega)
    rw [← e256, Nat.mul_add] at this; omega
  have e2 : ((X : Int) + (v : Int) * ((2 ^ s : Nat) : Int)) % 256 = X + ((2 ^ s * (v % 2 ^ (8 - s)) : Nat) : Int) := by
    omega
  rw [e1, e2]
  have h1 : (BitVec.ofInt 8 (X : Int)).toNat = X := by rw [BitVec.ofInt_natCast, BitVec.toNat_ofNat]; exact Nat.mod_eq_of_lt (by omega)
  have h2 : (BitVec.ofInt 8 ((2 ^ s * (v % 2 ^ (8 - s)) : Nat) : Int)).toNat = 2 ^ s * (v % 2 ^ (8 - s)) := by rw [BitVec.ofInt_natCast, BitVec.toNat_ofNat]; exact Nat.mod_eq_of_lt (by omega)
  show IntKind.u8.wrap (((BitVec.ofInt 8 (X : Int) ||| BitVec.ofInt 8 ((2 ^ s * (v % 2 ^ (8 - s)) : Nat) : Int)).toNat : Nat) : Int) = _
  rw [BitVec.toNat_or, h1, h2, Nat.or_comm, ← Nat.two_pow_add_eq_or_of_lt hlt]
  rw [u8_wrap']; omega
end Go.Proofs.Ytpnnfekfoomgaaa
