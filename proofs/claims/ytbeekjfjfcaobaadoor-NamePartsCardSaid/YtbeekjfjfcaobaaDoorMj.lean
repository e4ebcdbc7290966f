/- Units of modified UTF-8: what they are, as plain mathematics; contracts of package name's width, lowest, firstUnit. No condition but what the words say. -/
import Derived.Test.YtbeekjfjfcaobaaDoorMi
set_option linter.unusedVariables false
set_option maxRecDepth 100000
namespace Go.Proofs.YtbeekjfjfcaobaaDoor
open Go.RowKit Go.Lib Go.Maps

theorem u16_wrap (n : Int) : IntKind.u16.wrap n = n % 65536 := by simp [IntKind.wrap, IntKind.bits, IntKind.signed]
theorem u8w (n : Int) : IntKind.u8.wrap n = n % 256 := by simp [IntKind.wrap, IntKind.bits, IntKind.signed]
theorem ofInt_nat (B x : Nat) (h : x < 2 ^ B) : (BitVec.ofInt B (x : Int)).toNat = x := by
  rw [BitVec.ofInt_natCast, BitVec.toNat_ofNat]; exact Nat.mod_eq_of_lt h
theorem and_u16 (x n : Nat) (hx : x < 65536) (hn : n ≤ 15) : bits .and .u16 (x : Int) ((2 ^ n - 1 : Nat) : Int) = ((x % 2 ^ n : Nat) : Int) := by
  show IntKind.u16.wrap ((BitVec.ofInt 16 (x : Int) &&& BitVec.ofInt 16 ((2 ^ n - 1 : Nat) : Int)).toNat : Int) = _
  have h2 : 2 ^ n - 1 < 2 ^ 16 := by have := Nat.pow_le_pow_right (show 0 < 2 by decide) (show n ≤ 16 by omega); have := Nat.pow_pos (n := n) (show 0 < 2 by decide); omega
  rw [BitVec.toNat_and, ofInt_nat 16 x hx, ofInt_nat 16 _ h2, Nat.and_two_pow_sub_one_eq_mod, u16_wrap]
  have : x % 2 ^ n ≤ x := Nat.mod_le _ _
  omega
theorem and_u8 (x n : Nat) (hx : x < 256) (hn : n ≤ 7) : bits .and .u8 (x : Int) ((2 ^ n - 1 : Nat) : Int) = ((x % 2 ^ n : Nat) : Int) := by
  show IntKind.u8.wrap ((BitVec.ofInt 8 (x : Int) &&& BitVec.ofInt 8 ((2 ^ n - 1 : Nat) : Int)).toNat : Int) = _
  have h2 : 2 ^ n - 1 < 2 ^ 8 := by have := Nat.pow_le_pow_right (show 0 < 2 by decide) (show n ≤ 8 by omega); have := Nat.pow_pos (n := n) (show 0 < 2 by decide); omega
  rw [BitVec.toNat_and, ofInt_nat 8 x hx, ofInt_nat 8 _ h2, Nat.and_two_pow_sub_one_eq_mod, u8w]
  have : x % 2 ^ n ≤ x := Nat.mod_le _ _
  omega
theorem orB16 (a i b : Nat) (hb : b < 2 ^ i) (h : a * 2 ^ i + b < 65536) : bits .or .u16 ((a * 2 ^ i : Nat) : Int) (b : Int) = ((a * 2 ^ i + b : Nat) : Int) := by
  show IntKind.u16.wrap ((BitVec.ofInt 16 ((a * 2 ^ i : Nat) : Int) ||| BitVec.ofInt 16 (b : Int)).toNat : Int) = _
  rw [BitVec.toNat_or, ofInt_nat 16 _ (show a * 2 ^ i < 2 ^ 16 by omega), ofInt_nat 16 b (show b < 2 ^ 16 by omega), ← Nat.shiftLeft_eq, ← Nat.shiftLeft_add_eq_or_of_lt hb, Nat.shiftLeft_eq, u16_wrap]
  omega
theorem orB8 (a i b : Nat) (hb : b < 2 ^ i) (h : a * 2 ^ i + b < 256) : bits .or .u8 ((a * 2 ^ i : Nat) : Int) (b : Int) = ((a * 2 ^ i + b : Nat) : Int) := by
  show IntKind.u8.wrap ((BitVec.ofInt 8 ((a * 2 ^ i : Nat) : Int) ||| BitVec.ofInt 8 (b : Int)).toNat : Int) = _
  rw [BitVec.toNat_or, ofInt_nat 8 _ (show a * 2 ^ i < 2 ^ 8 by omega), ofInt_nat 8 b (show b < 2 ^ 8 by omega), ← Nat.shiftLeft_eq, ← Nat.shiftLeft_add_eq_or_of_lt hb, Nat.shiftLeft_eq, u8w]
  omega
/-- how many bytes a unit has in a text -/
def widN (u : Nat) : Nat := if 1 ≤ u ∧ u ≤ 127 then 1 else if u ≤ 2047 then 2 else 3
set_option maxHeartbeats 2000000 in
theorem width_is (u : Nat) (w : World) : Calls Tryd.prog 34 #[.int .u16 (u : Nat)] w fun e w' => e = .returned (.int .i64 (widN u)) ∧ w' = w := by
  have hW : widN u = if 1 ≤ u ∧ u ≤ 127 then 1 else if u ≤ 2047 then 2 else 3 := rfl
  by_cases h1 : 1 ≤ u
  · by_cases h2 : u ≤ 127
    · rw [if_pos ⟨h1, h2⟩] at hW
      rw [hW]
      clear hW
      go_enter Tryd.func34, Tryd.ntmps34
      go_wp2_with fail
      go_ret
      exact ⟨rfl, rfl⟩
    · rw [if_neg (fun h => h2 h.2)] at hW
      by_cases h3 : u ≤ 2047
      · rw [if_pos h3] at hW
        rw [hW]
        clear hW
        go_enter Tryd.func34, Tryd.ntmps34
        go_wp2_with fail
        go_ret
        exact ⟨rfl, rfl⟩
      · rw [if_neg h3] at hW
        rw [hW]
        clear hW
        go_enter Tryd.func34, Tryd.ntmps34
        go_wp2_with fail
        go_ret
        exact ⟨rfl, rfl⟩
  · have h0 : u = 0 := by omega
    subst h0
    rw [hW]
    clear hW h1
    go_enter Tryd.func34, Tryd.ntmps34
    go_wp2_with fail
    go_ret
    exact ⟨rfl, rfl⟩
theorem lowest_eq (u : Nat) (h : u < 65536) : bits .and .u16 (u : Int) 63 = ((u % 64 : Nat) : Int) ∧ IntKind.u8.wrap ((u % 64 : Nat) : Int) = ((u % 64 : Nat) : Int) ∧ bits .or .u8 128 ((u % 64 : Nat) : Int) = ((128 + u % 64 : Nat) : Int) := by
  refine ⟨and_u16 u 6 h (by decide), ?_, ?_⟩
  · rw [u8w]; omega
  · have hm : u % 64 < 64 := Nat.mod_lt _ (by decide)
    have := orB8 2 6 (u % 64) hm (by omega)
    simpa using this
set_option maxHeartbeats 2000000 in
theorem lowest_is (u : Nat) (h : u < 65536) (w : World) : Calls Tryd.prog 35 #[.int .u16 (u : Nat)] w fun e w' => e = .returned (.int .u8 ((128 + u % 64 : Nat) : Int)) ∧ w' = w := by
  obtain ⟨e1, e2, e3⟩ := lowest_eq u h
  go_enter Tryd.func35, Tryd.ntmps35
  generalize u % 64 = m at *
  go_wp2_with fail
  go_ret
  exact ⟨rfl, rfl⟩
end Go.Proofs.YtbeekjfjfcaobaaDoor
