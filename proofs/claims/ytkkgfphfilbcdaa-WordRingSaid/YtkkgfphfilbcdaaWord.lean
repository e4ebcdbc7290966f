/- What the calls of package word answer: contracts of word.Int, word.Long and what they call. Condition: the numbers fit their kinds. -/
import Derived.Test.YtkkgfphfilbcdaaRows
import Derived.Test.YtkkgfphfilbcdaaNum
import Derived.WalkKit
import Derived.ProofKit
import Derived.OpenShut
namespace Go.Proofs.Ytkkgfphfilbcdaa
open Go.RowKit

theorem ret2 {a b c d : Int} {k l : IntKind} (h1 : a = c) (h2 : b = d) : Ending.returned (.tuple #[.int k a, .int l b]) = .returned (.tuple #[.int k c, .int l d]) := by rw [h1, h2]
theorem ret1 {a c : Int} {k : IntKind} (h1 : a = c) : Ending.returned (.int k a) = .returned (.int k c) := by rw [h1]

def D32 (op x y : Int) : Int × Int := if y == 0 then (0, 35) else if op == 112 then (x.tmod y, 0) else (wrap32 (x.tdiv y), 0)
def D64 (op x y : Int) : Int × Int := if y == 0 then (0, 35) else if op == 112 then (x.tmod y, 0) else (wrap64 (x.tdiv y), 0)

theorem div32 (op x y : Int) (w : World) :
    Calls Try.prog 61 #[.int .i64 op, .int .i32 x, .int .i32 y] w fun e w' => e = .returned (.tuple #[.int .i32 (D32 op x y).1, .int .i64 (D32 op x y).2]) ∧ w = w' := by
  by_cases hy : y = 0
  · subst hy
    go_enter Try.func61, Try.ntmps61
    go_wp2
    go_ret2
    exact ⟨ret2 rfl rfl, rfl⟩
  · have hy' : (y == 0) = false := by simpa using hy
    go_enter Try.func61, Try.ntmps61
    go_wp2
    all_goals
      go_ret2
      refine ⟨ret2 ?_ ?_, rfl⟩ <;> simp [D32, *]
theorem div64 (op x y : Int) (w : World) :
    Calls Try.prog 64 #[.int .i64 op, .int .i64 x, .int .i64 y] w fun e w' => e = .returned (.tuple #[.int .i64 (D64 op x y).1, .int .i64 (D64 op x y).2]) ∧ w = w' := by
  by_cases hy : y = 0
  · subst hy
    go_enter Try.func64, Try.ntmps64
    go_wp2
    go_ret2
    exact ⟨ret2 rfl rfl, rfl⟩
  · have hy' : (y == 0) = false := by simpa using hy
    go_enter Try.func64, Try.ntmps64
    go_wp2
    all_goals
      go_ret2
      refine ⟨ret2 ?_ ?_, rfl⟩ <;> simp [D64, *]

def S32 (op x : Int) (n : Nat) : Int := if op == 120 then wrap32 (x * 2 ^ n) else if op == 124 then wrap32 (x % 4294967296 / 2 ^ n) else x / 2 ^ n
def S64 (op x : Int) (n : Nat) : Int := if op == 120 then wrap64 (x * 2 ^ n) else if op == 124 then wrap64 (x % 18446744073709551616 / 2 ^ n) else x / 2 ^ n
theorem shift32 (op x n : Int) (h0 : 0 ≤ n) (h1 : n ≤ 31) (w : World) :
    Calls Try.prog 62 #[.int .i64 op, .int .i32 x, .int .u64 n, .int .u64 32] w fun e w' => e = .returned (.int .i32 (S32 op x n.toNat)) ∧ w = w' := by
  have hb := bare32 n.toNat x (by omega)
  rw [show 32 - n.toNat = (32 - n).toNat by omega] at hb
  go_enter Try.func62, Try.ntmps62
  go_wp2
  all_goals
    go_ret
    refine ⟨ret1 ?_, rfl⟩; simp [S32, *]
theorem shift64 (op x n : Int) (h0 : 0 ≤ n) (h1 : n ≤ 63) (w : World) :
    Calls Try.prog 65 #[.int .i64 op, .int .i64 x, .int .u64 n, .int .u64 64] w fun e w' => e = .returned (.int .i64 (S64 op x n.toNat)) ∧ w = w' := by
  have hb := bare64 n.toNat x (by omega)
  rw [show 64 - n.toNat = (64 - n).toNat by omega] at hb
  go_enter Try.func65, Try.ntmps65
  go_wp2
  all_goals
    go_ret
    refine ⟨ret1 ?_, rfl⟩; simp [S64, *]

theorem r32_108 (op x y : Int) (h : (op == 108) = true) : R32 op x y = D32 op x y := by obtain rfl := eq_of_beq h; simp [R32, D32]
theorem r32_112 (op x y : Int) (h : (op == 112) = true) : R32 op x y = D32 op x y := by obtain rfl := eq_of_beq h; simp [R32, D32]
theorem r32_120 (op x y : Int) (h : (op == 120) = true) : R32 op x y = (S32 op x (y % 32).toNat, 0) := by obtain rfl := eq_of_beq h; simp [R32, S32]
theorem r32_122 (op x y : Int) (h : (op == 122) = true) : R32 op x y = (S32 op x (y % 32).toNat, 0) := by obtain rfl := eq_of_beq h; simp [R32, S32]
theorem r32_124 (op x y : Int) (h : (op == 124) = true) : R32 op x y = (S32 op x (y % 32).toNat, 0) := by obtain rfl := eq_of_beq h; simp [R32, S32]
set_option maxHeartbeats 1000000 in
theorem reckon32 (op x y : Int) (hx : -2147483648 ≤ x ∧ x ≤ 2147483647) (hy : -2147483648 ≤ y ∧ y ≤ 2147483647) (w : World) :
    Calls Try.prog 48 #[.int .i64 op, .int .i32 x, .int .i32 y, .int .u64 32] w fun e w' => e = .returned (.tuple #[.int .i32 (R32 op x y).1, .int .i64 (R32 op x y).2]) ∧ w = w' := by
  have hm := mask31 y
  have ha := bits32 .and (by simp) x y hx hy
  have ho := bits32 .or (by simp) x y hx hy
  have hq := bits32 .xor (by simp) x y hx hy
  go_enter Try.func48, Try.ntmps48
  go_wp2_with (first | (go_at_call 61; refine (div32 _ _ _ _).mono ?_; rintro e w' ⟨rfl, rfl⟩) | (go_at_call 62; refine (shift32 _ _ _ (by omega) (by omega) _).mono ?_; rintro e w' ⟨rfl, rfl⟩))
  all_goals
    go_ret2
    refine ⟨ret2 ?_ ?_, rfl⟩ <;> first | (simp [R32, *]; done) | (rw [r32_108 op x y]; all_goals assumption) | (rw [r32_112 op x y]; all_goals assumption) | (rw [r32_120 op x y]; all_goals assumption) | (rw [r32_122 op x y]; all_goals assumption) | (rw [r32_124 op x y]; all_goals assumption)
theorem r64_108 (op x y : Int) (h : (op == 108) = true) : R64 op x y = D64 op x y := by obtain rfl := eq_of_beq h; simp [R64, D64]
theorem r64_112 (op x y : Int) (h : (op == 112) = true) : R64 op x y = D64 op x y := by obtain rfl := eq_of_beq h; simp [R64, D64]
theorem r64_120 (op x y : Int) (h : (op == 120) = true) : R64 op x y = (S64 op x (y % 64).toNat, 0) := by obtain rfl := eq_of_beq h; simp [R64, S64]
theorem r64_122 (op x y : Int) (h : (op == 122) = true) : R64 op x y = (S64 op x (y % 64).toNat, 0) := by obtain rfl := eq_of_beq h; simp [R64, S64]
theorem r64_124 (op x y : Int) (h : (op == 124) = true) : R64 op x y = (S64 op x (y % 64).toNat, 0) := by obtain rfl := eq_of_beq h; simp [R64, S64]
set_option maxHeartbeats 1000000 in
theorem reckon64 (op x y : Int) (w : World) :
    Calls Try.prog 53 #[.int .i64 op, .int .i64 x, .int .i64 y, .int .u64 64] w fun e w' => e = .returned (.tuple #[.int .i64 (R64 op x y).1, .int .i64 (R64 op x y).2]) ∧ w = w' := by
  have hm := mask63 y
  go_enter Try.func53, Try.ntmps53
  go_wp2_with (first | (go_at_call 64; refine (div64 _ _ _ _).mono ?_; rintro e w' ⟨rfl, rfl⟩) | (go_at_call 65; refine (shift64 _ _ _ (by omega) (by omega) _).mono ?_; rintro e w' ⟨rfl, rfl⟩))
  all_goals
    go_ret2
    refine ⟨ret2 ?_ ?_, rfl⟩ <;> first | (simp [R64, *]; done) | (rw [r64_108 op x y]; all_goals assumption) | (rw [r64_112 op x y]; all_goals assumption) | (rw [r64_120 op x y]; all_goals assumption) | (rw [r64_122 op x y]; all_goals assumption) | (rw [r64_124 op x y]; all_goals assumption)

theorem wordInt (op a b : Int) (w : World) :
    Calls Try.prog 16 #[.int .i64 op, .int .i64 a, .int .i64 b] w fun e w' => e = .returned (.tuple #[.int .i64 (WI op a b).1, .int .i64 (WI op a b).2]) ∧ w = w' := by
  have ha := wrap32_bd a
  have hb := wrap32_bd b
  have hr := R32_bd op _ _ ha hb
  go_enter Try.func16, Try.ntmps16
  go_wp2_with (go_at_call 48; refine (reckon32 _ _ _ (by omega) (by omega) _).mono ?_; rintro e w' ⟨rfl, rfl⟩)
  go_ret2
  refine ⟨ret2 ?_ ?_, rfl⟩ <;> simp [WI]
theorem wordLong (op a b : Int) (w : World) :
    Calls Try.prog 18 #[.int .i64 op, .int .i64 a, .int .i64 b] w fun e w' => e = .returned (.tuple #[.int .i64 (WL op a b).1, .int .i64 (WL op a b).2]) ∧ w = w' := by
  go_enter Try.func18, Try.ntmps18
  go_wp2_with (go_at_call 53; refine (reckon64 _ _ _ _).mono ?_; rintro e w' ⟨rfl, rfl⟩)
  go_ret2
  refine ⟨ret2 ?_ ?_, rfl⟩ <;> simp [WL]
end Go.Proofs.Ytkkgfphfilbcdaa
