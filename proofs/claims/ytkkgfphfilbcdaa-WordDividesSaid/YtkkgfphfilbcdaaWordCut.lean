/- What word.Cut, word.Compare and word.Holds answer, and the document's own answers for them. Condition: the numbers fit their kinds. -/
import Derived.Test.YtkkgfphfilbcdaaWordRef
set_option linter.unusedVariables false
namespace Go.Proofs.Ytkkgfphfilbcdaa
open Go.RowKit

def CU (d n : Int) : Int :=
  if d == 66 then (n + 128) % 256 - 128 else if d == 67 then n % 65536 else if d == 83 then (n + 32768) % 65536 - 32768 else if d == 90 then n % 2 else if d == 73 then wrap32 n else n
theorem cut_cases (d : Int) : (d = 66 ∨ d = 67 ∨ d = 83 ∨ d = 90 ∨ d = 73) ∨ ((d == 66) = false ∧ (d == 67) = false ∧ (d == 83) = false ∧ (d == 90) = false ∧ (d == 73) = false) := by
  simp only [beq_eq_false_iff_ne, ne_eq]; omega
theorem and1_64 (n : Int) : bits .and .i64 n 1 = n % 2 := by
  have h1 := ofInt_toNat 64 n
  have h2 : (BitVec.ofInt 64 1).toNat = 2 ^ 1 - 1 := by decide
  rw [and64_is, BitVec.toNat_and, h2, Nat.and_two_pow_sub_one_eq_mod, IntWalk.i64_in] <;> omega
theorem i8_wrap (n : Int) : IntKind.i8.wrap n = (n + 128) % 256 - 128 := by
  simp [IntKind.wrap, IntKind.bits, IntKind.signed]; split <;> omega
theorem i16_wrap (n : Int) : IntKind.i16.wrap n = (n + 32768) % 65536 - 32768 := by
  simp [IntKind.wrap, IntKind.bits, IntKind.signed]; split <;> omega
theorem u16_wrap (n : Int) : IntKind.u16.wrap n = n % 65536 := by
  simp [IntKind.wrap, IntKind.bits, IntKind.signed]
theorem cu_no (d n : Int) (h : (d == 66) = false ∧ (d == 67) = false ∧ (d == 83) = false ∧ (d == 90) = false ∧ (d == 73) = false) : CU d n = n := by
  obtain ⟨h1, h2, h3, h4, h5⟩ := h; simp [CU, h1, h2, h3, h4, h5]

theorem wordCut (d n : Int) (hn : -9223372036854775808 ≤ n ∧ n ≤ 9223372036854775807) (w : World) :
    Calls Try.prog 20 #[.int .u8 d, .int .i64 n] w fun e w' => e = .returned (.int .i64 (CU d n)) ∧ w = w' := by
  have hl := wrap32_bd n
  have hz := and1_64 n
  have h8 := i8_wrap n
  have h16 := i16_wrap n
  have hu := u16_wrap n
  rcases cut_cases d with h | h
  · rcases h with rfl | rfl | rfl | rfl | rfl
    all_goals
      go_enter Try.func20, Try.ntmps20
      go_wp2
      go_ret
      refine ⟨ret1 ?_, rfl⟩
    all_goals simp [CU]
  · have hc := cu_no d n h
    have HC := Lib.hid hc; clear hc
    obtain ⟨h1, h2, h3, h4, h5⟩ := h
    go_enter Try.func20, Try.ntmps20
    go_wp2
    go_ret
    exact ⟨ret1 HC.out.symm, rfl⟩


set_option maxHeartbeats 1000000 in
theorem refCut (d n : Int) (hn : -9223372036854775808 ≤ n ∧ n ≤ 9223372036854775807) (w : World) :
    Calls Try.prog 21 #[.int .u8 d, .int .i64 n] w fun e w' => e = .returned (.int .i64 (CU d n)) ∧ w = w' := by
  have hl := wrap32_bd n
  rcases cut_cases d with h | h
  · rcases h with rfl | rfl | rfl | rfl | rfl
    · obtain ⟨hm, hm2, hm4⟩ := mod_count (wrap32 n) 256 (by decide)
      go_enter Try.func21, Try.ntmps21
      go_wp2_with (go_at_call 49; refine (refLow _ _).mono ?_; rintro e w' ⟨rfl, rfl⟩)
      all_goals
        go_ret
        refine ⟨ret1 ?_, rfl⟩
        simp [CU, wrap32] at *
        omega
    · obtain ⟨hm, hm2, hm4⟩ := mod_count (wrap32 n) 65536 (by decide)
      go_enter Try.func21, Try.ntmps21
      go_wp2_with (go_at_call 49; refine (refLow _ _).mono ?_; rintro e w' ⟨rfl, rfl⟩)
      all_goals
        go_ret
        refine ⟨ret1 ?_, rfl⟩
        simp [CU, wrap32] at *
        omega
    · obtain ⟨hm, hm2, hm4⟩ := mod_count (wrap32 n) 65536 (by decide)
      go_enter Try.func21, Try.ntmps21
      go_wp2_with (go_at_call 49; refine (refLow _ _).mono ?_; rintro e w' ⟨rfl, rfl⟩)
      all_goals
        go_ret
        refine ⟨ret1 ?_, rfl⟩
        simp [CU, wrap32] at *
        omega
    · obtain ⟨hm, hm2, hm4⟩ := mod_count (wrap32 n) 2 (by decide)
      go_enter Try.func21, Try.ntmps21
      go_wp2_with (go_at_call 49; refine (refLow _ _).mono ?_; rintro e w' ⟨rfl, rfl⟩)
      all_goals
        go_ret
        refine ⟨ret1 ?_, rfl⟩
        simp [CU, wrap32] at *
        omega
    · go_enter Try.func21, Try.ntmps21
      go_wp2_with (go_at_call 49; refine (refLow _ _).mono ?_; rintro e w' ⟨rfl, rfl⟩)
      go_ret
      exact ⟨rfl, rfl⟩
  · have hc := cu_no d n h
    have HC := Lib.hid hc; clear hc
    obtain ⟨h1, h2, h3, h4, h5⟩ := h
    go_enter Try.func21, Try.ntmps21
    go_wp2_with (go_at_call 49; refine (refLow _ _).mono ?_; rintro e w' ⟨rfl, rfl⟩)
    go_ret
    exact ⟨ret1 HC.out.symm, rfl⟩

def CMP (a b : Int) : Int := if a < b then -1 else if b < a then 1 else 0
theorem wordCmp (a b : Int) (w : World) :
    Calls Try.prog 22 #[.int .i64 a, .int .i64 b] w fun e w' => e = .returned (.int .i64 (CMP a b)) ∧ w = w' := by
  go_enter Try.func22, Try.ntmps22
  go_wp2
  all_goals
    go_ret
    refine ⟨ret1 ?_, rfl⟩
    simp [CMP]
    omega
theorem refCmp (a b : Int) (w : World) :
    Calls Try.prog 23 #[.int .i64 a, .int .i64 b] w fun e w' => e = .returned (.int .i64 (CMP a b)) ∧ w = w' := by
  go_enter Try.func23, Try.ntmps23
  go_wp2
  all_goals
    go_ret
    refine ⟨ret1 ?_, rfl⟩
    simp [CMP]
    omega

/-- whether a condition holds, by the number of its jump -/
def HOb (op x y : Int) : Bool :=
  if op == 159 then x == y else if op == 160 then x != y else if op == 161 then decide (x < y) else if op == 162 then decide (y ≤ x) else if op == 163 then decide (y < x) else if op == 164 then decide (x ≤ y) else false
def HOe (op : Int) : Int := if 159 ≤ op ∧ op ≤ 164 then 0 else 1
def HO (op a b : Int) : Bool × Int :=
  if 153 ≤ op ∧ op ≤ 158 then (HOb (op + 6) (wrap32 a) 0, 0) else (HOb op (wrap32 a) (wrap32 b), HOe op)
theorem hold_cases (op : Int) : (op = 153 ∨ op = 154 ∨ op = 155 ∨ op = 156 ∨ op = 157 ∨ op = 158) ∨ (op = 159 ∨ op = 160 ∨ op = 161 ∨ op = 162 ∨ op = 163 ∨ op = 164) ∨ op < 153 ∨ 164 < op := by omega
theorem ho_no (op a b : Int) (h : op < 153 ∨ 164 < op) : HO op a b = (false, 1) := by
  have h1 : ¬ (153 ≤ op ∧ op ≤ 158) := by omega
  have h2 : ¬ (159 ≤ op ∧ op ≤ 164) := by omega
  have h3 : (op == 159) = false ∧ (op == 160) = false ∧ (op == 161) = false ∧ (op == 162) = false ∧ (op == 163) = false ∧ (op == 164) = false := by
    simp only [beq_eq_false_iff_ne, ne_eq]; omega
  simp [HO, HOb, HOe, h1, h2, h3]
theorem retbe {a b : Bool} {c d : Int} {l : IntKind} (h1 : a = b) (h2 : c = d) : Ending.returned (.tuple #[.bool a, .int l c]) = .returned (.tuple #[.bool b, .int l d]) := by rw [h1, h2]

set_option maxHeartbeats 1000000 in
theorem wordHolds (op a b : Int) (ho : -9223372036854775808 ≤ op ∧ op ≤ 9223372036854775807) (w : World) :
    Calls Try.prog 24 #[.int .i64 op, .int .i64 a, .int .i64 b] w fun e w' => e = .returned (.tuple #[.bool (HO op a b).1, .int .i64 (HO op a b).2]) ∧ w = w' := by
  rcases hold_cases op with h | h | h | h
  · rcases h with rfl | rfl | rfl | rfl | rfl | rfl
    all_goals
      go_enter Try.func24, Try.ntmps24
      go_wp2
      go_ret2
      refine ⟨retbe ?_ ?_, rfl⟩ <;> simp [HO, HOb]
  · rcases h with rfl | rfl | rfl | rfl | rfl | rfl
    all_goals
      go_enter Try.func24, Try.ntmps24
      go_wp2
      go_ret2
      refine ⟨retbe ?_ ?_, rfl⟩ <;> simp [HO, HOb, HOe]
  · have hc := ho_no op a b (.inl h)
    have HC := Lib.hid hc; clear hc
    go_enter Try.func24, Try.ntmps24
    go_wp2
    go_ret2
    rw [HC.out]
    exact ⟨retbe rfl rfl, rfl⟩
  · have hc := ho_no op a b (.inr h)
    have HC := Lib.hid hc; clear hc
    go_enter Try.func24, Try.ntmps24
    go_wp2
    go_ret2
    rw [HC.out]
    exact ⟨retbe rfl rfl, rfl⟩
set_option maxHeartbeats 1000000 in
theorem refHolds (op a b : Int) (ho : -9223372036854775808 ≤ op ∧ op ≤ 9223372036854775807) (w : World) :
    Calls Try.prog 25 #[.int .i64 op, .int .i64 a, .int .i64 b] w fun e w' => e = .returned (.tuple #[.bool (HO op a b).1, .int .i64 (HO op a b).2]) ∧ w = w' := by
  rcases hold_cases op with h | h | h | h
  · rcases h with rfl | rfl | rfl | rfl | rfl | rfl
    all_goals
      go_enter Try.func25, Try.ntmps25
      go_wp2_with (go_at_call 49; refine (refLow _ _).mono ?_; rintro e w' ⟨rfl, rfl⟩)
      go_ret2
      refine ⟨retbe ?_ ?_, rfl⟩ <;> simp [HO, HOb]
  · rcases h with rfl | rfl | rfl | rfl | rfl | rfl
    all_goals
      go_enter Try.func25, Try.ntmps25
      go_wp2_with (go_at_call 49; refine (refLow _ _).mono ?_; rintro e w' ⟨rfl, rfl⟩)
      go_ret2
      refine ⟨retbe ?_ ?_, rfl⟩ <;> simp [HO, HOb, HOe]
  · have hc := ho_no op a b (.inl h)
    have HC := Lib.hid hc; clear hc
    go_enter Try.func25, Try.ntmps25
    go_wp2_with (go_at_call 49; refine (refLow _ _).mono ?_; rintro e w' ⟨rfl, rfl⟩)
    go_ret2
    rw [HC.out]
    exact ⟨retbe rfl rfl, rfl⟩
  · have hc := ho_no op a b (.inr h)
    have HC := Lib.hid hc; clear hc
    go_enter Try.func25, Try.ntmps25
    go_wp2_with (go_at_call 49; refine (refLow _ _).mono ?_; rintro e w' ⟨rfl, rfl⟩)
    go_ret2
    rw [HC.out]
    exact ⟨retbe rfl rfl, rfl⟩
end Go.Proofs.Ytkkgfphfilbcdaa
