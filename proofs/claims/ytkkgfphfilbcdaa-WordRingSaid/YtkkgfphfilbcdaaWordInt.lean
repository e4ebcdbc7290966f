/- The document's own answers for instructions on ints and on longs are what package word answers. Condition: the numbers fit their kinds. -/
import Derived.Test.YtkkgfphfilbcdaaWordRef
set_option linter.unusedVariables false
namespace Go.Proofs.Ytkkgfphfilbcdaa
open Go.RowKit

theorem op_cases32 (op : Int) : (op = 96 ∨ op = 100 ∨ op = 104 ∨ op = 116 ∨ op = 120 ∨ op = 122 ∨ op = 126 ∨ op = 128 ∨ op = 130) ∨ (op = 108 ∨ op = 112) ∨ op = 124 ∨
    ((op == 96) = false ∧ (op == 100) = false ∧ (op == 104) = false ∧ (op == 108) = false ∧ (op == 112) = false ∧ (op == 116) = false ∧ (op == 120) = false ∧ (op == 122) = false ∧ (op == 124) = false ∧ (op == 126) = false ∧ (op == 128) = false ∧ (op == 130) = false) := by
  simp only [beq_eq_false_iff_ne, ne_eq]; omega

theorem and_sum (x y : Int) : bits .and .i64 x y = wrap64 (bsumOf 0 x y 64) := by
  rw [bits_and64]; rfl
theorem or_sum (x y : Int) : bits .or .i64 x y = wrap64 (bsumOf 1 x y 64) := by
  rw [bits_or64]; rfl
theorem xor_sum (x y : Int) : bits .xor .i64 x y = wrap64 (bsumOf 2 x y 64) := by
  rw [bits_xor64]; rfl

theorem bare_neg (x : Int) (h : -2147483648 ≤ x ∧ x ≤ 2147483647) (hx : x < 0) : x % 4294967296 = x + 4294967296 := by omega
theorem bare_pos (x : Int) (h : -2147483648 ≤ x ∧ x ≤ 2147483647) (hx : ¬ x < 0) : x % 4294967296 = x := by omega

set_option maxHeartbeats 2000000 in
theorem refInt (op a b : Int) (w : World) :
    Calls Try.prog 17 #[.int .i64 op, .int .i64 a, .int .i64 b] w fun e w' => e = .returned (.tuple #[.int .i64 (WI op a b).1, .int .i64 (WI op a b).2]) ∧ w = w' := by
  have ha := wrap32_bd a
  have hb := wrap32_bd b
  obtain ⟨hm, hm2, hm4⟩ := mod_count (wrap32 b) 32 (by decide)
  have hm3 : 0 ≤ wrap32 b % 32 ∧ wrap32 b % 32 ≤ 31 := by omega
  have hq := tmod_bd (wrap32 a) (wrap32 b) _ _ (by decide) (by decide) ha
  have hd := div_bd (wrap32 a) (wrap32 b % 32).toNat _ _ (by decide) (by decide) ha
  rcases op_cases32 op with h | h | rfl | ⟨h1, h2, h3, h4, h5, h6, h7, h8, h9, h10, h11, h12⟩
  · rcases h with rfl | rfl | rfl | rfl | rfl | rfl | rfl | rfl | rfl
    all_goals
      go_enter Try.func17, Try.ntmps17
      go_wp2_with (first | (go_at_call 49; refine (refLow _ _).mono ?_; rintro e w' ⟨rfl, rfl⟩) | (go_at_call 50; refine (refUp _ _ (by omega) (by omega) (by omega) _).mono ?_; rintro e w' ⟨rfl, rfl⟩) | (go_at_call 51; refine (refDown _ _ (by omega) (by omega) (by omega) _).mono ?_; rintro e w' ⟨rfl, rfl⟩) | (go_at_call 52; refine (refBits _ _ _ (by omega) _).mono ?_; rintro e w' ⟨rfl, rfl⟩))
      go_ret2
      refine ⟨ret2 ?_ ?_, rfl⟩
    all_goals first
      | rfl
      | (simp [WI, R32, wrap32_64, and_sum, or_sum, xor_sum, *]; done)
  · by_cases hy : wrap32 b = 0
    · rcases h with rfl | rfl
      all_goals
        go_enter Try.func17, Try.ntmps17
        go_wp2_with (first | (go_at_call 49; refine (refLow _ _).mono ?_; rintro e w' ⟨rfl, rfl⟩) | (go_at_call 50; refine (refUp _ _ (by omega) (by omega) (by omega) _).mono ?_; rintro e w' ⟨rfl, rfl⟩) | (go_at_call 51; refine (refDown _ _ (by omega) (by omega) (by omega) _).mono ?_; rintro e w' ⟨rfl, rfl⟩) | (go_at_call 52; refine (refBits _ _ _ (by omega) _).mono ?_; rintro e w' ⟨rfl, rfl⟩))
        go_ret2
        refine ⟨ret2 ?_ ?_, rfl⟩
      all_goals (simp [WI, R32, hy])
    · have hy' : (wrap32 b == 0) = false := by simpa using hy
      rcases h with rfl | rfl
      all_goals
        go_enter Try.func17, Try.ntmps17
        go_wp2_with (first | (go_at_call 49; refine (refLow _ _).mono ?_; rintro e w' ⟨rfl, rfl⟩) | (go_at_call 50; refine (refUp _ _ (by omega) (by omega) (by omega) _).mono ?_; rintro e w' ⟨rfl, rfl⟩) | (go_at_call 51; refine (refDown _ _ (by omega) (by omega) (by omega) _).mono ?_; rintro e w' ⟨rfl, rfl⟩) | (go_at_call 52; refine (refBits _ _ _ (by omega) _).mono ?_; rintro e w' ⟨rfl, rfl⟩))
        go_ret2
        refine ⟨ret2 ?_ ?_, rfl⟩
      all_goals first
        | rfl
        | (simp [WI, R32, wrap32_64, wrap32_in _ hq, hy]; done)
  · by_cases hx : wrap32 a < 0
    · have hB := bare_neg _ ha hx
      have HB := Lib.hid hB; clear hB
      go_enter Try.func17, Try.ntmps17
      go_wp2_with (first | (go_at_call 49; refine (refLow _ _).mono ?_; rintro e w' ⟨rfl, rfl⟩) | (go_at_call 50; refine (refUp _ _ (by omega) (by omega) (by omega) _).mono ?_; rintro e w' ⟨rfl, rfl⟩) | (go_at_call 51; refine (refDown _ _ (by omega) (by omega) (by omega) _).mono ?_; rintro e w' ⟨rfl, rfl⟩) | (go_at_call 52; refine (refBits _ _ _ (by omega) _).mono ?_; rintro e w' ⟨rfl, rfl⟩))
      go_ret2
      refine ⟨ret2 ?_ ?_, rfl⟩
      all_goals simp [WI, R32, HB.out]
    · have hB := bare_pos _ ha hx
      have HB := Lib.hid hB; clear hB
      go_enter Try.func17, Try.ntmps17
      go_wp2_with (first | (go_at_call 49; refine (refLow _ _).mono ?_; rintro e w' ⟨rfl, rfl⟩) | (go_at_call 50; refine (refUp _ _ (by omega) (by omega) (by omega) _).mono ?_; rintro e w' ⟨rfl, rfl⟩) | (go_at_call 51; refine (refDown _ _ (by omega) (by omega) (by omega) _).mono ?_; rintro e w' ⟨rfl, rfl⟩) | (go_at_call 52; refine (refBits _ _ _ (by omega) _).mono ?_; rintro e w' ⟨rfl, rfl⟩))
      go_ret2
      refine ⟨ret2 ?_ ?_, rfl⟩
      all_goals simp [WI, R32, HB.out]
  · unfold WI
    go_enter Try.func17, Try.ntmps17
    go_wp2_with (first | (go_at_call 49; refine (refLow _ _).mono ?_; rintro e w' ⟨rfl, rfl⟩))
    go_ret2
    refine ⟨ret2 ?_ ?_, rfl⟩ <;> simp [R32, h1, h2, h3, h4, h5, h6, h7, h8, h9, h10, h11, h12]

theorem op_cases64 (op : Int) : (op = 97 ∨ op = 101 ∨ op = 105 ∨ op = 117 ∨ op = 121 ∨ op = 123 ∨ op = 127 ∨ op = 129 ∨ op = 131) ∨ (op = 109 ∨ op = 113) ∨ op = 125 ∨
    ((op == 97) = false ∧ (op == 101) = false ∧ (op == 105) = false ∧ (op == 109) = false ∧ (op == 113) = false ∧ (op == 117) = false ∧ (op == 121) = false ∧ (op == 123) = false ∧ (op == 125) = false ∧ (op == 127) = false ∧ (op == 129) = false ∧ (op == 131) = false) := by
  simp only [beq_eq_false_iff_ne, ne_eq]; omega
theorem one_less (op k : Int) (ho : -9223372036854775808 ≤ op ∧ op ≤ 9223372036854775807) (hk : 0 ≤ k ∧ k < 1000) (h : (op == k + 1) = false) : (wrap64 (op - 1) == k) = false := by
  simp only [beq_eq_false_iff_ne, ne_eq] at *; unfold wrap64; omega
theorem wl_no (op a b : Int) (ho : -9223372036854775808 ≤ op ∧ op ≤ 9223372036854775807) (h : (op == 97) = false ∧ (op == 101) = false ∧ (op == 105) = false ∧ (op == 109) = false ∧ (op == 113) = false ∧ (op == 117) = false ∧ (op == 121) = false ∧ (op == 123) = false ∧ (op == 125) = false ∧ (op == 127) = false ∧ (op == 129) = false ∧ (op == 131) = false) : WL op a b = (0, 1) := by
  obtain ⟨h1, h2, h3, h4, h5, h6, h7, h8, h9, h10, h11, h12⟩ := h
  unfold WL R64
  have g := one_less op
  simp [g 96 ho (by decide) h1, g 100 ho (by decide) h2, g 104 ho (by decide) h3, g 108 ho (by decide) h4, g 112 ho (by decide) h5, g 116 ho (by decide) h6, g 120 ho (by decide) h7, g 122 ho (by decide) h8, g 124 ho (by decide) h9, g 126 ho (by decide) h10, g 128 ho (by decide) h11, g 130 ho (by decide) h12]
theorem wl_is (k a b : Int) (hk : 0 ≤ k ∧ k < 1000) : WL (k + 1) a b = R64 k a b := by
  unfold WL; rw [show wrap64 (k + 1 - 1) = k by unfold wrap64; omega]
theorem bare64_0 (a : Int) (ha : -9223372036854775808 ≤ a ∧ a ≤ 9223372036854775807) : wrap64 (a % 18446744073709551616 / 2 ^ 0) = a := by
  simp; unfold wrap64; omega
theorem bare64_succ (a : Int) (m : Nat) : wrap64 (a % 18446744073709551616 / 2 ^ (m + 1)) = a % 18446744073709551616 / 2 / 2 ^ m := by
  have e : a % 18446744073709551616 / 2 ^ (m + 1) = a % 18446744073709551616 / 2 / 2 ^ m := by
    rw [Int.pow_succ', Int.ediv_ediv_of_nonneg (by decide)]
  rw [e]
  have := div_bd (a % 18446744073709551616 / 2) m 0 9223372036854775807 (by decide) (by decide) (by omega)
  exact wrap64_in _ (by omega)
theorem wl_bare (a b : Int) : WL 125 a b = (wrap64 (a % 18446744073709551616 / 2 ^ (b % 64).toNat), 0) := by rw [show (125 : Int) = 124 + 1 from rfl, wl_is _ _ _ (by decide)]; simp [R64]

theorem wl_109 (a b : Int) (hb : ¬ b = 0) : WL 109 a b = (wrap64 (a.tdiv b), 0) := by rw [show (109 : Int) = 108 + 1 from rfl, wl_is _ _ _ (by decide)]; simp [R64, hb]
theorem wl_113 (a b : Int) (hb : ¬ b = 0) : WL 113 a b = (a.tmod b, 0) := by rw [show (113 : Int) = 112 + 1 from rfl, wl_is _ _ _ (by decide)]; simp [R64, hb]
set_option maxHeartbeats 2000000 in
theorem refLong (op a b : Int) (ho : -9223372036854775808 ≤ op ∧ op ≤ 9223372036854775807) (ha : -9223372036854775808 ≤ a ∧ a ≤ 9223372036854775807) (hb : -9223372036854775808 ≤ b ∧ b ≤ 9223372036854775807) (w : World) :
    Calls Try.prog 19 #[.int .i64 op, .int .i64 a, .int .i64 b] w fun e w' => e = .returned (.tuple #[.int .i64 (WL op a b).1, .int .i64 (WL op a b).2]) ∧ w = w' := by
  obtain ⟨hm, hm2, hm4⟩ := mod_count b 64 (by decide)
  have hm3 : 0 ≤ b % 64 ∧ b % 64 ≤ 63 := by omega
  have hq := tmod_bd a b _ _ (by decide) (by decide) ha
  have hd := div_bd a (b % 64).toNat _ _ (by decide) (by decide) ha
  rcases op_cases64 op with h | h | rfl | h
  · rcases h with rfl | rfl | rfl | rfl | rfl | rfl | rfl | rfl | rfl
    all_goals
      go_enter Try.func19, Try.ntmps19
      go_wp2_with (first | (go_at_call 50; refine (refUp _ _ (by omega) (by omega) (by omega) _).mono ?_; rintro e w' ⟨rfl, rfl⟩) | (go_at_call 51; refine (refDown _ _ (by omega) (by omega) (by omega) _).mono ?_; rintro e w' ⟨rfl, rfl⟩) | (go_at_call 52; refine (refBits _ _ _ (by omega) _).mono ?_; rintro e w' ⟨rfl, rfl⟩))
      go_ret2
      refine ⟨ret2 ?_ ?_, rfl⟩
    all_goals first
      | rfl
      | (simp [WL, R64, and_sum, or_sum, xor_sum, wrap64_in, *]; done)
      | skip
  · by_cases hy : b = 0
    · subst hy
      rcases h with rfl | rfl
      all_goals
        go_enter Try.func19, Try.ntmps19
        go_wp2_with (first | (go_at_call 50; refine (refUp _ _ (by omega) (by omega) (by omega) _).mono ?_; rintro e w' ⟨rfl, rfl⟩) | (go_at_call 51; refine (refDown _ _ (by omega) (by omega) (by omega) _).mono ?_; rintro e w' ⟨rfl, rfl⟩) | (go_at_call 52; refine (refBits _ _ _ (by omega) _).mono ?_; rintro e w' ⟨rfl, rfl⟩))
        go_ret2
        refine ⟨ret2 ?_ ?_, rfl⟩
      all_goals simp [WL, R64, wrap64]
    · have hy' : (b == 0) = false := by simpa using hy
      by_cases hs : a = -9223372036854775808 ∧ b = -1
      · obtain ⟨rfl, rfl⟩ := hs
        rcases h with rfl | rfl
        all_goals
          go_enter Try.func19, Try.ntmps19
          go_wp2_with (first | (go_at_call 50; refine (refUp _ _ (by omega) (by omega) (by omega) _).mono ?_; rintro e w' ⟨rfl, rfl⟩) | (go_at_call 51; refine (refDown _ _ (by omega) (by omega) (by omega) _).mono ?_; rintro e w' ⟨rfl, rfl⟩) | (go_at_call 52; refine (refBits _ _ _ (by omega) _).mono ?_; rintro e w' ⟨rfl, rfl⟩))
          go_ret2
          refine ⟨ret2 ?_ ?_, rfl⟩
        all_goals simp [wl_109, wl_113, wrap64]
      · rcases h with rfl | rfl
        all_goals
          by_cases hs1 : a = -9223372036854775808
        all_goals
          go_enter Try.func19, Try.ntmps19
          go_wp2_with (first | (go_at_call 50; refine (refUp _ _ (by omega) (by omega) (by omega) _).mono ?_; rintro e w' ⟨rfl, rfl⟩) | (go_at_call 51; refine (refDown _ _ (by omega) (by omega) (by omega) _).mono ?_; rintro e w' ⟨rfl, rfl⟩) | (go_at_call 52; refine (refBits _ _ _ (by omega) _).mono ?_; rintro e w' ⟨rfl, rfl⟩))
          go_ret2
          refine ⟨ret2 ?_ ?_, rfl⟩
        all_goals first | (rw [wl_109 _ _ hy]; done) | (rw [wl_113 _ _ hy]; done) | (rw [wl_109 _ _ hy, hs1]; simp; done) | (rw [wl_113 _ _ hy, hs1]; simp [Int.tmod_eq_emod_of_nonneg]; done)
  · rw [wl_bare]
    obtain ⟨n, hn⟩ : ∃ n : Nat, b % 64 = n := Int.eq_ofNat_of_zero_le hm3.1
    rw [hn] at hm ⊢
    rw [Int.toNat_natCast]
    cases n with
    | zero =>
      have hB := bare64_0 a ha
      have HB := Lib.hid hB; clear hB hn
      go_enter Try.func19, Try.ntmps19
      go_wp2_with (first | (go_at_call 50; refine (refUp _ _ (by omega) (by omega) (by omega) _).mono ?_; rintro e w' ⟨rfl, rfl⟩) | (go_at_call 51; refine (refDown _ _ (by omega) (by omega) (by omega) _).mono ?_; rintro e w' ⟨rfl, rfl⟩) | (go_at_call 52; refine (refBits _ _ _ (by omega) _).mono ?_; rintro e w' ⟨rfl, rfl⟩))
      go_ret2
      refine ⟨ret2 ?_ ?_, rfl⟩
      all_goals first | exact HB.out.symm | rfl
    | succ m =>
      have hB := bare64_succ a m
      have hm63 : (m : Int) + 1 ≤ 63 := by omega
      have HB := Lib.hid hB; clear hB hn
      by_cases hx : a < 0
      all_goals
        go_enter Try.func19, Try.ntmps19
        go_wp2_with (first | (go_at_call 50; refine (refUp _ _ (by omega) (by omega) (by omega) _).mono ?_; rintro e w' ⟨rfl, rfl⟩) | (go_at_call 51; refine (refDown _ _ (by omega) (by omega) (by omega) _).mono ?_; rintro e w' ⟨rfl, rfl⟩) | (go_at_call 52; refine (refBits _ _ _ (by omega) _).mono ?_; rintro e w' ⟨rfl, rfl⟩))
        go_ret2
        refine ⟨ret2 ?_ ?_, rfl⟩
      · rw [HB.out, show a % 18446744073709551616 / 2 = a / 2 + 9223372036854775808 by omega]
      · rfl
      · rw [HB.out, show a % 18446744073709551616 / 2 = a / 2 by omega]
      · rfl
  · have hW := wl_no op a b ho h
    have HW := Lib.hid hW; clear hW
    obtain ⟨h1, h2, h3, h4, h5, h6, h7, h8, h9, h10, h11, h12⟩ := h
    go_enter Try.func19, Try.ntmps19
    go_wp2_with fail
    go_ret2
    rw [HW.out]
    exact ⟨ret2 rfl rfl, rfl⟩
end Go.Proofs.Ytkkgfphfilbcdaa
