/- The document's own reader's numbers, and package octet's pieces: contracts. Condition: the numbers fit their kinds. -/
import Derived.Test.YtkkgfphfilbcdaaOctRd
set_option linter.unusedVariables false
namespace Go.Proofs.Ytkkgfphfilbcdaa
open Go.RowKit

theorem numW_nil : numW [] = 0 := by simp [numW, big, wrap64]
set_option maxHeartbeats 400000 in
theorem rxNum {w : World} {g : Nat} {l : List Int} {p : Nat} {bad : Bool} (n : Int) (hn : -9223372036854775808 ≤ n ∧ n ≤ 9223372036854775807) (h : Rx w g l p bad) :
    Calls Try.prog 41 #[.pointer (some ⟨g, 0, none⟩), .int .i64 n] w fun e w' => e = .returned (.int .i64 (numV l p bad n)) ∧ Rx w' g l (stepP p (takes l p bad n) n) (!takes l p bad n) ∧ Only g w w' := by
  by_cases h8 : 1 ≤ n ∧ n ≤ 8
  · have h0 : (0 : Int) ≤ n := by omega
    have e1 : takes l p bad n = canB l p bad (decide (0 ≤ n)) n := by simp [takes, canB, h8, h0]
    have e2 : numV l p bad n = numW (piecesOf l p bad n) := by
      unfold numV piecesOf; rw [e1]; split <;> simp [numW_nil]
    rw [e2, e1]
    have hB := rxBytes n hn h
    have hlen : (piecesOf l p bad n).length ≤ 140737488355328 := by
      obtain ⟨_, _, _, _, hc, _⟩ := h
      unfold piecesOf; split
      · simp [piece]; omega
      · simp
    have hby : Bytes (piecesOf l p bad n) := by
      obtain ⟨_, _, _, _, _, hbs, _⟩ := h
      unfold piecesOf; split
      · exact (hbs.1.drop _).take _
      · exact Bytes.nil
    have hn1 : ¬ n < 1 := by omega
    have hn2 : ¬ 8 < n := by omega
    have HB := Lib.hid hB; clear hB e1 e2
    go_enter Try.func41, Try.ntmps41
    go_wp2_with fail
    refine HB.out.mono ?_; rintro e w1 ⟨⟨a1, c1, rfl, hc1, hbs1, ho1⟩, hx1⟩
    go_wp2_with fail
    refine (refNumber _ _ _ (piecesOf l p bad n) rfl (by simp only [maxLen]; omega) _ _ hbs1).mono ?_; rintro e w2 ⟨rfl, rfl⟩
    go_wp2_with fail
    go_ret
    exact ⟨rfl, hx1, ho1⟩
  · have e1 : takes l p bad n = false := by simp [takes, canB]; intro _ h1 h2; exact absurd ⟨h1, h2⟩ h8
    have e2 : numV l p bad n = 0 := by simp [numV, e1]
    rw [e1, e2]
    have h' := h
    obtain ⟨a, c, hh, hlc, hc, hbs, hp, ha⟩ := h
    have h2 : w.cell? ⟨g, 2, none⟩ = some (.bool bad) := blk_cell hh 2
    have f2 := blk_free hh 2
    have hlt := blk_lt hh
    have hrx : Rx (w.setCell ⟨g, 2, none⟩ (.bool true)) g l p true := rx_mk (w := w) (by simpa using blk_set hh 2 (.bool true)) hlc hc hbs ha (only_set (only_refl _ _) _ _) (Nat.le_of_lt hlt) hp
    have hB := rxBytes n hn hrx
    have e3 : piecesOf l p true n = [] := by simp [piecesOf, canB]
    have e4 : canB l p true (decide (0 ≤ n)) n = false := by simp [canB]
    rw [e3, e4] at hB
    have HB := Lib.hid hB; clear hB e1 e2 e3 e4 hh
    by_cases hn1 : n < 1
    all_goals
      go_enter Try.func41, Try.ntmps41
    case' neg => have hn2 : 8 < n := by omega
    all_goals
      go_wp2_with fail
      refine HB.out.mono ?_; rintro e w1 ⟨⟨a1, c1, rfl, hc1, hbs1, ho1⟩, hx1⟩
      go_wp2_with fail
      refine (refNumber _ _ _ [] rfl (by decide) _ _ hbs1).mono ?_; rintro e w2 ⟨rfl, rfl⟩
      go_wp2_with fail
      go_ret
      exact ⟨by rw [numW_nil]; rfl, by simpa [stepP] using hx1, only_trans (only_set (only_refl _ _) _ _) ho1⟩

theorem pow_split (n : Nat) (h : n ≤ 7) : (256 : Int) ^ n * 2 ^ (8 * (8 - (n : Int))).toNat = 18446744073709551616 := by
  rw [pow256, ← Int.pow_add, show 8 * n + (8 * (8 - (n : Int))).toNat = 64 by omega]; rfl
theorem pow256_bd (n : Nat) (h : n ≤ 7) : 1 ≤ (256 : Int) ^ n ∧ (256 : Int) ^ n ≤ 72057594037927936 := by
  rw [pow256]
  have := pow_mono2 (show 8 * n ≤ 56 by omega)
  have h2 := pow_pos2 (8 * n)
  have h3 : (2 : Int) ^ 56 = 72057594037927936 := by decide
  omega
theorem pow256_even (n : Nat) (h : 1 ≤ n) : ∃ q, (256 : Int) ^ n = 2 * q := by
  obtain ⟨m, rfl⟩ : ∃ m, n = m + 1 := ⟨n - 1, by omega⟩
  exact ⟨128 * 256 ^ m, by rw [Int.pow_succ]; omega⟩
theorem sg_lt (V : Int) (n : Nat) (h1 : 1 ≤ n) (h7 : n ≤ 7) (hv : 0 ≤ V ∧ V < 256 ^ n) :
    sgV V n = if (256 : Int) ^ n / 2 ≤ V then V - 256 ^ n else V := by
  have hs := pow_split n h7
  obtain ⟨q, hq⟩ := pow256_even n h1
  unfold sgV
  have hp : (0 : Int) < 2 ^ (8 * (8 - (n : Int))).toNat := pow_pos2 _
  generalize (2 : Int) ^ (8 * (8 - (n : Int))).toNat = S at *
  rw [hq] at hs hv ⊢
  have hqS : q * S = 9223372036854775808 := by rw [Int.mul_assoc] at hs; omega
  split
  · rename_i hge
    have hle : q * S ≤ V * S := Int.mul_le_mul_of_nonneg_right (by omega) (by omega)
    have hlt : V * S < 2 * q * S := Int.mul_lt_mul_of_pos_right hv.2 hp
    have e : wrap64 (V * S) = (V - 2 * q) * S := by
      rw [Int.sub_mul]
      unfold wrap64; omega
    rw [e, Int.mul_ediv_cancel _ (by omega)]
  · rename_i hge
    have hle : V * S < q * S := Int.mul_lt_mul_of_pos_right (by omega) hp
    have h0 : 0 ≤ V * S := Int.mul_nonneg hv.1 (by omega)
    rw [wrap64_in _ (by omega), Int.mul_ediv_cancel _ (by omega)]
theorem sg_8 (V : Int) (h : -9223372036854775808 ≤ V ∧ V ≤ 9223372036854775807) : sgV V 8 = V := by
  unfold sgV; simp; exact wrap64_in V h

set_option maxHeartbeats 800000 in
theorem rxSigned {w : World} {g : Nat} {l : List Int} {p : Nat} {bad : Bool} (n : Int) (hn : -9223372036854775808 ≤ n ∧ n ≤ 9223372036854775807) (h : Rx w g l p bad) :
    Calls Try.prog 43 #[.pointer (some ⟨g, 0, none⟩), .int .i64 n] w fun e w' => e = .returned (.int .i64 (signV l p bad n)) ∧ Rx w' g l (stepP p (takes l p bad n) n) (!takes l p bad n) ∧ Only g w w' := by
  have hN := rxNum n hn h
  have HN := Lib.hid hN; clear hN
  cases ht : takes l p bad n with
  | false =>
    have e2 : signV l p bad n = 0 := by simp [signV, ht]
    have e3 : numV l p bad n = 0 := by simp [numV, ht]
    rw [e2]
    have hN := HN.out
    rw [ht, e3] at hN
    have HM := Lib.hid hN; clear hN e2 e3 ht HN
    go_enter Try.func43, Try.ntmps43
    go_wp2_with fail
    refine HM.out.mono ?_; rintro e w1 ⟨rfl, hx1, ho1⟩
    have hx1' := Lib.hid hx1
    obtain ⟨a, c, hh, _⟩ := hx1
    have h2 : w1.cell? ⟨g, 2, none⟩ = some (.bool true) := blk_cell hh 2
    clear hh
    go_wp2_with fail
    go_ret
    exact ⟨rfl, hx1'.out, ho1⟩
  | true =>
    have e2 : signV l p bad n = sgV (numW (piece l p n)) n := by simp [signV, ht]
    have e3 : numV l p bad n = numW (piece l p n) := by simp [numV, ht]
    rw [e2]
    have hN := HN.out
    rw [ht, e3] at hN
    have hcan : bad = false ∧ (1 ≤ n ∧ n ≤ 8) ∧ n + p ≤ l.length := by simpa [takes, canB, Bool.and_eq_true, and_assoc] using ht
    obtain ⟨_, hn8, hle⟩ := hcan
    have hby : Bytes (piece l p n) := by
      obtain ⟨_, _, _, _, _, hbs, _⟩ := h
      exact (hbs.1.drop _).take _
    have hpl : (piece l p n).length = n.toNat := piece_len (by omega) (by omega)
    have HM := Lib.hid hN; clear hN e2 e3 ht HN
    by_cases hn7 : n = 8
    · subst hn7
      have e := sg_8 (numW (piece l p 8)) (wrap64_bd _)
      rw [e]
      clear e hpl
      go_enter Try.func43, Try.ntmps43
      go_wp2_with fail
      refine HM.out.mono ?_; rintro e w1 ⟨rfl, hx1, ho1⟩
      have hx1' := Lib.hid hx1
      obtain ⟨a, c, hh, _⟩ := hx1
      have h2 : w1.cell? ⟨g, 2, none⟩ = some (.bool (!true)) := blk_cell hh 2
      clear hh
      go_wp2_with fail
      go_ret
      exact ⟨rfl, hx1'.out, ho1⟩
    · obtain ⟨m, rfl⟩ := Int.eq_ofNat_of_zero_le (show 0 ≤ n by omega)
      rw [Int.toNat_natCast] at hpl
      have hm7 : m ≤ 7 := by omega
      have hV : 0 ≤ numW (piece l p m) ∧ numW (piece l p m) < 256 ^ m := by
        have hb := big_bd _ hby
        rw [hpl] at hb
        have := pow256_bd m hm7
        unfold numW
        rw [wrap64_in _ (by omega)]; exact hb
      have e := sg_lt (numW (piece l p m)) m (by omega) hm7 hV
      have hbd := pow256_bd m hm7
      have HE := Lib.hid e; clear e hpl hby
      have hn8b : ((m : Int) == 8) = false := by simp; omega
      generalize numW (piece l p m) = V at *
      go_enter Try.func43, Try.ntmps43
      go_wp2_with fail
      refine HM.out.mono ?_; rintro e w1 ⟨rfl, hx1, ho1⟩
      have hx1' := Lib.hid hx1
      obtain ⟨a, c, hh, _⟩ := hx1
      have h2 : w1.cell? ⟨g, 2, none⟩ = some (.bool (!true)) := blk_cell hh 2
      clear hh
      go_wp2_with fail
      go_loop [6, 7] (fun x i => ∃ k : Nat, k ≤ m ∧ i = .int .i64 k ∧ x = .int .i64 (256 ^ k)) (fun _ i => m - (intOf i).toNat)
      case atStart => exact ⟨0, Nat.zero_le _, rfl, rfl⟩
      case round =>
        obtain ⟨k, hk, rfl, rfl⟩ := hrel
        by_cases hlt : k < m
        · have hb1 := pow256_bd (k + 1) (by omega)
          have hb0 := pow256_bd k (by omega)
          rw [Int.pow_succ] at hb1
          go_wp2
          go_round
          case rel => exact ⟨k + 1, by omega, by go_num, by rw [Int.pow_succ]⟩
          case measure => simp [intOf]; omega
        · obtain rfl : k = m := by omega
          generalize (256 : Int) ^ k = M at *
          by_cases hge : M / 2 ≤ V
          · have he := HE.out
            rw [if_pos hge] at he
            have HF := Lib.hid he; clear he HE
            go_wp2
            go_ret
            exact ⟨ret1 HF.out.symm, hx1'.out, ho1⟩
          · have he := HE.out
            rw [if_neg hge] at he
            have HF := Lib.hid he; clear he HE
            go_wp2
            go_ret
            exact ⟨ret1 HF.out.symm, hx1'.out, ho1⟩
end Go.Proofs.Ytkkgfphfilbcdaa
