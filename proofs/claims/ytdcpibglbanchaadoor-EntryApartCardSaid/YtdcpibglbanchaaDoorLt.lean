/- Numbers of bytes: contracts of octet.Little, samovarref02.Little. Condition: the bytes are bytes, the numbers fit their kinds. -/
import Derived.Test.YtdcpibglbanchaaDoorGa
set_option linter.unusedVariables false
set_option maxRecDepth 100000
namespace Go.Proofs.YtdcpibglbanchaaDoor
namespace O2
open Go.RowKit

theorem ret2 {a b c d : Int} {k l : IntKind} (h1 : a = c) (h2 : b = d) : Ending.returned (.tuple #[.int k a, .int l b]) = .returned (.tuple #[.int k c, .int l d]) := by rw [h1, h2]
theorem reverse_take (l : List Int) (k : Nat) (h : k < l.length) : (l.reverse.take (k + 1)) = l.reverse.take k ++ [l.getD (l.length - 1 - k) 0] := by
  rw [take_succ' _ k (by simpa using h)]
  congr 2
  rw [List.getD_eq_getElem?_getD, List.getD_eq_getElem?_getD, List.getElem?_reverse h]
/-- the number of bytes, the greatest one first -/
def big (l : List Int) : Int := l.foldl (fun v b => v * 256 + b) 0
def numW (l : List Int) : Int := wrap64 (big l)
theorem big_snoc (l : List Int) (b : Int) : big (l ++ [b]) = big l * 256 + b := by simp [big, List.foldl_append]
/-- the piece of n bytes at a place -/
def piece (l : List Int) (at_ n : Int) : List Int := (l.drop at_.toNat).take n.toNat
def BG (l : List Int) (at_ n : Int) : Int × Int :=
  if n < 1 ∨ 8 < n ∨ at_ < 0 then (0, 1) else if (l.length : Int) < at_ + n then (0, 2) else (numW (piece l at_ n), 0)
def LT (l : List Int) (at_ n : Int) : Int × Int :=
  if n < 1 ∨ 8 < n ∨ at_ < 0 then (0, 1) else if (l.length : Int) < at_ + n then (0, 2) else (numW (piece l at_ n).reverse, 0)
theorem bg_arg {l : List Int} {at_ n : Int} (h : n < 1 ∨ 8 < n ∨ at_ < 0) : BG l at_ n = (0, 1) ∧ LT l at_ n = (0, 1) := by simp [BG, LT, h]
theorem bg_short {l : List Int} {at_ n : Int} (h : 1 ≤ n ∧ n ≤ 8 ∧ 0 ≤ at_) (h2 : (l.length : Int) < at_ + n) : BG l at_ n = (0, 2) ∧ LT l at_ n = (0, 2) := by
  have h' : ¬ (n < 1 ∨ 8 < n ∨ at_ < 0) := by omega
  simp [BG, LT, h', h2]
theorem bg_yes {l : List Int} {at_ n : Int} (h : 1 ≤ n ∧ n ≤ 8 ∧ 0 ≤ at_) (h2 : at_ + n ≤ (l.length : Int)) : BG l at_ n = (numW (piece l at_ n), 0) ∧ LT l at_ n = (numW (piece l at_ n).reverse, 0) := by
  have h' : ¬ (n < 1 ∨ 8 < n ∨ at_ < 0) := by omega
  have h'' : ¬ (l.length : Int) < at_ + n := by omega
  simp [BG, LT, h', h'']
theorem piece_len {l : List Int} {at_ n : Int} (h : 0 ≤ n ∧ 0 ≤ at_) (h2 : at_ + n ≤ (l.length : Int)) : (piece l at_ n).length = n.toNat := by
  simp [piece]; omega
theorem pow_cast (i : Nat) : (2 : Int) ^ i = ((2 ^ i : Nat) : Int) := by simp
theorem or_u64 (v x : Int) (i : Nat) (hv : 0 ≤ v ∧ v < 2 ^ i) (hx : 0 ≤ x) (h : x * 2 ^ i + v < 18446744073709551616) : bits .or .u64 v (x * 2 ^ i) = v + x * 2 ^ i := by
  obtain ⟨V, rfl⟩ := Int.eq_ofNat_of_zero_le hv.1
  obtain ⟨X, rfl⟩ := Int.eq_ofNat_of_zero_le hx
  have hp := Nat.two_pow_pos i
  rw [pow_cast] at *
  have hlt : V < 2 ^ i := by omega
  have e0 : (X : Int) * ((2 ^ i : Nat) : Int) = ((2 ^ i * X : Nat) : Int) := by rw [Nat.mul_comm, Int.natCast_mul]
  rw [e0] at h ⊢
  have h1 : (BitVec.ofInt 64 (V : Int)).toNat = V := by rw [BitVec.ofInt_natCast, BitVec.toNat_ofNat]; exact Nat.mod_eq_of_lt (by omega)
  have h2 : (BitVec.ofInt 64 ((2 ^ i * X : Nat) : Int)).toNat = 2 ^ i * X := by rw [BitVec.ofInt_natCast, BitVec.toNat_ofNat]; exact Nat.mod_eq_of_lt (by omega)
  show IntKind.u64.wrap (((BitVec.ofInt 64 (V : Int) ||| BitVec.ofInt 64 ((2 ^ i * X : Nat) : Int)).toNat : Nat) : Int) = _
  rw [BitVec.toNat_or, h1, h2, Nat.or_comm, ← Nat.two_pow_add_eq_or_of_lt hlt, IntWalk.u64_in] <;> omega
theorem or_comm64 (x y : Int) : bits .or .u64 x y = bits .or .u64 y x := by
  show IntKind.u64.wrap (((BitVec.ofInt 64 x ||| BitVec.ofInt 64 y).toNat : Nat) : Int) = IntKind.u64.wrap (((BitVec.ofInt 64 y ||| BitVec.ofInt 64 x).toNat : Nat) : Int)
  rw [BitVec.or_comm]
theorem foldl_big (l : List Int) : ∀ v, l.foldl (fun v b => v * 256 + b) v = v * 256 ^ l.length + big l := by
  unfold big
  induction l with
  | nil => intro v; simp
  | cons x l ih =>
    intro v
    simp only [List.foldl_cons, List.length_cons]
    rw [ih, ih (0 * 256 + x), Int.pow_succ', Int.add_mul, ← Int.mul_assoc]
    simp [Int.add_assoc]
theorem big_cons (x : Int) (l : List Int) : big (x :: l) = x * 256 ^ l.length + big l := by
  have := foldl_big l (0 * 256 + x)
  simpa [big] using this
theorem big_bd (l : List Int) (h : Bytes l) : 0 ≤ big l ∧ big l < 256 ^ l.length := by
  induction l with
  | nil => simp [big]
  | cons x l ih =>
    have h1 := ih (fun n hn => h n (by simp [hn]))
    have h2 := h x (by simp)
    rw [big_cons, List.length_cons, Int.pow_succ]
    have hp : (0 : Int) < 256 ^ l.length := Int.pow_pos (by decide)
    generalize (256 : Int) ^ l.length = p at *
    have h3 : 0 ≤ x * p := Int.mul_nonneg h2.1 (by omega)
    have h4 : x * p ≤ 255 * p := Int.mul_le_mul_of_nonneg_right h2.2 (by omega)
    omega
theorem pow256 (k : Nat) : (256 : Int) ^ k = 2 ^ (8 * k) := by
  rw [Int.pow_mul]; rfl
theorem big_rev_succ (l : List Int) (k : Nat) (h : k < l.length) : big (l.take (k + 1)).reverse = big (l.take k).reverse + l.getD k 0 * 2 ^ (8 * k) := by
  rw [take_succ' l k h, List.reverse_append, List.reverse_singleton, List.singleton_append, big_cons, List.length_reverse, List.length_take, Nat.min_eq_left (by omega), pow256]
  omega
theorem big_succ (l : List Int) (k : Nat) (h : k < l.length) : big (l.take (k + 1)) = big (l.take k) * 256 + l.getD k 0 := by
  rw [take_succ' l k h, big_snoc]
theorem pow_mono2 {i j : Nat} (h : i ≤ j) : (2 : Int) ^ i ≤ 2 ^ j := by
  rw [pow_cast, pow_cast]; have := Nat.pow_le_pow_right (n := 2) (by decide) h; omega
theorem big_take_bd (l : List Int) (h : Bytes l) (k : Nat) (hk : k ≤ l.length) : 0 ≤ big (l.take k) ∧ big (l.take k) < 2 ^ (8 * k) ∧ 0 ≤ big (l.take k).reverse ∧ big (l.take k).reverse < 2 ^ (8 * k) := by
  have h1 := big_bd _ (h.take k)
  have h2 := big_bd _ (h.take k).reverse
  rw [List.length_reverse] at h2
  rw [List.length_take, Nat.min_eq_left hk, pow256] at h1 h2
  exact ⟨h1.1, h1.2, h2.1, h2.2⟩
theorem octWidth (n : Int) (w : World) : Calls Tryd.prog 39 #[.int .i64 n] w fun e w' => e = .returned (.bool (decide (1 ≤ n ∧ n ≤ 8))) ∧ w = w' := by
  by_cases h1 : 1 ≤ n
  · by_cases h2 : n ≤ 8
    · go_enter Tryd.func39, Tryd.ntmps39
      go_wp2
      go_ret
      exact ⟨by simp [h1, h2], rfl⟩
    · go_enter Tryd.func39, Tryd.ntmps39
      go_wp2
      go_ret
      exact ⟨by simp [h2], rfl⟩
  · go_enter Tryd.func39, Tryd.ntmps39
    go_wp2
    go_ret
    exact ⟨by simp; omega, rfl⟩
/-- why there is no number of n bytes at a place of m bytes -/
def LK (m : Nat) (at_ n : Int) : Int := if n < 1 ∨ 8 < n ∨ at_ < 0 then 1 else if (m : Int) < at_ + n then 2 else 0
theorem octLacks (a : Option Addr) (m c : Nat) (hm : m ≤ 140737488355328) (at_ n : Int) (hat : -9223372036854775808 ≤ at_ ∧ at_ ≤ 9223372036854775807) (hn : -9223372036854775808 ≤ n ∧ n ≤ 9223372036854775807) (w : World) :
    Calls Tryd.prog 32 #[.slice a m c, .int .i64 at_, .int .i64 n] w fun e w' => e = .returned (.int .i64 (LK m at_ n)) ∧ w = w' := by
  have hw : ∀ W, Calls Tryd.prog 39 #[.int .i64 n] W fun e w' => e = .returned (.bool (decide (1 ≤ n ∧ n ≤ 8))) ∧ W = w' := octWidth n
  by_cases h : 1 ≤ n ∧ n ≤ 8
  · have e1 : decide (1 ≤ n ∧ n ≤ 8) = true := by simp [h]
    rw [e1] at hw
    have HW := Lib.hid hw; clear hw e1
    by_cases h0 : at_ < 0
    · have hk : LK m at_ n = 1 := by simp [LK, h0]
      rw [hk]; clear hk
      go_enter Tryd.func32, Tryd.ntmps32
      go_wp2_with (go_at_call 39; refine (HW.out _).mono ?_; rintro e w' ⟨rfl, rfl⟩)
      go_ret
      exact ⟨rfl, rfl⟩
    · have g1 : ¬ (n < 1 ∨ 8 < n ∨ at_ < 0) := by omega
      by_cases h2 : (m : Int) < at_ + n
      · have hk : LK m at_ n = 2 := by simp [LK, g1, h2]
        rw [hk]; clear hk g1
        go_enter Tryd.func32, Tryd.ntmps32
        go_wp2_with (go_at_call 39; refine (HW.out _).mono ?_; rintro e w' ⟨rfl, rfl⟩)
        go_ret
        exact ⟨rfl, rfl⟩
      · have hk : LK m at_ n = 0 := by simp [LK, g1, h2]
        rw [hk]; clear hk g1
        go_enter Tryd.func32, Tryd.ntmps32
        go_wp2_with (go_at_call 39; refine (HW.out _).mono ?_; rintro e w' ⟨rfl, rfl⟩)
        go_ret
        exact ⟨rfl, rfl⟩
  · have e1 : decide (1 ≤ n ∧ n ≤ 8) = false := by simp only [decide_eq_false_iff_not]; exact h
    rw [e1] at hw
    have hk : LK m at_ n = 1 := by unfold LK; rw [if_pos (by omega)]
    rw [hk]; clear hk
    have HW := Lib.hid hw; clear hw e1
    go_enter Tryd.func32, Tryd.ntmps32
    go_wp2_with (go_at_call 39; refine (HW.out _).mono ?_; rintro e w' ⟨rfl, rfl⟩)
    go_ret
    exact ⟨rfl, rfl⟩
theorem or_step (v x : Int) (j : Nat) (hj : j < 8) (hv : 0 ≤ v ∧ v < 2 ^ (8 * j)) (hx : 0 ≤ x ∧ x ≤ 255) :
    bits .or .u64 v (IntKind.u64.wrap (x * 2 ^ (8 * j))) = v + x * 2 ^ (8 * j) := by
  have h1 := pow_mono2 (show 8 * j ≤ 56 by omega)
  have h2 : x * 2 ^ (8 * j) ≤ 255 * 2 ^ (8 * j) := Int.mul_le_mul_of_nonneg_right hx.2 (Int.le_of_lt (pow_pos2 _))
  have h3 : 0 ≤ x * 2 ^ (8 * j) := Int.mul_nonneg hx.1 (Int.le_of_lt (pow_pos2 _))
  have h4 : (2 : Int) ^ 56 = 72057594037927936 := by decide
  rw [IntWalk.u64_in _ (by omega)]
  exact or_u64 v x (8 * j) hv hx.1 (by omega)
theorem piece_at {l : List Int} {k m i : Nat} (hi : i < m) : (piece l (k : Int) (m : Int)).getD i 0 = l.getD (k + i) 0 := by
  simp [piece, List.getD_eq_getElem?_getD, hi]
theorem octLittle (a : Option Addr) (q c : Nat) (l : List Int) (hq : l.length = q) (at_ n : Int) (hat : -9223372036854775808 ≤ at_ ∧ at_ ≤ 9223372036854775807) (hn : -9223372036854775808 ≤ n ∧ n ≤ 9223372036854775807)
    (hlc : q ≤ c) (hm : q ≤ 140737488355328) (w : World) (B : Nat) (hb : Bs w B a l) :
    Calls Tryd.prog 26 #[.slice a q c, .int .i64 at_, .int .i64 n] w fun e w' => e = .returned (.tuple #[.int .i64 (LT l at_ n).1, .int .i64 (LT l at_ n).2]) ∧ w = w' := by
  have hL : ∀ W, Calls Tryd.prog 32 #[.slice a q c, .int .i64 at_, .int .i64 n] W fun e w' => e = .returned (.int .i64 (LK q at_ n)) ∧ W = w' := octLacks a q c (by omega) at_ n hat hn
  by_cases h1 : n < 1 ∨ 8 < n ∨ at_ < 0
  · rw [(bg_arg h1).2]
    have e1 : LK q at_ n = 1 := by simp [LK, h1]
    rw [e1] at hL
    have HL := Lib.hid hL; clear hL e1 h1
    go_enter Tryd.func26, Tryd.ntmps26
    go_wp2_with (go_at_call 32; refine (HL.out _).mono ?_; rintro e w' ⟨rfl, rfl⟩)
    go_ret2
    exact ⟨rfl, rfl⟩
  · by_cases h2 : (l.length : Int) < at_ + n
    · rw [(bg_short (by omega) h2).2]
      have e1 : LK q at_ n = 2 := by subst hq; simp [LK, h1, h2]
      rw [e1] at hL
      have HL := Lib.hid hL; clear hL e1 h1
      go_enter Tryd.func26, Tryd.ntmps26
      go_wp2_with (go_at_call 32; refine (HL.out _).mono ?_; rintro e w' ⟨rfl, rfl⟩)
      go_ret2
      exact ⟨rfl, rfl⟩
    · have e1 : LK q at_ n = 0 := by subst hq; simp [LK, h1, h2]
      rw [e1] at hL
      have HL := Lib.hid hL; clear hL e1
      rw [(bg_yes (by omega) (by omega)).2]
      have g1 : ¬ n < 1 := by omega
      have g2 : ¬ 8 < n := by omega
      have g3 : ¬ at_ < 0 := by omega
      have hpl := piece_len (l := l) (at_ := at_) (n := n) (by omega) (by omega)
      obtain ⟨k, rfl⟩ := Int.eq_ofNat_of_zero_le (show 0 ≤ at_ by omega)
      obtain ⟨m, rfl⟩ := Int.eq_ofNat_of_zero_le (show 0 ≤ n by omega)
      rw [Int.toNat_natCast] at hpl
      have hp : 0 < l.length := by omega
      obtain ⟨b, off, rfl, hbl, _⟩ := hb.at_ hp
      have hB : Bytes (piece l k m) := (hb.1.drop _).take _
      have hcell : ∀ i, i < m → w.cell? ⟨b, off + (k + i), none⟩ = some (.int .u8 ((piece l k m).getD i 0)) := fun i hi => by
        obtain ⟨b', off', e, _, hc⟩ := hb.at_ (i := k + i) (by omega)
        injection e with e; injection e with e1 e2; subst e1; subst e2
        rw [piece_at hi]; exact hc
      have HC := Lib.hid hcell; clear hcell
      have hkm : (k : Int) + m ≤ q := by omega
      have HP := Lib.hid hpl; clear hpl hb hp h1 h2 hq
      generalize piece l k m = p at *
      go_enter Tryd.func26, Tryd.ntmps26
      go_wp2_with (go_at_call 32; refine (HL.out _).mono ?_; rintro e w' ⟨rfl, rfl⟩)
      go_loop [9, 19] (fun v i => ∃ j : Nat, j ≤ m ∧ i = .int .i64 j ∧ v = .int .u64 (big (p.take j).reverse)) (fun _ i => m - (intOf i).toNat)
      case atStart => exact ⟨0, Nat.zero_le _, rfl, by simp [big]⟩
      case round =>
        obtain ⟨j, hj, rfl, rfl⟩ := hrel
        by_cases hlt : j < m
        · have hc := HC.out j hlt
          have hx := hB.at_ j
          have hs := big_rev_succ p j (by rw [HP.out]; exact hlt)
          have hbd := big_take_bd p hB j (by rw [HP.out]; omega)
          have HS := Lib.hid hs; clear hs
          generalize p.getD j 0 = x at *
          have hz := or_step (big (p.take j).reverse) x j (by omega) ⟨hbd.2.2.1, hbd.2.2.2⟩ hx
          rw [← HS.out] at hz
          have HZ := Lib.hid hz; clear hz
          go_wp2
          go_round
          case rel => exact ⟨j + 1, by omega, by go_num, congrArg (Value.int .u64) HZ.out⟩
          case measure => simp [intOf]; omega
        · obtain rfl : j = m := by omega
          have hz : IntKind.i64.wrap (big (p.take j).reverse) = numW p.reverse := by
            rw [← HP.out, List.take_length, wrap64_eq]; rfl
          have HZ := Lib.hid hz; clear hz
          go_wp2
          go_ret2
          exact ⟨ret2 (by rw [← HZ.out, wrap64_eq]) rfl, rfl⟩
theorem or_step8 (v x : Int) (j : Nat) (hj : j < 8) (hv : 0 ≤ v ∧ v < 2 ^ (8 * j)) (hx : 0 ≤ x ∧ x ≤ 255) :
    bits .or .u64 (IntKind.u64.wrap (v * 256)) x = v * 256 + x := by
  have h1 := pow_mono2 (show 8 * j ≤ 56 by omega)
  have h4 : (2 : Int) ^ 56 = 72057594037927936 := by decide
  rw [IntWalk.u64_in _ (by omega), or_comm64]
  have := or_u64 x v 8 (by simp; omega) hv.1 (by simp; omega)
  rw [show (256 : Int) = 2 ^ 8 from rfl, this]; omega
end O2
end Go.Proofs.YtdcpibglbanchaaDoor
