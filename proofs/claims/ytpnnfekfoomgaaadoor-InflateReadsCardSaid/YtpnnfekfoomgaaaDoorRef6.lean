/- What the document's own lengths and distances are: contracts of Length and Distance of samovarref06. No condition. -/
import Derived.Test.YtpnnfekfoomgaaaDoorRef5N
set_option linter.unusedVariables false
set_option maxRecDepth 100000
namespace Go.Proofs.YtpnnfekfoomgaaaDoor
open Go.RowKit

/-- of the j-th symbol of lengths how many bits are further -/
def moreL (j : Nat) : Nat := if 8 ≤ j then 1 + (j - 8) / 4 else 0
def leastL : Nat → Nat
  | 0 => 3
  | j + 1 => leastL j + 2 ^ moreL j
theorem lenL_bd : ∀ i, i ≤ 27 → leastL i ≤ 300 ∧ moreL i ≤ 5 := by decide
/-- of the j-th symbol of distances how many bits are further -/
def moreD (j : Nat) : Nat := if 4 ≤ j then 1 + (j - 4) / 2 else 0
def leastD : Nat → Nat
  | 0 => 1
  | j + 1 => leastD j + 2 ^ moreD j
theorem lenD_bd : ∀ i, i ≤ 29 → leastD i ≤ 32768 ∧ moreD i ≤ 13 := by decide
set_option maxHeartbeats 2000000 in
theorem refDistance (j : Nat) (hj : j ≤ 29) (w : World) : Calls Tryd.prog 42 #[.int .i64 j] w fun e w' => e = .returned (.tuple #[.int .i64 (leastD j), .int .i64 (moreD j)]) ∧ w = w' := by
  go_enter Tryd.func42, Tryd.ntmps42
  go_wp2_with fail
  go_loop [4, 5] (fun l k => ∃ i : Nat, i ≤ j ∧ k = .int .i64 i ∧ l = .int .i64 (leastD i)) (fun _ k => j - (intOf k).toNat)
  case atStart => exact ⟨0, Nat.zero_le _, rfl, rfl⟩
  case round =>
    obtain ⟨i, hi, rfl, rfl⟩ := hrel
    obtain ⟨hb1, hb2⟩ := lenD_bd i (by omega)
    have hnext : leastD (i + 1) = leastD i + 2 ^ moreD i := rfl
    have hme : moreD i = if 4 ≤ i then 1 + (i - 4) / 2 else 0 := rfl
    have HN := Lib.hid hnext
    have hq1 : ∀ m : Nat, moreD i = m → m ≤ 13 → ((i : Int) < 4 → m = 0) ∧ ((4 : Int) ≤ i → 1 + ((i : Int) - 4) / 2 = m) := fun m hm hle => by
      rw [hme] at hm
      refine ⟨fun h => by rw [if_neg (by omega)] at hm; omega, fun h => ?_⟩
      rw [if_pos (by omega)] at hm
      omega
    obtain ⟨m, hm⟩ : ∃ m, moreD i = m := ⟨_, rfl⟩
    have hq := hq1 m hm (by omega)
    clear hq1
    have HM := Lib.hid hm
    rw [hm] at HN hb2
    clear hme hnext hm
    obtain ⟨L, hL⟩ : ∃ L, leastD i = L := ⟨_, rfl⟩
    rw [hL] at HN hb1
    have HL := Lib.hid hL
    rw [hL]
    clear hL
    obtain ⟨q1, q2⟩ := hq
    by_cases h4 : (4 : Int) ≤ i
    · have hd : decide ((i : Int) ≥ 4) = true := by simp; omega
      have hw := q2 h4
      clear q1 q2
      by_cases hij : i = j
      · subst hij
        go_wp2_with fail
        go_ret2
        exact ⟨ret2' (by rw [HL.out]) (by rw [HM.out]; try rfl), rfl⟩
      · have he : ((i : Int) == j) = false := by simp; omega
        go_wp2_with fail
        (try rw [hw])
        go_loop [7, 8] (fun nn tt => ∃ t : Nat, t ≤ m ∧ tt = .int .i64 t ∧ nn = .int .i64 ((2 ^ t : Nat) : Int)) (fun _ tt => m - (intOf tt).toNat)
        case atStart => exact ⟨0, Nat.zero_le _, rfl, rfl⟩
        case round =>
          obtain ⟨t, ht, rfl, rfl⟩ := hrel
          have hp : 2 ^ t ≤ 8192 := Nat.pow_le_pow_right (n := 2) (j := 13) (by decide) (by omega)
          have hp2 : 2 ^ (t + 1) = 2 * 2 ^ t := by rw [Nat.pow_succ]; omega
          have HP2 := Lib.hid hp2
          clear hp2
          obtain ⟨v, hv⟩ : ∃ v : Nat, 2 ^ t = v := ⟨_, rfl⟩
          have HV := Lib.hid hv
          rw [hv] at hp HP2
          rw [hv]
          clear hv
          by_cases hlt : t < m
          · go_wp2_with fail
            exact ⟨⟨t + 1, by omega, by go_num, by rw [HP2.out]; go_num⟩, by simp [intOf]; omega⟩
          · obtain rfl : t = m := by omega
            go_wp2_with fail
            exact ⟨⟨i + 1, by omega, by go_num, by rw [HN.out, HV.out]; go_num⟩, by simp [intOf]; omega⟩
    · have hd : decide ((i : Int) ≥ 4) = false := by simp; omega
      obtain rfl := q1 (by omega)
      clear q1 q2
      by_cases hij : i = j
      · subst hij
        go_wp2_with fail
        go_ret2
        exact ⟨ret2' (by rw [HL.out]) (by rw [HM.out]; try rfl), rfl⟩
      · have he : ((i : Int) == j) = false := by simp; omega
        go_wp2_with fail
        go_loop [7, 8] (fun nn tt => ∃ t : Nat, t ≤ 0 ∧ tt = .int .i64 t ∧ nn = .int .i64 ((2 ^ t : Nat) : Int)) (fun _ tt => 0 - (intOf tt).toNat)
        case atStart => exact ⟨0, Nat.zero_le _, rfl, rfl⟩
        case round =>
          obtain ⟨t, ht, rfl, rfl⟩ := hrel
          have hp : 2 ^ t ≤ 8192 := Nat.pow_le_pow_right (n := 2) (j := 13) (by decide) (by omega)
          have hp2 : 2 ^ (t + 1) = 2 * 2 ^ t := by rw [Nat.pow_succ]; omega
          have HP2 := Lib.hid hp2
          clear hp2
          obtain ⟨v, hv⟩ : ∃ v : Nat, 2 ^ t = v := ⟨_, rfl⟩
          have HV := Lib.hid hv
          rw [hv] at hp HP2
          rw [hv]
          clear hv
          obtain rfl : t = 0 := by omega
          go_wp2_with fail
          exact ⟨⟨i + 1, by omega, by go_num, by rw [HN.out, HV.out]; go_num⟩, by simp [intOf]; omega⟩
set_option maxHeartbeats 2000000 in
set_option maxRecDepth 100000 in
theorem refLength (s : Nat) (h0 : 257 ≤ s) (h1 : s ≤ 284) (w : World) : Calls Tryd.prog 41 #[.int .i64 s] w fun e w' => e = .returned (.tuple #[.int .i64 (leastL (s - 257)), .int .i64 (moreL (s - 257))]) ∧ w = w' := by
  have hs285 : ((s : Int) == 285) = false := by simp; omega
  go_enter Tryd.func41, Tryd.ntmps41
  go_wp2_with fail
  go_loop [4, 6] (fun l k => ∃ K : Nat, 257 ≤ K ∧ K ≤ s ∧ k = .int .i64 K ∧ l = .int .i64 (leastL (K - 257))) (fun _ k => s - (intOf k).toNat)
  case atStart => exact ⟨257, Nat.le_refl _, h0, rfl, rfl⟩
  case round =>
    obtain ⟨K, hK0, hK1, rfl, rfl⟩ := hrel
    obtain ⟨hb1, hb2⟩ := lenL_bd (K - 257) (by omega)
    have hnext : leastL (K - 257 + 1) = leastL (K - 257) + 2 ^ moreL (K - 257) := rfl
    have hme : moreL (K - 257) = if 8 ≤ K - 257 then 1 + (K - 257 - 8) / 4 else 0 := rfl
    have HN := Lib.hid hnext
    have hq1 : ∀ m : Nat, moreL (K - 257) = m → ((K : Int) < 265 → m = 0) ∧ ((265 : Int) ≤ K → 1 + ((K : Int) - 265) / 4 = m) := fun m hm => by
      rw [hme] at hm
      refine ⟨fun h => by rw [if_neg (by omega)] at hm; omega, fun h => ?_⟩
      rw [if_pos (by omega)] at hm
      omega
    obtain ⟨m, hm⟩ : ∃ m, moreL (K - 257) = m := ⟨_, rfl⟩
    have hq := hq1 m hm
    clear hq1
    have HM := Lib.hid hm
    rw [hm] at HN hb2
    clear hme hnext hm
    obtain ⟨L, hL⟩ : ∃ L, leastL (K - 257) = L := ⟨_, rfl⟩
    rw [hL] at HN hb1
    have HL := Lib.hid hL
    rw [hL]
    clear hL
    obtain ⟨q1, q2⟩ := hq
    by_cases h4 : (265 : Int) ≤ K
    · have hd : decide ((K : Int) ≥ 265) = true := by simp; omega
      have hw := q2 h4
      have hwm : wrap64 (m : Int) = m := wrap64_in _ (by omega)
      clear q1 q2
      by_cases hij : K = s
      · subst hij
        go_wp2_with fail
        go_ret2
        exact ⟨ret2' (by rw [HL.out]) (by rw [HM.out]), rfl⟩
      · have he : ((K : Int) == s) = false := by simp; omega
        go_wp2_with fail
        (try rw [hw])
        (try rw [hwm])
        clear hw hwm
        go_loop [4, 7, 8] (fun ll tt nn => ∃ t : Nat, t ≤ m + 1 ∧ tt = .int .i64 t ∧ nn = .int .i64 ((2 ^ t : Nat) : Int) ∧ ll = .int .i64 ((if t = m + 1 then L + 2 ^ m else L : Nat) : Int)) (fun _ tt _ => m + 1 - (intOf tt).toNat)
        case atStart => exact ⟨0, Nat.zero_le _, rfl, rfl, by rw [if_neg (by omega)]⟩
        case round =>
          obtain ⟨t, ht, rfl, rfl, rfl⟩ := hrel
          have hp : 2 ^ t ≤ 64 := Nat.pow_le_pow_right (n := 2) (j := 6) (by decide) (by omega)
          have hp2 : 2 ^ (t + 1) = 2 * 2 ^ t := by rw [Nat.pow_succ]; omega
          have HP2 := Lib.hid hp2
          clear hp2
          obtain ⟨v, hv⟩ : ∃ v : Nat, 2 ^ t = v := ⟨_, rfl⟩
          have HV := Lib.hid hv
          rw [hv] at hp HP2
          rw [hv]
          clear hv
          by_cases hlt : t < m + 1
          · rw [if_neg (by omega)]
            have hc : (t : Int) ≤ m := by omega
            by_cases htm : t = m
            · have hd2 : ((t : Int) == m) = true := by simp [htm]
              have HT := Lib.hid htm
              clear htm
              go_wp2_with fail
              exact ⟨⟨t + 1, by omega, by go_num, by rw [HP2.out]; go_num, by rw [if_pos (by rw [HT.out]), ← HT.out, HV.out]; go_num⟩, by simp [intOf]; omega⟩
            · have hd2 : ((t : Int) == m) = false := by simp; omega
              go_wp2_with fail
              exact ⟨⟨t + 1, by omega, by go_num, by rw [HP2.out]; go_num, by rw [if_neg (by omega)]⟩, by simp [intOf]; omega⟩
          · obtain rfl : t = m + 1 := by omega
            rw [if_pos rfl]
            have hc : (m : Int) < ((m + 1 : Nat) : Int) := by omega
            have hN := HN.out
            rw [← hN]
            have HN2 := Lib.hid hN
            clear hN
            go_wp2_with fail
            exact ⟨⟨K + 1, by omega, by omega, by go_num, by rw [(by omega : K + 1 - 257 = K - 257 + 1)]⟩, by simp [intOf]; omega⟩
    · have hd : decide ((K : Int) ≥ 265) = false := by simp; omega
      obtain rfl := q1 (by omega)
      clear q1 q2
      by_cases hij : K = s
      · subst hij
        go_wp2_with fail
        go_ret2
        exact ⟨ret2' (by rw [HL.out]) (by first | rfl | (rw [HM.out]; rfl)), rfl⟩
      · have he : ((K : Int) == s) = false := by simp; omega
        go_wp2_with fail
        go_loop [4, 7, 8] (fun ll tt nn => (tt = .int .i64 0 ∧ nn = .int .i64 1 ∧ ll = .int .i64 L) ∨ (tt = .int .i64 1 ∧ nn = .int .i64 2 ∧ ll = .int .i64 ((L : Int) + 1))) (fun _ tt _ => 1 - (intOf tt).toNat)
        case atStart => exact .inl ⟨rfl, rfl, rfl⟩
        case round =>
          rcases hrel with ⟨rfl, rfl, rfl⟩ | ⟨rfl, rfl, rfl⟩
          · go_wp2_with fail
            exact ⟨.inr ⟨rfl, rfl, rfl⟩, by simp [intOf]⟩
          · go_wp2_with fail
            exact ⟨⟨K + 1, by omega, by omega, by go_num, by rw [(by omega : K + 1 - 257 = K - 257 + 1), HN.out]; rfl⟩, by simp [intOf]; omega⟩
end Go.Proofs.YtpnnfekfoomgaaaDoor
