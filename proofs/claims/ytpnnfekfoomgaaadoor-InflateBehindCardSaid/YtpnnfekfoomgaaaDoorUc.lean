/- What lengths and distances are: contracts of spread, length and distance. No condition but what the words say. -/
import Derived.Test.YtpnnfekfoomgaaaDoorUb
set_option linter.unusedVariables false
set_option maxRecDepth 100000
namespace Go.Proofs.YtpnnfekfoomgaaaDoor
open Go.RowKit

theorem pow_small {N : Nat} (h : N ≤ 15) : ∃ P : Nat, (2 : Int) ^ N = (P : Int) ∧ 2 ^ N = P ∧ 1 ≤ P ∧ P ≤ 32768 := by
  have h15 := Nat.pow_le_pow_right (n := 2) (by decide) h
  rw [(by decide : 2 ^ 15 = 32768)] at h15
  exact ⟨2 ^ N, pow_cast N, rfl, Nat.two_pow_pos _, h15⟩
section
variable {w : World} {gu gr : Nat} {l : List Int} {limit : Nat} {fl fd : Option Addr} {p : Nat} {out : List Int} {o : Option Addr × Nat}
/-- what a call of the reader alone leaves -/
def Red (w : World) (gu gr : Nat) (l : List Int) (limit : Nat) (fl fd : Option Addr) (out : List Int) (o : Option Addr × Nat) (s : Except Int (Int × Nat)) (k : Int) (e : Ending) (w' : World) : Prop :=
  Only gr w w' ∧ ((∃ v p', s = .ok (v, p') ∧ e = .returned (.tuple #[.int .i64 (k + v), .int .i64 0]) ∧ Un w' gu gr l limit fl fd p' out o) ∨ (∃ er y, s = .error er ∧ er ≠ 0 ∧ e = .returned (.tuple #[.int .i64 y, .int .i64 er])))
theorem takeS_val {l : List Int} {p n p' : Nat} {v : Int} (h : takeS l p n = .ok (v, p')) : v = tk l p n ∧ p' = p + n ∧ p + n ≤ 8 * l.length := by
  unfold takeS at h
  split at h
  · rename_i hp
    injection h with h
    injection h with h1 h2
    exact ⟨h1.symm, h2.symm, hp⟩
  · cases h
theorem tk_zero (l : List Int) (p : Nat) : tk l p 0 = 0 := rfl
set_option maxHeartbeats 1000000 in
theorem spread2_is (s : Nat) (hs : s ≤ 27) (h : Un w gu gr l limit fl fd p out o) :
    Calls Tryd.prog 78 #[.pointer (some ⟨gu, 0, none⟩), .int .i64 s, .int .i64 2] w (Red w gu gr l limit fl fd out o (takeS l p (s / 4 - 1)) ((if s < 4 then s else (4 + s % 4) * 2 ^ (s / 4 - 1) : Nat) : Int)) := by
  have hp := h.rdr.choose_spec.choose_spec.2.2.2.2.1
  have hand := and_mask64 (s : Int) 2 (by decide)
  have c0 : w.cell? ⟨gu, 0, none⟩ = some (.pointer (some ⟨gr, 0, none⟩)) := blk_cell h.blk 0
  obtain ⟨G, hG⟩ : ∃ G, s / 4 = G := ⟨_, rfl⟩
  obtain ⟨K, hK⟩ : ∃ K, s % 4 = K := ⟨_, rfl⟩
  have hd1 : (s : Int) / 4 = (G : Int) := by omega
  have hm1 : bits .and .i64 (s : Int) 3 = (K : Int) := by
    rw [show (2 : Int) ^ 2 - 1 = 3 by decide] at hand
    rw [hand, show (2 : Int) ^ 2 = 4 by decide]; omega
  have hG14 : G ≤ 14 := by omega
  have hK4 : K < 4 := by omega
  rw [hG, hK]
  have HU := Lib.hid h
  by_cases h4 : s < 4
  · obtain rfl : G = 0 := by omega
    rw [if_pos h4, show 0 - 1 = 0 from rfl, takeS_ok (by omega), tk_zero]
    clear hand hG hK hG14 h
    go_enter Tryd.func78, Tryd.ntmps78
    go_wp2_with fail
    go_quiet (fail)
    go_wp2_with fail
    go_ret2
    exact ⟨only_drewN (only_refl _ _) _, .inl ⟨0, p, by simp, by simp, (HU.out.below (low_drewN (Below.refl _ _) _))⟩⟩
  · have j0 : ((G : Int) == 0) = false := by simp; omega
    obtain ⟨m, rfl⟩ : ∃ m, G = m + 1 := ⟨G - 1, by omega⟩
    have hm : ((m + 1 : Nat) : Int) - 1 = (m : Int) := by omega
    have hcall := fun d => bitTakeS (w := w.drewN d) m (by omega) HU.out.rdr
    have hor1 := or_i64 1 K 2 (by omega) (by omega)
    rw [show ((2 ^ 2 * 1 : Nat) : Int) = 4 from rfl, show ((2 ^ 2 * 1 + K : Nat) : Int) = ((4 + K : Nat) : Int) from rfl] at hor1
    rw [if_neg h4, Nat.add_sub_cancel]
    clear hand hG hK h
    go_enter Tryd.func78, Tryd.ntmps78
    go_wp2_with fail
    go_quiet (fail)
    go_wp2_with fail
    refine (hcall _).mono ?_
    obtain ⟨P, p1, p2, p3, p4⟩ := pow_small (show m ≤ 15 by omega)
    rintro e w2 ⟨ho, ⟨v, p', hv, rfl, hr⟩ | ⟨hv, rfl⟩⟩
    · obtain ⟨hv1, _, _⟩ := takeS_val hv
      have hb := tk_bd l p m
      rw [← hv1, p1] at hb
      obtain ⟨V, rfl⟩ := Int.eq_ofNat_of_zero_le hb.1
      have hor2 := or_i64 (4 + K) V m (by rw [p2]; omega) (by rw [p2]; have := Nat.mul_le_mul p4 (show 4 + K ≤ 8 by omega); omega)
      rw [p2] at hor2
      have hle := Nat.mul_le_mul p4 (show 4 + K ≤ 8 by omega)
      have hcm : (4 + (K : Int)) * (P : Int) = ((P * (4 + K) : Nat) : Int) := by rw [Int.natCast_mul, Int.mul_comm]; rfl
      have H2 := Lib.hid (And.intro hv (And.intro ((HU.out.below (low_drewN (Below.refl _ _) _)).only hr ho) (only_trans (only_drewN (only_refl gr w) _) ho)))
      have HV : Hid (bits .or .i64 (wrap64 ((4 + (K : Int)) * (P : Int))) (V : Int) = (((4 + K) * 2 ^ m : Nat) : Int) + V) := Lib.hid (by
        rw [hcm, wrap64_in _ (by omega), hor2, p2, Nat.mul_comm (4 + K) P]; omega)
      clear hcall hb hv hv1 hr ho p2 hor2 hcm
      go_wp2_with fail
      go_ret2
      exact ⟨H2.out.2.2, .inl ⟨_, p', H2.out.1, by rw [HV.out]; rfl, H2.out.2.1⟩⟩
    · have H2 := Lib.hid (And.intro hv (only_trans (only_drewN (only_refl gr w) _) ho))
      clear hcall hv ho p2
      go_wp2_with fail
      go_ret2
      exact ⟨H2.out.2, .inr ⟨2, _, H2.out.1, by decide, rfl⟩⟩
set_option maxHeartbeats 1000000 in
theorem spread1_is (s : Nat) (hs : s ≤ 29) (h : Un w gu gr l limit fl fd p out o) :
    Calls Tryd.prog 78 #[.pointer (some ⟨gu, 0, none⟩), .int .i64 s, .int .i64 1] w (Red w gu gr l limit fl fd out o (takeS l p (s / 2 - 1)) ((if s < 2 then s else (2 + s % 2) * 2 ^ (s / 2 - 1) : Nat) : Int)) := by
  have hp := h.rdr.choose_spec.choose_spec.2.2.2.2.1
  have hand := and_mask64 (s : Int) 1 (by decide)
  have c0 : w.cell? ⟨gu, 0, none⟩ = some (.pointer (some ⟨gr, 0, none⟩)) := blk_cell h.blk 0
  obtain ⟨G, hG⟩ : ∃ G, s / 2 = G := ⟨_, rfl⟩
  obtain ⟨K, hK⟩ : ∃ K, s % 2 = K := ⟨_, rfl⟩
  have hd1 : (s : Int) / 2 = (G : Int) := by omega
  have hm1 : bits .and .i64 (s : Int) 1 = (K : Int) := by
    rw [show (2 : Int) ^ 1 - 1 = 1 by decide] at hand
    rw [hand, show (2 : Int) ^ 1 = 2 by decide]; omega
  have hG14 : G ≤ 14 := by omega
  have hK4 : K < 2 := by omega
  rw [hG, hK]
  have HU := Lib.hid h
  by_cases h4 : s < 2
  · obtain rfl : G = 0 := by omega
    rw [if_pos h4, show 0 - 1 = 0 from rfl, takeS_ok (by omega), tk_zero]
    clear hand hG hK hG14 h
    go_enter Tryd.func78, Tryd.ntmps78
    go_wp2_with fail
    go_quiet (fail)
    go_wp2_with fail
    go_ret2
    exact ⟨only_drewN (only_refl _ _) _, .inl ⟨0, p, by simp, by simp, (HU.out.below (low_drewN (Below.refl _ _) _))⟩⟩
  · have j0 : ((G : Int) == 0) = false := by simp; omega
    obtain ⟨m, rfl⟩ : ∃ m, G = m + 1 := ⟨G - 1, by omega⟩
    have hm : ((m + 1 : Nat) : Int) - 1 = (m : Int) := by omega
    have hcall := fun d => bitTakeS (w := w.drewN d) m (by omega) HU.out.rdr
    have hor1 := or_i64 1 K 1 (by omega) (by omega)
    rw [show ((2 ^ 1 * 1 : Nat) : Int) = 2 from rfl, show ((2 ^ 1 * 1 + K : Nat) : Int) = ((2 + K : Nat) : Int) from rfl] at hor1
    rw [if_neg h4, Nat.add_sub_cancel]
    clear hand hG hK h
    go_enter Tryd.func78, Tryd.ntmps78
    go_wp2_with fail
    go_quiet (fail)
    go_wp2_with fail
    refine (hcall _).mono ?_
    obtain ⟨P, p1, p2, p3, p4⟩ := pow_small (show m ≤ 15 by omega)
    rintro e w2 ⟨ho, ⟨v, p', hv, rfl, hr⟩ | ⟨hv, rfl⟩⟩
    · obtain ⟨hv1, _, _⟩ := takeS_val hv
      have hb := tk_bd l p m
      rw [← hv1, p1] at hb
      obtain ⟨V, rfl⟩ := Int.eq_ofNat_of_zero_le hb.1
      have hor2 := or_i64 (2 + K) V m (by rw [p2]; omega) (by rw [p2]; have := Nat.mul_le_mul p4 (show 2 + K ≤ 4 by omega); omega)
      rw [p2] at hor2
      have hle := Nat.mul_le_mul p4 (show 2 + K ≤ 4 by omega)
      have hcm : (2 + (K : Int)) * (P : Int) = ((P * (2 + K) : Nat) : Int) := by rw [Int.natCast_mul, Int.mul_comm]; rfl
      have H2 := Lib.hid (And.intro hv (And.intro ((HU.out.below (low_drewN (Below.refl _ _) _)).only hr ho) (only_trans (only_drewN (only_refl gr w) _) ho)))
      have HV : Hid (bits .or .i64 (wrap64 ((2 + (K : Int)) * (P : Int))) (V : Int) = (((2 + K) * 2 ^ m : Nat) : Int) + V) := Lib.hid (by
        rw [hcm, wrap64_in _ (by omega), hor2, p2, Nat.mul_comm (2 + K) P]; omega)
      clear hcall hb hv hv1 hr ho p2 hor2 hcm
      go_wp2_with fail
      go_ret2
      exact ⟨H2.out.2.2, .inl ⟨_, p', H2.out.1, by rw [HV.out]; rfl, H2.out.2.1⟩⟩
    · have H2 := Lib.hid (And.intro hv (only_trans (only_drewN (only_refl gr w) _) ho))
      clear hcall hv ho p2
      go_wp2_with fail
      go_ret2
      exact ⟨H2.out.2, .inr ⟨2, _, H2.out.1, by decide, rfl⟩⟩
end
end Go.Proofs.YtpnnfekfoomgaaaDoor
