/- What package sum and the document's own answer for layer 3 compute with one register: contracts. Condition: the bytes are bytes. -/
import Derived.Test.YtfgifimmdkiejaaLib
import Derived.Test.YtfgifimmdkiejaaCrc
set_option linter.unusedVariables false
namespace Go.Proofs.Ytfgifimmdkiejaa
open Go.RowKit

/-- a register as a number -/
def un (r : BitVec 32) : Int := (r.toNat : Int)
theorem un_bd (r : BitVec 32) : 0 ≤ un r ∧ un r ≤ 4294967295 := by unfold un; have := r.isLt; omega
theorem un_inj {a b : BitVec 32} (h : un a = un b) : a = b := by unfold un at h; exact BitVec.eq_of_toNat_eq (by omega)
theorem u32_wrap (n : Int) : IntKind.u32.wrap n = n % 4294967296 := by simp [IntKind.wrap, IntKind.bits, IntKind.signed]
theorem u8_wrap (n : Int) : IntKind.u8.wrap n = n % 256 := by simp [IntKind.wrap, IntKind.bits, IntKind.signed]
theorem and32u_is (x y : Int) : bits .and .u32 x y = IntKind.u32.wrap ((BitVec.ofInt 32 x &&& BitVec.ofInt 32 y).toNat : Int) := rfl
theorem xor32u_is (x y : Int) : bits .xor .u32 x y = IntKind.u32.wrap ((BitVec.ofInt 32 x ^^^ BitVec.ofInt 32 y).toNat : Int) := rfl
theorem xor8u_is (x y : Int) : bits .xor .u8 x y = IntKind.u8.wrap ((BitVec.ofInt 8 x ^^^ BitVec.ofInt 8 y).toNat : Int) := rfl
theorem of_un (r : BitVec 32) : BitVec.ofInt 32 (un r) = r := by
  apply BitVec.eq_of_toNat_eq
  have h := ofInt_toNat 32 (un r)
  have := r.isLt
  unfold un at h ⊢
  omega
theorem un_of (n : Int) : un (BitVec.ofInt 32 n) = n % 4294967296 := ofInt_toNat 32 n
theorem un_same (r : BitVec 32) : IntKind.u32.wrap (r.toNat : Int) = un r := by
  rw [u32_wrap]; unfold un; have := r.isLt; omega
theorem un_xor (a b : BitVec 32) : bits .xor .u32 (un a) (un b) = un (a ^^^ b) := by rw [xor32u_is, of_un, of_un, un_same]
theorem un_poly (a : BitVec 32) : bits .xor .u32 (un a) 3988292384 = un (a ^^^ poly) := un_xor a poly
theorem un_and (a : BitVec 32) : bits .and .u32 (un a) 1 = if a.getLsbD 0 then 1 else 0 := by
  have h : BitVec.ofInt 32 1 = 1#32 := rfl
  rw [and32u_is, of_un, h, un_same]
  have h1 : (a &&& 1#32) = if a.getLsbD 0 then 1#32 else 0#32 := by
    apply BitVec.eq_of_getLsbD_eq
    intro i hi
    rw [BitVec.getLsbD_and]
    rcases i with _ | i
    · cases a.getLsbD 0 <;> simp
    · have : (1#32).getLsbD (i + 1) = false := by
        have : ∀ i : Fin 31, (1#32).getLsbD (i.1 + 1) = false := by decide
        exact this ⟨i, by omega⟩
      rw [this]; split <;> simp [this]
  rw [h1]; split <;> rfl
theorem un_shr (a : BitVec 32) (n : Nat) : un a / (2 : Int) ^ n = un (a >>> n) := by
  unfold un; rw [BitVec.toNat_ushiftRight, Nat.shiftRight_eq_div_pow]; simp
theorem un_half (a : BitVec 32) : un a / (2 : Int) = un (a >>> 1) := by have := un_shr a 1; omega
theorem un_256 (a : BitVec 32) : un a / (256 : Int) = un (a >>> 8) := by have := un_shr a 8; omega
theorem un_mod2 (a : BitVec 32) : un a % (2 : Int) = if a.getLsbD 0 then 1 else 0 := by
  unfold un
  rw [BitVec.getLsbD, Nat.testBit_zero]
  by_cases h : a.toNat % 2 = 1
  · simp [h]; omega
  · simp [h]; omega
theorem sh_one {x : BitVec 32} (h : x.getLsbD 0 = true) : sh x = (x >>> 1) ^^^ poly := by unfold sh; rw [h]; rfl
theorem sh_none {x : BitVec 32} (h : x.getLsbD 0 = false) : sh x = x >>> 1 := by unfold sh; rw [h]; rfl

set_option maxHeartbeats 400000 in
theorem sumShifted (r : BitVec 32) (w : World) : Calls Try.prog 39 #[.int .u32 (un r)] w fun e w' => e = .returned (.int .u32 (un (shn 8 r))) ∧ w = w' := by
  go_enter Try.func39, Try.ntmps39
  go_wp2
  go_loop [0, 3, 4] (fun x _ i => ∃ k : Nat, k ≤ 8 ∧ i = .int .i64 k ∧ x = .int .u32 (un (shn k r))) (fun _ _ i => 8 - (intOf i).toNat)
  case atStart => exact ⟨0, Nat.zero_le _, rfl, rfl⟩
  case round =>
    obtain ⟨k, hk, rfl, rfl⟩ := hrel
    by_cases hlt : k < 8
    · have hs := shn_succ k r
      have HS := Lib.hid hs; clear hs
      generalize shn k r = x at *
      have e2 := un_half x
      have hbd := un_bd x
      cases hb : x.getLsbD 0 with
      | true =>
        have e3 := sh_one hb
        have e4 := un_poly (x >>> 1)
        have e1 : bits .and .u32 (un x) 1 = 1 := by rw [un_and, hb]; rfl
        have HE := Lib.hid e3; clear e3 hb
        go_wp2
        go_round
        case rel => exact ⟨k + 1, by omega, by go_num, by rw [HS.out, HE.out]; try rw [e2]⟩
        case measure => simp [intOf]; omega
      | false =>
        have e3 := sh_none hb
        have e1 : bits .and .u32 (un x) 1 = 0 := by rw [un_and, hb]; rfl
        have HE := Lib.hid e3; clear e3 hb
        go_wp2
        go_round
        case rel => exact ⟨k + 1, by omega, by go_num, by rw [HS.out, HE.out]; try rw [e2]⟩
        case measure => simp [intOf]; omega
    · obtain rfl : k = 8 := by omega
      go_wp2
      go_ret
      exact ⟨rfl, rfl⟩

set_option maxHeartbeats 400000 in
theorem refStep (r : BitVec 32) (b : Int) (hb : 0 ≤ b ∧ b ≤ 255) (w : World) : Calls Try.prog 40 #[.int .u32 (un r), .int .u8 b] w fun e w' => e = .returned (.int .u32 (un (step r b))) ∧ w = w' := by
  have hreg : b = un (reg b) := by unfold reg; rw [un_of]; omega
  have hx : bits .xor .u32 (un r) b = un (r ^^^ reg b) := by rw [hreg, un_xor]; rw [← hreg]
  have hst : step r b = shn 8 (r ^^^ reg b) := rfl
  rw [hst]
  have hbd := un_bd r
  clear hreg hst
  generalize r ^^^ reg b = r' at *
  go_enter Try.func40, Try.ntmps40
  go_wp2
  clear hx
  go_loop [0, 5, 6] (fun x i _ => ∃ k : Nat, k ≤ 8 ∧ i = .int .i64 k ∧ x = .int .u32 (un (shn k r'))) (fun _ i _ => 8 - (intOf i).toNat)
  case atStart => exact ⟨0, Nat.zero_le _, rfl, rfl⟩
  case round =>
    obtain ⟨k, hk, rfl, rfl⟩ := hrel
    by_cases hlt : k < 8
    · have hs := shn_succ k r'
      have HS := Lib.hid hs; clear hs
      generalize shn k r' = x at *
      have e2 := un_half x
      have hbd := un_bd x
      cases hb : x.getLsbD 0 with
      | true =>
        have e3 := sh_one hb
        have e4 := un_poly (x >>> 1)
        have e1 : un x % 2 = 1 := by rw [un_mod2, hb]; rfl
        have HE := Lib.hid e3; clear e3 hb
        go_wp2
        go_round
        case rel => exact ⟨k + 1, by omega, by go_num, by rw [HS.out, HE.out]; try rw [e2]⟩
        case measure => simp [intOf]; omega
      | false =>
        have e3 := sh_none hb
        have e1 : un x % 2 = 0 := by rw [un_mod2, hb]; rfl
        have HE := Lib.hid e3; clear e3 hb
        go_wp2
        go_round
        case rel => exact ⟨k + 1, by omega, by go_num, by rw [HS.out, HE.out]; try rw [e2]⟩
        case measure => simp [intOf]; omega
    · obtain rfl : k = 8 := by omega
      go_wp2
      go_ret
      exact ⟨rfl, rfl⟩
end Go.Proofs.Ytfgifimmdkiejaa
