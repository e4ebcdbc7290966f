/- A piece of a slice of bytes, whether it is nil or not, and wherever it is cut: the operation's run and what the piece reads as. No condition. -/
import Derived.Test.YtpnnfekfoomgaaaLib
set_option linter.unusedVariables false
set_option maxRecDepth 100000
namespace Go.Proofs.Ytpnnfekfoomgaaa
open Go.RowKit

theorem sized_u8 (W : World) : (sizeOf (Try.prog.elem 22)).run Try.prog W = .ok 1 W := by kernel_rfl
theorem elem_u8 : Try.prog.underlying 22 = some (.slice (Try.prog.elem 22)) := by kernel_rfl
/-- the bytes behind lo, up to hi -/
def cutOf (l : List Int) (lo hi : Nat) : List Int := (l.drop lo).take (hi - lo)
theorem cutOf_len {l : List Int} {lo hi : Nat} (h : hi ≤ l.length) : (cutOf l lo hi).length = hi - lo := by unfold cutOf; simp; omega
theorem cutOf_bytes {l : List Int} (h : Bytes l) (lo hi : Nat) : Bytes (cutOf l lo hi) := (h.drop _).take _
theorem bs_piece {a : Option Addr} {c : Nat} {l : List Int} (lo hi : Nat) (h1 : lo ≤ hi) (h2 : hi ≤ l.length) (h3 : l.length ≤ c) (w : World) (B : Nat) (hb : Bs w B a l) :
    Bs w B (if c = lo then a else a.map (·.add (lo * 1))) (cutOf l lo hi) := by
  rcases Nat.eq_zero_or_pos (hi - lo) with h0 | h0
  · have : cutOf l lo hi = [] := by unfold cutOf; simp [h0]
    rw [this]; exact Bs.nil_ _ _ _
  · obtain ⟨b, off, rfl, _⟩ := hb.at_ (i := lo) (by omega)
    have hne : ¬ c = lo := by omega
    rw [if_neg hne]
    have e : (some (⟨b, off, none⟩ : Addr)).map (·.add (lo * 1)) = some ⟨b, off + lo, none⟩ := by
      simp only [Option.map_some, Nat.mul_one]
      congr 1; unfold Addr.add; split <;> simp_all
    rw [e]
    exact hb.cut lo (hi - lo) (by omega)
theorem cut_lh (a : Option Addr) (n c : Nat) (l : List Int) (hn : l.length = n) (hc : n ≤ c) (hA : a = none → n = 0 ∧ c = 0) (lo hi : Nat) (h1 : lo ≤ hi) (h2 : hi ≤ n) :
    ∃ a' c', (∀ W, (Instr.sliceAt 22 (.slice a n c) (some (.int .i64 lo)) (some (.int .i64 hi)) none).run Try.prog W = .ok (.slice a' (hi - lo) c') W) ∧ (∀ W, (Instr.slice 22 (.slice a n c) (some (.int .i64 lo)) (some (.int .i64 hi)) none).run Try.prog W = .ok (.slice a' (hi - lo) c') W) ∧
      (∀ W B, Bs W B a l → Bs W B a' (cutOf l lo hi)) ∧ hi - lo ≤ c' ∧ c' ≤ c ∧ (a' = none → hi - lo = 0 ∧ c' = 0) := by
  subst hn
  have hr : ∀ W, (Instr.slice 22 (.slice a l.length c) (some (.int .i64 lo)) (some (.int .i64 hi)) none).run Try.prog W = .ok (.slice (if c = lo then a else a.map (·.add (lo * 1))) (hi - lo) (c - lo)) W := fun W => by
    rw [run_slice_lh W 22 a l.length c elem_u8 .i64 .i64 lo hi (by omega) (by omega) (by omega), sized_u8]
    simp [Result.andThen, sliced]
  refine ⟨_, c - lo, fun W => ?_, hr, fun W B hb => bs_piece lo hi h1 h2 hc W B hb, by omega, by omega, fun h => ?_⟩
  · rw [run_sliceAt_slice _ _ _ _ _ _ elem_u8]; exact hr W
  · have : a = none := by
      cases a with
      | none => rfl
      | some x => split at h <;> simp at h
    have := hA this
    omega
theorem cut_l (a : Option Addr) (n c : Nat) (l : List Int) (hn : l.length = n) (hc : n ≤ c) (hA : a = none → n = 0 ∧ c = 0) (lo : Nat) (h1 : lo ≤ n) :
    ∃ a' c', (∀ W, (Instr.sliceAt 22 (.slice a n c) (some (.int .i64 lo)) none none).run Try.prog W = .ok (.slice a' (n - lo) c') W) ∧ (∀ W, (Instr.slice 22 (.slice a n c) (some (.int .i64 lo)) none none).run Try.prog W = .ok (.slice a' (n - lo) c') W) ∧
      (∀ W B, Bs W B a l → Bs W B a' (cutOf l lo n)) ∧ n - lo ≤ c' ∧ c' ≤ c ∧ (a' = none → n - lo = 0 ∧ c' = 0) := by
  subst hn
  have hr : ∀ W, (Instr.slice 22 (.slice a l.length c) (some (.int .i64 lo)) none none).run Try.prog W = .ok (.slice (if c = lo then a else a.map (·.add (lo * 1))) (l.length - lo) (c - lo)) W := fun W => by
    rw [run_slice_l W 22 a l.length c elem_u8 .i64 lo (by omega) (by omega), sized_u8]
    simp [Result.andThen, sliced]
  refine ⟨_, c - lo, fun W => ?_, hr, fun W B hb => bs_piece lo l.length h1 (Nat.le_refl _) hc W B hb, by omega, by omega, fun h => ?_⟩
  · rw [run_sliceAt_slice _ _ _ _ _ _ elem_u8]; exact hr W
  · have : a = none := by
      cases a with
      | none => rfl
      | some x => split at h <;> simp at h
    have := hA this
    omega
end Go.Proofs.Ytpnnfekfoomgaaa
