/- The calls whose answers the document fixes, for layer 2, answer so. No condition. -/
import Derived.Test.YtkkgfphfilbcdaaOctM
set_option linter.unusedVariables false
namespace Go.Proofs.Ytkkgfphfilbcdaa
open Go.RowKit

theorem bs_lit (w : World) (t : TypeId) (l : List Int) (hl : Bytes l) : Bs (w.alloc (.cells (l.map (Value.int .u8)).toArray t)) (w.heap.size + 1) (some ⟨w.heap.size, 0, none⟩) l := by
  refine ⟨hl, fun hn => ⟨w.heap.size, 0, rfl, by omega, fun i hi => ?_⟩⟩
  have h := heap_alloc_new w (.cells (l.map (Value.int .u8)).toArray t)
  rw [blk_cell h]
  simp [hi]
def l3 : List Int := [128, 1, 2]
theorem fx1 : LT [1, 2, 3] 0 2 = (513, 0) := by decide +kernel
theorem fx2 : LT [1] 0 2 = (0, 2) := by decide +kernel
theorem fx3 : BG [1] 0 9 = (0, 1) := by decide +kernel
theorem fx4 : takes l3 0 false 1 = true ∧ signV l3 0 false 1 = -128 := by decide +kernel
theorem fx5 : takes l3 1 false 2 = true ∧ numV l3 1 false 2 = 258 := by decide +kernel
theorem fx6 : takes l3 3 false 1 = false ∧ numV l3 3 false 1 = 0 := by decide +kernel

theorem fxLit1 (w : World) (t : TypeId) (b : Nat) (hb : b = w.heap.size) : Calls Try.prog 29 #[.slice (some ⟨b, 0, none⟩) 3 3, .int .i64 0, .int .i64 2] (w.alloc (.cells #[.int .u8 1, .int .u8 2, .int .u8 3] t)) fun e w' => e = .returned (.tuple #[.int .i64 513, .int .i64 0]) ∧ w.alloc (.cells #[.int .u8 1, .int .u8 2, .int .u8 3] t) = w' := by
  subst hb
  have := octLittle (some ⟨w.heap.size, 0, none⟩) 3 3 [1, 2, 3] rfl 0 2 (by decide) (by decide) (by decide) (by decide) _ _ (bs_lit w t [1, 2, 3] (by simp [Bytes]))
  rw [fx1] at this
  exact this
theorem fxLit2 (w : World) (t : TypeId) (b : Nat) (hb : b = w.heap.size) : Calls Try.prog 29 #[.slice (some ⟨b, 0, none⟩) 1 1, .int .i64 0, .int .i64 2] (w.alloc (.cells #[.int .u8 1] t)) fun e w' => e = .returned (.tuple #[.int .i64 0, .int .i64 2]) ∧ w.alloc (.cells #[.int .u8 1] t) = w' := by
  subst hb
  have := octLittle (some ⟨w.heap.size, 0, none⟩) 1 1 [1] rfl 0 2 (by decide) (by decide) (by decide) (by decide) _ _ (bs_lit w t [1] (by simp [Bytes]))
  rw [fx2] at this
  exact this
theorem fxLit3 (w : World) (t : TypeId) (b : Nat) (hb : b = w.heap.size) : Calls Try.prog 31 #[.slice (some ⟨b, 0, none⟩) 1 1, .int .i64 0, .int .i64 9] (w.alloc (.cells #[.int .u8 1] t)) fun e w' => e = .returned (.tuple #[.int .i64 0, .int .i64 1]) ∧ w.alloc (.cells #[.int .u8 1] t) = w' := by
  subst hb
  have := octBig (some ⟨w.heap.size, 0, none⟩) 1 1 [1] rfl 0 9 (by decide) (by decide) (by decide) (by decide) _ _ (bs_lit w t [1] (by simp [Bytes]))
  rw [fx3] at this
  exact this
theorem fxNew (w : World) (t : TypeId) (b : Nat) (hb : b = w.heap.size) : Calls Try.prog 38 #[.slice (some ⟨b, 0, none⟩) 3 3] (w.alloc (.cells #[.int .u8 128, .int .u8 1, .int .u8 2] t)) (NewRd (w.alloc (.cells #[.int .u8 128, .int .u8 1, .int .u8 2] t)) l3) := by
  subst hb
  exact octNew (some ⟨w.heap.size, 0, none⟩) 3 3 l3 rfl (by decide) _ (by
    have := bs_lit w t l3 (by simp [Bytes, l3])
    simpa [l3] using this)
theorem fxSigned {w : World} {g : Nat} (h : Rd w g l3 0 false) : Calls Try.prog 42 #[.pointer (some ⟨g, 0, none⟩), .int .i64 1] w fun e w' => e = .returned (.int .i64 (-128)) ∧ Rd w' g l3 1 false ∧ Only g w w' := by
  have := rdSigned 1 (by decide) h
  rw [fx4.1, fx4.2] at this
  exact this
theorem fxNum {w : World} {g : Nat} (h : Rd w g l3 1 false) : Calls Try.prog 40 #[.pointer (some ⟨g, 0, none⟩), .int .i64 2] w fun e w' => e = .returned (.int .i64 258) ∧ Rd w' g l3 3 false ∧ Only g w w' := by
  have := rdNum 2 (by decide) h
  rw [fx5.1, fx5.2] at this
  exact this
theorem fxNum2 {w : World} {g : Nat} (h : Rd w g l3 3 false) : Calls Try.prog 40 #[.pointer (some ⟨g, 0, none⟩), .int .i64 1] w fun e w' => e = .returned (.int .i64 0) ∧ Rd w' g l3 3 true ∧ Only g w w' := by
  have := rdNum 1 (by decide) h
  rw [fx6.1, fx6.2] at this
  exact this
theorem fxLeft {w : World} {g : Nat} (h : Rd w g l3 3 false) : Calls Try.prog 46 #[.pointer (some ⟨g, 0, none⟩)] w fun e w' => e = .returned (.int .i64 0) ∧ ∃ n, w' = w.drewN n := rdLeft h
theorem fxPut (w : World) : Calls Try.prog 34 #[.int .i64 4, .int .i64 (-1)] w fun e w' => (∃ a c, e = .returned (.slice a 4 c)) ∧ Below w.heap.size w w' :=
  (octPutBig 4 (-1) (by decide) w).mono fun e w' ⟨a, c, h1, _, h2⟩ => ⟨⟨a, c, h1⟩, h2⟩

set_option maxHeartbeats 1000000 in
theorem octFixed (w : World) : Calls Try.prog 28 #[] w fun e w' => e = .returned (.bool true) ∧ Below w.heap.size w w' := by
  go_enter Try.func28, Try.ntmps28
  go_wp2_with fail
  refine (fxLit1 _ _ _ (by simp)).mono ?_; rintro e w' ⟨rfl, rfl⟩
  go_wp2_with fail
  refine (fxLit2 _ _ _ (by simp)).mono ?_; rintro e w' ⟨rfl, rfl⟩
  go_wp2_with fail
  refine (fxLit3 _ _ _ (by simp)).mono ?_; rintro e w' ⟨rfl, rfl⟩
  go_wp2_with fail
  refine (fxNew _ _ _ (by simp)).mono ?_; rintro e w1 ⟨g, rfl, hg, hr, hb1⟩
  go_wp2_with fail
  refine (fxSigned hr).mono ?_; rintro e w2 ⟨rfl, hr2, ho2⟩
  go_wp2_with fail
  refine (fxNum hr2).mono ?_; rintro e w3 ⟨rfl, hr3, ho3⟩
  go_wp2_with fail
  refine (fxLeft hr3).mono ?_; rintro e w4 ⟨rfl, n4, rfl⟩
  go_wp2_with fail
  refine (rdBad (w := w3.drewN n4) hr3).mono ?_; rintro e w4 ⟨rfl, rfl⟩
  go_wp2_with fail
  refine (fxNum2 (w := w3.drewN n4) hr3).mono ?_; rintro e w5 ⟨rfl, hr5, ho5⟩
  go_wp2_with fail
  refine (rdBad hr5).mono ?_; rintro e w6 ⟨rfl, rfl⟩
  go_wp2_with fail
  refine (fxPut _).mono ?_; rintro e w7 ⟨⟨a7, c7, rfl⟩, hb7⟩
  go_wp2_with fail
  go_ret
  refine ⟨rfl, ?_⟩
  simp at hg
  have hs := Nat.le_refl w.heap.size
  have b0 := ((((Below.refl w.heap.size w).alloc (Nat.le_refl _) (.cells #[.int .u8 1, .int .u8 2, .int .u8 3] 5)).alloc (by simp) (.cells #[.int .u8 1] 5)).alloc (by simp; omega) (.cells #[.int .u8 1] 5)).alloc (by simp; omega) (.cells #[.int .u8 128, .int .u8 1, .int .u8 2] 5)
  have b1 := b0.trans (hb1.mono (by simp; omega))
  have b2 := low_only b1 ho2 (by omega) hs
  have b3 := low_only b2 ho3 (by omega) hs
  have b5 := low_only (low_drewN b3 n4) ho5 (by omega) hs
  exact b5.trans (hb7.mono b5.size)
end Go.Proofs.Ytkkgfphfilbcdaa
