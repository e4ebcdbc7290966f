/- The law WordHolds returns true for every jump's number and every two numbers: word.Holds answers what the document's own answer is, and of a condition and the one beside it just one holds. Condition: none. -/
import Derived.Test.YtkkgfphfilbcdaaRows
import Derived.Test.YtkkgfphfilbcdaaWordFix
import Derived.WalkKit
import Derived.ProofKit
import Derived.OpenShut
namespace Go.Proofs.Ytkkgfphfilbcdaa.wordHolds
open Go.ChangeShapes Go.WideShapes Go.ChangeAt Go.RowKit
set_option linter.unusedVariables false      -- a walk need not use every 'w<i>' (that an integer argument fits its kind)

theorem own : ownKnob Try.prog.godebug = none := by kernel_rfl

theorem ho_pairs (a b : Int) : (HO 153 a b).1 = !(HO 154 a b).1 ∧ (HO 155 a b).1 = !(HO 156 a b).1 ∧ (HO 157 a b).1 = !(HO 158 a b).1 ∧ (HO 159 a b).1 = !(HO 160 a b).1 ∧ (HO 161 a b).1 = !(HO 162 a b).1 ∧ (HO 163 a b).1 = !(HO 164 a b).1 := by
  refine ⟨?_, ?_, ?_, ?_, ?_, ?_⟩ <;> simp [HO, HOb] <;> first | rfl | (rw [Bool.eq_iff_iff]; simp; done) | (rw [Bool.eq_iff_iff]; simp; omega)
theorem ho_ok (op a b : Int) (h : 153 ≤ op ∧ op ≤ 164) : (HO op a b).2 = 0 := by
  unfold HO; split
  · rfl
  · rename_i h1; have h2 : 159 ≤ op ∧ op ≤ 164 := by omega
    simp [HOe, h2]
theorem walk (a0 : Int) (a1 : Int) (a2 : Int) (w0 : (Lit.int .i64 a0).wf = true) (w1 : (Lit.int .i64 a1).wf = true) (w2 : (Lit.int .i64 a2).wf = true) (w : World) :
    Calls Try.prog 6 #[.int .i64 a0, .int .i64 a1, .int .i64 a2] w fun e w' => e = .returned (.bool true) ∧ Grown w w' := by
  have hop := bd_i64 w0
  rcases hold_cases a0 with h | h | h
  · obtain ⟨p1, p2, p3, _, _, _⟩ := ho_pairs a1 a2
    have e1 := fun op h => ho_ok op a1 a2 h
    rcases h with rfl | rfl | rfl | rfl | rfl | rfl
    all_goals
      have e2 := e1 153 (by decide)
      have e3 := e1 154 (by decide)
      have e4 := e1 155 (by decide)
      have e5 := e1 156 (by decide)
      have e6 := e1 157 (by decide)
      have e7 := e1 158 (by decide)
      clear e1
      go_enter Try.func6, Try.ntmps6
      go_wp2_with (first | (go_at_call 15; refine (wordFixed _).mono ?_; rintro e w' ⟨rfl, rfl⟩) | (go_at_call 24; refine (wordHolds _ _ _ (by omega) _).mono ?_; rintro e w' ⟨rfl, rfl⟩) | (go_at_call 25; refine (refHolds _ _ _ (by omega) _).mono ?_; rintro e w' ⟨rfl, rfl⟩))
      go_ret
      exact ⟨by simp, Grown.refl _⟩
  · obtain ⟨_, _, _, p1, p2, p3⟩ := ho_pairs a1 a2
    have e1 := fun op h => ho_ok op a1 a2 h
    rcases h with rfl | rfl | rfl | rfl | rfl | rfl
    all_goals
      have e2 := e1 159 (by decide)
      have e3 := e1 160 (by decide)
      have e4 := e1 161 (by decide)
      have e5 := e1 162 (by decide)
      have e6 := e1 163 (by decide)
      have e7 := e1 164 (by decide)
      clear e1
      go_enter Try.func6, Try.ntmps6
      go_wp2_with (first | (go_at_call 15; refine (wordFixed _).mono ?_; rintro e w' ⟨rfl, rfl⟩) | (go_at_call 24; refine (wordHolds _ _ _ (by omega) _).mono ?_; rintro e w' ⟨rfl, rfl⟩) | (go_at_call 25; refine (refHolds _ _ _ (by omega) _).mono ?_; rintro e w' ⟨rfl, rfl⟩))
      go_ret
      exact ⟨by simp, Grown.refl _⟩
  · have e1 := ho_no a0 a1 a2 h
    go_enter Try.func6, Try.ntmps6
    go_wp2_with (first | (go_at_call 15; refine (wordFixed _).mono ?_; rintro e w' ⟨rfl, rfl⟩) | (go_at_call 24; refine (wordHolds _ _ _ (by omega) _).mono ?_; rintro e w' ⟨rfl, rfl⟩) | (go_at_call 25; refine (refHolds _ _ _ (by omega) _).mono ?_; rintro e w' ⟨rfl, rfl⟩))
    go_ret
    exact ⟨by simp, Grown.refl _⟩

set_option maxRecDepth 100000 in
theorem lifted (os : Os) (started : os.Started) (H : Type) (enc : TypeId × Value → H) :
    ReturnsInHanded {} Try.checked os 6 .any (Rows.wordHoldsSpec.pre6 enc Try.prog Try.f6 Rows.wordHoldsRow.domain false) (Rows.wordHoldsSpec.post enc Try.prog Try.f6 false true false false) := by
  refine returnsInHanded_of_change (C := Try.checked) own started (by kernel_rfl) Try.func6
    (ChangeSpec.witness6 (enc := enc) (C := Try.checked) false ⟨#[], #[.int .i64 0, .int .i64 0, .int .i64 0], []⟩ 8 (by kernel_rfl) (by kernel_rfl) (by kernel_rfl) (by kernel_rfl)) ?_
  intro W base args ds gs before hval0 hW hcnd _
  have hval : ∀ (j : Nat) t v, Try.f6.params[j]? = some t → args[j]? = some v → Value.okWide Try.prog W .any base t v := hval0
  have hW' := hW
  obtain ⟨p, q, hA0, hV, rfl, hfz, hnd⟩ := hW
  have hA : DataW.TrodAll enc Try.prog W 0 (fun _ => true) true Try.f6.params.toList args.toList ds p := hA0
  rw [Try.params6] at hA hval
  obtain ⟨v0, vs0, d0, ds0, p0, q0, hargs, rfl, rfl, h0, r0⟩ := trodAll_cons hA
  obtain ⟨v1, vs1, d1, ds1, p1, q1, rfl, rfl, rfl, h1, r1⟩ := trodAll_cons r0
  obtain ⟨v2, vs2, d2, ds2, p2, q2, rfl, rfl, rfl, h2, r2⟩ := trodAll_cons r1
  obtain ⟨rfl, rfl, rfl⟩ := trodAll_nil r2
  obtain rfl : args = #[v0, v1, v2] := by cases args; simp_all
  obtain ⟨rfl, rfl⟩ := trodVars_none hV
  obtain ⟨a0, rfl, rfl, rfl, w0⟩ := open_int Try.underlying3 (hval 0 3 v0 rfl rfl) h0
  obtain ⟨a1, rfl, rfl, rfl, w1⟩ := open_int Try.underlying2 (hval 1 2 v1 rfl rfl) h1
  obtain ⟨a2, rfl, rfl, rfl, w2⟩ := open_int Try.underlying2 (hval 2 2 v2 rfl rfl) h2
  clear hA0 hval0
  simp only [List.append_nil] at hW'
  refine (walk a0 a1 a2 w0 w1 w2 W).mono fun e W' ⟨he, hg⟩ => ?_
  subst he
  exact ⟨_, rfl, post_of_same (pa := []) (pv := []) hW' (fun _ _ _ => (trodAll_cons_mk (shut_bool Try.underlying4 _) trodAll_mk0)) (fun sp _ => (trodAll_cons_mk (shut_int Try.underlying3 w0) (trodAll_cons_mk (shut_int Try.underlying2 w1) (trodAll_cons_mk (shut_int Try.underlying2 w2) trodAll_mk0)))) (fun _ _ => rfl) rfl
    (hg.frame _) hg.2.1 (ok_one (by kernel_rfl) rfl (okWide_bool_mk Try.underlying4 _))⟩

theorem over : Rows.wordHoldsRow.holds Try.pinned (OpenSpec.ofChange Rows.wordHoldsSpec) :=
  OpenClaim.holds_of_wide 6 Try.f6 rfl rfl rfl rfl rfl rfl rfl ⟨rfl, rfl, rfl, rfl, rfl⟩ rfl rfl rfl rfl rfl (by kernel_rfl) Try.func6 (by kernel_rfl)
    (of_decide_eq_true (by kernel_rfl)) (by unfold Func.isWrapper; first | (rw [if_pos (by decide +kernel)]; kernel_rfl) | (rw [if_neg (by decide +kernel)]; exact ⟨rfl, rfl⟩))
    (fun os started H enc _ => lifted os started H enc)

/-- ████ THE STATEMENT ████ -/
theorem proved : Rows.WordHoldsSaid :=
  over
end Go.Proofs.Ytkkgfphfilbcdaa.wordHolds
