/- The law WordDivides returns true for every two numbers: a quotient times the divisor, and the rest, is the number, of ints and of longs, and a division by nothing is refused. Condition: none. -/
import Derived.Test.YtkkgfphfilbcdaaRows
import Derived.Test.YtkkgfphfilbcdaaWordAlg
import Derived.WalkKit
import Derived.ProofKit
import Derived.OpenShut
namespace Go.Proofs.Ytkkgfphfilbcdaa.wordDivides
open Go.ChangeShapes Go.WideShapes Go.ChangeAt Go.RowKit
set_option linter.unusedVariables false      -- a walk need not use every 'w<i>' (that an integer argument fits its kind)

theorem own : ownKnob Try.prog.godebug = none := by kernel_rfl

theorem walk (a0 : Int) (a1 : Int) (w0 : (Lit.int .i64 a0).wf = true) (w1 : (Lit.int .i64 a1).wf = true) (w : World) :
    Calls Try.prog 8 #[.int .i64 a0, .int .i64 a1] w fun e w' => e = .returned (.bool true) ∧ Grown w w' := by
  have ha := bd_i64 w0
  have hb := bd_i64 w1
  have hw := wrap32_bd a0
  by_cases hy : wrap32 a1 = 0
  · have e1 := wi108_0 a0 a1 hy
    have e2 := wi112_0 a0 a1 hy
    go_enter Try.func8, Try.ntmps8
    go_wp2_with (first | (go_at_call 15; refine (wordFixed _).mono ?_; rintro e w' ⟨rfl, rfl⟩) | (go_at_call 16; refine (wordInt _ _ _ _).mono ?_; rintro e w' ⟨rfl, rfl⟩))
    go_ret
    exact ⟨by simp, Grown.refl _⟩
  · have e1 := wi108 a0 a1 hy
    have e2 := wi112 a0 a1 hy
    have hy0 : ¬ a1 = 0 := by rintro rfl; exact hy (by simp [wrap32])
    have e3 := wl_109 a0 a1 hy0
    have e4 := wl_113 a0 a1 hy0
    have hyb : (a1 == 0) = false := by simpa using hy0
    have hyc : (wrap32 a1 == 0) = false := by simpa using hy
    have g1 : (RK false 96 (RK false 104 (wrap32 ((wrap32 a0).tdiv (wrap32 a1))) a1) ((wrap32 a0).tmod (wrap32 a1)) != wrap32 a0) = false := by rw [div_back32]; simp
    have g2 : (RK true 97 (RK true 105 (wrap64 (a0.tdiv a1)) a1) (a0.tmod a1) == a0) = true := by rw [div_back64 _ _ ha]; simp
    go_enter Try.func8, Try.ntmps8
    go_wp2_with (first | (go_at_call 15; refine (wordFixed _).mono ?_; rintro e w' ⟨rfl, rfl⟩) | (go_at_call 16; refine (wordInt _ _ _ _).mono ?_; rintro e w' ⟨rfl, rfl⟩) | (go_at_call 18; refine (wordLong _ _ _ _).mono ?_; rintro e w' ⟨rfl, rfl⟩) | (go_at_call 27; refine (lawReckon _ _ _ _ _).mono ?_; rintro e w' ⟨rfl, rfl⟩))
    go_ret
    exact ⟨by simp, Grown.refl _⟩

set_option maxRecDepth 100000 in
theorem lifted (os : Os) (started : os.Started) (H : Type) (enc : TypeId × Value → H) :
    ReturnsInHanded {} Try.checked os 8 .any (Rows.wordDividesSpec.pre6 enc Try.prog Try.f8 Rows.wordDividesRow.domain false) (Rows.wordDividesSpec.post enc Try.prog Try.f8 false true false false) := by
  refine returnsInHanded_of_change (C := Try.checked) own started (by kernel_rfl) Try.func8
    (ChangeSpec.witness6 (enc := enc) (C := Try.checked) false ⟨#[], #[.int .i64 0, .int .i64 0], []⟩ 8 (by kernel_rfl) (by kernel_rfl) (by kernel_rfl) (by kernel_rfl)) ?_
  intro W base args ds gs before hval0 hW hcnd _
  have hval : ∀ (j : Nat) t v, Try.f8.params[j]? = some t → args[j]? = some v → Value.okWide Try.prog W .any base t v := hval0
  have hW' := hW
  obtain ⟨p, q, hA0, hV, rfl, hfz, hnd⟩ := hW
  have hA : DataW.TrodAll enc Try.prog W 0 (fun _ => true) true Try.f8.params.toList args.toList ds p := hA0
  rw [Try.params8] at hA hval
  obtain ⟨v0, vs0, d0, ds0, p0, q0, hargs, rfl, rfl, h0, r0⟩ := trodAll_cons hA
  obtain ⟨v1, vs1, d1, ds1, p1, q1, rfl, rfl, rfl, h1, r1⟩ := trodAll_cons r0
  obtain ⟨rfl, rfl, rfl⟩ := trodAll_nil r1
  obtain rfl : args = #[v0, v1] := by cases args; simp_all
  obtain ⟨rfl, rfl⟩ := trodVars_none hV
  obtain ⟨a0, rfl, rfl, rfl, w0⟩ := open_int Try.underlying2 (hval 0 2 v0 rfl rfl) h0
  obtain ⟨a1, rfl, rfl, rfl, w1⟩ := open_int Try.underlying2 (hval 1 2 v1 rfl rfl) h1
  clear hA0 hval0
  simp only [List.append_nil] at hW'
  refine (walk a0 a1 w0 w1 W).mono fun e W' ⟨he, hg⟩ => ?_
  subst he
  exact ⟨_, rfl, post_of_same (pa := []) (pv := []) hW' (fun _ _ _ => (trodAll_cons_mk (shut_bool Try.underlying4 _) trodAll_mk0)) (fun sp _ => (trodAll_cons_mk (shut_int Try.underlying2 w0) (trodAll_cons_mk (shut_int Try.underlying2 w1) trodAll_mk0))) (fun _ _ => rfl) rfl
    (hg.frame _) hg.2.1 (ok_one (by kernel_rfl) rfl (okWide_bool_mk Try.underlying4 _))⟩

theorem over : Rows.wordDividesRow.holds Try.pinned (OpenSpec.ofChange Rows.wordDividesSpec) :=
  OpenClaim.holds_of_wide 8 Try.f8 rfl rfl rfl rfl rfl rfl rfl ⟨rfl, rfl, rfl, rfl, rfl⟩ rfl rfl rfl rfl rfl (by kernel_rfl) Try.func8 (by kernel_rfl)
    (of_decide_eq_true (by kernel_rfl)) (by unfold Func.isWrapper; first | (rw [if_pos (by decide +kernel)]; kernel_rfl) | (rw [if_neg (by decide +kernel)]; exact ⟨rfl, rfl⟩))
    (fun os started H enc _ => lifted os started H enc)

/-- ████ THE STATEMENT ████ -/
theorem proved : Rows.WordDividesSaid :=
  over
end Go.Proofs.Ytkkgfphfilbcdaa.wordDivides
