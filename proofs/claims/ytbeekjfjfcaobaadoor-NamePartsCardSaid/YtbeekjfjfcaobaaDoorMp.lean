/- The calls of layer 13 whose answers the document fixes. Condition: the variable internal/bytealg.MaxLen has a value. -/
import Derived.Test.YtbeekjfjfcaobaaDoorMo
set_option linter.unusedVariables false
set_option maxRecDepth 100000
namespace Go.Proofs.YtbeekjfjfcaobaaDoor
open Go.RowKit Go.Lib Go.Maps

theorem met_some {l : List UInt8} {w w' : World} {e : Ending} (h : MetP l w e w') {ps : List (List UInt8)} {q : List UInt8} (hs : metS l = some (ps, q)) : ∃ (L : List ByteArray) (Q : ByteArray) (a : Option Addr) (c : Nat), L.map tl = ps ∧ tl Q = q ∧ e = .returned (.tuple #[.slice a L.length c, .string Q, .int .i64 0]) ∧ w'.ownsRow w.heap.size 9 1 (.slice a L.length c) L.length (L.map Value.string) ∧ L.length ≤ 20000 ∧ Below w.heap.size w w' := by
  rcases h with ⟨h1, _⟩ | ⟨L, Q, V, h1, h2, h3, h4, h5⟩
  · rw [hs] at h1; cases h1
  · rw [hs] at h1
    injection h1 with h1
    injection h1 with h1 h6
    obtain ⟨a, c, rfl⟩ := own_shape h3
    exact ⟨L, Q, a, c, h1.symm, h6.symm, h2, h3, h4, h5⟩
theorem met_none {l : List UInt8} {w w' : World} {e : Ending} (h : MetP l w e w') (hs : metS l = none) : e = .returned (.tuple #[.slice none 0 0, .string ⟨#[]⟩, .int .i64 24]) ∧ Below w.heap.size w w' := by
  rcases h with ⟨_, h1, h2⟩ | ⟨L, Q, V, h1, _⟩
  · exact ⟨h1, h2⟩
  · rw [hs] at h1; cases h1
theorem uni_some {l : List UInt8} {w w' : World} {e : Ending} (h : UniP l w e w') {us : List Nat} (hs : unitsT l = some us) : ∃ (a : Option Addr) (c : Nat), e = .returned (.tuple #[.slice a us.length c, .int .i64 0]) ∧ w'.ownsRow w.heap.size 38 1 (.slice a us.length c) us.length (us.map fun u => Value.int .u16 ((u : Nat) : Int)) ∧ us.length ≤ l.length ∧ Below w.heap.size w w' := by
  rcases h with ⟨h1, _⟩ | ⟨us', V, h1, h2, h3, h4, h5⟩
  · rw [hs] at h1; cases h1
  · rw [hs] at h1
    injection h1 with h1
    subst h1
    obtain ⟨a, c, rfl⟩ := own_shape h3
    exact ⟨a, c, h2, h3, h4, h5⟩
theorem uni_none {l : List UInt8} {w w' : World} {e : Ending} (h : UniP l w e w') (hs : unitsT l = none) : e = .returned (.tuple #[.slice none 0 0, .int .i64 23]) ∧ Below w.heap.size w w' := by
  rcases h with ⟨_, h1, h2⟩ | ⟨us, V, h1, _⟩
  · exact ⟨h1, h2⟩
  · rw [hs] at h1; cases h1
theorem unitsF_lt : ∀ (k : Nat) (l : List UInt8) (us : List Nat), unitsF k l = some us → ∀ u ∈ us, u < 65536
  | 0, _, _, h => by cases h
  | k + 1, l, us, h => by
    unfold unitsF at h
    split at h
    · injection h with h; subst h; intro u hu; cases hu
    · cases hu : unit1 l with
      | none => rw [hu] at h; cases h
      | some x =>
        obtain ⟨u, n⟩ := x
        rw [hu] at h
        simp only at h
        cases hr : unitsF k (l.drop n) with
        | none => rw [hr] at h; cases h
        | some vs =>
          rw [hr] at h
          injection h with h
          subst h
          intro v hv
          rcases List.mem_cons.1 hv with rfl | hv
          · exact (unit1_bd hu).1
          · exact unitsF_lt k _ vs hr v hv
theorem unitsT_lt {l : List UInt8} {us : List Nat} (h : unitsT l = some us) : ∀ u ∈ us, u < 65536 := unitsF_lt _ _ _ h
theorem fx_m1 : metS [40, 73, 91, 74, 76, 97, 59, 41, 86] = some ([[73], [91, 74], [76, 97, 59]], [86]) := by decide +kernel
theorem fx_m2 : metS [40, 86, 41, 73] = none := by decide +kernel
theorem fx_u1 : unitsT [97, 192, 128] = some [97, 0] := by decide +kernel
theorem fx_u2 : unitsT [0] = none := by decide +kernel
theorem fx_c1 : classB [106, 97, 118, 97, 47, 108, 97, 110, 103, 47, 79, 98, 106, 101, 99, 116] = true := by decide +kernel
theorem fx_c2 : classB [97, 47] = false := by decide +kernel
theorem fx_c3 : classB [97, 46, 98] = false := by decide +kernel
theorem fx_b1 : memberB [60, 105, 110, 105, 116, 62] true = true := by decide +kernel
theorem fx_b2 : memberB [60, 105, 110, 105, 116, 62] false = false := by decide +kernel
theorem fx_d1 : descB [91, 73] = true := by decide +kernel
set_option maxHeartbeats 8000000 in
theorem fixed13 (w : World) (hmx : Mx w) : Calls Tryd.prog 8 #[] w fun e w' => e = .returned (.bool true) ∧ Below w.heap.size w w' := by
  have hc1 := method_is ⟨#[40, 73, 91, 74, 76, 97, 59, 41, 86]⟩ (by decide) w hmx
  have HM := Lib.hid hmx
  clear hmx
  go_enter Tryd.func8, Tryd.ntmps8
  go_wp2_with fail
  refine hc1.mono ?_
  intro e w1 h1
  obtain ⟨L, Q, a1, k1, hL, hQ, rfl, ho1, _, hb1⟩ := met_some h1 fx_m1
  have hc2 := method_is ⟨#[40, 86, 41, 73]⟩ (by decide) w1 (HM.out.below hb1)
  have h3 : L.length = 3 := by have := congrArg List.length hL; simpa using this
  obtain ⟨C, hC⟩ : ∃ C, L[2]? = some C := ⟨_, List.getElem?_eq_getElem (by omega)⟩
  have hCt : tl C = [76, 97, 59] := by
    have := congrArg (fun z => z[2]?) hL
    simp only [List.getElem?_map, hC] at this
    simpa using this
  rw [h3] at ho1 ⊢
  have H1 := Lib.hid (And.intro hb1 (And.intro ho1 (And.intro hC hCt)))
  have HQ := Lib.hid hQ
  clear hc1 h1 hb1 ho1 hL hQ h3 hC hCt
  go_wp2_with fail
  refine hc2.mono ?_
  intro e w2 h2
  obtain ⟨rfl, hb2⟩ := met_none h2 fx_m2
  have hw2 := below_next H1.out.1 (Nat.le_refl _) hb2
  have hc3 := units_is ⟨#[97, 192, 128]⟩ (by decide) w2
  have H2 := Lib.hid (And.intro hw2 (own_below H1.out.2.1 hb2))
  clear hc2 h2 hb2 hw2
  go_wp2_with fail
  refine hc3.mono ?_
  intro e w3 h3
  obtain ⟨a3, k3, rfl, ho3, _, hb3⟩ := uni_some h3 fx_u1
  have hw3 := below_next H2.out.1 (Nat.le_refl _) hb3
  have hc4 := units_is ⟨#[0]⟩ (by decide) w3
  have H3 := Lib.hid (And.intro hw3 (And.intro (own_below H2.out.2 hb3) ho3))
  clear hc3 h3 hb3 hw3 ho3
  go_wp2_with fail
  refine hc4.mono ?_
  intro e w4 h4
  obtain ⟨rfl, hb4⟩ := uni_none h4 fx_u2
  have hw4 := below_next H3.out.1 (Nat.le_refl _) hb4
  have hc5 := class_is ⟨#[106, 97, 118, 97, 47, 108, 97, 110, 103, 47, 79, 98, 106, 101, 99, 116]⟩ (by decide) w4 (HM.out.below hw4)
  rw [show classB (⟨#[106, 97, 118, 97, 47, 108, 97, 110, 103, 47, 79, 98, 106, 101, 99, 116]⟩ : ByteArray).data.toList = true from fx_c1] at hc5
  have H4 := Lib.hid (And.intro hw4 (And.intro (own_below H3.out.2.1 hb4) (own_below H3.out.2.2 hb4)))
  clear hc4 h4 hb4 hw4
  go_wp2_with fail
  refine hc5.mono ?_
  rintro e w5 ⟨rfl, hb5⟩
  have hw5 := below_next H4.out.1 (Nat.le_refl _) hb5
  have hc6 := class_is ⟨#[97, 47]⟩ (by decide) w5 (HM.out.below hw5)
  rw [show classB (⟨#[97, 47]⟩ : ByteArray).data.toList = false from fx_c2] at hc6
  have H5 := Lib.hid (And.intro hw5 (And.intro (own_below H4.out.2.1 hb5) (own_below H4.out.2.2 hb5)))
  clear hc5 hb5 hw5
  go_wp2_with fail
  refine hc6.mono ?_
  rintro e w6 ⟨rfl, hb6⟩
  have hw6 := below_next H5.out.1 (Nat.le_refl _) hb6
  have hc7 := class_is ⟨#[97, 46, 98]⟩ (by decide) w6 (HM.out.below hw6)
  rw [show classB (⟨#[97, 46, 98]⟩ : ByteArray).data.toList = false from fx_c3] at hc7
  have H6 := Lib.hid (And.intro hw6 (And.intro (own_below H5.out.2.1 hb6) (own_below H5.out.2.2 hb6)))
  clear hc6 hb6 hw6
  go_wp2_with fail
  refine hc7.mono ?_
  rintro e w7 ⟨rfl, hb7⟩
  have hw7 := below_next H6.out.1 (Nat.le_refl _) hb7
  have hc8 := member_is ⟨#[60, 105, 110, 105, 116, 62]⟩ true (by decide) w7
  have hc9 := member_is ⟨#[60, 105, 110, 105, 116, 62]⟩ false (by decide) w7
  rw [show memberB (⟨#[60, 105, 110, 105, 116, 62]⟩ : ByteArray).data.toList true = true from fx_b1] at hc8
  rw [show memberB (⟨#[60, 105, 110, 105, 116, 62]⟩ : ByteArray).data.toList false = false from fx_b2] at hc9
  have hc10 := desc_is ⟨#[91, 73]⟩ (by decide) w7 (HM.out.below hw7)
  rw [show descB (⟨#[91, 73]⟩ : ByteArray).data.toList = true from fx_d1] at hc10
  have hr1 := own_below H6.out.2.1 hb7
  have hr2 := own_below H6.out.2.2 hb7
  have H7 := Lib.hid hw7
  clear hc7 hb7 hw7
  go_wp2_with fail
  refine hc8.mono ?_
  rintro e w8 ⟨rfl, rfl⟩
  clear hc8
  go_wp2_with fail
  refine hc9.mono ?_
  rintro e w9 ⟨rfl, rfl⟩
  obtain ⟨G1, p1, hV1, _, _⟩ := hr1.form (by decide)
  injection hV1 with e1 _ e2
  subst e1
  subst e2
  obtain ⟨G2, p2, hV2, _, _⟩ := hr2.form (by decide)
  injection hV2 with e1 _ e2
  subst e1
  subst e2
  have c1 : w9.cell? ⟨G1, 2, none⟩ = some (.string C) := by rw [hr1.cellAt 2 (by decide), List.getElem?_map, H1.out.2.2.1]; rfl
  have c2 : w9.cell? ⟨G2, 1, none⟩ = some (.int .u16 0) := by rw [hr2.cellAt 1 (by decide)]; rfl
  have t1 : (C.toList == [76, 97, 59]) = true := by rw [Lib.toList_data, show C.data.toList = [76, 97, 59] from H1.out.2.2.2]; rfl
  have t2 : (Q.toList == [86]) = true := by rw [Lib.toList_data, show Q.data.toList = [86] from HQ.out]; rfl
  clear hc9 hr1 hr2
  go_wp2_with fail
  refine hc10.mono ?_
  rintro e w10 ⟨rfl, hb10⟩
  have H10 := Lib.hid (below_next H7.out (Nat.le_refl _) hb10)
  clear hc10 hb10
  go_wp2_with fail
  go_ret
  exact ⟨rfl, H10.out⟩
end Go.Proofs.YtbeekjfjfcaobaaDoor
