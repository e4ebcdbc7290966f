/- The walks of the laws NameTells, NameMethods and NameUnits: they return true and turn nothing that was there. Condition: the variable internal/bytealg.MaxLen has a value. -/
import Derived.Test.YtbeekjfjfcaobaaDoorMp
set_option linter.unusedVariables false
set_option maxRecDepth 100000
namespace Go.Proofs.YtbeekjfjfcaobaaDoor
open Go.RowKit Go.Lib Go.Maps

set_option maxHeartbeats 8000000 in
theorem nametells_walk (w : World) (s : ByteArray) (hmx : Mx w) : Calls Tryd.prog 3 #[.string s] w fun e w' => e = .returned (.bool true) ∧ Below w.heap.size w w' := by
  have hfx := fixed13 w hmx
  have HM := Lib.hid hmx
  clear hmx
  by_cases hs : s.size ≤ 20000
  · have t0 : decide ((s.size : Int) > 20000) = false := by simp; omega
    have c1 := fun wk hb => class_is s hs wk (HM.out.below (show Below w.heap.size w wk from hb))
    have c2 := refClass_is s hs
    have c3 := fun m => member_is s m hs
    have c4 := fun m => refMember_is s m hs
    have c5 := fun wk hb => desc_is s hs wk (HM.out.below (show Below w.heap.size w wk from hb))
    have c6 := refDesc_is s hs
    have c7 := slots_is s
    have c8 := refSlots_is s
    generalize classB s.data.toList = b1 at *
    generalize hm1 : memberB s.data.toList = f at *
    obtain ⟨b2, hb2⟩ : ∃ b, f false = b := ⟨_, rfl⟩
    obtain ⟨b3, hb3⟩ : ∃ b, f true = b := ⟨_, rfl⟩
    have c31 := c3 false
    have c32 := c3 true
    have c41 := c4 false
    have c42 := c4 true
    rw [hb2] at c31 c41
    rw [hb3] at c32 c42
    generalize descB s.data.toList = b4 at *
    generalize slotsN s.data.toList = n at *
    have e1 : (b1 == b1) = true := by simp
    have e2 : (b2 == b2) = true := by simp
    have e3 : (b3 == b3) = true := by simp
    have e4 : (b4 == b4) = true := by simp
    have e5 : ((n : Int) == (n : Int)) = true := by simp
    clear hm1 hb2 hb3 c3 c4
    go_enter Tryd.func3, Tryd.ntmps3
    go_wp2_with fail
    refine hfx.mono ?_
    rintro e w1 ⟨rfl, hb1⟩
    have d1 := c1 w1 hb1
    have H1 := Lib.hid hb1
    clear hfx hb1 c1
    go_wp2_with fail
    refine d1.mono ?_
    rintro e w2 ⟨rfl, hb2⟩
    have d2 := c2 w2
    have H2 := Lib.hid (below_next H1.out (Nat.le_refl _) hb2)
    clear d1 hb2 c2
    go_wp2_with fail
    refine d2.mono ?_
    rintro e w3 ⟨rfl, hb3⟩
    have d3 := c31 w3
    have H3 := Lib.hid (below_next H2.out (Nat.le_refl _) hb3)
    clear d2 hb3 c31
    go_wp2_with fail
    refine d3.mono ?_
    rintro e w4 ⟨rfl, rfl⟩
    have d4 := c41 w4
    clear d3 c41
    go_wp2_with fail
    refine d4.mono ?_
    rintro e w5 ⟨rfl, hb5⟩
    have d5 := c32 w5
    have H5 := Lib.hid (below_next H3.out (Nat.le_refl _) hb5)
    clear d4 hb5 c32
    go_wp2_with fail
    refine d5.mono ?_
    rintro e w6 ⟨rfl, rfl⟩
    have d6 := c42 w6
    clear d5 c42
    go_wp2_with fail
    refine d6.mono ?_
    rintro e w7 ⟨rfl, hb7⟩
    have hw7 := below_next H5.out (Nat.le_refl _) hb7
    have d7 := c5 w7 hw7
    have H7 := Lib.hid hw7
    clear d6 hb7 c5 hw7
    go_wp2_with fail
    refine d7.mono ?_
    rintro e w8 ⟨rfl, hb8⟩
    have d8 := c6 w8
    have H8 := Lib.hid (below_next H7.out (Nat.le_refl _) hb8)
    clear d7 hb8 c6
    go_wp2_with fail
    refine d8.mono ?_
    rintro e w9 ⟨rfl, hb9⟩
    have d9 := c7 w9
    have H9 := Lib.hid (below_next H8.out (Nat.le_refl _) hb9)
    clear d8 hb9 c7
    go_wp2_with fail
    refine d9.mono ?_
    rintro e w10 ⟨rfl, rfl⟩
    have d10 := c8 w10
    clear d9 c8
    go_wp2_with fail
    refine d10.mono ?_
    rintro e w11 ⟨rfl, rfl⟩
    clear d10
    go_wp2_with fail
    go_ret
    exact ⟨rfl, H9.out⟩
  · have t0 : decide ((s.size : Int) > 20000) = true := by simp; omega
    go_enter Tryd.func3, Tryd.ntmps3
    go_wp2_with fail
    refine hfx.mono ?_
    rintro e w1 ⟨rfl, hb1⟩
    have H1 := Lib.hid hb1
    clear hfx hb1
    go_wp2_with fail
    go_ret
    exact ⟨rfl, H1.out⟩
theorem tl_inj {a b : ByteArray} (h : tl a = tl b) : a = b := by
  have h2 : a.data = b.data := Array.toList_inj.1 h
  cases a; cases b; simp at h2; rw [h2]
theorem map_tl {L M : List ByteArray} (h : L.map tl = M.map tl) : L = M := (List.map_inj_right (fun a b h => tl_inj h)).1 h
set_option maxHeartbeats 8000000 in
theorem namemethods_walk (w : World) (s : ByteArray) (hmx : Mx w) : Calls Tryd.prog 4 #[.string s] w fun e w' => e = .returned (.bool true) ∧ Below w.heap.size w w' := by
  have hfx := fixed13 w hmx
  have HM := Lib.hid hmx
  clear hmx
  by_cases hs : s.size ≤ 5000
  · have t0 : decide ((s.size : Int) > 5000) = false := by simp; omega
    go_enter Tryd.func4, Tryd.ntmps4
    go_wp2_with fail
    refine hfx.mono ?_
    rintro e w1 ⟨rfl, hb1⟩
    have c1 := method_is s (by omega) w1 (HM.out.below hb1)
    have H1 := Lib.hid hb1
    clear hfx hb1
    go_wp2_with fail
    refine c1.mono ?_
    intro e w2 h2
    have c2 := refMethod_is s (by omega) w2
    clear c1
    cases hme : metS (tl s) with
    | none =>
      obtain ⟨rfl, hb2⟩ := met_none h2 hme
      have H2 := Lib.hid (below_next H1.out (Nat.le_refl _) hb2)
      have HE := Lib.hid hme
      clear h2 hb2 hme
      go_wp2_with fail
      refine c2.mono ?_
      intro e w3 h3
      obtain ⟨rfl, hb3⟩ := met_none h3 HE.out
      have H3 := Lib.hid (below_next H2.out (Nat.le_refl _) hb3)
      have hsm := sameTexts (w := w3) (B := 0) (B' := 0) (a := none) (a' := none) (n := 0) (n' := 0) (c := 0) (c' := 0) (us := []) (vs := []) rfl rfl (by decide) (by decide) (fun h => absurd h (by simp)) (fun h => absurd h (by simp))
      clear c2 h3 hb3
      go_wp2_with fail
      refine hsm.mono ?_
      rintro e w4 ⟨rfl, d, rfl⟩
      clear hsm
      go_wp2_with fail
      go_ret
      exact ⟨rfl, low_drewN H3.out _⟩
    | some x =>
      obtain ⟨ps, q⟩ := x
      obtain ⟨L, Q, a2, k2, hL, hQ, rfl, ho2, hl2, hb2⟩ := met_some h2 hme
      have H2 := Lib.hid (And.intro (below_next H1.out (Nat.le_refl _) hb2) (And.intro hL (And.intro hQ (And.intro ho2 hl2))))
      have HE := Lib.hid hme
      clear h2 hb2 hme hL hQ ho2
      go_wp2_with fail
      refine c2.mono ?_
      intro e w3 h3
      obtain ⟨M, P, a3, k3, hM, hP, rfl, ho3, hl3, hb3⟩ := met_some h3 HE.out
      have hLM : L = M := map_tl (by rw [H2.out.2.1, hM])
      have hQP : Q = P := tl_inj (by rw [H2.out.2.2.1, hP])
      subst hLM
      subst hQP
      have H3 := Lib.hid (below_next H2.out.1 (Nat.le_refl _) hb3)
      have hsm := sameTexts (w := w3) (n := L.length) (n' := L.length) (c := k2) (c' := k3) rfl rfl hl2 hl3 (Ts.of_own (own_below H2.out.2.2.2.1 hb3)) (Ts.of_own ho3)
      rw [decide_eq_true rfl] at hsm
      have t1 : (Q.toList == Q.toList) = true := by simp
      clear c2 h3 hb3 hM hP ho3
      go_wp2_with fail
      refine hsm.mono ?_
      rintro e w4 ⟨rfl, d, rfl⟩
      clear hsm
      go_wp2_with fail
      go_ret
      exact ⟨rfl, low_drewN H3.out _⟩
  · have t0 : decide ((s.size : Int) > 5000) = true := by simp; omega
    go_enter Tryd.func4, Tryd.ntmps4
    go_wp2_with fail
    refine hfx.mono ?_
    rintro e w1 ⟨rfl, hb1⟩
    have H1 := Lib.hid hb1
    clear hfx hb1
    go_wp2_with fail
    go_ret
    exact ⟨rfl, H1.out⟩
set_option maxHeartbeats 8000000 in
theorem nameunits_walk (w : World) (s : ByteArray) (a : Option Addr) (n c : Nat) (us : List Nat) (hn : us.length = n) (hu : Us w w.heap.size a us) (hmx : Mx w) : Calls Tryd.prog 5 #[.string s, .slice a n c] w fun e w' => e = .returned (.bool true) ∧ Below w.heap.size w w' := by
  have hfx := fixed13 w hmx
  have HU := Lib.hid (And.intro hu hn)
  clear hmx hu hn
  by_cases hsn : s.size ≤ 20000 ∧ n ≤ 20000
  · obtain ⟨hs, hn2⟩ := hsn
    have t0 : decide ((s.size : Int) > 20000) = false := by simp; omega
    have t1 : decide ((n : Int) > 20000) = false := by simp; omega
    go_enter Tryd.func5, Tryd.ntmps5
    go_wp2_with fail
    refine hfx.mono ?_
    rintro e w1 ⟨rfl, hb1⟩
    have c1 := units_is s (by omega) w1
    have H1 := Lib.hid hb1
    clear hfx hb1
    go_wp2_with fail
    refine c1.mono ?_
    intro e w2 h2
    have c2 := refUnits_is s hs w2
    clear c1
    have hfin : ∀ w4, Below w.heap.size w w4 → Calls Tryd.prog 23 #[.slice a n c] w4 fun e w' => e = .returned (.string (strOfNums (txtI us))) ∧ Below w4.heap.size w4 w' := fun w4 hb => text_is a n c us HU.out.2 hn2 w4 (HU.out.1.next hb)
    have hfin2 : ∀ w4, Below w.heap.size w w4 → Calls Tryd.prog 24 #[.slice a n c] w4 fun e w' => e = .returned (.string (strOfNums (txtI us))) ∧ Below w4.heap.size w4 w' := fun w4 hb => refText_is a n c us HU.out.2 hn2 w4 (HU.out.1.next hb)
    have HF := Lib.hid (And.intro hfin hfin2)
    clear hfin hfin2
    generalize strOfNums (txtI us) = X at *
    have t9 : (X.toList == X.toList) = true := by simp
    cases hme : unitsT (tl s) with
    | none =>
      obtain ⟨rfl, hb2⟩ := uni_none h2 hme
      have H2 := Lib.hid (below_next H1.out (Nat.le_refl _) hb2)
      have HE := Lib.hid hme
      clear h2 hb2 hme
      go_wp2_with fail
      refine c2.mono ?_
      intro e w3 h3
      obtain ⟨rfl, hb3⟩ := uni_none h3 HE.out
      have H3 := Lib.hid (below_next H2.out (Nat.le_refl _) hb3)
      have hsm := sameUnits (w := w3) (B := 0) (B' := 0) (a := none) (a' := none) (n := 0) (n' := 0) (c := 0) (c' := 0) (us := []) (vs := []) rfl rfl (by decide) (by decide) ⟨fun u h => by (cases h), fun h => absurd h (by simp)⟩ ⟨fun u h => by (cases h), fun h => absurd h (by simp)⟩
      clear c2 h3 hb3
      go_wp2_with fail
      refine hsm.mono ?_
      rintro e w4 ⟨rfl, d, rfl⟩
      have k1 := HF.out.1 (w3.drewN d) (low_drewN H3.out _)
      clear hsm
      go_wp2_with fail
      refine k1.mono ?_
      rintro e w5 ⟨rfl, hb5⟩
      have hw5 := below_next (low_drewN H3.out d) (Nat.le_refl _) hb5
      have k2 := HF.out.2 w5 hw5
      have H5 := Lib.hid hw5
      clear k1 hb5 hw5
      go_wp2_with fail
      refine k2.mono ?_
      rintro e w6 ⟨rfl, hb6⟩
      have H6 := Lib.hid (below_next H5.out (Nat.le_refl _) hb6)
      clear k2 hb6
      go_wp2_with fail
      go_ret
      exact ⟨rfl, H6.out⟩
    | some vs =>
      obtain ⟨a2, k2, rfl, ho2, hl2, hb2⟩ := uni_some h2 hme
      have hlt : ∀ u ∈ vs, u < 65536 := unitsT_lt hme
      have H2 := Lib.hid (And.intro (below_next H1.out (Nat.le_refl _) hb2) (And.intro ho2 hlt))
      have HE := Lib.hid hme
      clear h2 hb2 hme ho2 hlt
      go_wp2_with fail
      refine c2.mono ?_
      intro e w3 h3
      obtain ⟨a3, k3, rfl, ho3, hl3, hb3⟩ := uni_some h3 HE.out
      have H3 := Lib.hid (below_next H2.out.1 (Nat.le_refl _) hb3)
      have hsm := sameUnits (w := w3) (n := vs.length) (n' := vs.length) (c := k2) (c' := k3) rfl rfl (by rw [tl_len] at hl2; omega) (by rw [tl_len] at hl2; omega) (Us.of_own (own_below H2.out.2.1 hb3) H2.out.2.2) (Us.of_own ho3 H2.out.2.2)
      rw [decide_eq_true rfl] at hsm
      clear c2 h3 hb3 ho3
      go_wp2_with fail
      refine hsm.mono ?_
      rintro e w4 ⟨rfl, d, rfl⟩
      have k1 := HF.out.1 (w3.drewN d) (low_drewN H3.out _)
      clear hsm
      go_wp2_with fail
      refine k1.mono ?_
      rintro e w5 ⟨rfl, hb5⟩
      have hw5 := below_next (low_drewN H3.out d) (Nat.le_refl _) hb5
      have k2 := HF.out.2 w5 hw5
      have H5 := Lib.hid hw5
      clear k1 hb5 hw5
      go_wp2_with fail
      refine k2.mono ?_
      rintro e w6 ⟨rfl, hb6⟩
      have H6 := Lib.hid (below_next H5.out (Nat.le_refl _) hb6)
      clear k2 hb6
      go_wp2_with fail
      go_ret
      exact ⟨rfl, H6.out⟩
  · have t01 : decide ((s.size : Int) > 20000) = true ∨ (decide ((s.size : Int) > 20000) = false ∧ decide ((n : Int) > 20000) = true) := by
      by_cases h : s.size ≤ 20000
      · exact .inr ⟨by simp; omega, by simp; omega⟩
      · exact .inl (by simp; omega)
    rcases t01 with t0 | ⟨t0, t1⟩
    all_goals
      go_enter Tryd.func5, Tryd.ntmps5
      go_wp2_with fail
      refine hfx.mono ?_
      rintro e w1 ⟨rfl, hb1⟩
      have H1 := Lib.hid hb1
      clear hfx hb1
      go_wp2_with fail
      go_ret
      exact ⟨rfl, H1.out⟩
end Go.Proofs.YtbeekjfjfcaobaaDoor
