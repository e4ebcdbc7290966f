/- The walk of the law InflateLimits: it returns true and turns nothing that was there. Condition: the order of the lengths lies where the program's own text lays it. -/
import Derived.Test.YtpnnfekfoomgaaaDoorFix6
import Derived.Test.YtpnnfekfoomgaaaDoorSame
set_option linter.unusedVariables false
set_option maxRecDepth 100000
namespace Go.Proofs.YtpnnfekfoomgaaaDoor
open Go.RowKit

theorem same_true {a a' : Option Addr} {n c n' c' : Nat} {l : List Int} {w : World} {B B' : Nat} (hn : l.length = n) (hn' : l.length = n') (hm : l.length ≤ maxLen) (hb : Bs w B a l) (hb' : Bs w B' a' l) :
    Calls Tryd.prog 14 #[.slice a n c, .slice a' n' c'] w fun e w' => e = .returned (.bool true) ∧ ∃ d, w' = w.drewN d :=
  (refSame a a' n c n' c' l l hn hn' hm hm w B B' hb hb').mono fun e w' ⟨h1, h2⟩ => ⟨by rw [h1]; simp [eqB], h2⟩
set_option maxHeartbeats 8000000 in
theorem limits_big (w : World) (a : Option Addr) (n c : Nat) (l : List Int) (hn : l.length = n) (hm : n ≤ 140737488351232) (hb : Bs w w.heap.size a l) (lim more : Nat) (h1 : lim ≤ 65535) (h2 : more ≤ 65535) (s g : Nat) (hs1 : (lim : Int).tmod 32769 = (s : Int)) (hs3 : s ≤ 32768) (hsg : s ≤ g) (hg : g ≤ 32768) (hover : (32768 : Int) < (s : Int) + (more : Int)) (hge : g = 32768) (hord : Ord w) :
    Calls Tryd.prog 5 #[.slice a n c, .int .u16 lim, .int .u16 more] w fun e w' => e = .returned (.bool true) ∧ Below w.heap.size w w' := by
  have hfx := fixed6 w hord
  have H0 := Lib.hid (And.intro hord hb)
  clear hord hb
  go_enter Tryd.func5, Tryd.ntmps5
  go_wp2_with fail
  refine hfx.mono ?_
  rintro e w1 ⟨rfl, hb1⟩
  have H1 := Lib.hid hb1
  clear hfx hb1
  by_cases hlong : 6000 < n
  · have hd : decide ((n : Int) > 6000) = true := by simp; omega
    go_wp2_with fail
    go_ret
    exact ⟨rfl, H1.out⟩
  · have hd : decide ((n : Int) > 6000) = false := by simp; omega
    have hc1 := fun w' (hw : Below w1.heap.size w1 w') => all_is (w := w') a n c l hn (by omega) ((((H0.out.2.below H1.out).more H1.out.size).below hw).more hw.size) (s : Int) (by omega) ((H0.out.1.below H1.out).below hw)
    have hc2 := fun w' (hw : Below w1.heap.size w1 w') => all_is (w := w') a n c l hn (by omega) ((((H0.out.2.below H1.out).more H1.out.size).below hw).more hw.size) (32768 : Int) (by omega) ((H0.out.1.below H1.out).below hw)
    have hc1' := hc1 w1 (Below.refl _ _)
    have hd2 : decide ((32768 : Int) < (s : Int) + (more : Int)) = true := by simp; omega
    have hG : (32768 : Int) = (g : Int) := by omega
    have hlim := inflS_lim l hsg hg
    rw [← hG] at hlim
    have hsm := fun o m h => inflS_small (l := l) (s := g) hg (o := o) (n := m) h
    rw [← hG] at hsm
    have HH := Lib.hid (And.intro hlim (And.intro hsm hG))
    cases hA : inflS l (s : Int) with
    | ok x =>
      obtain ⟨o, m⟩ := x
      have hB : inflS l (32768 : Int) = .ok (o, m) := by
        rcases HH.out.1 with h | ⟨h, _⟩
        · rw [← h]; exact hA
        · rw [h] at hA; cases hA
      have ho := inflS_small l hs3 hA
      have t1 : decide ((o.length : Int) > (s : Int)) = false := by simp; omega
      have t3 : ((m : Int) == (m : Int)) = true := by simp
      have t2 : decide ((o.length : Int) > (32768 : Int)) = false := by simp; omega
      have HB := Lib.hid (And.intro hA (And.intro hB ho))
      have hle2 : o.length ≤ g := by omega
      have ho' : decide (s < o.length) = false := by simp; omega
      have ho2' : decide (g < o.length) = false := by simp; omega
      have t7 : o.length ≤ 32768 := by omega
      clear hlim hsm hG hA hB
      go_wp2_with fail
      refine hc1'.mono ?_
      intro e w2 h2
      obtain ⟨hb2, a1, c1, rfl, hB1, ho1, hox⟩ := alls_ok h2 HB.out.1
      have hc2' := hc2 w2 hb2
      have H2 := Lib.hid (And.intro hb2 hox)
      clear h2 hc1' hc1 hc2 hb2 hox
      go_wp2_with fail
      refine hc2'.mono ?_
      intro e w3 h3
      obtain ⟨hb3, a2, c2, rfl, hB2, ho2, hoy⟩ := alls_ok h3 HB.out.2.1
      have hox3 := own_below H2.out.2 hb3
      have hsame := same_true (a := a1) (a' := a2) (n := o.length) (c := c1) (n' := o.length) (c' := c2) (l := o) rfl rfl (by unfold maxLen; omega) (Bs.of_own hox3 hB1) (Bs.of_own hoy hB2)
      have H3 := Lib.hid (And.intro hb3 (And.intro hox3 hoy))
      clear h3 hc2' hb3 hox3 hoy hB1 hB2 ho1 ho2
      go_wp2_with fail
      refine hsame.mono ?_
      rintro e w4 ⟨rfl, d, rfl⟩
      clear hsame
      go_wp2_with fail
      go_ret
      exact ⟨rfl, low_drewN (below_next H1.out (Nat.le_refl _) (below_next H2.out.1 (Nat.le_refl _) H3.out.1)) d⟩
    | error er =>
      by_cases h8 : er = 8
      · subst h8
        have t4 : ((0 : Int) > (s : Int)) = False := by simp
        have t1 : decide ((0 : Int) > (s : Int)) = false := by simp
        cases hB : inflS l (32768 : Int) with
        | ok y =>
          obtain ⟨o, m⟩ := y
          have hlt : s < o.length := by
            rcases HH.out.1 with h | ⟨_, h⟩
            · rw [hA, hB] at h; cases h
            · exact h o m hB
          have hle := HH.out.2.1 o m hB
          have t2 : decide ((o.length : Int) > (32768 : Int)) = false := by simp; omega
          have t5 : decide ((o.length : Int) > (s : Int)) = true := by simp; omega
          have HB := Lib.hid (And.intro hA hB)
          have t6 : decide (s < o.length) = true := by simp; omega
          have t7 : o.length ≤ 32768 := by omega
          clear hlim hsm hG hA hB t4
          go_wp2_with fail
          refine hc1'.mono ?_
          intro e w2 h2
          obtain ⟨hb2, _, rfl⟩ := alls_bad h2 HB.out.1
          have hc2' := hc2 w2 hb2
          have H2 := Lib.hid hb2
          clear h2 hc1' hc1 hc2 hb2
          go_wp2_with fail
          refine hc2'.mono ?_
          intro e w3 h3
          obtain ⟨hb3, a2, c2, rfl, hB2, ho2, hoy⟩ := alls_ok h3 HB.out.2
          have H3 := Lib.hid hb3
          clear h3 hc2' hb3 hoy hB2 ho2
          go_wp2_with fail
          go_ret
          exact ⟨rfl, below_next H1.out (Nat.le_refl _) (below_next H2.out (Nat.le_refl _) H3.out)⟩
        | error er2 =>
          have t2 : decide ((0 : Int) > (32768 : Int)) = false := by simp
          have HB := Lib.hid (And.intro hA hB)
          clear hlim hsm hG hA hB t4
          go_wp2_with fail
          refine hc1'.mono ?_
          intro e w2 h2
          obtain ⟨hb2, _, rfl⟩ := alls_bad h2 HB.out.1
          have hc2' := hc2 w2 hb2
          have H2 := Lib.hid hb2
          clear h2 hc1' hc1 hc2 hb2
          go_wp2_with fail
          refine hc2'.mono ?_
          intro e w3 h3
          obtain ⟨hb3, hne, rfl⟩ := alls_bad h3 HB.out.2
          have t6 : (er2 != 0) = true := by simp [hne]
          have H3 := Lib.hid hb3
          clear h3 hc2' hb3 hne
          go_wp2_with fail
          go_ret
          exact ⟨rfl, below_next H1.out (Nat.le_refl _) (below_next H2.out (Nat.le_refl _) H3.out)⟩
      · have hB : inflS l (32768 : Int) = .error er := by
          rcases HH.out.1 with h | ⟨h, _⟩
          · rw [← h]; exact hA
          · rw [h] at hA; injection hA with hA; exact absurd hA.symm h8
        have t0 : (er == 8) = false := by simp [h8]
        have t1 : decide ((0 : Int) > (s : Int)) = false := by simp
        have t2 : decide ((0 : Int) > (32768 : Int)) = false := by simp
        have t3 : (er == er) = true := by simp
        have HB := Lib.hid (And.intro hA hB)
        clear hlim hsm hG hA hB
        go_wp2_with fail
        refine hc1'.mono ?_
        intro e w2 h2
        obtain ⟨hb2, _, rfl⟩ := alls_bad h2 HB.out.1
        have hc2' := hc2 w2 hb2
        have H2 := Lib.hid hb2
        clear h2 hc1' hc1 hc2 hb2
        go_wp2_with fail
        refine hc2'.mono ?_
        intro e w3 h3
        obtain ⟨hb3, _, rfl⟩ := alls_bad h3 HB.out.2
        have hsame := same_true (w := w3) (B := 0) (B' := 0) (a := none) (a' := none) (n := 0) (c := 0) (n' := 0) (c' := 0) (l := []) rfl rfl (by unfold maxLen; simp) (Bs.nil_ _ _ _) (Bs.nil_ _ _ _)
        have H3 := Lib.hid hb3
        clear h3 hc2' hb3
        go_wp2_with fail
        refine hsame.mono ?_
        rintro e w4 ⟨rfl, d, rfl⟩
        clear hsame
        go_wp2_with fail
        go_ret
        exact ⟨rfl, low_drewN (below_next H1.out (Nat.le_refl _) (below_next H2.out (Nat.le_refl _) H3.out)) d⟩
set_option maxHeartbeats 8000000 in
theorem limits_sum (w : World) (a : Option Addr) (n c : Nat) (l : List Int) (hn : l.length = n) (hm : n ≤ 140737488351232) (hb : Bs w w.heap.size a l) (lim more : Nat) (h1 : lim ≤ 65535) (h2 : more ≤ 65535) (s g : Nat) (hs1 : (lim : Int).tmod 32769 = (s : Int)) (hs3 : s ≤ 32768) (hsg : s ≤ g) (hg : g ≤ 32768) (hover : ¬ (32768 : Int) < (s : Int) + (more : Int)) (hge : g = s + more) (hord : Ord w) :
    Calls Tryd.prog 5 #[.slice a n c, .int .u16 lim, .int .u16 more] w fun e w' => e = .returned (.bool true) ∧ Below w.heap.size w w' := by
  have hfx := fixed6 w hord
  have H0 := Lib.hid (And.intro hord hb)
  clear hord hb
  go_enter Tryd.func5, Tryd.ntmps5
  go_wp2_with fail
  refine hfx.mono ?_
  rintro e w1 ⟨rfl, hb1⟩
  have H1 := Lib.hid hb1
  clear hfx hb1
  by_cases hlong : 6000 < n
  · have hd : decide ((n : Int) > 6000) = true := by simp; omega
    go_wp2_with fail
    go_ret
    exact ⟨rfl, H1.out⟩
  · have hd : decide ((n : Int) > 6000) = false := by simp; omega
    have hc1 := fun w' (hw : Below w1.heap.size w1 w') => all_is (w := w') a n c l hn (by omega) ((((H0.out.2.below H1.out).more H1.out.size).below hw).more hw.size) (s : Int) (by omega) ((H0.out.1.below H1.out).below hw)
    have hc2 := fun w' (hw : Below w1.heap.size w1 w') => all_is (w := w') a n c l hn (by omega) ((((H0.out.2.below H1.out).more H1.out.size).below hw).more hw.size) ((s : Int) + (more : Int)) (by omega) ((H0.out.1.below H1.out).below hw)
    have hc1' := hc1 w1 (Below.refl _ _)
    have hd2 : decide ((32768 : Int) < (s : Int) + (more : Int)) = false := by simp; omega
    have hG : ((s : Int) + (more : Int)) = (g : Int) := by omega
    have hlim := inflS_lim l hsg hg
    rw [← hG] at hlim
    have hsm := fun o m h => inflS_small (l := l) (s := g) hg (o := o) (n := m) h
    rw [← hG] at hsm
    have HH := Lib.hid (And.intro hlim (And.intro hsm hG))
    cases hA : inflS l (s : Int) with
    | ok x =>
      obtain ⟨o, m⟩ := x
      have hB : inflS l ((s : Int) + (more : Int)) = .ok (o, m) := by
        rcases HH.out.1 with h | ⟨h, _⟩
        · rw [← h]; exact hA
        · rw [h] at hA; cases hA
      have ho := inflS_small l hs3 hA
      have t1 : decide ((o.length : Int) > (s : Int)) = false := by simp; omega
      have t3 : ((m : Int) == (m : Int)) = true := by simp
      have t2 : decide ((o.length : Int) > ((s : Int) + (more : Int))) = false := by simp; omega
      have HB := Lib.hid (And.intro hA (And.intro hB ho))
      have hle2 : o.length ≤ g := by omega
      have ho' : decide (s < o.length) = false := by simp; omega
      have ho2' : decide (g < o.length) = false := by simp; omega
      have t7 : o.length ≤ s + more := by omega
      clear hlim hsm hG hA hB
      go_wp2_with fail
      refine hc1'.mono ?_
      intro e w2 h2
      obtain ⟨hb2, a1, c1, rfl, hB1, ho1, hox⟩ := alls_ok h2 HB.out.1
      have hc2' := hc2 w2 hb2
      have H2 := Lib.hid (And.intro hb2 hox)
      clear h2 hc1' hc1 hc2 hb2 hox
      go_wp2_with fail
      refine hc2'.mono ?_
      intro e w3 h3
      obtain ⟨hb3, a2, c2, rfl, hB2, ho2, hoy⟩ := alls_ok h3 HB.out.2.1
      have hox3 := own_below H2.out.2 hb3
      have hsame := same_true (a := a1) (a' := a2) (n := o.length) (c := c1) (n' := o.length) (c' := c2) (l := o) rfl rfl (by unfold maxLen; omega) (Bs.of_own hox3 hB1) (Bs.of_own hoy hB2)
      have H3 := Lib.hid (And.intro hb3 (And.intro hox3 hoy))
      clear h3 hc2' hb3 hox3 hoy hB1 hB2 ho1 ho2
      go_wp2_with fail
      refine hsame.mono ?_
      rintro e w4 ⟨rfl, d, rfl⟩
      clear hsame
      go_wp2_with fail
      go_ret
      exact ⟨rfl, low_drewN (below_next H1.out (Nat.le_refl _) (below_next H2.out.1 (Nat.le_refl _) H3.out.1)) d⟩
    | error er =>
      by_cases h8 : er = 8
      · subst h8
        have t4 : ((0 : Int) > (s : Int)) = False := by simp
        have t1 : decide ((0 : Int) > (s : Int)) = false := by simp
        cases hB : inflS l ((s : Int) + (more : Int)) with
        | ok y =>
          obtain ⟨o, m⟩ := y
          have hlt : s < o.length := by
            rcases HH.out.1 with h | ⟨_, h⟩
            · rw [hA, hB] at h; cases h
            · exact h o m hB
          have hle := HH.out.2.1 o m hB
          have t2 : decide ((o.length : Int) > ((s : Int) + (more : Int))) = false := by simp; omega
          have t5 : decide ((o.length : Int) > (s : Int)) = true := by simp; omega
          have HB := Lib.hid (And.intro hA hB)
          have t6 : decide (s < o.length) = true := by simp; omega
          have t7 : o.length ≤ s + more := by omega
          clear hlim hsm hG hA hB t4
          go_wp2_with fail
          refine hc1'.mono ?_
          intro e w2 h2
          obtain ⟨hb2, _, rfl⟩ := alls_bad h2 HB.out.1
          have hc2' := hc2 w2 hb2
          have H2 := Lib.hid hb2
          clear h2 hc1' hc1 hc2 hb2
          go_wp2_with fail
          refine hc2'.mono ?_
          intro e w3 h3
          obtain ⟨hb3, a2, c2, rfl, hB2, ho2, hoy⟩ := alls_ok h3 HB.out.2
          have H3 := Lib.hid hb3
          clear h3 hc2' hb3 hoy hB2 ho2
          go_wp2_with fail
          go_ret
          exact ⟨rfl, below_next H1.out (Nat.le_refl _) (below_next H2.out (Nat.le_refl _) H3.out)⟩
        | error er2 =>
          have t2 : decide ((0 : Int) > ((s : Int) + (more : Int))) = false := by simp; omega
          have HB := Lib.hid (And.intro hA hB)
          clear hlim hsm hG hA hB t4
          go_wp2_with fail
          refine hc1'.mono ?_
          intro e w2 h2
          obtain ⟨hb2, _, rfl⟩ := alls_bad h2 HB.out.1
          have hc2' := hc2 w2 hb2
          have H2 := Lib.hid hb2
          clear h2 hc1' hc1 hc2 hb2
          go_wp2_with fail
          refine hc2'.mono ?_
          intro e w3 h3
          obtain ⟨hb3, hne, rfl⟩ := alls_bad h3 HB.out.2
          have t6 : (er2 != 0) = true := by simp [hne]
          have H3 := Lib.hid hb3
          clear h3 hc2' hb3 hne
          go_wp2_with fail
          go_ret
          exact ⟨rfl, below_next H1.out (Nat.le_refl _) (below_next H2.out (Nat.le_refl _) H3.out)⟩
      · have hB : inflS l ((s : Int) + (more : Int)) = .error er := by
          rcases HH.out.1 with h | ⟨h, _⟩
          · rw [← h]; exact hA
          · rw [h] at hA; injection hA with hA; exact absurd hA.symm h8
        have t0 : (er == 8) = false := by simp [h8]
        have t1 : decide ((0 : Int) > (s : Int)) = false := by simp
        have t2 : decide ((0 : Int) > ((s : Int) + (more : Int))) = false := by simp; omega
        have t3 : (er == er) = true := by simp
        have HB := Lib.hid (And.intro hA hB)
        clear hlim hsm hG hA hB
        go_wp2_with fail
        refine hc1'.mono ?_
        intro e w2 h2
        obtain ⟨hb2, _, rfl⟩ := alls_bad h2 HB.out.1
        have hc2' := hc2 w2 hb2
        have H2 := Lib.hid hb2
        clear h2 hc1' hc1 hc2 hb2
        go_wp2_with fail
        refine hc2'.mono ?_
        intro e w3 h3
        obtain ⟨hb3, _, rfl⟩ := alls_bad h3 HB.out.2
        have hsame := same_true (w := w3) (B := 0) (B' := 0) (a := none) (a' := none) (n := 0) (c := 0) (n' := 0) (c' := 0) (l := []) rfl rfl (by unfold maxLen; simp) (Bs.nil_ _ _ _) (Bs.nil_ _ _ _)
        have H3 := Lib.hid hb3
        clear h3 hc2' hb3
        go_wp2_with fail
        refine hsame.mono ?_
        rintro e w4 ⟨rfl, d, rfl⟩
        clear hsame
        go_wp2_with fail
        go_ret
        exact ⟨rfl, low_drewN (below_next H1.out (Nat.le_refl _) (below_next H2.out (Nat.le_refl _) H3.out)) d⟩
theorem inflatelimits_walk (w : World) (a : Option Addr) (n c : Nat) (l : List Int) (hn : l.length = n) (hm : n ≤ 140737488351232) (hb : Bs w w.heap.size a l) (lim more : Nat) (h1 : lim ≤ 65535) (h2 : more ≤ 65535) (hord : Ord w) :
    Calls Tryd.prog 5 #[.slice a n c, .int .u16 lim, .int .u16 more] w fun e w' => e = .returned (.bool true) ∧ Below w.heap.size w w' := by
  have hs1 : (lim : Int).tmod 32769 = ((lim % 32769 : Nat) : Int) := by rw [Int.tmod_eq_emod_of_nonneg (by omega)]; omega
  by_cases h : 32768 < lim % 32769 + more
  · exact limits_big w a n c l hn hm hb lim more h1 h2 (lim % 32769) 32768 hs1 (by omega) (by omega) (by omega) (by omega) rfl hord
  · exact limits_sum w a n c l hn hm hb lim more h1 h2 (lim % 32769) (lim % 32769 + more) hs1 (by omega) (by omega) (by omega) (by omega) rfl hord
end Go.Proofs.YtpnnfekfoomgaaaDoor
