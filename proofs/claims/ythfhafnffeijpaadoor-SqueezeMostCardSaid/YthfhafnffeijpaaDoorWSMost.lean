/- The walks of the laws SqueezeMost and SqueezeApart: they return true and turn nothing that was there. Condition: the order of the lengths lies where the program's own text lays it. -/
import Derived.Test.YthfhafnffeijpaaDoorFix7
set_option linter.unusedVariables false
set_option maxRecDepth 100000
namespace Go.Proofs.YthfhafnffeijpaaDoor
open Go.RowKit

theorem most_is (w : World) (n : Nat) (hn : n ≤ 5000) : Calls Tryd.prog 19 #[.int .i64 n] w fun e w' => e = .returned (.int .i64 ((9 * n + 17) / 8 : Nat)) ∧ w' = w := by
  go_enter Tryd.func19, Tryd.ntmps19
  go_wp2_with fail
  go_ret
  exact ⟨by congr 2, rfl⟩
set_option maxHeartbeats 4000000 in
theorem squeezemost_walk (w : World) (a : Option Addr) (n c : Nat) (l : List Int) (hn : l.length = n) (hc : n ≤ c) (hm : c ≤ 140737488351232) (hb : Bs w w.heap.size a l) (hord : Ord w) :
    Calls Tryd.prog 4 #[.slice a n c] w fun e w' => e = .returned (.bool true) ∧ Below w.heap.size w w' := by
  have hfx := fixed7 w hord
  have H0 := Lib.hid hb
  clear hord hb
  go_enter Tryd.func4, Tryd.ntmps4
  go_wp2_with fail
  refine hfx.mono ?_
  rintro e w1 ⟨rfl, hb1⟩
  have H1 := Lib.hid hb1
  clear hfx hb1
  by_cases hlong : 5000 < n
  · have hd : decide ((n : Int) > 5000) = true := by simp; omega
    go_wp2_with fail
    go_ret
    exact ⟨rfl, H1.out⟩
  have hd : decide ((n : Int) > 5000) = false := by simp; omega
  have hq := sqAll w1 a n c l hn hc (by omega) ((H0.out.below H1.out).more H1.out.size)
  go_wp2_with fail
  refine hq.mono ?_
  intro e w2 h2
  obtain ⟨hb2, b, cb, rfl, _⟩ := allq_ok h2 (by omega)
  obtain ⟨hl1, hl2⟩ := bits_most H0.out.1 (by omega)
  generalize (pk (bitsS l)).length = NB at *
  have H2 := Lib.hid (below_next H1.out (Nat.le_refl _) hb2)
  have hmo := most_is w2 n (by omega)
  obtain ⟨M, hM⟩ : ∃ M, (9 * n + 17) / 8 = M := ⟨_, rfl⟩
  rw [hM] at hmo
  rw [hn, hM] at hl1
  have t1 : 0 < NB := by omega
  have t2 : decide (NB ≤ M) = true := by simp; omega
  clear hq h2 hb2 hM hl1 hl2
  go_wp2_with fail
  refine hmo.mono ?_
  rintro e w3 ⟨rfl, rfl⟩
  clear hmo
  go_wp2_with fail
  go_ret
  exact ⟨rfl, H2.out⟩
theorem same_is' {a a' : Option Addr} {n c n' c' : Nat} {l l' : List Int} {w : World} {B B' : Nat} (hn : l.length = n) (hn' : l'.length = n') (hm : l.length ≤ maxLen) (hm' : l'.length ≤ maxLen) (hb : Bs w B a l) (hb' : Bs w B' a' l') :
    Calls Tryd.prog 18 #[.slice a n c, .slice a' n' c'] w fun e w' => e = .returned (.bool (decide (l = l'))) ∧ ∃ d, w' = w.drewN d :=
  (refSame a a' n c n' c' l l' hn hn' hm hm' w B B' hb hb').mono fun e w' ⟨h1, h2⟩ => ⟨by rw [h1]; rfl, h2⟩
set_option maxHeartbeats 4000000 in
theorem squeezeapart_walk (w : World) (a : Option Addr) (n c : Nat) (l : List Int) (hn : l.length = n) (hc : n ≤ c) (hm : c ≤ 140737488351232) (hb : Bs w w.heap.size a l) (a' : Option Addr) (n' c' : Nat) (l' : List Int) (hn' : l'.length = n') (hc' : n' ≤ c') (hm' : c' ≤ 140737488351232) (hb' : Bs w w.heap.size a' l') (hord : Ord w) :
    Calls Tryd.prog 6 #[.slice a n c, .slice a' n' c'] w fun e w' => e = .returned (.bool true) ∧ Below w.heap.size w w' := by
  have hfx := fixed7 w hord
  have H0 := Lib.hid (And.intro hb hb')
  clear hord hb hb'
  go_enter Tryd.func6, Tryd.ntmps6
  go_wp2_with fail
  refine hfx.mono ?_
  rintro e w1 ⟨rfl, hb1⟩
  have H1 := Lib.hid hb1
  clear hfx hb1
  by_cases hlong : 3000 < n
  · have hd : decide ((n : Int) > 3000) = true := by simp; omega
    go_wp2_with fail
    go_ret
    exact ⟨rfl, H1.out⟩
  have hd : decide ((n : Int) > 3000) = false := by simp; omega
  by_cases hlong' : 3000 < n'
  · have hd' : decide ((n' : Int) > 3000) = true := by simp; omega
    go_wp2_with fail
    go_ret
    exact ⟨rfl, H1.out⟩
  have hd' : decide ((n' : Int) > 3000) = false := by simp; omega
  have hq := sqAll w1 a n c l hn hc (by omega) ((H0.out.1.below H1.out).more H1.out.size)
  go_wp2_with fail
  refine hq.mono ?_
  intro e w2 h2
  obtain ⟨hb2, b, cb, rfl, ho2⟩ := allq_ok h2 (by omega)
  obtain ⟨B1, hB1⟩ : ∃ B1, pk (bitsS l) = B1 := ⟨_, rfl⟩
  have hm1 := (bits_most H0.out.1.1 (by omega)).1
  rw [hB1] at hm1 ho2 ⊢
  have hby1 : Bytes B1 := by rw [← hB1]; exact pk_bytes _
  obtain ⟨N1, hN1⟩ : ∃ N1, B1.length = N1 := ⟨_, rfl⟩
  rw [hN1] at hm1 ⊢
  have hw2 := below_next H1.out (Nat.le_refl _) hb2
  have hq' := sqAll w2 a' n' c' l' hn' hc' (by omega) ((H0.out.2.below hw2).more hw2.size)
  have H2 := Lib.hid (And.intro hw2 (And.intro ho2 (And.intro hB1 (And.intro hby1 (And.intro hN1 hm1)))))
  clear hq h2 hb2 hw2 ho2 hB1 hby1 hN1 hm1
  go_wp2_with fail
  refine hq'.mono ?_
  intro e w3 h3
  obtain ⟨hb3, b', cb', rfl, ho3⟩ := allq_ok h3 (by omega)
  obtain ⟨B2, hB2⟩ : ∃ B2, pk (bitsS l') = B2 := ⟨_, rfl⟩
  have hm2 := (bits_most H0.out.2.1 (by omega)).1
  rw [hB2] at hm2 ho3 ⊢
  have hby2 : Bytes B2 := by rw [← hB2]; exact pk_bytes _
  obtain ⟨N2, hN2⟩ : ∃ N2, B2.length = N2 := ⟨_, rfl⟩
  rw [hN2] at hm2 ⊢
  have hw3 := below_next H2.out.1 (Nat.le_refl _) hb3
  have hs1 := same_is' (w := w3) (a := b) (a' := b') (n := N1) (c := cb) (n' := N2) (c' := cb') H2.out.2.2.2.2.1 hN2 (by have := H2.out.2.2.2.2; unfold maxLen; omega) (by unfold maxLen; omega) (Bs.of_own (own_below H2.out.2.1 hb3) H2.out.2.2.2.1) (Bs.of_own ho3 hby2)
  have hs2 := fun d => same_is' (w := w3.drewN d) (a := a) (a' := a') (n := n) (c := c) (n' := n') (c' := c') hn hn' (by unfold maxLen; omega) (by unfold maxLen; omega) (H0.out.1.below (low_drewN hw3 d)) (H0.out.2.below (low_drewN hw3 d))
  have heq : decide (B1 = B2) = decide (l = l') := by
    by_cases h : l = l'
    · have e := H2.out.2.2.1
      rw [h, hB2] at e
      subst e; subst h; simp
    · rw [decide_eq_false h, decide_eq_false]
      intro hp
      refine h (bits_apart H0.out.1.1 H0.out.2.1 (by omega) (by omega) ?_)
      rw [H2.out.2.2.1, hB2]; exact hp
  rw [heq] at hs1
  have H3 := Lib.hid hw3
  generalize decide (l = l') = d0 at *
  clear hq' h3 hb3 hw3 ho3 heq hB2 hm2 hby2 hN2 H2
  have t1 : (d0 == d0) = true := by simp
  go_wp2_with fail
  refine hs1.mono ?_
  rintro e w4 ⟨rfl, d, rfl⟩
  have hs2' := hs2 d
  clear hs1 hs2
  go_wp2_with fail
  refine hs2'.mono ?_
  rintro e w5 ⟨rfl, d2, rfl⟩
  clear hs2'
  go_wp2_with fail
  go_ret
  exact ⟨rfl, low_drewN H3.out _⟩
end Go.Proofs.YthfhafnffeijpaaDoor
