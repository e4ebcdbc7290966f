/- The walk of the law InflateBehind: it returns true and turns nothing that was there. Condition: the order of the lengths lies where the program's own text lays it. -/
import Derived.Test.YtpnnfekfoomgaaaDoorFix6
import Derived.Test.YtpnnfekfoomgaaaDoorSame
import Derived.Test.YtpnnfekfoomgaaaDoorBh
import Derived.Test.YtpnnfekfoomgaaaDoorCut
set_option linter.unusedVariables false
set_option maxRecDepth 100000
namespace Go.Proofs.YtpnnfekfoomgaaaDoor
open Go.RowKit

theorem cut_h (a : Option Addr) (n c : Nat) (l : List Int) (hn : l.length = n) (hc : n ≤ c) (hA : a = none → n = 0 ∧ c = 0) (hi : Nat) (h2 : hi ≤ n) :
    ∃ a' c', (∀ W, (Instr.sliceAt 22 (.slice a n c) none (some (.int .i64 hi)) none).run Tryd.prog W = .ok (.slice a' hi c') W) ∧ (∀ W, (Instr.slice 22 (.slice a n c) none (some (.int .i64 hi)) none).run Tryd.prog W = .ok (.slice a' hi c') W) ∧
      (∀ W B, Bs W B a l → Bs W B a' (l.take hi)) ∧ hi ≤ c' ∧ c' ≤ c ∧ (a' = none → hi = 0 ∧ c' = 0) := by
  subst hn
  have hr : ∀ W, (Instr.slice 22 (.slice a l.length c) none (some (.int .i64 hi)) none).run Tryd.prog W = .ok (.slice (if c = 0 then a else a.map (·.add (0 * 1))) hi (c - 0)) W := fun W => by
    rw [run_slice_h W 22 a l.length c elem_u8 .i64 hi (by omega) (by omega), sized_u8]
    simp [Result.andThen, sliced]
  refine ⟨_, c - 0, fun W => ?_, hr, fun W B hb => ?_, by omega, by omega, fun h => ?_⟩
  · rw [run_sliceAt_slice _ _ _ _ _ _ elem_u8]; exact hr W
  · have := bs_piece 0 hi (Nat.zero_le _) h2 hc W B hb
    unfold cutOf at this
    simpa using this
  · have : a = none := by
      cases a with
      | none => rfl
      | some x => split at h <;> simp at h
    have := hA this
    omega
theorem same_true' {a a' : Option Addr} {n c n' c' : Nat} {l : List Int} {w : World} {B B' : Nat} (hn : l.length = n) (hn' : l.length = n') (hm : l.length ≤ maxLen) (hb : Bs w B a l) (hb' : Bs w B' a' l) :
    Calls Tryd.prog 14 #[.slice a n c, .slice a' n' c'] w fun e w' => e = .returned (.bool true) ∧ ∃ d, w' = w.drewN d :=
  (refSame a a' n c n' c' l l hn hn' hm hm w B B' hb hb').mono fun e w' ⟨h1, h2⟩ => ⟨by rw [h1]; simp [eqB], h2⟩

set_option maxHeartbeats 8000000 in
theorem inflatebehind_walk (w : World) (a : Option Addr) (n c : Nat) (l : List Int) (hn : l.length = n) (hc : n ≤ c) (hA : a = none → c = 0) (hm : c ≤ 140737488351232) (hb : Bs w w.heap.size a l)
    (a2 : Option Addr) (n2 c2 : Nat) (l2 : List Int) (hn2 : l2.length = n2) (hc2 : n2 ≤ c2) (hA2 : a2 = none → c2 = 0) (hm2 : c2 ≤ 140737488351232) (hb2 : Bs w w.heap.size a2 l2) (k : Nat) (hk : k ≤ 65535) (hord : Ord w) :
    Calls Tryd.prog 4 #[.slice a n c, .slice a2 n2 c2, .int .u16 k] w fun e w' => e = .returned (.bool true) ∧ Below w.heap.size w w' := by
  have hfx := fixed6 w hord
  have hA' : a = none → n = 0 ∧ c = 0 := fun h => by have := hA h; omega
  have hA2' : a2 = none → n2 = 0 ∧ c2 = 0 := fun h => by have := hA2 h; omega
  have H0 := Lib.hid (And.intro hord (And.intro hb (And.intro hb2 (And.intro hA' hA2'))))
  clear hord hb hb2 hA hA2 hA' hA2'
  go_enter Tryd.func4, Tryd.ntmps4
  go_wp2_with fail
  refine hfx.mono ?_
  rintro e w1 ⟨rfl, hb1⟩
  have H1 := Lib.hid hb1
  clear hfx hb1
  by_cases hlong : 6000 < n
  · have hd : decide ((n : Int) > 6000) = true := by simp; omega
    go_wp2_with fail
    go_ret
    exact ⟨rfl, H1.out⟩
  have hd : decide ((n : Int) > 6000) = false := by simp; omega
  by_cases hlong2 : 6000 < n2
  · have hd2 : decide ((n2 : Int) > 6000) = true := by simp; omega
    go_wp2_with fail
    go_ret
    exact ⟨rfl, H1.out⟩
  have hd2 : decide ((n2 : Int) > 6000) = false := by simp; omega
  have hbs1 := (H0.out.2.1.below H1.out).more H1.out.size
  have hbs21 := (H0.out.2.2.1.below H1.out).more H1.out.size
  have hord1 := H0.out.1.below H1.out
  have hc1 := all_is (w := w1) a n c l hn (by omega) hbs1 5000 (by omega) hord1
  have HB1 := Lib.hid (And.intro hbs1 (And.intro hbs21 hord1))
  clear hbs1 hbs21 hord1
  cases hA : inflS l 5000 with
  | error er =>
    have HE := Lib.hid hA
    clear hA
    go_wp2_with fail
    refine hc1.mono ?_
    intro e w2 h2
    obtain ⟨hb2, hne, rfl⟩ := alls_bad h2 HE.out
    have t1 : (er != 0) = true := by simp [hne]
    have H2 := Lib.hid hb2
    clear h2 hc1 hb2 hne
    go_wp2_with fail
    go_ret
    exact ⟨rfl, below_next H1.out (Nat.le_refl _) H2.out⟩
  | ok x =>
    obtain ⟨o, m⟩ := x
    obtain ⟨u1, u2⟩ := inflS_used hA
    have hmn : m ≤ n := by omega
    have ag : Ag l (l.take m ++ l2) m := ⟨u2, by simp; omega, by rw [List.take_append_of_le_length (by simp; omega), List.take_take, Nat.min_self]⟩
    have hB := inflS_behind ag hA
    obtain ⟨q, hq, hqm⟩ : ∃ q : Nat, (k : Int).tmod m = q ∧ q < m := ⟨k % m, by rw [Int.tmod_eq_emod_of_nonneg (by omega)]; omega, Nat.mod_lt _ (by omega)⟩
    have hC := inflS_cut hA hqm
    obtain ⟨a3, c3, r3, r3', b3, hc3, hc3', n3⟩ := cut_h a n c l hn hc H0.out.2.2.2.1 m hmn
    obtain ⟨a4, c4, r4, r4', b4, hc4, hc4', n4⟩ := cut_h a n c l hn hc H0.out.2.2.2.1 q (by omega)
    have hm0 : ((m : Int) == 0) = false := by simp; omega
    have HE := Lib.hid (And.intro hA (And.intro hB (And.intro hC (And.intro b3 b4))))
    have N3 := Lib.hid n3
    have N4 := Lib.hid n4
    clear hA hB hC ag b3 b4 n3 n4
    go_wp2_with fail
    refine hc1.mono ?_
    intro e w2 h2
    obtain ⟨hb2, ax, cx, rfl, hBx, hox, hx⟩ := alls_ok h2 HE.out.1
    have bs3 := HE.out.2.2.2.1 w2 _ ((HB1.out.1.below hb2).more hb2.size)
    have bs2 := (HB1.out.2.1.below hb2).more hb2.size
    have hl3 : (l.take m).length = m := by simp; omega
    have H2 := Lib.hid (And.intro hb2 hx)
    clear h2 hc1 hb2 hx
    have HL3 := Lib.hid hl3
    clear hl3
    have t1 : decide (m < 1) = false := by simp; omega
    have t2 : decide (n < m) = false := by simp; omega
    go_wp2_with (first
      | (at_builtin; refine wpList_app rfl _ _ rfl w2.heap.size (.slice (some ⟨w2.heap.size, 0, none⟩) 0 0) 0 [] rfl (World.ownsRow_lit w2 #[] 0 (Nat.le_refl _) (by decide) rfl) w2.heap.size a3 m c3 (l.take m) rfl HL3.out (bs3.alloc (Nat.le_refl _) _) N3.out (by omega) (by simp) ?_; intro v5 w5 o5 g5; rw [Nat.zero_add] at o5; obtain ⟨a5, c5, rfl⟩ := own_shape o5; have h5 : Below w2.heap.size w2 w5 := ((Below.refl w2.heap.size w2).alloc (Nat.le_refl _) _).grown g5 (by simp) (fun k hk => by simp [Value.ownBlock] at hk; omega); have bb5 := (bs2.below h5))
      | (at_builtin; refine wpList_app rfl _ _ rfl w2.heap.size (.slice a5 m c5) m ([] ++ l.take m) rfl o5 w2.heap.size a2 n2 c2 l2 rfl hn2 bb5 H0.out.2.2.2.2 (by omega) h5.size ?_; intro v6 w6 o6 g6; obtain ⟨a6, c6, rfl⟩ := own_shape o6; have h6 : Below w2.heap.size w2 w6 := h5.grown g6 h5.size (fun k hk => (o5.lt k hk).1)))
    have hlen6 : (l.take m ++ l2).length = m + n2 := by rw [List.length_append, HL3.out, hn2]
    have bs6 : Bs w6 w6.heap.size a6 (l.take m ++ l2) := Bs.of_own (own_cast (n' := (l.take m ++ l2).length) o6 hlen6.symm (by simp)) (bs3.1.app bs2.1)
    have hc2 := all_is (w := w6) a6 (m + n2) c6 (l.take m ++ l2) hlen6 (by omega) bs6 5000 (by omega) ((HB1.out.2.2.below H2.out.1).below h6)
    have H6 := Lib.hid h6
    clear o6 g6 o5 g5 h5 bb5 h6 bs3 bs2 hlen6 bs6
    refine hc2.mono ?_
    intro e w7 h7
    obtain ⟨hb7, ay, cy, rfl, hBy, hoy, hy⟩ := alls_ok h7 HE.out.2.1
    have h27 := below_next H6.out (Nat.le_refl _) hb7
    have h17 := below_next H2.out.1 (Nat.le_refl _) h27
    have bs4 := HE.out.2.2.2.2 w7 _ ((HB1.out.1.below h17).more h17.size)
    have hl4 : (l.take q).length = q := by simp; omega
    have hc3 := all_is (w := w7) a4 q c4 (l.take q) hl4 (by omega) bs4 5000 (by omega) (HB1.out.2.2.below h17)
    have H7 := Lib.hid (And.intro h17 (And.intro (own_below H2.out.2 h27) hy))
    clear h7 hb7 hc2 h27 h17 bs4 hl4 hy
    go_wp2_with fail
    refine hc3.mono ?_
    intro e w8 h8
    obtain ⟨hb8, _, rfl⟩ := alls_bad h8 HE.out.2.2.1
    have hsame := same_true' (a := ax) (a' := ay) (n := o.length) (c := cx) (n' := o.length) (c' := cy) (l := o) (w := w8) rfl rfl (by unfold maxLen; omega) (Bs.of_own (own_below H7.out.2.1 hb8) hBx) (Bs.of_own (own_below H7.out.2.2 hb8) hBy)
    have t3 : ((m : Int) == (m : Int)) = true := by simp
    have H8 := Lib.hid (below_next H7.out.1 (Nat.le_refl _) hb8)
    clear h8 hb8 hc3
    go_wp2_with fail
    refine hsame.mono ?_
    rintro e w9 ⟨rfl, d, rfl⟩
    clear hsame
    go_wp2_with fail
    go_ret
    exact ⟨rfl, low_drewN (below_next H1.out (Nat.le_refl _) H8.out) d⟩
end Go.Proofs.YtpnnfekfoomgaaaDoor
