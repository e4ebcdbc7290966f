/- The document's own fixed lengths: contract of samovarref06.fixed. No condition. -/
import Derived.Test.YthfhafnffeijpaaGreatDoorRs
set_option linter.unusedVariables false
set_option maxRecDepth 100000
namespace Go.Proofs.YthfhafnffeijpaaGreatDoor
open Go.RowKit

/-- the lengths as the document makes them -/
def litAt (i : Nat) : Int := if 144 ≤ i ∧ i < 256 then 9 else if 256 ≤ i ∧ i < 280 then 7 else 8
theorem fixL_at : (List.range 288).map litAt = fixL := by rfl
theorem fix_take (k : Nat) (h : k < 288) : (fixL.take (k + 1)) = fixL.take k ++ [litAt k] := by
  rw [← fixL_at, ← List.map_take, ← List.map_take, List.take_range, List.take_range, Nat.min_eq_left (by omega), Nat.min_eq_left (by omega), List.range_succ, List.map_append]
  rfl
theorem fixD_take (k : Nat) : List.replicate (k + 1) (5 : Int) = List.replicate k 5 ++ [5] := List.replicate_succ'

set_option maxHeartbeats 4000000 in
theorem refFixed (w : World) : Calls Tryz.prog 23 #[] w fun e w' => Below w.heap.size w w' ∧ ∃ v1 v2, e = .returned (.tuple #[v1, v2]) ∧ OwnT 3 .i64 w' w.heap.size v1 fixL ∧ OwnT 3 .i64 w' w.heap.size v2 fixD := by
  go_enter Tryz.func23, Tryz.ntmps23
  go_wp2_with fail
  go_loopw [2, 4] (fun v i wr => ∃ k : Nat, k ≤ 288 ∧ i = .int .i64 k ∧ Hid (OwnT 3 .i64 wr w.heap.size v (fixL.take k) ∧ Below w.heap.size w wr)) (fun _ i _ => 288 - (intOf i).toNat)
  case atStart => exact ⟨0, Nat.zero_le _, rfl, Lib.hid ⟨OwnT.nil _ _, Below.refl _ _⟩⟩
  case round =>
    obtain ⟨k, hk, rfl, H⟩ := hrel
    obtain ⟨⟨a, c, rfl, ho⟩, hb⟩ := H.out
    have hlen : (fixL.take k).length = k := by rw [List.length_take]; exact Nat.min_eq_left hk
    rw [hlen] at ho ⊢
    by_cases hlt : k < 288
    · have hbase := hb.size
      have hx := fix_take k hlt
      have HX := Lib.hid (And.intro hx hb)
      clear hx hb H
      have arm : ∀ {X : Int} {wc : World} {v : Value} {n : Nat}, litAt k = X → wc.ownsRow w.heap.size 3 1 v n ((fixL.take k).map (Value.int .i64) ++ [Value.int .i64 X]) → n = k + 1 → (wr.alloc (.cells #[.int .i64 X] 3)).grownBy wc (Value.slice a k c).ownBlock → OwnT 3 .i64 wc w.heap.size v (fixL.take (k + 1)) ∧ Below w.heap.size w wc := by
        intro X wc v n hX h1 h2 h3
        refine ⟨ownT_mk (n := n) ?_ (by rw [h2, List.length_take]; exact (Nat.min_eq_left (by rw [← fixL_at]; simp; omega)).symm), (HX.out.2.alloc hbase _).grown h3 (by simp; omega) (fun q hq => (ho.lt q hq).1)⟩
        rw [HX.out.1, List.map_append, hX]
        exact h1
      rcases (show (k < 144 ∧ litAt k = 8) ∨ (144 ≤ k ∧ k < 256 ∧ litAt k = 9) ∨ (256 ≤ k ∧ k < 280 ∧ litAt k = 7) ∨ (280 ≤ k ∧ litAt k = 8) by unfold litAt; by_cases h1 : k < 144; { left; exact ⟨h1, by rw [if_neg (by omega), if_neg (by omega)]⟩ }; by_cases h2 : k < 256; { right; left; exact ⟨by omega, h2, by rw [if_pos (by omega)]⟩ }; by_cases h3 : k < 280; { right; right; left; exact ⟨by omega, h3, by rw [if_neg (by omega), if_pos (by omega)]⟩ }; right; right; right; exact ⟨by omega, by rw [if_neg (by omega), if_neg (by omega)]⟩) with ⟨q1, hX⟩ | ⟨q1, q2, hX⟩ | ⟨q1, q2, hX⟩ | ⟨q1, hX⟩
      · go_wp2_with (at_builtin; refine wpList_appG 51 3 (.int .i64 0) 8 Tryz.underlying51 int_info rfl rfl _ _ rfl w.heap.size (.slice a k c) k ((fixL.take k).map (Value.int .i64)) rfl (ho.alloc _) (some ⟨wr.heap.size, 0, none⟩) 1 1 [.int .i64 8] rfl rfl (src_one wr _ _) (by intro u hu; simp at hu; subst hu; rfl) (by simp) (by simp only [maxLen]; omega) (by omega) (by simp; omega) ?_; intro v2 w2 o2 g2 l2; have HA := Lib.hid (arm hX o2 rfl g2); clear o2 g2 l2)
        case roundEnd => exact ⟨⟨k + 1, by omega, by simp, HA⟩, by simp [intOf]; omega⟩
      · go_wp2_with (at_builtin; refine wpList_appG 51 3 (.int .i64 0) 8 Tryz.underlying51 int_info rfl rfl _ _ rfl w.heap.size (.slice a k c) k ((fixL.take k).map (Value.int .i64)) rfl (ho.alloc _) (some ⟨wr.heap.size, 0, none⟩) 1 1 [.int .i64 9] rfl rfl (src_one wr _ _) (by intro u hu; simp at hu; subst hu; rfl) (by simp) (by simp only [maxLen]; omega) (by omega) (by simp; omega) ?_; intro v2 w2 o2 g2 l2; have HA := Lib.hid (arm hX o2 rfl g2); clear o2 g2 l2)
        case roundEnd => exact ⟨⟨k + 1, by omega, by simp, HA⟩, by simp [intOf]; omega⟩
      · go_wp2_with (at_builtin; refine wpList_appG 51 3 (.int .i64 0) 8 Tryz.underlying51 int_info rfl rfl _ _ rfl w.heap.size (.slice a k c) k ((fixL.take k).map (Value.int .i64)) rfl (ho.alloc _) (some ⟨wr.heap.size, 0, none⟩) 1 1 [.int .i64 7] rfl rfl (src_one wr _ _) (by intro u hu; simp at hu; subst hu; rfl) (by simp) (by simp only [maxLen]; omega) (by omega) (by simp; omega) ?_; intro v2 w2 o2 g2 l2; have HA := Lib.hid (arm hX o2 rfl g2); clear o2 g2 l2)
        case roundEnd => exact ⟨⟨k + 1, by omega, by simp, HA⟩, by simp [intOf]; omega⟩
      · go_wp2_with (at_builtin; refine wpList_appG 51 3 (.int .i64 0) 8 Tryz.underlying51 int_info rfl rfl _ _ rfl w.heap.size (.slice a k c) k ((fixL.take k).map (Value.int .i64)) rfl (ho.alloc _) (some ⟨wr.heap.size, 0, none⟩) 1 1 [.int .i64 8] rfl rfl (src_one wr _ _) (by intro u hu; simp at hu; subst hu; rfl) (by simp) (by simp only [maxLen]; omega) (by omega) (by simp; omega) ?_; intro v2 w2 o2 g2 l2; have HA := Lib.hid (arm hX o2 rfl g2); clear o2 g2 l2)
        case roundEnd => exact ⟨⟨k + 1, by omega, by simp, HA⟩, by simp [intOf]; omega⟩
    · have hk' : k = 288 := by omega
      subst hk'
      rw [show ((288 : Nat) : Int) = 288 from rfl]
      rename World => wo
      have ho1 : OwnT 3 .i64 wo w.heap.size (.slice a 288 c) fixL := ⟨a, c, rfl, ho⟩
      have H1 := Lib.hid (And.intro ho1 hb)
      clear ho ho1 hb H hlen
      go_wp2_with fail
      go_loopw [3, 6] (fun v i wr => ∃ j : Nat, j ≤ 32 ∧ i = .int .i64 j ∧ Hid (OwnT 3 .i64 wr wo.heap.size v (List.replicate j 5) ∧ Below wo.heap.size wo wr)) (fun _ i _ => 32 - (intOf i).toNat)
      case atStart => exact ⟨0, Nat.zero_le _, rfl, Lib.hid ⟨OwnT.nil _ _, Below.refl _ _⟩⟩
      case round =>
        obtain ⟨j, hj, rfl, H⟩ := hrel
        obtain ⟨⟨a2, c2, rfl, ho⟩, hb⟩ := H.out
        have hlen : (List.replicate j (5 : Int)).length = j := List.length_replicate
        rw [hlen] at ho ⊢
        by_cases hlt : j < 32
        · have hbase := hb.size
          have HX := Lib.hid hb
          have arm : ∀ {wc : World} {v : Value} {n : Nat}, wc.ownsRow wo.heap.size 3 1 v n ((List.replicate j (5 : Int)).map (Value.int .i64) ++ [Value.int .i64 5]) → n = j + 1 → (wr.alloc (.cells #[.int .i64 5] 3)).grownBy wc (Value.slice a2 j c2).ownBlock → OwnT 3 .i64 wc wo.heap.size v (List.replicate (j + 1) 5) ∧ Below wo.heap.size wo wc := by
            intro wc v n h1 h2 h3
            refine ⟨ownT_mk (n := n) ?_ (by rw [h2, List.length_replicate]), (HX.out.alloc hbase _).grown h3 (by simp; omega) (fun q hq => (ho.lt q hq).1)⟩
            rw [fixD_take, List.map_append]
            exact h1
          clear hb H
          go_wp2_with (at_builtin; refine wpList_appG 51 3 (.int .i64 0) 8 Tryz.underlying51 int_info rfl rfl _ _ rfl wo.heap.size (.slice a2 j c2) j ((List.replicate j (5 : Int)).map (Value.int .i64)) rfl (ho.alloc _) (some ⟨wr.heap.size, 0, none⟩) 1 1 [.int .i64 5] rfl rfl (src_one wr _ _) (by intro u hu; simp at hu; subst hu; rfl) (by simp) (by simp only [maxLen]; omega) (by omega) (by simp; omega) ?_; intro v2 w2 o2 g2 l2; have HA := Lib.hid (arm o2 rfl g2); clear o2 g2 l2)
          case roundEnd => exact ⟨⟨j + 1, by omega, by simp, HA⟩, by simp [intOf]; omega⟩
        · have hj' : j = 32 := by omega
          subst hj'
          have ho2 : OwnT 3 .i64 wr wo.heap.size (.slice a2 32 c2) fixD := ⟨a2, c2, rfl, ho⟩
          have HE := Lib.hid (And.intro ho2 hb)
          clear ho ho2 hb H hlen
          go_wp2_with fail
          go_ret2
          exact ⟨below_next H1.out.2 (Nat.le_refl _) HE.out.2, _, _, rfl, H1.out.1.below HE.out.2, HE.out.1.down H1.out.2.size⟩
end Go.Proofs.YthfhafnffeijpaaGreatDoor
