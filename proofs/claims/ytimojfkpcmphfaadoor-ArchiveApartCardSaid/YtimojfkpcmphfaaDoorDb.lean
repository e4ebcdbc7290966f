/- Where an archive's end record is: contract of endPlace. Condition: the bytes are bytes. -/
import Derived.Test.YtimojfkpcmphfaaDoorDa
set_option linter.unusedVariables false
set_option maxRecDepth 100000
namespace Go.Proofs.YtimojfkpcmphfaaDoor
open Go.RowKit Go.Maps Go.ChangeMaps

/-- does an end record stand there? -/
def endC (l : List Int) (p : Nat) : Prop := numL l ((p : Int) + 20) 2 = (l.length : Int) - 22 - p ∧ kindL l p = 3
instance (l : List Int) (p : Nat) : Decidable (endC l p) := by unfold endC; exact inferInstance
/-- of the first places the last one that has an end record, and how many have one -/
def epS (l : List Int) : Nat → Nat × Nat
  | 0 => (0, 0)
  | k + 1 => if endC l k then (k, (epS l k).2 + 1) else epS l k
theorem epS_le (l : List Int) : ∀ k, (epS l k).1 ≤ k ∧ (epS l k).2 ≤ k
  | 0 => ⟨Nat.le_refl _, Nat.le_refl _⟩
  | k + 1 => by
    have ih := epS_le l k
    unfold epS
    split
    · exact ⟨by show k ≤ k + 1; omega, by show _ + 1 ≤ k + 1; omega⟩
    · omega
section
variable {w : World} {g : Nat} {b : Option Addr} {c : Nat} {l : List Int} {x2 x3 x4 x5 x6 : Value} {B : Nat}
set_option maxHeartbeats 4000000 in
theorem lkEndPlace {mb k : Nat} (h : w.heap[g]? = some (.cells #[.slice b l.length c, .map (some mb), x2, x3, x4, x5, x6] 46 (0, 0))) (hmp : Mp4 w mb k (sigF true true true)) (hc : l.length ≤ c) (hm : l.length ≤ 65536) (hb : Bs w B b l) :
    Calls Tryd.prog 30 #[.pointer (some ⟨g, 0, none⟩)] w fun e w' => e = .returned (.tuple #[.int .i64 ((epS l (l.length - 21)).1 : Nat), .bool ((epS l (l.length - 21)).2 == 1)]) ∧ ∃ d, w' = w.drewN d := by
  have c0 : w.cell? ⟨g, 0, none⟩ = some (.slice b l.length c) := by rw [blk_cell h]; rfl
  have HH := Lib.hid (And.intro h (And.intro hmp hb))
  clear h hmp hb
  obtain ⟨M, hM⟩ : ∃ M : Nat, l.length - 21 = M := ⟨_, rfl⟩
  rw [hM]
  have HM := Lib.hid hM
  clear hM
  go_enter Tryd.func30, Tryd.ntmps30
  go_wp2_with fail
  go_loopw [4, 5, 15] (fun v4 v5 i wr => ∃ q d : Nat, q ≤ M ∧ i = .int .i64 q ∧ v4 = .int .i64 ((epS l q).1 : Nat) ∧ v5 = .int .i64 ((epS l q).2 : Nat) ∧ wr = w.drewN d) (fun _ _ i _ => M - (intOf i).toNat)
  case atStart => exact ⟨0, 0, Nat.zero_le _, rfl, rfl, rfl, rfl⟩
  case round =>
    obtain ⟨q, d, hq, rfl, rfl, rfl, rfl⟩ := hrel
    obtain ⟨hp1, hp2⟩ := epS_le l q
    by_cases hlt : q < M
    · have hq22 : q + 22 ≤ l.length := by have := HM.out; omega
      have c0d : (w.drewN d).cell? ⟨g, 0, none⟩ = some (.slice b l.length c) := c0
      have hn1 := lkNum (w := w.drewN d) (g := g) (B := B) HH.out.1 hc hm (HH.out.2.2.below (low_drewN (Below.refl _ _) d)) ((q : Int) + 20) 2 (by omega) (by decide)
      have hk1 := lkKind (w := w.drewN d) (g := g) (B := B) HH.out.1 (HH.out.2.1.blk rfl) hc hm (HH.out.2.2.below (low_drewN (Below.refl _ _) d)) q (by omega)
      have hstep : epS l (q + 1) = if numL l ((q : Int) + 20) 2 = (l.length : Int) - 22 - q ∧ kindL l q = 3 then (q, (epS l q).2 + 1) else epS l q := rfl
      have HS := Lib.hid hstep
      have hd1 : decide ((q : Int) < (l.length : Int) - 22 + 1) = true := by simp; omega
      clear hstep
      generalize numL l ((q : Int) + 20) 2 = N1 at *
      generalize kindL l q = K1 at *
      obtain ⟨P1, hP1⟩ : ∃ P1, (epS l q).1 = P1 := ⟨_, rfl⟩
      obtain ⟨P2, hP2⟩ : ∃ P2, (epS l q).2 = P2 := ⟨_, rfl⟩
      have HP := Lib.hid (And.intro hP1 hP2)
      rw [hP2] at HS
      rw [hP1] at hp1 ⊢
      rw [hP2] at hp2 ⊢
      clear hP1 hP2
      have hwr : (q : Int) < (l.length : Int) - 22 + 1 := by omega
      by_cases e1 : N1 = (l.length : Int) - 22 - q
      · have t1 : (N1 == (l.length : Int) - 22 - q) = true := by simp [e1]
        by_cases e2 : K1 = 3
        · have t2 : ((K1 : Int) == 3) = true := by simp [e2]
          have hS : epS l (q + 1) = (q, P2 + 1) := by rw [HS.out, if_pos ⟨e1, e2⟩]
          have HS2 := Lib.hid hS
          clear e1 e2 hS
          go_wp2_with fail
          refine hn1.mono ?_
          rintro e w1 ⟨rfl, rfl⟩
          clear hn1
          go_wp2_with fail
          refine hk1.mono ?_
          rintro e w2 ⟨rfl, d2, rfl⟩
          clear hk1
          go_wp2_with fail
          go_roundw
          case rel => exact ⟨q + 1, d + d2, by omega, by go_num, by rw [HS2.out], by rw [HS2.out]; go_num, by simp⟩
          case measure => simp [intOf]; omega
        · have t2 : ((K1 : Int) == 3) = false := by simp; omega
          have hS : epS l (q + 1) = epS l q := by rw [HS.out, if_neg (fun h => e2 h.2)]
          have HS2 := Lib.hid hS
          clear e1 e2 hS
          go_wp2_with fail
          refine hn1.mono ?_
          rintro e w1 ⟨rfl, rfl⟩
          clear hn1
          go_wp2_with fail
          refine hk1.mono ?_
          rintro e w2 ⟨rfl, d2, rfl⟩
          clear hk1
          go_wp2_with fail
          go_roundw
          case rel => exact ⟨q + 1, d + d2, by omega, by go_num, by rw [HS2.out, HP.out.1], by rw [HS2.out, HP.out.2], by simp⟩
          case measure => simp [intOf]; omega
      · have t1 : (N1 == (l.length : Int) - 22 - q) = false := by simp [e1]
        have hS : epS l (q + 1) = epS l q := by rw [HS.out, if_neg (fun h => e1 h.1)]
        have HS2 := Lib.hid hS
        clear e1 hS
        go_wp2_with fail
        refine hn1.mono ?_
        rintro e w1 ⟨rfl, rfl⟩
        clear hn1 hk1
        go_wp2_with fail
        go_roundw
        case rel => exact ⟨q + 1, d, by omega, by go_num, by rw [HS2.out, HP.out.1], by rw [HS2.out, HP.out.2], rfl⟩
        case measure => simp [intOf]; omega
    · obtain rfl : M = q := by omega
      have hd1 : decide ((M : Int) < (l.length : Int) - 22 + 1) = false := by have := HM.out; simp; omega
      have hwr : ¬ (M : Int) < (l.length : Int) - 22 + 1 := by have := HM.out; omega
      have hb : ((((epS l M).2 : Nat) : Int) == 1) = ((epS l M).2 == 1) := by
        by_cases h : (epS l M).2 = 1
        · rw [h]; rfl
        · rw [show ((epS l M).2 == 1) = false by simp [h], show ((((epS l M).2 : Nat) : Int) == 1) = false by simp; omega]
      have HB := Lib.hid hb
      clear hb
      go_wp2_with fail
      go_ret2
      exact ⟨by rw [← HB.out]; rfl, d, rfl⟩
end
end Go.Proofs.YtimojfkpcmphfaaDoor
