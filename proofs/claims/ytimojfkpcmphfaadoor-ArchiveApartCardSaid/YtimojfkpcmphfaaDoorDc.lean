/- The end record is read: contract of end. Condition: the bytes are bytes. -/
import Derived.Test.YtimojfkpcmphfaaDoorDb
set_option linter.unusedVariables false
set_option maxRecDepth 100000
namespace Go.Proofs.YtimojfkpcmphfaaDoor
open Go.RowKit Go.Maps Go.ChangeMaps

theorem numL_bd {l : List Int} (hl : Bytes l) (p k : Int) (hk : k ≤ 4) : 0 ≤ numL l p k ∧ numL l p k ≤ 4294967295 := by
  unfold numL O2.LT
  split
  · exact ⟨by decide, by decide⟩
  · split
    · exact ⟨by decide, by decide⟩
    · rename_i h1 h2
      have hlen := O2.piece_len (l := l) (at_ := p) (n := k) (by omega) (by omega)
      have hby : Bytes (O2.piece l p k).reverse := Bytes.reverse ((hl.drop _).take _)
      have hb := O2.big_bd _ hby
      rw [List.length_reverse, hlen] at hb
      obtain ⟨m, rfl⟩ : ∃ m : Nat, k = m := ⟨k.toNat, by omega⟩
      rw [Int.toNat_natCast] at hb
      rw [O2.pow256] at hb
      have hp := pow_mono2 (show 8 * m ≤ 32 by omega)
      have e : (2 : Int) ^ 32 = 4294967296 := by decide
      unfold O2.numW
      show 0 ≤ wrap64 _ ∧ wrap64 _ ≤ _
      unfold wrap64
      omega
/-- what an archive's end tells: where the directory begins and ends, and how many entries it has -/
def endS (l : List Int) : Except Int (Int × Nat × Int) :=
  if (epS l (l.length - 21)).2 ≠ 1 then .error 9 else
  let p := (epS l (l.length - 21)).1
  if numL l ((p : Int) + 4) 2 ≠ 0 ∨ numL l ((p : Int) + 6) 2 ≠ 0 ∨ numL l ((p : Int) + 8) 2 ≠ numL l ((p : Int) + 10) 2 ∨ numL l ((p : Int) + 10) 2 > 64 ∨ numL l ((p : Int) + 16) 4 + numL l ((p : Int) + 12) 4 ≠ p then .error 10
  else .ok (numL l ((p : Int) + 16) 4, p, numL l ((p : Int) + 10) 2)
section
variable {w : World} {g : Nat} {b : Option Addr} {c : Nat} {l : List Int} {x5 x6 : Value} {B : Nat}
set_option maxHeartbeats 4000000 in
theorem lkEnd {mb k : Nat} (h : w.heap[g]? = some (.cells #[.slice b l.length c, .map (some mb), .int .i64 0, .int .i64 0, .int .i64 0, x5, x6] 46 (0, 0))) (hmp : Mp4 w mb k (sigF true true true)) (hc : l.length ≤ c) (hm : l.length ≤ 65536) (hb : Bs w B b l) (hB : B ≤ g) :
    Calls Tryd.prog 17 #[.pointer (some ⟨g, 0, none⟩)] w fun e w' => Only g w w' ∧ ((∃ er, endS l = .error er ∧ er ≠ 0 ∧ e = .returned (.int .i64 er)) ∨ (∃ fr tt ct, endS l = .ok (fr, (tt : Nat), ct) ∧ e = .returned (.int .i64 0) ∧ w'.heap[g]? = some (.cells #[.slice b l.length c, .map (some mb), .int .i64 fr, .int .i64 tt, .int .i64 ct, x5, x6] 46 (0, 0)))) := by
  have hep := lkEndPlace h hmp hc hm hb
  have hle := epS_le l (l.length - 21)
  have hE : endS l = if (epS l (l.length - 21)).2 ≠ 1 then .error 9 else
    if numL l (((epS l (l.length - 21)).1 : Int) + 4) 2 ≠ 0 ∨ numL l (((epS l (l.length - 21)).1 : Int) + 6) 2 ≠ 0 ∨ numL l (((epS l (l.length - 21)).1 : Int) + 8) 2 ≠ numL l (((epS l (l.length - 21)).1 : Int) + 10) 2 ∨ numL l (((epS l (l.length - 21)).1 : Int) + 10) 2 > 64 ∨ numL l (((epS l (l.length - 21)).1 : Int) + 16) 4 + numL l (((epS l (l.length - 21)).1 : Int) + 12) 4 ≠ (epS l (l.length - 21)).1 then .error 10
    else .ok (numL l (((epS l (l.length - 21)).1 : Int) + 16) 4, (epS l (l.length - 21)).1, numL l (((epS l (l.length - 21)).1 : Int) + 10) 2) := rfl
  have hfree := fun i => blk_free h i
  have HH := Lib.hid (And.intro h hb)
  clear h hmp
  generalize (epS l (l.length - 21)).2 = T at *
  generalize (epS l (l.length - 21)).1 = P at *
  have hP : P ≤ 65536 := by omega
  by_cases hT : T = 1
  · have t0 : (T == 1) = true := by simp [hT]
    rw [t0] at hep
    rw [if_neg (by simpa using hT)] at hE
    have hn := fun (d : Nat) (q : Int) (hq : 0 ≤ q ∧ q ≤ 20) (k : Int) (hk : 0 ≤ k ∧ k ≤ 4) => lkNum (w := w.drewN d) (g := g) (B := B) HH.out.1 hc hm (HH.out.2.below (low_drewN (Below.refl _ _) d)) ((P : Int) + q) k (by omega) (by omega)
    have b12 := numL_bd hb.1 ((P : Int) + 12) 4 (by decide)
    have b16 := numL_bd hb.1 ((P : Int) + 16) 4 (by decide)
    have n4 := fun d => hn d 4 (by decide) 2 (by decide)
    have n6 := fun d => hn d 6 (by decide) 2 (by decide)
    have n8 := fun d => hn d 8 (by decide) 2 (by decide)
    have n10 := fun d => hn d 10 (by decide) 2 (by decide)
    have n12 := fun d => hn d 12 (by decide) 4 (by decide)
    have n16 := fun d => hn d 16 (by decide) 4 (by decide)
    clear hn hT t0 hb
    generalize numL l ((P : Int) + 4) 2 = N4 at *
    generalize numL l ((P : Int) + 6) 2 = N6 at *
    generalize numL l ((P : Int) + 8) 2 = N8 at *
    generalize numL l ((P : Int) + 10) 2 = N10 at *
    generalize numL l ((P : Int) + 12) 4 = N12 at *
    generalize numL l ((P : Int) + 16) 4 = N16 at *
    have HE := Lib.hid hE
    clear hE hle
    go_enter Tryd.func17, Tryd.ntmps17
    go_wp2_with fail
    refine hep.mono ?_
    rintro e w1 ⟨rfl, d, rfl⟩
    clear hep
    have n4' := n4 d
    clear n4
    go_wp2_with fail
    refine n4'.mono ?_
    rintro e w1 ⟨rfl, rfl⟩
    clear n4'
    have n6' := n6 d
    clear n6
    go_wp2_with fail
    refine n6'.mono ?_
    rintro e w1 ⟨rfl, rfl⟩
    clear n6'
    have n8' := n8 d
    clear n8
    go_wp2_with fail
    refine n8'.mono ?_
    rintro e w1 ⟨rfl, rfl⟩
    clear n8'
    have n10' := n10 d
    clear n10
    go_wp2_with fail
    refine n10'.mono ?_
    rintro e w1 ⟨rfl, rfl⟩
    clear n10'
    have n12' := n12 d
    clear n12
    go_wp2_with fail
    refine n12'.mono ?_
    rintro e w1 ⟨rfl, rfl⟩
    clear n12'
    have n16' := n16 d
    clear n16
    go_wp2_with fail
    refine n16'.mono ?_
    rintro e w1 ⟨rfl, rfl⟩
    clear n16'
    by_cases a1 : N4 = 0
    · have t1 : (N4 != 0) = false := by simp [a1]
      by_cases a2 : N6 = 0
      · have t2 : (N6 != 0) = false := by simp [a2]
        by_cases a3 : N8 = N10
        · have t3 : (N8 != N10) = false := by simp [a3]
          by_cases a4 : N10 > 64
          · have t4 : decide (N10 > 64) = true := by simp [a4]
            have hEB : endS l = .error 10 := by rw [HE.out]; exact if_pos (.inr (.inr (.inr (.inl a4))))
            have HEB := Lib.hid hEB
            clear a1 a2 a3 a4 hEB
            go_wp2_with fail
            go_ret
            exact ⟨only_of_below (only_refl _ _) (low_drewN (Below.refl _ _) d), .inl ⟨10, HEB.out, by decide, rfl⟩⟩
          · have t4 : decide (N10 > 64) = false := by simp; omega
            by_cases a5 : N16 + N12 = P
            · have t5 : (N16 + N12 != (P : Int)) = false := by simp [a5]
              have hEB : endS l = .ok (N16, P, N10) := by
                rw [HE.out]; exact if_neg (fun h => by
                  rcases h with h | h | h | h | h
                  · exact h a1
                  · exact h a2
                  · exact h a3
                  · exact a4 h
                  · exact h a5)
              have HEB := Lib.hid hEB
              have hH : (w.drewN d).heap[g]? = some (.cells #[.slice b l.length c, .map (some mb), .int .i64 0, .int .i64 0, .int .i64 0, x5, x6] 46 (0, 0)) := HH.out.1
              have q2 : (w.drewN d).cell? ⟨g, 2, none⟩ = some (.int .i64 0) := by rw [blk_cell hH]; rfl
              have q3 : (w.drewN d).cell? ⟨g, 3, none⟩ = some (.int .i64 0) := by rw [blk_cell hH]; rfl
              have q4 : (w.drewN d).cell? ⟨g, 4, none⟩ = some (.int .i64 0) := by rw [blk_cell hH]; rfl
              have f2 := hfree 2
              have f3 := hfree 3
              have f4 := hfree 4
              have k1 := blk_set hH 2 (.int .i64 N16)
              have k2 := blk_set k1 3 (.int .i64 (P : Int))
              have k3 := blk_set k2 4 (.int .i64 N10)
              have HK := Lib.hid k3
              clear a1 a2 a3 a4 a5 hEB k1 k2 k3 hH
              go_wp2_with fail
              go_ret
              exact ⟨only_set (only_set (only_set (only_of_below (only_refl _ _) (low_drewN (Below.refl _ _) d)) _ _) _ _) _ _, .inr ⟨N16, P, N10, HEB.out, rfl, HK.out⟩⟩
            · have t5 : (N16 + N12 != (P : Int)) = true := by simp [a5]
              have hEB : endS l = .error 10 := by rw [HE.out]; exact if_pos (.inr (.inr (.inr (.inr a5))))
              have HEB := Lib.hid hEB
              clear a1 a2 a3 a4 a5 hEB
              go_wp2_with fail
              go_ret
              exact ⟨only_of_below (only_refl _ _) (low_drewN (Below.refl _ _) d), .inl ⟨10, HEB.out, by decide, rfl⟩⟩
        · have t3 : (N8 != N10) = true := by simp [a3]
          have hEB : endS l = .error 10 := by rw [HE.out]; exact if_pos (.inr (.inr (.inl a3)))
          have HEB := Lib.hid hEB
          clear a1 a2 a3 hEB
          go_wp2_with fail
          go_ret
          exact ⟨only_of_below (only_refl _ _) (low_drewN (Below.refl _ _) d), .inl ⟨10, HEB.out, by decide, rfl⟩⟩
      · have t2 : (N6 != 0) = true := by simp [a2]
        have hEB : endS l = .error 10 := by rw [HE.out]; exact if_pos (.inr (.inl a2))
        have HEB := Lib.hid hEB
        clear a1 a2 hEB
        go_wp2_with fail
        go_ret
        exact ⟨only_of_below (only_refl _ _) (low_drewN (Below.refl _ _) d), .inl ⟨10, HEB.out, by decide, rfl⟩⟩
    · have t1 : (N4 != 0) = true := by simp [a1]
      have hEB : endS l = .error 10 := by rw [HE.out]; exact if_pos (.inl a1)
      have HEB := Lib.hid hEB
      clear a1 hEB
      go_wp2_with fail
      go_ret
      exact ⟨only_of_below (only_refl _ _) (low_drewN (Below.refl _ _) d), .inl ⟨10, HEB.out, by decide, rfl⟩⟩
  · have t0 : (T == 1) = false := by simp [hT]
    rw [t0] at hep
    rw [if_pos hT] at hE
    have HE := Lib.hid hE
    clear hE hle hb
    go_enter Tryd.func17, Tryd.ntmps17
    go_wp2_with fail
    refine hep.mono ?_
    rintro e w1 ⟨rfl, d, rfl⟩
    clear hep
    go_wp2_with fail
    go_ret
    exact ⟨only_of_below (only_refl _ _) (low_drewN (Below.refl _ _) d), .inl ⟨9, HE.out, by decide, rfl⟩⟩
end
end Go.Proofs.YtimojfkpcmphfaaDoor
