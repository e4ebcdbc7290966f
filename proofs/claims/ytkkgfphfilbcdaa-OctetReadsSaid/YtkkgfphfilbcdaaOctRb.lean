/- The pieces that package octet's reader answers: a contract. Condition: the numbers fit their kinds. -/
import Derived.Test.YtkkgfphfilbcdaaOctRn
set_option linter.unusedVariables false
namespace Go.Proofs.Ytkkgfphfilbcdaa
open Go.RowKit

theorem drewN_low {B n : Nat} {a w : World} (h : Below B (a.drewN n) w) : Below B a w := ⟨h.os, h.tape, h.output, h.size, h.block⟩
theorem own_other {w : World} {base g : Nat} {t : TypeId} {v : Value} {n k : Nat} {xs : List Value} (h : w.ownsRow base t k v n xs) (hne : v.ownBlock ≠ some g) (o : Nat) (u : Value) : (w.setCell ⟨g, o, none⟩ u).ownsRow base t k v n xs :=
  h.kept (only_set (only_refl g w) o u) (.inr hne)
set_option maxHeartbeats 1600000 in
theorem rdBytes {w : World} {g : Nat} {l : List Int} {p : Nat} {bad : Bool} (n : Int) (hn : -9223372036854775808 ≤ n ∧ n ≤ 9223372036854775807) (h : Rd w g l p bad) :
    Calls Try.prog 44 #[.pointer (some ⟨g, 0, none⟩), .int .i64 n] w fun e w' => MadeBy g w (piecesOf l p bad n) e w' ∧ Rd w' g l (stepP p (canB l p bad (decide (0 ≤ n)) n) n) (!canB l p bad (decide (0 ≤ n)) n) := by
  by_cases hneg : n < 0
  · have ht : canB l p bad (decide (0 ≤ n)) n = false := by simp [canB]; intro _ h0; omega
    have hv : piecesOf l p bad n = [] := by simp [piecesOf, ht]
    rw [hv, ht]
    have hh := rdHas (fit := false) n hn h
    have e3 : canB l p bad false n = false := by simp [canB]
    rw [e3] at hh
    have HH := Lib.hid hh; clear hh ht hv e3
    have hd : decide (0 ≤ n) = false := by simp; omega
    go_enter Try.func44, Try.ntmps44
    go_wp2_with fail
    refine HH.out.mono ?_; rintro e w1 ⟨rfl, hr, ho⟩
    go_wp2_with fail
    go_ret
    exact ⟨⟨none, 0, rfl, Nat.le_refl _, Bs.nil_ _ _ _, ho⟩, by simpa [stepP] using hr⟩
  · have hpos : (0 : Int) ≤ n := by omega
    have hh := rdHas (fit := true) n hn h
    have e0 : decide (0 ≤ n) = true := by simp [hpos]
    rw [e0]
    cases ht : canB l p bad true n with
    | false =>
      have hv : piecesOf l p bad n = [] := by simp [piecesOf, e0, ht]
      rw [hv]
      rw [ht] at hh
      have HH := Lib.hid hh; clear hh ht hv
      go_enter Try.func44, Try.ntmps44
      go_wp2_with fail
      refine HH.out.mono ?_; rintro e w1 ⟨rfl, hr, ho⟩
      go_wp2_with fail
      go_ret
      exact ⟨⟨none, 0, rfl, Nat.le_refl _, Bs.nil_ _ _ _, ho⟩, by simpa [stepP] using hr⟩
    | true =>
      have hv : piecesOf l p bad n = piece l p n := by simp [piecesOf, e0, ht]
      rw [hv]
      rw [ht] at hh
      have hcan : bad = false ∧ n + p ≤ l.length := by simpa [canB, Bool.and_eq_true, and_assoc] using ht
      obtain ⟨rfl, hle⟩ := hcan
      have HH := Lib.hid hh; clear hh ht hv
      obtain ⟨m, rfl⟩ := Int.eq_ofNat_of_zero_le hpos
      go_enter Try.func44, Try.ntmps44
      go_wp2_with fail
      refine HH.out.mono ?_; rintro e wa ⟨rfl, hr, ho⟩
      obtain ⟨a, c, hh, hlc, hc, hbs, hp⟩ := hr
      have k0 : wa.cell? ⟨g, 0, none⟩ = some (.slice a l.length c) := blk_cell hh 0
      have k1 : wa.cell? ⟨g, 1, none⟩ = some (.int .i64 p) := blk_cell hh 1
      have f1 := blk_free hh 1
      have lg := blk_lt hh
      have HS2 := Lib.hid hh
      have HO := Lib.hid ho
      have PB : Bytes (piece l p m) := (hbs.1.drop _).take _
      have hpl : (piece l p m).length = m := by rw [piece_len] <;> omega
      have HHP := Lib.hid hpl
      clear hh ho hpl HH h e0
      have hw0 : IntKind.i64.wrap ((p : Int) + m) = (p : Int) + m := IntWalk.i64_in _ (by omega)
      have hw1 : IntKind.i64.wrap (p : Int) = p := IntWalk.i64_in _ (by omega)
      have hw2 : (0 : Int) ≤ (p : Int) + m := by omega
      have hw3 : (p : Int) + m ≤ c := by omega
      have hw4 : max ((p : Int) + m) 0 = (p : Int) + m := by omega
      have hw5 : ((p : Int) + m).toNat = p + m := by omega
      have hw6 : (0 : Int) ≤ p := by omega
      have hw7 : (p : Int) ≤ (p : Int) + m := by omega
      have hw9 : p + m - p = m := by omega
      have hcl : ∀ (A : Option Addr) (C : Nat) (W : World), Bs W W.heap.size A (piece l p m) → Calls Try.prog 59 #[.slice A m C] W (Made W (piece l p m)) := fun A C W hB => octClone A m C _ HHP.out (by omega) W hB
      have HCL := Lib.hid hcl; clear hcl
      by_cases hm0 : 0 < m
      · obtain ⟨b, off, rfl, hbl, _⟩ := hbs.at_ (i := p) (by omega)
        have hcut : Bs wa wa.heap.size (some ⟨b, off + p, none⟩) (piece l p m) := (hbs.cut p m (by omega)).more (Nat.le_of_lt lg)
        have hw8 : ¬ c = p := by omega
        go_wp2_with fail
        go_region_held3 (fun w' => w'.cell? ⟨g, 0, none⟩ = some (.slice (some ⟨b, off, none⟩) l.length c) ∧ w'.cell? ⟨g, 1, none⟩ = some (.int .i64 (p : Int)))
          (first | go_keep | (go_split_ands; refine ⟨?_, ?_⟩; (rw [hb1.cell (p := ⟨g, 0, none⟩) lg]; assumption); (rw [hb1.cell (p := ⟨g, 1, none⟩) lg]; assumption)))
          (first | (go_at_call 59; refine (HCL.out _ _ _ (hcut.drewN 1)).mono ?_; rintro e w1 ⟨a1, c1, rfl, hown1, hb1⟩))
        have hh1 : w1.heap[g]? = some (.cells #[.slice (some ⟨b, off, none⟩) l.length c, .int .i64 (p : Int), .bool false] 73 (0, 0)) := (hb1.block g lg).trans HS2.out
        have q1 : w1.cell? ⟨g, 1, none⟩ = some (.int .i64 p) := blk_cell hh1 1
        have q2 := blk_free hh1 1
        have hcap := own_cap hown1
        have hne : ∀ k, (Value.slice a1 (piece l p m).length c1).ownBlock = some k → k ≠ g := fun k e => by have h1 := (hown1.lt k e).1; have h2 : wa.heap.size ≤ k := (by simpa using h1); omega
        have hbs1 := Bs.of_own (own_other (g := g) hown1 (fun e => hne g e rfl) 1 (.int .i64 ((p : Int) + m))) PB
        have hoB : Only g wa w1 := below_only (drewN_low (n := 1) hb1)
        have hlt1 := blk_lt hh1
        have HQ := Lib.hid hh1
        have HB1 := Lib.hid hbs1
        have HOB := Lib.hid hoB
        clear hown1 hcut hbs1 hh1 hoB k0 k1 f1
        go_wp2
        go_ret
        have hst : ((stepP p true (m : Int) : Nat) : Int) = p + m := by simp [stepP]
        refine ⟨⟨a1, c1, by simp, hcap.1, HB1.out, only_trans HO.out (only_trans HOB.out (only_set (only_refl _ _) _ _))⟩, rd_mk (w := wa) ?_ hlc hc hbs (only_trans HOB.out (only_set (only_refl _ _) _ _)) (Nat.le_of_lt lg) (by omega)⟩
        rw [hst]
        simpa using blk_set HQ.out 1 (.int .i64 ((p : Int) + m))
      · cases a with
        | none =>
          have hl1 : l.length ≤ 0 := by
            rcases Nat.eq_zero_or_pos l.length with h0 | h0
            · omega
            · obtain ⟨b, off, e, _⟩ := hbs.2 h0; cases e
          have hm1 : m ≤ 0 := by omega
          have hp0 : piece l (p : Int) (m : Int) = [] := by simp [piece]; omega
          have HP0 := Lib.hid hp0; clear hp0
          have hcut : Bs wa wa.heap.size none (piece l p m) := by rw [HP0.out]; exact Bs.nil_ _ _ _
          go_wp2_with fail
          go_region_held3 (fun w' => w'.cell? ⟨g, 0, none⟩ = some (.slice none l.length c) ∧ w'.cell? ⟨g, 1, none⟩ = some (.int .i64 (p : Int)))
            (first | go_keep | (go_split_ands; refine ⟨?_, ?_⟩; (rw [hb1.cell (p := ⟨g, 0, none⟩) lg]; assumption); (rw [hb1.cell (p := ⟨g, 1, none⟩) lg]; assumption)))
            (first | (go_at_call 59; refine (HCL.out _ _ _ (hcut.drewN 1)).mono ?_; rintro e w1 ⟨a1, c1, rfl, hown1, hb1⟩))
          have hh1 : w1.heap[g]? = some (.cells #[.slice none l.length c, .int .i64 (p : Int), .bool false] 73 (0, 0)) := (hb1.block g lg).trans HS2.out
          have q1 : w1.cell? ⟨g, 1, none⟩ = some (.int .i64 p) := blk_cell hh1 1
          have q2 := blk_free hh1 1
          have hcap := own_cap hown1
          have hne : ∀ k, (Value.slice a1 (piece l p m).length c1).ownBlock = some k → k ≠ g := fun k e => by have h1 := (hown1.lt k e).1; have h2 : wa.heap.size ≤ k := (by simpa using h1); omega
          have hbs1 := Bs.of_own (own_other (g := g) hown1 (fun e => hne g e rfl) 1 (.int .i64 ((p : Int) + m))) PB
          have hoB : Only g wa w1 := below_only (drewN_low (n := 1) hb1)
          have hlt1 := blk_lt hh1
          have HQ := Lib.hid hh1
          have HB1 := Lib.hid hbs1
          have HOB := Lib.hid hoB
          clear hown1 hcut hbs1 hh1 hoB k0 k1 f1
          go_wp2
          go_ret
          have hst : ((stepP p true (m : Int) : Nat) : Int) = p + m := by simp [stepP]
          refine ⟨⟨a1, c1, by simp, hcap.1, HB1.out, only_trans HO.out (only_trans HOB.out (only_set (only_refl _ _) _ _))⟩, rd_mk (w := wa) ?_ hlc hc hbs (only_trans HOB.out (only_set (only_refl _ _) _ _)) (Nat.le_of_lt lg) (by omega)⟩
          rw [hst]
          simpa using blk_set HQ.out 1 (.int .i64 ((p : Int) + m))
        | some ad =>
          by_cases hcp : c = p
          · have hcp1 : c ≤ p := by omega
            have hcp2 : p ≤ c := by omega
            clear hcp
            have hm1 : m ≤ 0 := by omega
            have hp0 : piece l (p : Int) (m : Int) = [] := by simp [piece]; omega
            have HP0 := Lib.hid hp0; clear hp0
            have hcut : Bs wa wa.heap.size (some ad) (piece l p m) := by rw [HP0.out]; exact Bs.nil_ _ _ _
            have hw8 : (if c = p then some ad else some (ad.add p)) = some ad := if_pos (by omega)
            go_wp2_with fail
            go_region_held3 (fun w' => w'.cell? ⟨g, 0, none⟩ = some (.slice (some ad) l.length c) ∧ w'.cell? ⟨g, 1, none⟩ = some (.int .i64 (p : Int)))
              (first | go_keep | (go_split_ands; refine ⟨?_, ?_⟩; (rw [hb1.cell (p := ⟨g, 0, none⟩) lg]; assumption); (rw [hb1.cell (p := ⟨g, 1, none⟩) lg]; assumption)))
              (first | (go_at_call 59; refine (HCL.out _ _ _ (hcut.drewN 1)).mono ?_; rintro e w1 ⟨a1, c1, rfl, hown1, hb1⟩))
            have hh1 : w1.heap[g]? = some (.cells #[.slice (some ad) l.length c, .int .i64 (p : Int), .bool false] 73 (0, 0)) := (hb1.block g lg).trans HS2.out
            have q1 : w1.cell? ⟨g, 1, none⟩ = some (.int .i64 p) := blk_cell hh1 1
            have q2 := blk_free hh1 1
            have hcap := own_cap hown1
            have hne : ∀ k, (Value.slice a1 (piece l p m).length c1).ownBlock = some k → k ≠ g := fun k e => by have h1 := (hown1.lt k e).1; have h2 : wa.heap.size ≤ k := (by simpa using h1); omega
            have hbs1 := Bs.of_own (own_other (g := g) hown1 (fun e => hne g e rfl) 1 (.int .i64 ((p : Int) + m))) PB
            have hoB : Only g wa w1 := below_only (drewN_low (n := 1) hb1)
            have hlt1 := blk_lt hh1
            have HQ := Lib.hid hh1
            have HB1 := Lib.hid hbs1
            have HOB := Lib.hid hoB
            clear hown1 hcut hbs1 hh1 hoB k0 k1 f1
            go_wp2
            go_ret
            have hst : ((stepP p true (m : Int) : Nat) : Int) = p + m := by simp [stepP]
            refine ⟨⟨a1, c1, by simp, hcap.1, HB1.out, only_trans HO.out (only_trans HOB.out (only_set (only_refl _ _) _ _))⟩, rd_mk (w := wa) ?_ hlc hc hbs (only_trans HOB.out (only_set (only_refl _ _) _ _)) (Nat.le_of_lt lg) (by omega)⟩
            rw [hst]
            simpa using blk_set HQ.out 1 (.int .i64 ((p : Int) + m))
          · have hcp2 : p < c := by omega
            have hm1 : m ≤ 0 := by omega
            have hp0 : piece l (p : Int) (m : Int) = [] := by simp [piece]; omega
            have HP0 := Lib.hid hp0; clear hp0
            have hcut : Bs wa wa.heap.size (some (ad.add p)) (piece l p m) := by rw [HP0.out]; exact Bs.nil_ _ _ _
            have hw8 : ¬ c = p := by omega
            go_wp2_with fail
            go_region_held3 (fun w' => w'.cell? ⟨g, 0, none⟩ = some (.slice (some ad) l.length c) ∧ w'.cell? ⟨g, 1, none⟩ = some (.int .i64 (p : Int)))
              (first | go_keep | (go_split_ands; refine ⟨?_, ?_⟩; (rw [hb1.cell (p := ⟨g, 0, none⟩) lg]; assumption); (rw [hb1.cell (p := ⟨g, 1, none⟩) lg]; assumption)))
              (first | (go_at_call 59; refine (HCL.out _ _ _ (hcut.drewN 1)).mono ?_; rintro e w1 ⟨a1, c1, rfl, hown1, hb1⟩))
            have hh1 : w1.heap[g]? = some (.cells #[.slice (some ad) l.length c, .int .i64 (p : Int), .bool false] 73 (0, 0)) := (hb1.block g lg).trans HS2.out
            have q1 : w1.cell? ⟨g, 1, none⟩ = some (.int .i64 p) := blk_cell hh1 1
            have q2 := blk_free hh1 1
            have hcap := own_cap hown1
            have hne : ∀ k, (Value.slice a1 (piece l p m).length c1).ownBlock = some k → k ≠ g := fun k e => by have h1 := (hown1.lt k e).1; have h2 : wa.heap.size ≤ k := (by simpa using h1); omega
            have hbs1 := Bs.of_own (own_other (g := g) hown1 (fun e => hne g e rfl) 1 (.int .i64 ((p : Int) + m))) PB
            have hoB : Only g wa w1 := below_only (drewN_low (n := 1) hb1)
            have hlt1 := blk_lt hh1
            have HQ := Lib.hid hh1
            have HB1 := Lib.hid hbs1
            have HOB := Lib.hid hoB
            clear hown1 hcut hbs1 hh1 hoB k0 k1 f1
            go_wp2
            go_ret
            have hst : ((stepP p true (m : Int) : Nat) : Int) = p + m := by simp [stepP]
            refine ⟨⟨a1, c1, by simp, hcap.1, HB1.out, only_trans HO.out (only_trans HOB.out (only_set (only_refl _ _) _ _))⟩, rd_mk (w := wa) ?_ hlc hc hbs (only_trans HOB.out (only_set (only_refl _ _) _ _)) (Nat.le_of_lt lg) (by omega)⟩
            rw [hst]
            simpa using blk_set HQ.out 1 (.int .i64 ((p : Int) + m))
end Go.Proofs.Ytkkgfphfilbcdaa
