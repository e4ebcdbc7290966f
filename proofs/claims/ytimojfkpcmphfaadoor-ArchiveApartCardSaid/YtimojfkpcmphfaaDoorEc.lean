/- The document's own archive reader, third part: contract of samovarref09.local. Condition: the bytes are bytes. -/
import Derived.Test.YtimojfkpcmphfaaDoorEb
set_option linter.unusedVariables false
set_option maxRecDepth 100000
namespace Go.Proofs.YtimojfkpcmphfaaDoor
open Go.RowKit Go.Maps Go.ChangeMaps

theorem cut_iff {l : List Int} {x y : Nat} (hx : x + 24 ≤ l.length) (hy : y + 24 ≤ l.length) : cutOf l x (x + 24) = cutOf l y (y + 24) ↔ ∀ i, i < 24 → l.getD (x + i) 0 = l.getD (y + i) 0 := by
  constructor
  · intro h i hi
    have := congrArg (fun z => z.getD i 0) h
    simp only [cutOf, List.getD_eq_getElem?_getD] at this
    rw [List.getElem?_take_of_lt (by omega), List.getElem?_take_of_lt (by omega), List.getElem?_drop, List.getElem?_drop] at this
    rw [List.getD_eq_getElem?_getD, List.getD_eq_getElem?_getD]; exact this
  · intro h
    unfold cutOf
    apply List.ext_getElem?
    intro i
    by_cases hi : i < 24
    · rw [List.getElem?_take_of_lt (by omega), List.getElem?_take_of_lt (by omega), List.getElem?_drop, List.getElem?_drop]
      have := h i hi
      rw [List.getD_eq_getElem?_getD, List.getD_eq_getElem?_getD, List.getElem?_eq_getElem (by omega), List.getElem?_eq_getElem (by omega)] at this
      rw [List.getElem?_eq_getElem (by omega), List.getElem?_eq_getElem (by omega)]
      exact congrArg some this
    · rw [List.getElem?_eq_none (by rw [List.length_take]; omega), List.getElem?_eq_none (by rw [List.length_take]; omega)]
/-- what the document's local answers -/
def locI (l : List Int) (F p : Nat) : Int := match locS l F p with | none => -1 | some a => (a : Nat)
theorem locI_none {l : List Int} {F p : Nat} (h : locS l F p = none) : locI l F p = -1 := by unfold locI; rw [h]
theorem locI_some {l : List Int} {F p a : Nat} (h : locS l F p = some a) : locI l F p = a := by unfold locI; rw [h]
set_option maxHeartbeats 8000000 in
theorem refLocal {w : World} {b : Option Addr} {c : Nat} {l : List Int} {F p : Nat} (hc : l.length ≤ c) (hm : l.length ≤ 65536) (hb : Bs w w.heap.size b l) (hF : F ≤ l.length) (hp : p + szL l p ≤ l.length) :
    Calls Tryd.prog 24 #[.slice b l.length c, .agg (recC l (p, 0)).toArray, .int .i64 p, .int .i64 F] w fun e w' => e = .returned (.int .i64 (locI l F p)) ∧ Below w.heap.size w w' := by
  have hB := hb.1
  have hsz := szL_ge l p
  have hdb := (numL_bd hB ((p : Int) + 42) 4 (by decide)).2
  have hpb := (numL_bd hB ((p : Int) + 20) 4 (by decide)).2
  have hd1 : hdL l p ≤ 4294967295 := by unfold hdL; omega
  have hp1 : pkL l p ≤ 4294967295 := by unfold pkL; omega
  have hnl : (nmT l p).size = nmN l p := by
    unfold nmT
    rw [strOf_size, cutOf_len (by omega)]; omega
  have hLo : locS l F p = if F < hdL l p + 30 ∨ kindL l (hdL l p) ≠ 1 then none
      else if cutOf l (hdL l p + 4) (hdL l p + 28) ≠ cutOf l (p + 6) (p + 30) then none
      else if F < hdL l p + 30 + nmN l p + (numL l ((hdL l p : Int) + 28) 2).toNat + pkL l p ∨ strOfNums (cutOf l (hdL l p + 30) (hdL l p + 30 + nmN l p)) ≠ nmT l p then none
      else some (hdL l p + 30 + nmN l p + (numL l ((hdL l p : Int) + 28) 2).toNat) := rfl
  have hnew := heap_alloc_new w (.cells (recC l (p, 0)).toArray 32)
  have hbl : Below w.heap.size w (w.alloc (.cells (recC l (p, 0)).toArray 32)) := (Below.refl _ _).alloc (Nat.le_refl _) _
  have k0 : (w.alloc (.cells (recC l (p, 0)).toArray 32)).cell? ⟨w.heap.size, 0, none⟩ = some (.string (nmT l p)) := by rw [blk_cell hnew]; rfl
  have k2 : (w.alloc (.cells (recC l (p, 0)).toArray 32)).cell? ⟨w.heap.size, 2, none⟩ = some (.int .i64 (pkL l p)) := by rw [blk_cell hnew]; rfl
  have k6 : (w.alloc (.cells (recC l (p, 0)).toArray 32)).cell? ⟨w.heap.size, 6, none⟩ = some (.int .i64 (hdL l p)) := by rw [blk_cell hnew]; rfl
  have hsz1 : w.heap.size < (w.alloc (.cells (recC l (p, 0)).toArray 32)).heap.size := by simp
  have hb1 := hb.next hbl
  have HLo := Lib.hid hLo
  have hnb : nmN l p ≤ 65536 := by omega
  have hp30 : p + 46 ≤ l.length := by omega
  clear hsz hdb hpb hnew hb hLo hp
  generalize hRC : (recC l (p, 0)).toArray = RC at *
  clear hRC
  have HB := Lib.hid (And.intro hbl (And.intro hb1 hsz1))
  generalize hdL l p = hd at *
  generalize pkL l p = pk at *
  generalize nmN l p = nn at *
  generalize nmT l p = nt at *
  subst hnl
  clear hbl hsz1
  obtain ⟨R, hRR⟩ : ∃ R, locI l F p = R := ⟨_, rfl⟩
  rw [hRR]
  have HRn : Hid (locS l F p = none → R = -1) := Lib.hid (fun h => by rw [← hRR]; exact locI_none h)
  have HRs : Hid (∀ a, locS l F p = some a → R = (a : Nat)) := Lib.hid (fun a h => by rw [← hRR]; exact locI_some h)
  clear hRR
  have hks : ∀ wk, Bs wk wk.heap.size b l → hd + 4 ≤ l.length → Calls Tryd.prog 28 #[.slice b l.length c, .int .i64 hd, .int .u8 3, .int .u8 4] wk fun e w' => e = .returned (.bool (kindL l hd == 1)) ∧ w' = wk := fun wk h1 h => by rw [← sgB_1]; exact refSign hm h1 hd h 3 4
  have HKS := Lib.hid hks
  clear hks
  by_cases h1 : F < hd + 30
  · have hP : R = -1 := HRn.out (by rw [HLo.out, if_pos (.inl h1)])
    have HP := Lib.hid hP
    have t1 : (decide ((hd : Int) > (F : Int)) = true ∧ decide (F < hd) = true) ∨ ((decide ((hd : Int) > (F : Int)) = false ∧ decide (F < hd) = false) ∧ decide ((F : Int) - hd < 30) = true) := by
      by_cases h2 : hd > F
      · exact .inl ⟨by simp; omega, by simp; omega⟩
      · exact .inr ⟨⟨by simp; omega, by simp; omega⟩, by simp; omega⟩
    clear h1 hP
    rcases t1 with ⟨t1, t1'⟩ | ⟨⟨t1, t1'⟩, t2⟩
    all_goals
      go_enter Tryd.func24, Tryd.ntmps24
      go_wp2_with fail
      go_ret
      exact ⟨by rw [HP.out]; rfl, HB.out.1⟩
  · have t1 : decide ((hd : Int) > (F : Int)) = false := by simp; omega
    have t1' : decide (F < hd) = false := by simp; omega
    have t2 : decide ((F : Int) - hd < 30) = false := by simp; omega
    have hk := HKS.out _ hb1 (by omega)
    clear HKS
    obtain ⟨K, hK⟩ : ∃ K, kindL l hd = K := ⟨_, rfl⟩
    rw [hK] at hk HLo
    clear hK
    by_cases h2 : K = 1
    rotate_left
    · have t3 : (K == 1) = false := by simp [h2]
      rw [t3] at hk
      have hP : R = -1 := HRn.out (by rw [HLo.out, if_pos (.inr h2)])
      have HP := Lib.hid hP
      clear h1 h2 hP t3
      go_enter Tryd.func24, Tryd.ntmps24
      go_wp2_with fail
      refine hk.mono ?_
      rintro e w2 ⟨rfl, rfl⟩
      clear hk
      go_wp2_with fail
      go_ret
      exact ⟨by rw [HP.out]; rfl, HB.out.1⟩
    · have t3 : (K == 1) = true := by simp [h2]
      rw [t3] at hk
      have HLo2 : Hid (locS l F p = if cutOf l (hd + 4) (hd + 28) ≠ cutOf l (p + 6) (p + 30) then none
          else if F < hd + 30 + nt.size + (numL l ((hd : Int) + 28) 2).toNat + pk ∨ strOfNums (cutOf l (hd + 30) (hd + 30 + nt.size)) ≠ nt then none
          else some (hd + 30 + nt.size + (numL l ((hd : Int) + 28) 2).toNat)) := Lib.hid (by rw [HLo.out, if_neg (by omega)])
      have hci := cut_iff (l := l) (x := hd + 4) (y := p + 6) (by omega) (by omega)
      rw [show hd + 4 + 24 = hd + 28 by omega, show p + 6 + 24 = p + 30 by omega] at hci
      have HCI := Lib.hid hci
      clear HLo h2 t3 hci
      go_enter Tryd.func24, Tryd.ntmps24
      go_wp2_with fail
      refine hk.mono ?_
      rintro e w2 ⟨rfl, rfl⟩
      clear hk
      generalize w.alloc (.cells RC 32) = w1 at *
      obtain ⟨bb, off, rfl, _, hcell⟩ := hb1.2 (by omega)
      go_wp2_with fail
      go_loopw [9] (fun i wr => ∃ (k d : Nat), k ≤ 24 ∧ i = .int .i64 k ∧ wr = w1.drewN d ∧ Hid (∀ j, j < k → l.getD (hd + 4 + j) 0 = l.getD (p + 6 + j) 0)) (fun i _ => 24 - (intOf i).toNat)
      case atStart => exact ⟨0, 0, by decide, rfl, rfl, Lib.hid (fun j hj => absurd hj (Nat.not_lt_zero j))⟩
      case round =>
        obtain ⟨k, d, hk24, rfl, rfl, HI⟩ := hrel
        have hkb : (k : Int) ≤ 24 := by omega
        by_cases hlt : k < 24
        · obtain ⟨H4, hH4⟩ : ∃ H4, hd + 4 = H4 := ⟨_, rfl⟩
          obtain ⟨P6, hP6⟩ : ∃ P6, p + 6 = P6 := ⟨_, rfl⟩
          obtain ⟨X1, hX1⟩ : ∃ X1, H4 + k = X1 := ⟨_, rfl⟩
          obtain ⟨X2, hX2⟩ : ∃ X2, P6 + k = X2 := ⟨_, rfl⟩
          have a1 : IntKind.i64.wrap ((hd : Int) + 4) = (H4 : Int) := by rw [IntWalk.i64_in _ (by omega)]; omega
          have a2 : IntKind.i64.wrap ((H4 : Int) + (k : Int)) = (X1 : Int) := by rw [IntWalk.i64_in _ (by omega)]; omega
          have a3 : IntKind.i64.wrap ((p : Int) + 6) = (P6 : Int) := by rw [IntWalk.i64_in _ (by omega)]; omega
          have a4 : IntKind.i64.wrap ((P6 : Int) + (k : Int)) = (X2 : Int) := by rw [IntWalk.i64_in _ (by omega)]; omega
          have d1 := hcell X1 (by omega)
          have d2 := hcell X2 (by omega)
          have hx1 : X1 < l.length := by omega
          have hx2 : X2 < l.length := by omega
          have HX := Lib.hid (And.intro hH4 (And.intro hP6 (And.intro hX1 hX2)))
          have hy : l.getD X1 0 = l.getD (hd + 4 + k) 0 ∧ l.getD X2 0 = l.getD (p + 6 + k) 0 := by rw [← hX1, ← hX2, ← hH4, ← hP6]; exact ⟨rfl, rfl⟩
          have HY := Lib.hid hy
          have HCE := Lib.hid hcell
          clear hH4 hP6 hX1 hX2 hy hcell
          by_cases he : l.getD X1 0 = l.getD X2 0
          · have t4 : (l.getD X1 0 != l.getD X2 0) = false := by rw [he]; simp
            have hI2 : ∀ j, j < k + 1 → l.getD (hd + 4 + j) 0 = l.getD (p + 6 + j) 0 := fun j hj => by
              rcases Nat.lt_or_ge j k with z | z
              · exact HI.out j z
              · obtain rfl : j = k := by omega
                rw [← HY.out.1, ← HY.out.2]; exact he
            have HI2 := Lib.hid hI2
            clear he hI2 HI
            generalize l.getD X1 0 = v1 at *
            generalize l.getD X2 0 = v2 at *
            go_wp2_with fail
            go_quiet (fail)
            go_wp2_with fail
            go_roundw
            case rel => exact ⟨k + 1, _, by omega, by go_num, rfl, HI2⟩
            case measure => simp [intOf]; omega
          · have t4 : (l.getD X1 0 != l.getD X2 0) = true := by simpa using he
            have hP : R = -1 := HRn.out (by rw [HLo2.out, if_pos (fun q => he (by rw [HY.out.1, HY.out.2]; exact HCI.out.1 q k hlt))])
            have HP := Lib.hid hP
            clear he hP
            generalize l.getD X1 0 = v1 at *
            generalize l.getD X2 0 = v2 at *
            go_wp2_with fail
            go_quiet (fail)
            go_wp2_with fail
            go_ret
            exact ⟨by rw [HP.out]; rfl, low_drewN (low_drewN HB.out.1 _) _⟩
        · obtain rfl : k = 24 := by omega
          have hcut : cutOf l (hd + 4) (hd + 28) = cutOf l (p + 6) (p + 30) := HCI.out.2 HI.out
          have HLo3 : Hid (locS l F p = if F < hd + 30 + nt.size + (numL l ((hd : Int) + 28) 2).toNat + pk ∨ strOfNums (cutOf l (hd + 30) (hd + 30 + nt.size)) ≠ nt then none
              else some (hd + 30 + nt.size + (numL l ((hd : Int) + 28) 2).toNat)) := Lib.hid (by rw [HLo2.out, if_neg (by simpa using hcut)])
          clear HLo2 HCI HI hcut hcell
          obtain ⟨A, hA⟩ : ∃ A : Nat, hd + 30 = A := ⟨_, rfl⟩
          have hAi : (hd : Int) + 30 = (A : Int) := by omega
          obtain ⟨D, hD⟩ : ∃ D : Nat, F - A = D := ⟨_, rfl⟩
          have a5 : IntKind.i64.wrap ((F : Int) - (A : Int)) = (D : Int) := by rw [IntWalk.i64_in _ (by omega)]; omega
          obtain ⟨X, hX⟩ : ∃ X : Nat, A + nt.size = X := ⟨_, rfl⟩
          have a6 : IntKind.i64.wrap ((A : Int) + (nt.size : Int)) = (X : Int) := by rw [IntWalk.i64_in _ (by omega)]; omega
          have HA := Lib.hid (And.intro hA (And.intro hD hX))
          have hb3 : Bs w1 w1.heap.size (some ⟨bb, off, none⟩) l := HB.out.2.1
          by_cases h3 : D < nt.size
          · have t4 : decide ((nt.size : Int) > (D : Int)) = true := by simp; omega
            have t4' : decide (D < nt.size) = true := by simp; omega
            have hP : R = -1 := HRn.out (by rw [HLo3.out, if_pos (.inl (by omega))])
            have HP := Lib.hid hP
            clear hP h3 hA hD hX
            go_wp2_with fail
            go_quiet (fail)
            go_wp2_with fail
            go_ret
            exact ⟨by rw [HP.out]; rfl, low_drewN (low_drewN HB.out.1 _) _⟩
          · have t4 : decide ((nt.size : Int) > (D : Int)) = false := by simp; omega
            have t4' : decide (D < nt.size) = false := by simp; omega
            obtain ⟨a6s, c6, r6, _, b6s, hc6, _, _⟩ := cut_lh (some ⟨bb, off, none⟩) l.length c l rfl hc (fun e => by cases e) A X (by omega) (by omega)
            have hxa : X - A = nt.size := by omega
            rw [hxa] at r6
            have hcv : ∀ n, (convert 22 9 (.slice a6s nt.size c6)).run Tryd.prog ((w1.drewN d).drewN n) = .ok (.string (strOfNums (cutOf l A X))) ((w1.drewN d).drewN n) := fun n => conv_bs c6 (b6s _ _ hb3) (by rw [cutOf_len (by omega)]; omega)
            have hcv' : ∀ n, (convert 22 9 (.slice a6s nt.size c6)).run Tryd.prog (w1.drewN n) = .ok (.string (strOfNums (cutOf l A X))) (w1.drewN n) := fun n => conv_bs c6 (b6s _ _ hb3) (by rw [cutOf_len (by omega)]; omega)
            have hst2 : strOfNums (cutOf l (hd + 30) (hd + 30 + nt.size)) = strOfNums (cutOf l A X) := by rw [hA, hX]
            rw [hst2] at HLo3
            clear hst2
            generalize strOfNums (cutOf l A X) = st at *
            have hFA : A + nt.size ≤ F := by omega
            clear h3 hA hD hX hxa
            by_cases hs : st = nt
            rotate_left
            · have t5 : (st.toList == nt.toList) = false := by
                rw [beq_eq_false_iff_ne, Lib.toList_data, Lib.toList_data]
                intro e
                exact hs (by cases st; cases nt; simp at e; subst e; rfl)
              have hP : R = -1 := HRn.out (by rw [HLo3.out, if_pos (.inr hs)])
              have HP := Lib.hid hP
              clear hP hs
              go_wp2_with fail
              go_quiet (fail)
              go_wp2_with fail
              go_ret
              exact ⟨by rw [HP.out]; rfl, low_drewN (low_drewN HB.out.1 _) _⟩
            · have t5 : (st.toList == nt.toList) = true := by rw [hs]; exact beq_self_eq_true _
              have HS := Lib.hid hs
              clear hs
              go_wp2_with fail
              go_quiet (fail)
              obtain ⟨H28, hH28⟩ : ∃ H28 : Nat, hd + 28 = H28 := ⟨_, rfl⟩
              have hH28i : (hd : Int) + 28 = (H28 : Int) := by omega
              have hN := numL_bd2 hB (H28 : Int)
              obtain ⟨e28, he28⟩ : ∃ e28 : Nat, numL l (H28 : Int) 2 = e28 := ⟨_, (Int.toNat_of_nonneg hN.1).symm⟩
              obtain ⟨Y, hY⟩ : ∃ Y : Nat, X + e28 = Y := ⟨_, rfl⟩
              have hLo4 : locS l F p = if F < Y + pk then none else some Y := by
                obtain ⟨q1, q2, q3⟩ := HA.out
                rw [HLo3.out, hH28i, he28, Int.toNat_natCast, q1, q3, hY]
                by_cases hz : F < Y + pk
                · rw [if_pos (.inl hz), if_pos hz]
                · rw [if_neg (by rintro (z | z); exact hz z; exact z HS.out), if_neg hz]
              have hXb : X ≤ 131072 := by obtain ⟨_, _, q3⟩ := HA.out; omega
              have he28b : e28 ≤ 65535 := by omega
              have a7 : IntKind.i64.wrap ((hd : Int) + 28) = (H28 : Int) := by rw [hH28i]; exact IntWalk.i64_in _ (by omega)
              have a8 : IntKind.i64.wrap ((X : Int) + (e28 : Int)) = (Y : Int) := by rw [IntWalk.i64_in _ (by omega)]; omega
              have hnum := refNum (w := ((w1.drewN d).drewN nq).drew) hc hm hb3 (H28 : Int) 2 (by omega) (by decide)
              rw [he28] at hnum
              have hbw : Below w.heap.size w ((w1.drewN d).drewN nq) := low_drewN (low_drewN HB.out.1 _) _
              have hk0 : ((w1.drewN d).drewN nq).cell? ⟨w.heap.size, 0, none⟩ = some (.string nt) := k0
              have hk2 : ((w1.drewN d).drewN nq).cell? ⟨w.heap.size, 2, none⟩ = some (.int .i64 pk) := k2
              have hk6 : ((w1.drewN d).drewN nq).cell? ⟨w.heap.size, 6, none⟩ = some (.int .i64 hd) := k6
              have hlt1 : w.heap.size < ((w1.drewN d).drewN nq).heap.size := HB.out.2.2
              have HY := Lib.hid (And.intro hY (And.intro hLo4 hbw))
              clear hH28 hH28i hN he28 hY hLo4 hcv hcv' hb3 HB hb1 k0 k2 k6 hbw HLo3 t4 t4' t5 a5
              generalize (w1.drewN d).drewN nq = w5 at *
              go_wp2_with fail
              go_region_held3 (fun W => W.cell? ⟨w.heap.size, 0, none⟩ = some (.string nt) ∧ W.cell? ⟨w.heap.size, 6, none⟩ = some (.int .i64 hd)) (first | exact ⟨d0, d6⟩ | exact ⟨hk0, hk6⟩ | go_keep) ((go_at_call 22; (with_reducible refine hnum.mono ?_); rintro e w6 ⟨rfl, hb6⟩; have d0 : w6.cell? ⟨w.heap.size, 0, none⟩ = some (.string nt) := (hb6.cell (p := ⟨w.heap.size, 0, none⟩) hlt1).trans hk0; have d6 : w6.cell? ⟨w.heap.size, 6, none⟩ = some (.int .i64 hd) := (hb6.cell (p := ⟨w.heap.size, 6, none⟩) hlt1).trans hk6))
              have k2 : w6.cell? ⟨w.heap.size, 2, none⟩ = some (.int .i64 pk) := (hb6.cell (p := ⟨w.heap.size, 2, none⟩) hlt1).trans hk2
              have H6 : Hid (Below w.heap.size w w6) := Lib.hid (below_next (w := w5.drew) ⟨HY.out.2.2.os, HY.out.2.2.tape, HY.out.2.2.output, HY.out.2.2.size, HY.out.2.2.block⟩ (Nat.le_refl _) hb6)
              have hYb : Y ≤ 262144 := by have := HY.out.1; omega
              clear hb6 d0 d6 hk0 hk2 hk6 hlt1
              by_cases h4 : F < Y + pk
              · have hP : R = -1 := HRn.out (by rw [HY.out.2.1, if_pos h4])
                have HP := Lib.hid hP
                have t6 : (decide ((Y : Int) > (F : Int)) = true ∧ decide (F < Y) = true) ∨ ((decide ((Y : Int) > (F : Int)) = false ∧ decide (F < Y) = false) ∧ (decide ((pk : Int) > (F : Int) - Y) = true ∧ decide ((F : Int) - Y < pk) = true)) := by
                  by_cases h2 : Y > F
                  · exact .inl ⟨by simp; omega, by simp; omega⟩
                  · exact .inr ⟨⟨by simp; omega, by simp; omega⟩, by simp; omega, by simp; omega⟩
                clear hP h4
                rcases t6 with ⟨t6, t6'⟩ | ⟨⟨t6, t6'⟩, t7, t7'⟩
                all_goals
                  go_wp2_with fail
                  go_ret
                  exact ⟨by rw [HP.out]; rfl, H6.out⟩
              · have hP : R = (Y : Nat) := HRs.out Y (by rw [HY.out.2.1, if_neg h4])
                have HP := Lib.hid hP
                have t6 : decide ((Y : Int) > (F : Int)) = false := by simp; omega
                have t6' : decide (F < Y) = false := by simp; omega
                have t7 : decide ((pk : Int) > (F : Int) - Y) = false := by simp; omega
                have t7' : decide ((F : Int) - Y < pk) = false := by simp; omega
                clear hP h4
                go_wp2_with fail
                go_ret
                exact ⟨by rw [HP.out]; rfl, H6.out⟩
end Go.Proofs.YtimojfkpcmphfaaDoor
