/- The document's own archive reader, third part: contract of samovarref09.local. Condition: the bytes are bytes. The document's own archive reader, fourth part: contract of samovarref09.Directory. Condition: the bytes are bytes. -/
import Derived.Test.YtdcpibglbanchaaGreatDoorEb
set_option linter.unusedVariables false
set_option maxRecDepth 100000
namespace Go.Proofs.YtdcpibglbanchaaGreatDoor
open Go.RowKit Go.Maps Go.ChangeMaps

theorem cut_iff {l : List Int} {x y : Nat} (hx : x + 24 ≤ l.length) (hy : y + 24 ≤ l.length) : cutOf l x (x + 24) = cutOf l y (y + 24) ↔ ∀ i, i < 24 → l.getD (x + i) 0 = l.getD (y + i) 0 := by
  constructor
  · intro h i hi
    have := congrArg (fun z => z.getD i 0) h
    simp only [cutOf, List.getD_eq_getElem?_getD] at this
    rw [List.getElem?_take_of_lt (by omega), List.getElem?_take_of_lt (by omega), List.getElem?_drop, List.getElem?_drop] at this
    rw [List.getD_eq_getElem?_getD, List.getD_eq_getElem?_getD]; exact this
  · intro h
    unfold cutOf
    apply List.ext_getElem?
    intro i
    by_cases hi : i < 24
    · rw [List.getElem?_take_of_lt (by omega), List.getElem?_take_of_lt (by omega), List.getElem?_drop, List.getElem?_drop]
      have := h i hi
      rw [List.getD_eq_getElem?_getD, List.getD_eq_getElem?_getD, List.getElem?_eq_getElem (by omega), List.getElem?_eq_getElem (by omega)] at this
      rw [List.getElem?_eq_getElem (by omega), List.getElem?_eq_getElem (by omega)]
      exact congrArg some this
    · rw [List.getElem?_eq_none (by rw [List.length_take]; omega), List.getElem?_eq_none (by rw [List.length_take]; omega)]
/-- what the document's local answers -/
def locI (l : List Int) (F p : Nat) : Int := match locS l F p with | none => -1 | some a => (a : Nat)
theorem locI_none {l : List Int} {F p : Nat} (h : locS l F p = none) : locI l F p = -1 := by unfold locI; rw [h]
theorem locI_some {l : List Int} {F p a : Nat} (h : locS l F p = some a) : locI l F p = a := by unfold locI; rw [h]
set_option maxHeartbeats 8000000 in
theorem refLocal {w : World} {b : Option Addr} {c : Nat} {l : List Int} {F p : Nat} (hc : l.length ≤ c) (hm : l.length ≤ 65536) (hb : Bs w w.heap.size b l) (hF : F ≤ l.length) (hp : p + szL l p ≤ l.length) :
    Calls Tryz.prog 53 #[.slice b l.length c, .agg (recC l (p, 0)).toArray, .int .i64 p, .int .i64 F] w fun e w' => e = .returned (.int .i64 (locI l F p)) ∧ Below w.heap.size w w' := by
  have hB := hb.1
  have hsz := szL_ge l p
  have hdb := (numL_bd hB ((p : Int) + 42) 4 (by decide)).2
  have hpb := (numL_bd hB ((p : Int) + 20) 4 (by decide)).2
  have hd1 : hdL l p ≤ 4294967295 := by unfold hdL; omega
  have hp1 : pkL l p ≤ 4294967295 := by unfold pkL; omega
  have hnl : (nmT l p).size = nmN l p := by
    unfold nmT
    rw [strOf_size, cutOf_len (by omega)]; omega
  have hLo : locS l F p = if F < hdL l p + 30 ∨ kindL l (hdL l p) ≠ 1 then none
      else if cutOf l (hdL l p + 4) (hdL l p + 28) ≠ cutOf l (p + 6) (p + 30) then none
      else if F < hdL l p + 30 + nmN l p + (numL l ((hdL l p : Int) + 28) 2).toNat + pkL l p ∨ strOfNums (cutOf l (hdL l p + 30) (hdL l p + 30 + nmN l p)) ≠ nmT l p then none
      else some (hdL l p + 30 + nmN l p + (numL l ((hdL l p : Int) + 28) 2).toNat) := rfl
  have hnew := heap_alloc_new w (.cells (recC l (p, 0)).toArray 44)
  have hbl : Below w.heap.size w (w.alloc (.cells (recC l (p, 0)).toArray 44)) := (Below.refl _ _).alloc (Nat.le_refl _) _
  have k0 : (w.alloc (.cells (recC l (p, 0)).toArray 44)).cell? ⟨w.heap.size, 0, none⟩ = some (.string (nmT l p)) := by rw [blk_cell hnew]; rfl
  have k2 : (w.alloc (.cells (recC l (p, 0)).toArray 44)).cell? ⟨w.heap.size, 2, none⟩ = some (.int .i64 (pkL l p)) := by rw [blk_cell hnew]; rfl
  have k6 : (w.alloc (.cells (recC l (p, 0)).toArray 44)).cell? ⟨w.heap.size, 6, none⟩ = some (.int .i64 (hdL l p)) := by rw [blk_cell hnew]; rfl
  have hsz1 : w.heap.size < (w.alloc (.cells (recC l (p, 0)).toArray 44)).heap.size := by simp
  have hb1 := hb.next hbl
  have HLo := Lib.hid hLo
  have hnb : nmN l p ≤ 65536 := by omega
  have hp30 : p + 46 ≤ l.length := by omega
  clear hsz hdb hpb hnew hb hLo hp
  generalize hRC : (recC l (p, 0)).toArray = RC at *
  clear hRC
  have HB := Lib.hid (And.intro hbl (And.intro hb1 hsz1))
  generalize hdL l p = hd at *
  generalize pkL l p = pk at *
  generalize nmN l p = nn at *
  generalize nmT l p = nt at *
  subst hnl
  clear hbl hsz1
  obtain ⟨R, hRR⟩ : ∃ R, locI l F p = R := ⟨_, rfl⟩
  rw [hRR]
  have HRn : Hid (locS l F p = none → R = -1) := Lib.hid (fun h => by rw [← hRR]; exact locI_none h)
  have HRs : Hid (∀ a, locS l F p = some a → R = (a : Nat)) := Lib.hid (fun a h => by rw [← hRR]; exact locI_some h)
  clear hRR
  have hks : ∀ wk, Bs wk wk.heap.size b l → hd + 4 ≤ l.length → Calls Tryz.prog 54 #[.slice b l.length c, .int .i64 hd, .int .u8 3, .int .u8 4] wk fun e w' => e = .returned (.bool (kindL l hd == 1)) ∧ w' = wk := fun wk h1 h => by rw [← sgB_1]; exact refSign hm h1 hd h 3 4
  have HKS := Lib.hid hks
  clear hks
  by_cases h1 : F < hd + 30
  · have hP : R = -1 := HRn.out (by rw [HLo.out, if_pos (.inl h1)])
    have HP := Lib.hid hP
    have t1 : (decide ((hd : Int) > (F : Int)) = true ∧ decide (F < hd) = true) ∨ ((decide ((hd : Int) > (F : Int)) = false ∧ decide (F < hd) = false) ∧ decide ((F : Int) - hd < 30) = true) := by
      by_cases h2 : hd > F
      · exact .inl ⟨by simp; omega, by simp; omega⟩
      · exact .inr ⟨⟨by simp; omega, by simp; omega⟩, by simp; omega⟩
    clear h1 hP
    rcases t1 with ⟨t1, t1'⟩ | ⟨⟨t1, t1'⟩, t2⟩
    all_goals
      go_enter Tryz.func53, Tryz.ntmps53
      go_wp2_with fail
      go_ret
      exact ⟨by rw [HP.out]; rfl, HB.out.1⟩
  · have t1 : decide ((hd : Int) > (F : Int)) = false := by simp; omega
    have t1' : decide (F < hd) = false := by simp; omega
    have t2 : decide ((F : Int) - hd < 30) = false := by simp; omega
    have hk := HKS.out _ hb1 (by omega)
    clear HKS
    obtain ⟨K, hK⟩ : ∃ K, kindL l hd = K := ⟨_, rfl⟩
    rw [hK] at hk HLo
    clear hK
    by_cases h2 : K = 1
    rotate_left
    · have t3 : (K == 1) = false := by simp [h2]
      rw [t3] at hk
      have hP : R = -1 := HRn.out (by rw [HLo.out, if_pos (.inr h2)])
      have HP := Lib.hid hP
      clear h1 h2 hP t3
      go_enter Tryz.func53, Tryz.ntmps53
      go_wp2_with fail
      refine hk.mono ?_
      rintro e w2 ⟨rfl, rfl⟩
      clear hk
      go_wp2_with fail
      go_ret
      exact ⟨by rw [HP.out]; rfl, HB.out.1⟩
    · have t3 : (K == 1) = true := by simp [h2]
      rw [t3] at hk
      have HLo2 : Hid (locS l F p = if cutOf l (hd + 4) (hd + 28) ≠ cutOf l (p + 6) (p + 30) then none
          else if F < hd + 30 + nt.size + (numL l ((hd : Int) + 28) 2).toNat + pk ∨ strOfNums (cutOf l (hd + 30) (hd + 30 + nt.size)) ≠ nt then none
          else some (hd + 30 + nt.size + (numL l ((hd : Int) + 28) 2).toNat)) := Lib.hid (by rw [HLo.out, if_neg (by omega)])
      have hci := cut_iff (l := l) (x := hd + 4) (y := p + 6) (by omega) (by omega)
      rw [show hd + 4 + 24 = hd + 28 by omega, show p + 6 + 24 = p + 30 by omega] at hci
      have HCI := Lib.hid hci
      clear HLo h2 t3 hci
      go_enter Tryz.func53, Tryz.ntmps53
      go_wp2_with fail
      refine hk.mono ?_
      rintro e w2 ⟨rfl, rfl⟩
      clear hk
      generalize w.alloc (.cells RC 44) = w1 at *
      obtain ⟨bb, off, rfl, _, hcell⟩ := hb1.2 (by omega)
      go_wp2_with fail
      go_loopw [9] (fun i wr => ∃ (k d : Nat), k ≤ 24 ∧ i = .int .i64 k ∧ wr = w1.drewN d ∧ Hid (∀ j, j < k → l.getD (hd + 4 + j) 0 = l.getD (p + 6 + j) 0)) (fun i _ => 24 - (intOf i).toNat)
      case atStart => exact ⟨0, 0, by decide, rfl, rfl, Lib.hid (fun j hj => absurd hj (Nat.not_lt_zero j))⟩
      case round =>
        obtain ⟨k, d, hk24, rfl, rfl, HI⟩ := hrel
        have hkb : (k : Int) ≤ 24 := by omega
        by_cases hlt : k < 24
        · obtain ⟨H4, hH4⟩ : ∃ H4, hd + 4 = H4 := ⟨_, rfl⟩
          obtain ⟨P6, hP6⟩ : ∃ P6, p + 6 = P6 := ⟨_, rfl⟩
          obtain ⟨X1, hX1⟩ : ∃ X1, H4 + k = X1 := ⟨_, rfl⟩
          obtain ⟨X2, hX2⟩ : ∃ X2, P6 + k = X2 := ⟨_, rfl⟩
          have a1 : IntKind.i64.wrap ((hd : Int) + 4) = (H4 : Int) := by rw [IntWalk.i64_in _ (by omega)]; omega
          have a2 : IntKind.i64.wrap ((H4 : Int) + (k : Int)) = (X1 : Int) := by rw [IntWalk.i64_in _ (by omega)]; omega
          have a3 : IntKind.i64.wrap ((p : Int) + 6) = (P6 : Int) := by rw [IntWalk.i64_in _ (by omega)]; omega
          have a4 : IntKind.i64.wrap ((P6 : Int) + (k : Int)) = (X2 : Int) := by rw [IntWalk.i64_in _ (by omega)]; omega
          have d1 := hcell X1 (by omega)
          have d2 := hcell X2 (by omega)
          have hx1 : X1 < l.length := by omega
          have hx2 : X2 < l.length := by omega
          have HX := Lib.hid (And.intro hH4 (And.intro hP6 (And.intro hX1 hX2)))
          have hy : l.getD X1 0 = l.getD (hd + 4 + k) 0 ∧ l.getD X2 0 = l.getD (p + 6 + k) 0 := by rw [← hX1, ← hX2, ← hH4, ← hP6]; exact ⟨rfl, rfl⟩
          have HY := Lib.hid hy
          have HCE := Lib.hid hcell
          clear hH4 hP6 hX1 hX2 hy hcell
          by_cases he : l.getD X1 0 = l.getD X2 0
          · have t4 : (l.getD X1 0 != l.getD X2 0) = false := by rw [he]; simp
            have hI2 : ∀ j, j < k + 1 → l.getD (hd + 4 + j) 0 = l.getD (p + 6 + j) 0 := fun j hj => by
              rcases Nat.lt_or_ge j k with z | z
              · exact HI.out j z
              · obtain rfl : j = k := by omega
                rw [← HY.out.1, ← HY.out.2]; exact he
            have HI2 := Lib.hid hI2
            clear he hI2 HI
            generalize l.getD X1 0 = v1 at *
            generalize l.getD X2 0 = v2 at *
            go_wp2_with fail
            go_quiet (fail)
            go_wp2_with fail
            go_roundw
            case rel => exact ⟨k + 1, _, by omega, by go_num, rfl, HI2⟩
            case measure => simp [intOf]; omega
          · have t4 : (l.getD X1 0 != l.getD X2 0) = true := by simpa using he
            have hP : R = -1 := HRn.out (by rw [HLo2.out, if_pos (fun q => he (by rw [HY.out.1, HY.out.2]; exact HCI.out.1 q k hlt))])
            have HP := Lib.hid hP
            clear he hP
            generalize l.getD X1 0 = v1 at *
            generalize l.getD X2 0 = v2 at *
            go_wp2_with fail
            go_quiet (fail)
            go_wp2_with fail
            go_ret
            exact ⟨by rw [HP.out]; rfl, low_drewN (low_drewN HB.out.1 _) _⟩
        · obtain rfl : k = 24 := by omega
          have hcut : cutOf l (hd + 4) (hd + 28) = cutOf l (p + 6) (p + 30) := HCI.out.2 HI.out
          have HLo3 : Hid (locS l F p = if F < hd + 30 + nt.size + (numL l ((hd : Int) + 28) 2).toNat + pk ∨ strOfNums (cutOf l (hd + 30) (hd + 30 + nt.size)) ≠ nt then none
              else some (hd + 30 + nt.size + (numL l ((hd : Int) + 28) 2).toNat)) := Lib.hid (by rw [HLo2.out, if_neg (by simpa using hcut)])
          clear HLo2 HCI HI hcut hcell
          obtain ⟨A, hA⟩ : ∃ A : Nat, hd + 30 = A := ⟨_, rfl⟩
          have hAi : (hd : Int) + 30 = (A : Int) := by omega
          obtain ⟨D, hD⟩ : ∃ D : Nat, F - A = D := ⟨_, rfl⟩
          have a5 : IntKind.i64.wrap ((F : Int) - (A : Int)) = (D : Int) := by rw [IntWalk.i64_in _ (by omega)]; omega
          obtain ⟨X, hX⟩ : ∃ X : Nat, A + nt.size = X := ⟨_, rfl⟩
          have a6 : IntKind.i64.wrap ((A : Int) + (nt.size : Int)) = (X : Int) := by rw [IntWalk.i64_in _ (by omega)]; omega
          have HA := Lib.hid (And.intro hA (And.intro hD hX))
          have hb3 : Bs w1 w1.heap.size (some ⟨bb, off, none⟩) l := HB.out.2.1
          by_cases h3 : D < nt.size
          · have t4 : decide ((nt.size : Int) > (D : Int)) = true := by simp; omega
            have t4' : decide (D < nt.size) = true := by simp; omega
            have hP : R = -1 := HRn.out (by rw [HLo3.out, if_pos (.inl (by omega))])
            have HP := Lib.hid hP
            clear hP h3 hA hD hX
            go_wp2_with fail
            go_quiet (fail)
            go_wp2_with fail
            go_ret
            exact ⟨by rw [HP.out]; rfl, low_drewN (low_drewN HB.out.1 _) _⟩
          · have t4 : decide ((nt.size : Int) > (D : Int)) = false := by simp; omega
            have t4' : decide (D < nt.size) = false := by simp; omega
            obtain ⟨a6s, c6, r6, _, b6s, hc6, _, _⟩ := cut_lh (some ⟨bb, off, none⟩) l.length c l rfl hc (fun e => by cases e) A X (by omega) (by omega)
            have hxa : X - A = nt.size := by omega
            rw [hxa] at r6
            have hcv : ∀ n, (convert 22 9 (.slice a6s nt.size c6)).run Tryz.prog ((w1.drewN d).drewN n) = .ok (.string (strOfNums (cutOf l A X))) ((w1.drewN d).drewN n) := fun n => conv_bs c6 (b6s _ _ hb3) (by rw [cutOf_len (by omega)]; omega)
            have hcv' : ∀ n, (convert 22 9 (.slice a6s nt.size c6)).run Tryz.prog (w1.drewN n) = .ok (.string (strOfNums (cutOf l A X))) (w1.drewN n) := fun n => conv_bs c6 (b6s _ _ hb3) (by rw [cutOf_len (by omega)]; omega)
            have hst2 : strOfNums (cutOf l (hd + 30) (hd + 30 + nt.size)) = strOfNums (cutOf l A X) := by rw [hA, hX]
            rw [hst2] at HLo3
            clear hst2
            generalize strOfNums (cutOf l A X) = st at *
            have hFA : A + nt.size ≤ F := by omega
            clear h3 hA hD hX hxa
            by_cases hs : st = nt
            rotate_left
            · have t5 : (st.toList == nt.toList) = false := by
                rw [beq_eq_false_iff_ne, Lib.toList_data, Lib.toList_data]
                intro e
                exact hs (by cases st; cases nt; simp at e; subst e; rfl)
              have hP : R = -1 := HRn.out (by rw [HLo3.out, if_pos (.inr hs)])
              have HP := Lib.hid hP
              clear hP hs
              go_wp2_with fail
              go_quiet (fail)
              go_wp2_with fail
              go_ret
              exact ⟨by rw [HP.out]; rfl, low_drewN (low_drewN HB.out.1 _) _⟩
            · have t5 : (st.toList == nt.toList) = true := by rw [hs]; exact beq_self_eq_true _
              have HS := Lib.hid hs
              clear hs
              go_wp2_with fail
              go_quiet (fail)
              obtain ⟨H28, hH28⟩ : ∃ H28 : Nat, hd + 28 = H28 := ⟨_, rfl⟩
              have hH28i : (hd : Int) + 28 = (H28 : Int) := by omega
              have hN := numL_bd2 hB (H28 : Int)
              obtain ⟨e28, he28⟩ : ∃ e28 : Nat, numL l (H28 : Int) 2 = e28 := ⟨_, (Int.toNat_of_nonneg hN.1).symm⟩
              obtain ⟨Y, hY⟩ : ∃ Y : Nat, X + e28 = Y := ⟨_, rfl⟩
              have hLo4 : locS l F p = if F < Y + pk then none else some Y := by
                obtain ⟨q1, q2, q3⟩ := HA.out
                rw [HLo3.out, hH28i, he28, Int.toNat_natCast, q1, q3, hY]
                by_cases hz : F < Y + pk
                · rw [if_pos (.inl hz), if_pos hz]
                · rw [if_neg (by rintro (z | z); exact hz z; exact z HS.out), if_neg hz]
              have hXb : X ≤ 131072 := by obtain ⟨_, _, q3⟩ := HA.out; omega
              have he28b : e28 ≤ 65535 := by omega
              have a7 : IntKind.i64.wrap ((hd : Int) + 28) = (H28 : Int) := by rw [hH28i]; exact IntWalk.i64_in _ (by omega)
              have a8 : IntKind.i64.wrap ((X : Int) + (e28 : Int)) = (Y : Int) := by rw [IntWalk.i64_in _ (by omega)]; omega
              have hnum := refNum (w := ((w1.drewN d).drewN nq).drew) hc hm hb3 (H28 : Int) 2 (by omega) (by decide)
              rw [he28] at hnum
              have hbw : Below w.heap.size w ((w1.drewN d).drewN nq) := low_drewN (low_drewN HB.out.1 _) _
              have hk0 : ((w1.drewN d).drewN nq).cell? ⟨w.heap.size, 0, none⟩ = some (.string nt) := k0
              have hk2 : ((w1.drewN d).drewN nq).cell? ⟨w.heap.size, 2, none⟩ = some (.int .i64 pk) := k2
              have hk6 : ((w1.drewN d).drewN nq).cell? ⟨w.heap.size, 6, none⟩ = some (.int .i64 hd) := k6
              have hlt1 : w.heap.size < ((w1.drewN d).drewN nq).heap.size := HB.out.2.2
              have HY := Lib.hid (And.intro hY (And.intro hLo4 hbw))
              clear hH28 hH28i hN he28 hY hLo4 hcv hcv' hb3 HB hb1 k0 k2 k6 hbw HLo3 t4 t4' t5 a5
              generalize (w1.drewN d).drewN nq = w5 at *
              go_wp2_with fail
              go_region_held3 (fun W => W.cell? ⟨w.heap.size, 0, none⟩ = some (.string nt) ∧ W.cell? ⟨w.heap.size, 6, none⟩ = some (.int .i64 hd)) (first | exact ⟨d0, d6⟩ | exact ⟨hk0, hk6⟩ | go_keep) ((go_at_call 51; (with_reducible refine hnum.mono ?_); rintro e w6 ⟨rfl, hb6⟩; have d0 : w6.cell? ⟨w.heap.size, 0, none⟩ = some (.string nt) := (hb6.cell (p := ⟨w.heap.size, 0, none⟩) hlt1).trans hk0; have d6 : w6.cell? ⟨w.heap.size, 6, none⟩ = some (.int .i64 hd) := (hb6.cell (p := ⟨w.heap.size, 6, none⟩) hlt1).trans hk6))
              have k2 : w6.cell? ⟨w.heap.size, 2, none⟩ = some (.int .i64 pk) := (hb6.cell (p := ⟨w.heap.size, 2, none⟩) hlt1).trans hk2
              have H6 : Hid (Below w.heap.size w w6) := Lib.hid (below_next (w := w5.drew) ⟨HY.out.2.2.os, HY.out.2.2.tape, HY.out.2.2.output, HY.out.2.2.size, HY.out.2.2.block⟩ (Nat.le_refl _) hb6)
              have hYb : Y ≤ 262144 := by have := HY.out.1; omega
              clear hb6 d0 d6 hk0 hk2 hk6 hlt1
              by_cases h4 : F < Y + pk
              · have hP : R = -1 := HRn.out (by rw [HY.out.2.1, if_pos h4])
                have HP := Lib.hid hP
                have t6 : (decide ((Y : Int) > (F : Int)) = true ∧ decide (F < Y) = true) ∨ ((decide ((Y : Int) > (F : Int)) = false ∧ decide (F < Y) = false) ∧ (decide ((pk : Int) > (F : Int) - Y) = true ∧ decide ((F : Int) - Y < pk) = true)) := by
                  by_cases h2 : Y > F
                  · exact .inl ⟨by simp; omega, by simp; omega⟩
                  · exact .inr ⟨⟨by simp; omega, by simp; omega⟩, by simp; omega, by simp; omega⟩
                clear hP h4
                rcases t6 with ⟨t6, t6'⟩ | ⟨⟨t6, t6'⟩, t7, t7'⟩
                all_goals
                  go_wp2_with fail
                  go_ret
                  exact ⟨by rw [HP.out]; rfl, H6.out⟩
              · have hP : R = (Y : Nat) := HRs.out Y (by rw [HY.out.2.1, if_neg h4])
                have HP := Lib.hid hP
                have t6 : decide ((Y : Int) > (F : Int)) = false := by simp; omega
                have t6' : decide (F < Y) = false := by simp; omega
                have t7 : decide ((pk : Int) > (F : Int) - Y) = false := by simp; omega
                have t7' : decide ((F : Int) - Y < pk) = false := by simp; omega
                clear hP h4
                go_wp2_with fail
                go_ret
                exact ⟨by rw [HP.out]; rfl, H6.out⟩
end Go.Proofs.YtdcpibglbanchaaGreatDoor

set_option linter.unusedVariables false
set_option maxRecDepth 100000
namespace Go.Proofs.YtdcpibglbanchaaGreatDoor
open Go.RowKit Go.Maps Go.ChangeMaps

theorem ia_rec (b n c s : Nat) (W : World) (h : s < n) : (Instr.indexAt 39 (.slice (some ⟨b, 0, none⟩) n c) (.int .i64 s)).run Tryz.prog W = .ok (.pointer (some ⟨b, s * 7, none⟩)) W := by
  have hs : (sizeOf (Tryz.prog.elem 39)).run Tryz.prog W = .ok 7 W := by kernel_rfl
  rw [run_indexAt_slice W _ _ _ _ _ _ (by kernel_rfl), if_pos (by omega), hs]
  have e : (⟨b, 0, none⟩ : Addr).add ((s : Int).toNat * 7) = ⟨b, s * 7, none⟩ := by
    rw [add_off']; congr 1
  simp only [Result.andThen_ok, e]
theorem ia_int (b n c s : Nat) (W : World) (h : s < n) : (Instr.indexAt 83 (.slice (some ⟨b, 0, none⟩) n c) (.int .i64 s)).run Tryz.prog W = .ok (.pointer (some ⟨b, s, none⟩)) W := by
  have hs : (sizeOf (Tryz.prog.elem 83)).run Tryz.prog W = .ok 1 W := by kernel_rfl
  rw [run_indexAt_slice W _ _ _ _ _ _ (by kernel_rfl), if_pos (by omega), hs]
  have e : (⟨b, 0, none⟩ : Addr).add ((s : Int).toNat * 1) = ⟨b, s, none⟩ := by
    rw [add_off']; congr 1; omega
  simp only [Result.andThen_ok, e]
theorem rc_fa5 (G o : Nat) (W : World) : (Instr.fieldAt 44 (.pointer (some ⟨G, o, none⟩)) 5).run Tryz.prog W = .ok (.pointer (some ⟨G, o + 5, none⟩)) W := by kernel_rfl
theorem y_stI (g k : Nat) (x : Int) (old : Value) (W : World) (h : W.cell? ⟨g, k, none⟩ = some old) (hf : W.frozen? ⟨g, k, none⟩ = false) : (Instr.storeAt 3 (.pointer (some ⟨g, k, none⟩)) (.int .i64 x)).run Tryz.prog W = .ok () (W.setCell ⟨g, k, none⟩ (.int .i64 x)) := by
  simp [Instr.storeAt, Instr.sureAddr, storeVar, Result.andThen, h, hf, go_sem]
section
variable {a : Act} {w : World} {o : Oper}
theorem x_callL {x0 x1 x2 x3 : Operand} {ats : Array TypeId} (ho : o.op = .call { callee := .value (.func 53), args := #[x0, x1, x2, x3], argTypes := ats }) : (execOp a.eval o).run Tryz.prog w = .ok (.enter 53 #[a.eval x0, a.eval x1, a.eval x2, a.eval x3]) w := by
  have ef : a.eval (.func 53) = .func (.func 53) #[] #[] := rfl
  have hn : (Tryz.f53.name == "runtime.NumGoroutine") = false := by kernel_rfl
  have hn' : ¬ Tryz.f53.name = "runtime.NumGoroutine" := by simpa using hn
  have hb : Tryz.f53.body.isNone = false := by kernel_rfl
  have hb' : ¬ Tryz.f53.body = none := fun h => by rw [h] at hb; cases hb
  unfold execOp
  simp [ho, resolve, Deferred.ofValue, invoke, ef, callFunc, run_program, Tryz.func53, hn', hb']
end
/-- where the region of a record's place has come to -/
structure DrC (wa : World) (G o : Nat) (u : Value) (L : Array Bool) (W : World) : Prop where
  cx : L[15]? = some true → L[12]? = some true
  c12 : L[12]? = some true → L[6]? = some true ∧ L[10]? = some true
  world : if L[15]? = some true then ∃ w2, Below wa.heap.size wa w2 ∧ W = w2.setCell ⟨G, o, none⟩ u else if L[12]? = some true then Below wa.heap.size wa W else W = wa
section
variable {wa W w2 : World} {G o : Nat} {u : Value} {L : Array Bool}
theorem DrC.skip (h : DrC wa G o u L W) (i : Nat) (h6 : i ≠ 12) (h7 : i ≠ 15) : DrC wa G o u (L.setIfInBounds i true) W :=
  ⟨fun q => by rw [set_ne h7] at q; rw [set_ne h6]; exact h.cx q, fun q => by rw [set_ne h6] at q; exact ⟨set_true (h.c12 q).1, set_true (h.c12 q).2⟩, by rw [set_ne h7, set_ne h6]; exact h.world⟩
theorem DrC.early (h : DrC wa G o u L W) (h12 : L[12]? ≠ some true) : W = wa := by
  have hw := h.world
  rw [if_neg (fun q => h12 (h.cx q)), if_neg h12] at hw; exact hw
theorem DrC.put12 (h : DrC wa G o u L W) (h12 : L[12]? = some false) (h6 : L[6]? = some true) (h10 : L[10]? = some true) (hb : Below wa.heap.size wa w2) : DrC wa G o u (L.setIfInBounds 12 true) w2 := by
  have hx : L[15]? ≠ some true := fun q => by have := h.cx q; rw [h12] at this; cases this
  refine ⟨fun q => absurd (by rw [set_ne (by decide)] at q; exact q) hx, fun _ => by rw [set_ne (by decide), set_ne (by decide)]; exact ⟨h6, h10⟩, ?_⟩
  rw [set_ne (by decide), if_neg hx, set_same h12, if_pos rfl]; exact hb
theorem DrC.put15 (h : DrC wa G o u L W) (h15 : L[15]? = some false) (h12 : L[12]? = some true) : Below wa.heap.size wa W ∧ DrC wa G o u (L.setIfInBounds 15 true) (W.setCell ⟨G, o, none⟩ u) := by
  have hw := h.world
  rw [if_neg (by rw [h15]; decide), if_pos h12] at hw
  refine ⟨hw, fun _ => by rw [set_ne (by decide)]; exact h12, fun q => by rw [set_ne (by decide)] at q ⊢; rw [set_ne (by decide)]; exact h.c12 q, ?_⟩
  rw [set_same h15, if_pos rfl]
  exact ⟨W, hw, rfl⟩
theorem DrC.last (h : DrC wa G o u L W) (hx : L[15]? = some true) : ∃ w2, Below wa.heap.size wa w2 ∧ W = w2.setCell ⟨G, o, none⟩ u := by
  have hw := h.world
  rw [if_pos hx] at hw; exact hw
end
/-- the records of which the first ones have their places -/
def recA (l : List Int) (es : List (Nat × Nat)) (ps : List Nat) : List Value := recR l es ++ recP l ps
theorem recC_set (l : List Int) (p a : Nat) : (recC l (p, 0)).set 5 (.int .i64 (a : Nat)) = recC l (p, a) := rfl
theorem recR_len (l : List Int) (es : List (Nat × Nat)) : (recR l es).length = es.length * 7 := flat_len (fun x hx => recC_len l x)
theorem recR_at {l : List Int} {es : List (Nat × Nat)} {k j : Nat} {e : Nat × Nat} (h : es[k]? = some e) (hj : j < 7) : (recR l es)[k * 7 + j]? = (recC l e)[j]? := by
  have hk : k < es.length := (List.getElem?_eq_some_iff.1 h).1
  have h1 : es = es.take k ++ e :: es.drop (k + 1) := by
    have : es.drop k = e :: es.drop (k + 1) := by rw [List.drop_eq_getElem?_toList_append, h]; rfl
    rw [← this, List.take_append_drop]
  have h2 : ((es.take k).flatMap (recC l)).length = k * 7 := by
    rw [flat_len (f := recC l) (k := 7) (fun x hx => recC_len l x), List.length_take]; congr 1; omega
  unfold recR
  conv => lhs; rw [h1]
  rw [List.flatMap_append, List.flatMap_cons, List.getElem?_append_right (by omega), h2, show k * 7 + j - k * 7 = j by omega, List.getElem?_append_left (by rw [recC_len]; exact hj)]
theorem endS_P (l : List Int) : (endP l < 0 ∧ endS l = .error 9) ∨ (∃ p : Nat, endP l = p ∧ p + 22 ≤ l.length ∧ endS l = if numL l ((p : Int) + 4) 2 ≠ 0 ∨ numL l ((p : Int) + 6) 2 ≠ 0 ∨ numL l ((p : Int) + 8) 2 ≠ numL l ((p : Int) + 10) 2 ∨ numL l ((p : Int) + 10) 2 > 64 ∨ numL l ((p : Int) + 16) 4 + numL l ((p : Int) + 12) 4 ≠ p then .error 10
    else .ok (numL l ((p : Int) + 16) 4, p, numL l ((p : Int) + 10) 2)) := by
  by_cases h : (epS l (l.length - 21)).2 = 1
  · refine .inr ⟨(epS l (l.length - 21)).1, endV_1 h, ?_, ?_⟩
    · have := (epS_at l (l.length - 21) (by omega)).2; omega
    · unfold endS; rw [if_neg (by omega)]
  · refine .inl ⟨by unfold endP; rw [endV_2 h]; decide, ?_⟩
    unfold endS; rw [if_pos (by omega)]
set_option maxHeartbeats 16000000 in
theorem refDir_is (w : World) (b : Option Addr) (c : Nat) (l : List Int) (hc : l.length ≤ c) (hm : l.length ≤ 65536) (hb : Bs w w.heap.size b l) : Calls Tryz.prog 24 #[.slice b l.length c] w (DirP 44 l w) := by
  have hen := refEnd hc hm hb
  have hB := hb.1
  have hlen : decide ((l.length : Int) > 65536) = false := by simp; omega
  have hD : dirS l = match endS l with
    | .error e => .error e
    | .ok (fr, tt, ct) => match cenS l tt ct.toNat fr.toNat [] with
      | .error e => .error e
      | .ok ps => match locsS l fr.toNat ps with
        | none => .error 15
        | some bs => if ovS l [] (ps.zip bs) then .error 16 else .ok (ps.zip bs) := rfl
  have HD := Lib.hid hD
  have HB := Lib.hid hb
  clear hb hD
  rcases endS_P l with ⟨hneg, he⟩ | ⟨p, hpe, hp22, he⟩
  · have t1 : decide (endP l < 0) = true := by simpa using hneg
    have HE := Lib.hid he
    clear he hneg
    generalize endP l = P at *
    go_enter Tryz.func24, Tryz.ntmps24
    go_wp2_with fail
    refine hen.mono ?_
    rintro e w1 ⟨rfl, hb1⟩
    have H1 := Lib.hid hb1
    clear hen hb1
    go_wp2_with fail
    go_ret2
    exact .inl ⟨9, by rw [HD.out, HE.out], by decide, rfl, H1.out⟩
  · rw [hpe] at hen
    have t1 : decide ((p : Int) < 0) = false := by simp
    have hn2 : ∀ q : Int, ∃ n2 : Nat, numL l ((p : Int) + q) 2 = n2 ∧ n2 ≤ 65535 := fun q => by
      have h2 := numL_bd2 hB ((p : Int) + q)
      exact ⟨_, (Int.toNat_of_nonneg h2.1).symm, by omega⟩
    have hn4 : ∀ q : Int, ∃ n2 : Nat, numL l ((p : Int) + q) 4 = n2 ∧ n2 ≤ 4294967295 := fun q => by
      have h2 := numL_bd hB ((p : Int) + q) 4 (by decide)
      exact ⟨_, (Int.toNat_of_nonneg h2.1).symm, by omega⟩
    obtain ⟨n4, e4, b4⟩ := hn2 4
    obtain ⟨n6, e6, b6⟩ := hn2 6
    obtain ⟨n8, e8, b8⟩ := hn2 8
    obtain ⟨n10, e10, b10⟩ := hn2 10
    obtain ⟨n12, e12, b12⟩ := hn4 12
    obtain ⟨n16, e16, b16⟩ := hn4 16
    clear hn2 hn4
    rw [e4, e6, e8, e10, e12, e16] at he
    have hbs := fun {wk : World} (h : Below w.heap.size w wk) => (HB.out.next h : Bs wk wk.heap.size b l)
    have num2 := fun (wk : World) (h : Below w.heap.size w wk) (z : Int) (hz : 0 ≤ z ∧ z ≤ 42) => refNum (w := wk) hc hm (hbs h) ((p : Int) + z) 2 (by omega) (by decide)
    have num4 := fun (wk : World) (h : Below w.heap.size w wk) (z : Int) (hz : 0 ≤ z ∧ z ≤ 42) => refNum (w := wk) hc hm (hbs h) ((p : Int) + z) 4 (by omega) (by decide)
    have HN := Lib.hid (And.intro num2 (And.intro num4 @hbs))
    have HE := Lib.hid he
    clear he num2 num4 hbs
    go_enter Tryz.func24, Tryz.ntmps24
    go_wp2_with fail
    refine hen.mono ?_
    rintro e w1 ⟨rfl, hb1⟩
    have H1 := Lib.hid hb1
    clear hen hb1
    have q8 := HN.out.1 _ H1.out 8 (by decide)
    rw [e8] at q8
    go_wp2_with fail
    refine q8.mono ?_
    rintro e w2 ⟨rfl, hb2⟩
    have H2 := Lib.hid (below_next H1.out (Nat.le_refl _) hb2)
    clear q8 hb2 H1
    have q12 := HN.out.2.1 _ H2.out 12 (by decide)
    rw [e12] at q12
    go_wp2_with fail
    refine q12.mono ?_
    rintro e w3 ⟨rfl, hb3⟩
    have H3 := Lib.hid (below_next H2.out (Nat.le_refl _) hb3)
    clear q12 hb3 H2
    have q16 := HN.out.2.1 _ H3.out 16 (by decide)
    rw [e16] at q16
    go_wp2_with fail
    refine q16.mono ?_
    rintro e w4 ⟨rfl, hb4⟩
    have H4 := Lib.hid (below_next H3.out (Nat.le_refl _) hb4)
    clear q16 hb4 H3
    have q4 := HN.out.1 _ H4.out 4 (by decide)
    rw [e4] at q4
    go_wp2_with fail
    refine q4.mono ?_
    rintro e w5 ⟨rfl, hb5⟩
    have H5 := Lib.hid (below_next H4.out (Nat.le_refl _) hb5)
    clear q4 hb5 H4
    by_cases c4 : n4 = 0
    rotate_left
    · have t2 : ((n4 : Int) != 0) = true := by simp; omega
      have hP : endS l = .error 10 := by rw [HE.out, if_pos (.inl (by omega))]
      have HP := Lib.hid hP
      clear hP c4
      go_wp2_with fail
      go_ret2
      exact .inl ⟨10, by rw [HD.out, HP.out], by decide, rfl, H5.out⟩
    · have t2 : ((n4 : Int) != 0) = false := by simp [c4]
      have q6 := HN.out.1 _ H5.out 6 (by decide)
      rw [e6] at q6
      have HC4 := Lib.hid c4
      clear c4
      go_wp2_with fail
      refine q6.mono ?_
      rintro e w6 ⟨rfl, hb6⟩
      have H6 := Lib.hid (below_next H5.out (Nat.le_refl _) hb6)
      clear q6 hb6 H5
      by_cases c6 : n6 = 0
      rotate_left
      · have t3 : ((n6 : Int) != 0) = true := by simp; omega
        have hP : endS l = .error 10 := by rw [HE.out, if_pos (.inr (.inl (by omega)))]
        have HP := Lib.hid hP
        clear hP c6
        go_wp2_with fail
        go_ret2
        exact .inl ⟨10, by rw [HD.out, HP.out], by decide, rfl, H6.out⟩
      · have t3 : ((n6 : Int) != 0) = false := by simp [c6]
        have q10 := HN.out.1 _ H6.out 10 (by decide)
        rw [e10] at q10
        have HC6 := Lib.hid c6
        clear c6
        go_wp2_with fail
        refine q10.mono ?_
        rintro e w7 ⟨rfl, hb7⟩
        have H7 := Lib.hid (below_next H6.out (Nat.le_refl _) hb7)
        clear q10 hb7 H6
        by_cases c10 : n10 = n8
        rotate_left
        · have t4 : ((n10 : Int) != (n8 : Int)) = true := by simp; omega
          have hP : endS l = .error 10 := by rw [HE.out, if_pos (.inr (.inr (.inl (by omega))))]
          have HP := Lib.hid hP
          clear hP c10
          go_wp2_with fail
          go_ret2
          exact .inl ⟨10, by rw [HD.out, HP.out], by decide, rfl, H7.out⟩
        · have t4 : ((n10 : Int) != (n8 : Int)) = false := by simp [c10]
          by_cases c64 : n8 > 64
          · have t5 : decide ((n8 : Int) > 64) = true := by simp; omega
            have hP : endS l = .error 10 := by rw [HE.out, if_pos (.inr (.inr (.inr (.inl (by omega)))))]
            have HP := Lib.hid hP
            clear hP c10 c64
            go_wp2_with fail
            go_ret2
            exact .inl ⟨10, by rw [HD.out, HP.out], by decide, rfl, H7.out⟩
          · have t5 : decide ((n8 : Int) > 64) = false := by simp; omega
            by_cases cp : n16 + n12 = p
            rotate_left
            · have t6 : ((n16 : Int) + n12 != (p : Int)) = true := by simp; omega
              have hP : endS l = .error 10 := by rw [HE.out, if_pos (.inr (.inr (.inr (.inr (by omega)))))]
              have HP := Lib.hid hP
              clear hP c10 c64 cp
              go_wp2_with fail
              go_ret2
              exact .inl ⟨10, by rw [HD.out, HP.out], by decide, rfl, H7.out⟩
            · have t6 : ((n16 : Int) + n12 != (p : Int)) = false := by simp; omega
              have hP : endS l = .ok ((n16 : Int), p, (n8 : Int)) := by
                have := HC4.out
                have := HC6.out
                rw [HE.out, if_neg (by omega), c10]
              have hce := refCentral (F := n16) (T := p) (N := n8) hc hm (HN.out.2.2 H7.out) (by omega) (by omega) (by omega)
              have hF : n16 ≤ p := by omega
              have h64 : n8 ≤ 64 := by omega
              have HP := Lib.hid hP
              clear hP c10 c64 cp HC4 HC6 HE e4 e6 e8 e10 e12 e16
              go_wp2_with fail
              refine hce.mono ?_
              rintro e w8 (⟨er, h1, h2, rfl, hb8⟩ | ⟨ps, V1, V2, h1, rfl, hW⟩)
              · have t7 : (er != 0) = true := by simp [h2]
                have H8 := Lib.hid (And.intro h1 (And.intro h2 (below_next H7.out (Nat.le_refl _) hb8)))
                clear hce hb8 h1 h2
                go_wp2_with fail
                go_ret2
                exact .inl ⟨er, by rw [HD.out, HP.out]; simp only [Int.toNat_natCast]; rw [H8.out.1], H8.out.2.1, rfl, H8.out.2.2⟩
              · obtain ⟨hck, hpl⟩ := cenS_ok (fr := n16) (ps := []) (Nat.le_refl _) ⟨fun p hp => (by cases hp), List.nodup_nil⟩ h1
                have hps : ∀ x ∈ ps, x + szL l x ≤ l.length := fun x hx => by have := (hck.at_ x hx).2.1; omega
                have hpn : ps.length ≤ 64 := by rw [hpl]; simpa using h64
                have hsz7 := H7.out.size
                have H8 := Lib.hid (And.intro (below_next H7.out (Nat.le_refl _) hW.low) (And.intro (own_base hW.r1 hsz7) (own_base hW.r2 hsz7)))
                have HC := Lib.hid (And.intro h1 hps)
                clear hce hW hck hpl h1 hps hsz7
                obtain ⟨n, hn⟩ : ∃ n, ps.length = n := ⟨_, rfl⟩
                rw [hn] at H8 hpn
                have HNN := Lib.hid hn
                clear hn
                obtain ⟨aV, cV, hV⟩ := own_shape H8.out.2.1
                obtain ⟨aP, cP, hP⟩ := own_shape H8.out.2.2
                subst hV
                subst hP
                go_wp2_with fail
                clear t1 t2 t3 t4 t5 t6
                go_loopw [11] (fun i wr => ∃ (q : Nat) (bs : List Nat), q ≤ n ∧ i = .int .i64 q ∧ Hid (bs.length = q ∧ locsS l n16 (ps.take q) = some bs ∧ Below w.heap.size w wr ∧ wr.ownsRow w.heap.size 44 7 (.slice aV n cV) n (recA l ((ps.take q).zip bs) (ps.drop q)) ∧ wr.ownsRow w.heap.size 3 1 (.slice aP n cP) n (placeV ps))) (fun i _ => n - (intOf i).toNat)
                case atStart => exact ⟨0, [], Nat.zero_le _, rfl, Lib.hid ⟨rfl, rfl, H8.out.1, H8.out.2.1, H8.out.2.2⟩⟩
                case round =>
                  obtain ⟨q, bs, hq, rfl, HI⟩ := hrel
                  by_cases hq2 : q < n
                  · obtain ⟨pp, hpp⟩ : ∃ pp, ps[q]? = some pp := ⟨_, List.getElem?_eq_getElem (by rw [HNN.out]; exact hq2)⟩
                    have hpm : pp ∈ ps := List.mem_of_getElem? hpp
                    have hszp := HC.out.2 pp hpm
                    have hdrop : ps.drop q = pp :: ps.drop (q + 1) := by rw [List.drop_eq_getElem?_toList_append, hpp]; rfl
                    have htake : ps.take (q + 1) = ps.take q ++ [pp] := by rw [List.take_add_one, hpp]; rfl
                    obtain ⟨h1, h2, h3, h4, h5⟩ := HI.out
                    obtain ⟨G, cp, hV, hGb, hGl⟩ := h4.form (by omega)
                    injection hV with hV1 _ hV2
                    subst hV1
                    subst hV2
                    obtain ⟨G2, cp2, hV, _, _⟩ := h5.form (by omega)
                    injection hV with hV1 _ hV2
                    subst hV1
                    subst hV2
                    have hzl : ((ps.take q).zip bs).length = q := by rw [List.length_zip, List.length_take, h1, HNN.out]; omega
                    have hrl : (recR l ((ps.take q).zip bs)).length = q * 7 := by rw [recR_len, hzl]
                    have hsplit : recA l ((ps.take q).zip bs) (ps.drop q) = recR l ((ps.take q).zip bs) ++ (recC l (pp, 0) ++ recP l (ps.drop (q + 1))) := by rw [hdrop]; rfl
                    rw [hsplit] at h4
                    have hrg : wr.drew.rangeAt G (q * 7) (recC l (pp, 0)) := fun j v hv => by
                      have hj : j < 7 := (List.getElem?_eq_some_iff.1 hv).1
                      show wr.cell? _ = _
                      rw [h4.cellAt (q * 7 + j) (by omega), List.getElem?_append_right (by omega), hrl, show q * 7 + j - q * 7 = j by omega, List.getElem?_append_left (by rw [recC_len]; exact hj)]
                      exact hv
                    have hpl : wr.drew.cell? ⟨G2, q, none⟩ = some (.int .i64 (pp : Nat)) := by
                      show wr.cell? _ = _
                      rw [h5.cellAt q (by omega)]
                      unfold placeV
                      rw [List.getElem?_map, hpp]; rfl
                    have hlo := refLocal (w := wr.drew) (F := n16) (p := pp) hc hm (HN.out.2.2 (wk := wr.drew) ⟨h3.os, h3.tape, h3.output, h3.size, h3.block⟩) (by omega) hszp
                    have hcell5 : ∀ W, Below wr.drew.heap.size wr.drew W → W.cell? ⟨G, q * 7 + 5, none⟩ = some (.int .i64 0) ∧ W.frozen? ⟨G, q * 7 + 5, none⟩ = false := fun W hW => by
                      have h45 := own_below (w := wr.drew) h4 hW
                      refine ⟨?_, ?_⟩
                      · rw [h45.cellAt (q * 7 + 5) (by omega), List.getElem?_append_right (by omega), hrl, show q * 7 + 5 - q * 7 = 5 by omega]; rfl
                      · rcases h45.2 with ⟨e, _⟩ | ⟨g', cap, cur, e, _, hg', _⟩
                        · cases e
                        · injection e with e1
                          injection e1 with e1
                          injection e1 with e1
                          subst e1
                          exact blk_free hg' _
                    have HJ := Lib.hid (And.intro h1 (And.intro h2 (And.intro h3 (And.intro h4 (And.intro h5 (And.intro hzl hrl))))))
                    have HK := Lib.hid (And.intro hpp (And.intro hdrop (And.intro htake (And.intro hGb hsplit))))
                    clear h1 h2 h3 h4 h5 hzl hrl hsplit hpp hpm hdrop htake HI
                    go_upto_region 15 with (fail)
                    rename_i hKK
                    refine wp_region_listed (C := DrC wr.drew G (q * 7 + 5) (.int .i64 (locI l n16 pp))) (G := GV [.slice (some ⟨G, 0, none⟩) n cV, .int .i64 (q : Nat), .slice b l.length c, .slice (some ⟨G, 0, none⟩) n cV, .int .i64 (q : Nat), .pointer (some ⟨G, q * 7, none⟩), .agg (recC l (pp, 0)).toArray, .slice (some ⟨G2, 0, none⟩) n cP, .int .i64 (q : Nat), .pointer (some ⟨G2, q, none⟩), .int .i64 (pp : Nat), .int .i64 (n16 : Nat), .int .i64 (locI l n16 pp), .pointer (some ⟨G, q * 7, none⟩), .pointer (some ⟨G, q * 7 + 5, none⟩)])
                      (by kernel_rfl) (ordL_spec (by kernel_rfl)) (dstB_spec (by kernel_rfl)) (inB_spec (by kernel_rfl)) ⟨fun q => (by simp at q), fun q => (by simp at q), by rw [if_neg (by simp), if_neg (by simp)]; rfl⟩ ?step ?fin
                    case step =>
                      intro i o a1 L W1 ho hli hC hdep hsame
                      have hltn : i < 16 := lt_of_some ho
                      match i, hltn, ho with
                      | 0, _, ho =>
                        obtain rfl := Option.some.inj ho
                        exact step_val ho rfl (y_move rfl (hsame 8 (notB_spec (by kernel_rfl)))) rfl (hC.skip 0 (by decide) (by decide))
                      | 1, _, ho =>
                        obtain rfl := Option.some.inj ho
                        exact step_val ho rfl (y_move rfl (hsame 11 (notB_spec (by kernel_rfl)))) rfl (hC.skip 1 (by decide) (by decide))
                      | 2, _, ho =>
                        obtain rfl := Option.some.inj ho
                        exact step_val ho rfl (y_move rfl (hsame 0 (notB_spec (by kernel_rfl)))) rfl (hC.skip 2 (by decide) (by decide))
                      | 3, _, ho =>
                        obtain rfl := Option.some.inj ho
                        exact step_val ho rfl (y_move rfl (hsame 8 (notB_spec (by kernel_rfl)))) rfl (hC.skip 3 (by decide) (by decide))
                      | 4, _, ho =>
                        obtain rfl := Option.some.inj ho
                        exact step_val ho rfl (y_move rfl (hsame 11 (notB_spec (by kernel_rfl)))) rfl (hC.skip 4 (by decide) (by decide))
                      | 5, _, ho =>
                        obtain rfl := Option.some.inj ho
                        exact step_val ho rfl (y_index rfl ((hdep ⟨3, .data⟩ (by simp) rfl).2 _ _ rfl rfl) ((hdep ⟨4, .data⟩ (by simp) rfl).2 _ _ rfl rfl) (ia_rec G n cV q _ hq2)) rfl (hC.skip 5 (by decide) (by decide))
                      | 6, _, ho =>
                        obtain rfl := Option.some.inj ho
                        obtain rfl := hC.early (fun q => by have := (hC.c12 q).1; rw [hli] at this; cases this)
                        exact step_val ho rfl (y_loadM rfl ((hdep ⟨5, .data⟩ (by simp) rfl).2 _ _ rfl rfl) hrg Tryz.underlying44 rfl (by rw [recC_len]; exact rec_info7)) rfl (hC.skip 6 (by decide) (by decide))
                      | 7, _, ho =>
                        obtain rfl := Option.some.inj ho
                        exact step_val ho rfl (y_move rfl (hsame 9 (notB_spec (by kernel_rfl)))) rfl (hC.skip 7 (by decide) (by decide))
                      | 8, _, ho =>
                        obtain rfl := Option.some.inj ho
                        exact step_val ho rfl (y_move rfl (hsame 11 (notB_spec (by kernel_rfl)))) rfl (hC.skip 8 (by decide) (by decide))
                      | 9, _, ho =>
                        obtain rfl := Option.some.inj ho
                        exact step_val ho rfl (y_index rfl ((hdep ⟨7, .data⟩ (by simp) rfl).2 _ _ rfl rfl) ((hdep ⟨8, .data⟩ (by simp) rfl).2 _ _ rfl rfl) (ia_int G2 n cP q _ hq2)) rfl (hC.skip 9 (by decide) (by decide))
                      | 10, _, ho =>
                        obtain rfl := Option.some.inj ho
                        obtain rfl := hC.early (fun q => by have := (hC.c12 q).2; rw [hli] at this; cases this)
                        exact step_val ho rfl (y_load rfl ((hdep ⟨9, .data⟩ (by simp) rfl).2 _ _ rfl rfl) (y_ld3 G2 q _ (.int .i64 (pp : Nat)) _ (by kernel_rfl) hpl)) rfl (hC.skip 10 (by decide) (by decide))
                      | 11, _, ho =>
                        obtain rfl := Option.some.inj ho
                        exact step_val ho rfl (y_move rfl (hsame 7 (notB_spec (by kernel_rfl)))) rfl (hC.skip 11 (by decide) (by decide))
                      | 12, _, ho =>
                        obtain rfl := Option.some.inj ho
                        have h2 := hdep ⟨2, .data⟩ (by simp) rfl
                        have h6 := hdep ⟨6, .data⟩ (by simp) rfl
                        have h10 := hdep ⟨10, .data⟩ (by simp) rfl
                        have h11 := hdep ⟨11, .data⟩ (by simp) rfl
                        obtain rfl := hC.early (fun q => by rw [hli] at q; cases q)
                        refine step_calls ho rfl (x_callL rfl) ?_
                        rw [h2.2 _ _ rfl rfl, h6.2 _ _ rfl rfl, h10.2 _ _ rfl rfl, h11.2 _ _ rfl rfl]
                        exact hlo.mono fun e w4 ⟨h1, hb4⟩ => ⟨_, h1, rfl, hC.put12 hli h6.1 h10.1 hb4⟩
                      | 13, _, ho =>
                        obtain rfl := Option.some.inj ho
                        exact step_val ho rfl (y_index rfl ((hdep ⟨0, .data⟩ (by simp) rfl).2 _ _ rfl rfl) ((hdep ⟨1, .data⟩ (by simp) rfl).2 _ _ rfl rfl) (ia_rec G n cV q _ hq2)) rfl (hC.skip 13 (by decide) (by decide))
                      | 14, _, ho =>
                        obtain rfl := Option.some.inj ho
                        exact step_val ho rfl (y_field rfl ((hdep ⟨13, .data⟩ (by simp) rfl).2 _ _ rfl rfl) (rc_fa5 G (q * 7) _)) rfl (hC.skip 14 (by decide) (by decide))
                      | 15, _, ho =>
                        obtain rfl := Option.some.inj ho
                        have h12 := hdep ⟨12, .data⟩ (by simp) rfl
                        obtain ⟨hb4, hC2⟩ := hC.put15 (u := .int .i64 (locI l n16 pp)) hli h12.1
                        obtain ⟨d5, f5⟩ := hcell5 _ hb4
                        exact step_none ho rfl rfl (y_store rfl ((hdep ⟨14, .data⟩ (by simp) rfl).2 _ _ rfl rfl) (h12.2 _ _ rfl rfl) (y_stI G (q * 7 + 5) _ _ _ d5 f5)) hC2
                      | n + 16, h, _ => exact absurd h (by omega)
                    case fin =>
                      intro a1 L W1 hall hC hgood hsame hsize hdef
                      obtain ⟨w4, hb4, rfl⟩ := hC.last (hall 15 (by decide))
                      refine hKK _ _ ?_
                      have hact := act_of_same (List.range 151) (fun t => decide (82 ≤ t ∧ t ≤ 96)) (by kernel_rfl) (fun t ht => hsame t (wrB_spec (wr := fun t => decide (82 ≤ t ∧ t ≤ 96)) (by kernel_rfl) ht)) hsize hdef
                      rw [show List.range 151 = [0, 1, 2, 3, 4, 5, 6, 7, 8, 9, 10, 11, 12, 13, 14, 15, 16, 17, 18, 19, 20, 21, 22, 23, 24, 25, 26, 27, 28, 29, 30, 31, 32, 33, 34, 35, 36, 37, 38, 39, 40, 41, 42, 43, 44, 45, 46, 47, 48, 49, 50, 51, 52, 53, 54, 55, 56, 57, 58, 59, 60, 61, 62, 63, 64, 65, 66, 67, 68, 69, 70, 71, 72, 73, 74, 75, 76, 77, 78, 79, 80, 81, 82, 83, 84, 85, 86, 87, 88, 89, 90, 91, 92, 93, 94, 95, 96, 97, 98, 99, 100, 101, 102, 103, 104, 105, 106, 107, 108, 109, 110, 111, 112, 113, 114, 115, 116, 117, 118, 119, 120, 121, 122, 123, 124, 125, 126, 127, 128, 129, 130, 131, 132, 133, 134, 135, 136, 137, 138, 139, 140, 141, 142, 143, 144, 145, 146, 147, 148, 149, 150] by decide] at hact
                      generalize a1.eval = f at hact
                      simp only [List.map_cons, List.map_nil] at hact
                      simp [Act.eval] at hact
                      rw [hact]
                      clear hact hgood hsame hsize hdef hall hKK hC
                      obtain ⟨h1, h2, h3, h4, h5, hzl, hrl⟩ := HJ.out
                      obtain ⟨hpp, hdrop, htake, hGb, hsplit⟩ := HK.out
                      have h3d : Below w.heap.size w wr.drew := ⟨h3.os, h3.tape, h3.output, h3.size, h3.block⟩
                      have hlo4 : Below w.heap.size w w4 := below_next h3d (Nat.le_refl _) hb4
                      have g4 := ((own_below (w := wr.drew) h4 hb4).stored (q * 7 + 5) (.int .i64 (locI l n16 pp))).1
                      have g5a := own_below (w := wr.drew) h5 hb4
                      have g4a := own_below (w := wr.drew) h4 hb4
                      have hne : (Value.slice (some ⟨G2, 0, none⟩) n cP).ownBlock ≠ some G := by
                        rcases own_apart g4a g5a (by decide) with e | e
                        · simp [Value.ownBlock] at e
                        · exact e
                      have g5 := own_other g5a hne (q * 7 + 5) (.int .i64 (locI l n16 pp))
                      have hlo5 : Below w.heap.size w (w4.setCell ⟨G, q * 7 + 5, none⟩ (.int .i64 (locI l n16 pp))) := hlo4.setCell (p := ⟨G, q * 7 + 5, none⟩) hGb _
                      have d5 : (w4.setCell ⟨G, q * 7 + 5, none⟩ (.int .i64 (locI l n16 pp))).cell? ⟨G, q * 7 + 5, none⟩ = some (.int .i64 (locI l n16 pp)) := World.cell?_setCell_same _ _ _ (hcell5 w4 hb4).1
                      rw [← hrl, set_mid _ _ _ 5 _ (by rw [recC_len]; decide)] at g4
                      rw [hrl] at g4
                      clear hcell5 hrg hpl hlo h4 h5 g4a g5a hne hlo4 h3d
                      generalize w4.setCell ⟨G, q * 7 + 5, none⟩ (.int .i64 (locI l n16 pp)) = w5 at *
                      have HL := Lib.hid (And.intro g4 (And.intro g5 (And.intro hlo5 hb4)))
                      clear g4 g5 hlo5 hb4 h1 h2 h3 hzl hrl hpp hdrop htake hGb hsplit
                      cases hloc : locS l n16 pp with
                      | none =>
                        rw [locI_none hloc] at d5
                        have hP : locsS l n16 ps = none := by
                          have h2 : locsS l n16 (ps.take (q + 1)) = none := by rw [HK.out.2.2.1, locsS_snoc, HJ.out.2.1, hloc]; rfl
                          have h3 := locsS_none (ps.drop (q + 1)) h2
                          rwa [List.take_append_drop] at h3
                        have HP2 := Lib.hid hP
                        clear hP hloc
                        go_wp2_with fail
                        go_ret2
                        exact .inl ⟨15, by rw [HD.out, HP.out]; simp only [Int.toNat_natCast]; rw [HC.out.1]; simp only; rw [HP2.out], by decide, rfl, HL.out.2.2.1⟩
                      | some a =>
                        rw [locI_some hloc] at d5
                        have hab : (0 : Int) ≤ (a : Int) := by omega
                        have t7 : decide ((a : Int) < 0) = false := by simp
                        have g4 := HL.out.1
                        rw [locI_some hloc, recC_set] at g4
                        have hz1 : (ps.take (q + 1)).zip (bs ++ [a]) = (ps.take q).zip bs ++ [(pp, a)] := by
                          rw [HK.out.2.2.1, List.zip_append (by rw [List.length_take, HJ.out.1, HNN.out]; omega)]; rfl
                        have hR : recR l ((ps.take q).zip bs) ++ (recC l (pp, a) ++ recP l (ps.drop (q + 1))) = recA l ((ps.take (q + 1)).zip (bs ++ [a])) (ps.drop (q + 1)) := by
                          rw [hz1]; unfold recA recR; rw [List.flatMap_append]; simp
                        rw [hR] at g4
                        have h2 : locsS l n16 (ps.take (q + 1)) = some (bs ++ [a]) := by rw [HK.out.2.2.1, locsS_snoc, HJ.out.2.1, hloc]; rfl
                        have HO := Lib.hid (And.intro h2 g4)
                        clear h2 g4 hR hz1 hloc
                        go_wp2_with fail
                        go_roundw
                        case rel => exact ⟨q + 1, bs ++ [a], by omega, by go_num, Lib.hid ⟨by rw [List.length_append, HJ.out.1]; rfl, HO.out.1, HL.out.2.2.1, HO.out.2, HL.out.2.1⟩⟩
                        case measure => simp [intOf]; omega
                  · obtain rfl : n = q := by omega
                    have hT : ps.take n = ps := List.take_of_length_le (by rw [HNN.out]; exact Nat.le_refl _)
                    have hDr : ps.drop n = [] := List.drop_eq_nil_of_le (by rw [HNN.out]; exact Nat.le_refl _)
                    obtain ⟨h1, h2, h3, h4, h5⟩ := HI.out
                    rw [hT] at h2 h4
                    rw [hDr] at h4
                    unfold recA recP at h4
                    rw [List.flatMap_nil, List.append_nil] at h4
                    have hzn : (ps.zip bs).length = n := by rw [List.length_zip, h1, HNN.out]; omega
                    have hes : ∀ e ∈ ps.zip bs, e.2 ≤ 65536 := fun e he => by
                      have h6 := locS_ok (locsS_at h2 e he)
                      omega
                    have hbd : ∀ x, hdL l x ≤ 4294967295 ∧ pkL l x ≤ 4294967295 := fun x => by
                      have h1 := numL_bd hB ((x : Int) + 42) 4 (by decide)
                      have h2 := numL_bd hB ((x : Int) + 20) 4 (by decide)
                      unfold hdL pkL; omega
                    have hDD : dirS l = if ovS l [] (ps.zip bs) then .error 16 else .ok (ps.zip bs) := by
                      rw [HD.out, HP.out]; simp only [Int.toNat_natCast]; rw [HC.out.1]; simp only; rw [h2]
                    generalize ps.zip bs = es at *
                    have HX := Lib.hid (And.intro h3 (And.intro h4 (And.intro hzn (And.intro hes (And.intro hbd hDD)))))
                    clear h1 h2 h3 h4 h5 hT hDr hzn hes hbd hDD HI HD HP HC H8 HNN H7 HN HB
                    go_wp2_with fail
                    rename World => wv
                    go_loopw [12] (fun i w2 => ∃ (q d : Nat), q ≤ n ∧ i = .int .i64 q ∧ w2 = wv.drewN d ∧ Hid (ovS l [] es = ovS l (es.take q) (es.drop q))) (fun i _ => n - (intOf i).toNat)
                    case atStart => exact ⟨0, 0, Nat.zero_le _, rfl, rfl, Lib.hid rfl⟩
                    case round =>
                      obtain ⟨q, d, hqn, rfl, rfl, HI⟩ := hrel
                      by_cases hlt : q < n
                      · obtain ⟨e, he⟩ : ∃ e, es[q]? = some e := ⟨_, List.getElem?_eq_getElem (by rw [HX.out.2.2.1]; exact hlt)⟩
                        have hem : e ∈ es := List.mem_of_getElem? he
                        obtain ⟨G, cp, hV, _, _⟩ := HX.out.2.1.form (by omega)
                        injection hV with hV1 _ hV2
                        subst hV1
                        subst hV2
                        have hcell : ∀ k x j v, es[k]? = some x → j < 7 → (recC l x)[j]? = some v → wv.cell? ⟨G, k * 7 + j, none⟩ = some v := fun k x j v hk hj hv => by
                          have hkn : k < es.length := (List.getElem?_eq_some_iff.1 hk).1
                          rw [HX.out.2.1.cellAt (k * 7 + j) (by rw [HX.out.2.2.1] at hkn; omega), recR_at hk hj]; exact hv
                        have i6 := hcell q e 6 _ he (by decide) rfl
                        have i5 := hcell q e 5 _ he (by decide) rfl
                        have i2 := hcell q e 2 _ he (by decide) rfl
                        have hdrop : es.drop q = e :: es.drop (q + 1) := by rw [List.drop_eq_getElem?_toList_append, he]; rfl
                        have htake : es.take (q + 1) = es.take q ++ [e] := by rw [List.take_add_one, he]; rfl
                        have hstep : ovS l (es.take q) (es.drop q) = ((es.take q).any (fun d => onOne l e d) || ovS l (es.take (q + 1)) (es.drop (q + 1))) := by rw [hdrop, htake]; rfl
                        have b1 := HX.out.2.2.2.2.1 e.1
                        have b2 := HX.out.2.2.2.1 e hem
                        have HS := Lib.hid (And.intro hstep (And.intro hcell trivial))
                        clear hstep hcell hdrop htake he hem
                        go_wp2_with fail
                        go_loopw [13] (fun i w2 => ∃ (k d2 : Nat), k ≤ q ∧ i = .int .i64 k ∧ w2 = wv.drewN d2 ∧ Hid ((es.take q).any (fun d => onOne l e d) = ((es.take q).drop k).any (fun d => onOne l e d))) (fun i _ => q - (intOf i).toNat)
                        case atStart => exact ⟨0, d, Nat.zero_le _, rfl, rfl, Lib.hid rfl⟩
                        case round =>
                          obtain ⟨k, d2, hk2, rfl, rfl, HJ⟩ := hrel
                          by_cases hlt2 : k < q
                          · obtain ⟨x, hx⟩ : ∃ x, es[k]? = some x := ⟨_, List.getElem?_eq_getElem (by rw [HX.out.2.2.1]; omega)⟩
                            have k6 := HS.out.2.1 k x 6 _ hx (by decide) rfl
                            have k5 := HS.out.2.1 k x 5 _ hx (by decide) rfl
                            have k2 := HS.out.2.1 k x 2 _ hx (by decide) rfl
                            have b3 := HX.out.2.2.2.2.1 x.1
                            have b4' := HX.out.2.2.2.1 x (List.mem_of_getElem? hx)
                            have hdd : (es.take q).drop k = x :: (es.take q).drop (k + 1) := by
                              have : (es.take q)[k]? = some x := by rw [List.getElem?_take_of_lt hlt2]; exact hx
                              rw [List.drop_eq_getElem?_toList_append, this]; rfl
                            have hon : onOne l e x = (decide (hdL l e.1 < x.2 + pkL l x.1) && decide (hdL l x.1 < e.2 + pkL l e.1)) := rfl
                            have HT := Lib.hid (And.intro hdd hon)
                            clear hdd hon hx
                            generalize hdL l e.1 = he1 at *
                            generalize pkL l e.1 = pe1 at *
                            generalize hae : e.2 = ae1 at *
                            generalize hdL l x.1 = hd1 at *
                            generalize pkL l x.1 = pd1 at *
                            generalize had : x.2 = ad1 at *
                            clear hae had
                            obtain ⟨En, hEn⟩ : ∃ En, ae1 + pe1 = En := ⟨_, rfl⟩
                            obtain ⟨Dn, hDn⟩ : ∃ Dn, ad1 + pd1 = Dn := ⟨_, rfl⟩
                            have a1 : IntKind.i64.wrap ((ad1 : Int) + (pd1 : Int)) = (Dn : Int) := by rw [IntWalk.i64_in _ (by omega)]; omega
                            have a2 : IntKind.i64.wrap ((ae1 : Int) + (pe1 : Int)) = (En : Int) := by rw [IntWalk.i64_in _ (by omega)]; omega
                            rw [hEn, hDn] at HT
                            clear hEn hDn
                            by_cases d1 : he1 < Dn
                            · have t1 : decide ((he1 : Int) < (Dn : Int)) = true := by simp; omega
                              have t1' : decide (he1 < Dn) = true := by simp; omega
                              by_cases d3 : hd1 < En
                              · have t2 : decide ((hd1 : Int) < (En : Int)) = true := by simp; omega
                                have t2' : decide (hd1 < En) = true := by simp; omega
                                have hO : ovS l [] es = true := by
                                  rw [HI.out, HS.out.1, HJ.out, HT.out.1, List.any_cons, HT.out.2, t1', t2']; rfl
                                have HO := Lib.hid hO
                                clear hO
                                go_wp2_with fail
                                go_quiet (fail)
                                go_wp2_with fail
                                go_ret2
                                exact .inl ⟨16, by rw [HX.out.2.2.2.2.2, HO.out]; rfl, by decide, rfl, low_drewN (low_drewN HX.out.1 _) _⟩
                              · have t2 : decide ((hd1 : Int) < (En : Int)) = false := by simp; omega
                                have t2' : decide (hd1 < En) = false := by simp; omega
                                have hO : (es.take q).any (fun d => onOne l e d) = ((es.take q).drop (k + 1)).any (fun d => onOne l e d) := by
                                  rw [HJ.out, HT.out.1, List.any_cons, HT.out.2, t1', t2']; rfl
                                have HO := Lib.hid hO
                                clear hO
                                go_wp2_with fail
                                go_quiet (fail)
                                go_wp2_with fail
                                go_roundw
                                case rel => exact ⟨k + 1, _, by omega, by go_num, rfl, HO⟩
                                case measure => simp [intOf]; omega
                            · have t1 : decide ((he1 : Int) < (Dn : Int)) = false := by simp; omega
                              have t1' : decide (he1 < Dn) = false := by simp; omega
                              have hO : (es.take q).any (fun d => onOne l e d) = ((es.take q).drop (k + 1)).any (fun d => onOne l e d) := by
                                rw [HJ.out, HT.out.1, List.any_cons, HT.out.2, t1']; rfl
                              have HO := Lib.hid hO
                              clear hO
                              go_wp2_with fail
                              go_quiet (fail)
                              go_wp2_with fail
                              go_roundw
                              case rel => exact ⟨k + 1, _, by omega, by go_num, rfl, HO⟩
                              case measure => simp [intOf]; omega
                          · obtain rfl : q = k := by omega
                            have hO : ovS l [] es = ovS l (es.take (q + 1)) (es.drop (q + 1)) := by
                              rw [HI.out, HS.out.1, HJ.out, List.drop_eq_nil_of_le (by rw [List.length_take]; omega)]; rfl
                            have HO := Lib.hid hO
                            clear hO
                            go_wp2_with fail
                            go_roundw
                            case rel => exact ⟨q + 1, d2, by omega, by go_num, rfl, HO⟩
                            case measure => simp [intOf]; omega
                      · obtain rfl : n = q := by omega
                        have hO : ovS l [] es = false := by rw [HI.out, List.drop_eq_nil_of_le (by rw [HX.out.2.2.1]; exact Nat.le_refl _)]; rfl
                        have HO := Lib.hid hO
                        clear hO
                        go_wp2_with fail
                        go_ret2
                        exact .inr ⟨es, _, by rw [HX.out.2.2.2.2.2, HO.out]; rfl, rfl, by rw [HX.out.2.2.1]; exact own_below HX.out.2.1 (low_drewN (Below.refl _ _) _), low_drewN HX.out.1 _⟩
end Go.Proofs.YtdcpibglbanchaaGreatDoor
