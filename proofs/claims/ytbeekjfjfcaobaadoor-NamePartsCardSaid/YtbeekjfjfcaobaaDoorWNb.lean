/- The walk of the law NameBack: it returns true and turns nothing that was there. Condition: the variable internal/bytealg.MaxLen has a value. -/
import Derived.Test.YtbeekjfjfcaobaaDoorWNa
set_option linter.unusedVariables false
set_option maxRecDepth 100000
namespace Go.Proofs.YtbeekjfjfcaobaaDoor
open Go.RowKit Go.Lib Go.Maps

def b8 (us : List Nat) : List UInt8 := (us.flatMap bytN).map Nat.toUInt8
theorem bU_map (xs : List Nat) (rest : List UInt8) {i : Nat} (h : i < xs.length) (hx : ∀ x ∈ xs, x < 256) : bU (xs.map Nat.toUInt8 ++ rest) i = xs[i] := by
  have hm : xs[i] ∈ xs := List.getElem_mem h
  have hl := hx _ hm
  unfold bU
  rw [List.getD_eq_getElem?_getD, List.getElem?_append_left (by rw [List.length_map]; exact h), List.getElem?_map, List.getElem?_eq_getElem h]
  show (Nat.toUInt8 xs[i]).toNat = xs[i]
  simp; omega
theorem unit1_back (u : Nat) (h : u < 65536) (rest : List UInt8) : unit1 ((bytN u).map Nat.toUInt8 ++ rest) = some (u, (bytN u).length) := by
  have hb := bytN_lt h
  have key : ∀ n, (bytN u).length = n → 1 ≤ n → n ≤ 3 → vN ((bytN u).map Nat.toUInt8 ++ rest) n = u → takeN ((bytN u).map Nat.toUInt8 ++ rest) n = bytN u → unit1 ((bytN u).map Nat.toUInt8 ++ rest) = some (u, (bytN u).length) := fun n hn h1 h3 hv ht => by
    have := (unit_n ((bytN u).map Nat.toUInt8 ++ rest) h1 h3 (by rw [List.length_append, List.length_map]; omega)).1 (by rw [hv, ht])
    rw [hv] at this
    rw [this, hn]
  have hat : ∀ i (hi : i < (bytN u).length), bU ((bytN u).map Nat.toUInt8 ++ rest) i = (bytN u)[i] := fun i hi => bU_map _ _ hi hb
  rcases bytN_cases u with ⟨h1, h2, h3⟩ | ⟨h1, h2, h3⟩ | ⟨h1, h2, h3⟩
  · have e0 : bU ((bytN u).map Nat.toUInt8 ++ rest) 0 = u := by rw [hat 0 (by rw [h2]; simp)]; simp only [h2]; rfl
    refine key 1 (by rw [h2]; rfl) (by decide) (by decide) e0 ?_
    show [bU _ 0] = _
    rw [e0, h2]
  · have e0 : bU ((bytN u).map Nat.toUInt8 ++ rest) 0 = 192 + u / 64 := by rw [hat 0 (by rw [h2]; simp)]; simp only [h2]; rfl
    have e1 : bU ((bytN u).map Nat.toUInt8 ++ rest) 1 = 128 + u % 64 := by rw [hat 1 (by rw [h2]; simp)]; simp only [h2]; rfl
    refine key 2 (by rw [h2]; rfl) (by decide) (by decide) ?_ ?_
    · show bU _ 0 % 32 * 64 + bU _ 1 % 64 = u
      rw [e0, e1]; omega
    · show [bU _ 0, bU _ 1] = _
      rw [e0, e1, h2]
  · have e0 : bU ((bytN u).map Nat.toUInt8 ++ rest) 0 = 224 + u / 4096 := by rw [hat 0 (by rw [h2]; simp)]; simp only [h2]; rfl
    have e1 : bU ((bytN u).map Nat.toUInt8 ++ rest) 1 = 128 + u / 64 % 64 := by rw [hat 1 (by rw [h2]; simp)]; simp only [h2]; rfl
    have e2 : bU ((bytN u).map Nat.toUInt8 ++ rest) 2 = 128 + u % 64 := by rw [hat 2 (by rw [h2]; simp)]; simp only [h2]; rfl
    refine key 3 (by rw [h2]; rfl) (by decide) (by decide) ?_ ?_
    · show bU _ 0 % 16 * 4096 + bU _ 1 % 64 * 64 + bU _ 2 % 64 = u
      rw [e0, e1, e2]; omega
    · show [bU _ 0, bU _ 1, bU _ 2] = _
      rw [e0, e1, e2, h2]
theorem units_back : ∀ us : List Nat, (∀ u ∈ us, u < 65536) → unitsT (b8 us) = some us
  | [], _ => rfl
  | u :: us, h => by
    have h1 := unit1_back u (h u (by simp)) (b8 us)
    have e : b8 (u :: us) = (bytN u).map Nat.toUInt8 ++ b8 us := by unfold b8; simp
    rw [e, unitsT_step h1]
    rw [List.drop_left' (by rw [List.length_map]), units_back us (fun v hv => h v (by simp [hv]))]; rfl
theorem units_of : ∀ (k : Nat) (l : List UInt8) (us : List Nat), unitsF k l = some us → b8 us = l
  | 0, _, _, h => by cases h
  | k + 1, l, us, h => by
    unfold unitsF at h
    split at h
    · rename_i hl
      injection h with h
      subst h
      rw [hl]; rfl
    · cases hu : unit1 l with
      | none => rw [hu] at h; cases h
      | some x =>
        obtain ⟨u, n⟩ := x
        rw [hu] at h
        simp only at h
        cases hr : unitsF k (l.drop n) with
        | none => rw [hr] at h; cases h
        | some vs =>
          rw [hr] at h
          injection h with h
          subst h
          have hb := unit1_bd hu
          have hv := vN_of hu
          have h2 := (unit_n l hb.2.1 hb.2.2.1 hb.2.2.2).2 (by rw [← hv]; exact hu)
          rw [← hv, takeN_is l hb.2.1 hb.2.2.1 hb.2.2.2] at h2
          have e : b8 (u :: vs) = (bytN u).map Nat.toUInt8 ++ b8 vs := by unfold b8; simp
          rw [e, units_of k _ vs hr, h2, List.map_map]
          have hid : (l.take n).map (Nat.toUInt8 ∘ UInt8.toNat) = l.take n := by
            conv => rhs; rw [← List.map_id (l.take n)]
            exact List.map_congr_left fun x _ => UInt8.toNat_inj.1 (by simp)
          rw [hid, List.take_append_drop]
theorem txt_b8 (us : List Nat) : tl (strOfNums (txtI us)) = b8 us := by
  show (strOfNums (txtI us)).data.toList = _
  rw [strOf_list]
  unfold txtI b8
  simp [List.map_map, Function.comp_def]
set_option maxHeartbeats 8000000 in
theorem nameback_walk (w : World) (s : ByteArray) (a : Option Addr) (n c : Nat) (us : List Nat) (hn : us.length = n) (hu : Us w w.heap.size a us) (hmx : Mx w) : Calls Tryd.prog 6 #[.string s, .slice a n c] w fun e w' => e = .returned (.bool true) ∧ Below w.heap.size w w' := by
  have hfx := fixed13 w hmx
  have HU := Lib.hid (And.intro hu hn)
  clear hmx hu hn
  by_cases hsn : s.size ≤ 20000 ∧ n ≤ 20000
  · obtain ⟨hs, hn2⟩ := hsn
    have t0 : decide ((s.size : Int) > 20000) = false := by simp; omega
    have t1 : decide ((n : Int) > 20000) = false := by simp; omega
    have hXu : unitsT (tl (strOfNums (txtI us))) = some us := by rw [txt_b8]; exact units_back us HU.out.1.1
    have hXs : (strOfNums (txtI us)).size ≤ 60000 := by
      rw [strOfNums_size]
      have := txtI_len us
      rw [HU.out.2] at this; omega
    go_enter Tryd.func6, Tryd.ntmps6
    go_wp2_with fail
    refine hfx.mono ?_
    rintro e w1 ⟨rfl, hb1⟩
    have c1 := text_is a n c us HU.out.2 hn2 w1 (HU.out.1.next hb1)
    have H1 := Lib.hid hb1
    clear hfx hb1
    generalize strOfNums (txtI us) = X at *
    go_wp2_with fail
    refine c1.mono ?_
    rintro e w2 ⟨rfl, hb2⟩
    have c2 := units_is X hXs w2
    have H2 := Lib.hid (below_next H1.out (Nat.le_refl _) hb2)
    clear c1 hb2
    go_wp2_with fail
    refine c2.mono ?_
    intro e w3 h3
    obtain ⟨a3, k3, rfl, ho3, hl3, hb3⟩ := uni_some h3 hXu
    have hw3 := below_next H2.out (Nat.le_refl _) hb3
    have hsm := sameUnits (w := w3) (n := us.length) (n' := n) (c := k3) (c' := c) rfl HU.out.2 (by rw [HU.out.2]; omega) (by omega) (Us.of_own ho3 HU.out.1.1) (HU.out.1.next hw3)
    rw [decide_eq_true rfl] at hsm
    have c4 := fun wk => units_is s (by omega) wk
    have H3 := Lib.hid hw3
    clear c2 h3 ho3 hb3 hw3 hXu hXs
    go_wp2_with fail
    refine hsm.mono ?_
    rintro e w4 ⟨rfl, d, rfl⟩
    have c5 := c4 (w3.drewN d)
    clear hsm c4
    go_wp2_with fail
    refine c5.mono ?_
    intro e w5 h5
    clear c5
    cases hme : unitsT (tl s) with
    | none =>
      obtain ⟨rfl, hb5⟩ := uni_none h5 hme
      have H5 := Lib.hid (below_next (low_drewN H3.out d) (Nat.le_refl _) hb5)
      clear h5 hb5 hme
      go_wp2_with fail
      go_ret
      exact ⟨rfl, H5.out⟩
    | some vs =>
      obtain ⟨a5, k5, rfl, ho5, hl5, hb5⟩ := uni_some h5 hme
      rw [tl_len] at hl5
      have hlt : ∀ u ∈ vs, u < 65536 := unitsT_lt hme
      have hw5 := below_next (low_drewN H3.out d) (Nat.le_refl _) hb5
      have c6 := text_is a5 vs.length k5 vs rfl (by omega) w5 (Us.of_own ho5 hlt)
      have heq : strOfNums (txtI vs) = s := tl_inj (by rw [txt_b8]; exact units_of _ _ _ hme)
      rw [heq] at c6
      have t9 : (s.toList == s.toList) = true := by simp
      have H5 := Lib.hid hw5
      clear h5 hb5 hme hlt heq ho5 hw5
      go_wp2_with fail
      refine c6.mono ?_
      rintro e w6 ⟨rfl, hb6⟩
      have H6 := Lib.hid (below_next H5.out (Nat.le_refl _) hb6)
      clear c6 hb6
      go_wp2_with fail
      go_ret
      exact ⟨rfl, H6.out⟩
  · have t01 : decide ((s.size : Int) > 20000) = true ∨ (decide ((s.size : Int) > 20000) = false ∧ decide ((n : Int) > 20000) = true) := by
      by_cases h : s.size ≤ 20000
      · exact .inr ⟨by simp; omega, by simp; omega⟩
      · exact .inl (by simp; omega)
    rcases t01 with t0 | ⟨t0, t1⟩
    all_goals
      go_enter Tryd.func6, Tryd.ntmps6
      go_wp2_with fail
      refine hfx.mono ?_
      rintro e w1 ⟨rfl, hb1⟩
      have H1 := Lib.hid hb1
      clear hfx hb1
      go_wp2_with fail
      go_ret
      exact ⟨rfl, H1.out⟩
end Go.Proofs.YtbeekjfjfcaobaaDoor
