/- The fixed lengths made: contracts of slices.Grow (of nil) and slices.Concat (of the four rows of the fixed lengths). No condition but what the words say. -/
import Derived.Test.YtpnnfekfoomgaaaDoorTo
import Derived.Lib.AppendZerosOnto
set_option linter.unusedVariables false
set_option maxRecDepth 100000
namespace Go.Proofs.YtpnnfekfoomgaaaDoor
open Go.RowKit

theorem grow_run (k : Nat) (hk : 0 < k) (hk2 : k ≤ 400) (w : World) : ∃ c w', (Builtin.append_ #[57, 3] 57 #[.slice none 0 0, .int .i64 k]).run Tryd.prog w = .ok (.slice (some ⟨w.heap.size, 0, none⟩) k c) w' ∧ k ≤ c ∧ w'.ownsRow w.heap.size 3 1 (.slice (some ⟨w.heap.size, 0, none⟩) 0 c) 0 [] ∧ Below w.heap.size w w' := by
  obtain ⟨i0, hi, hz0, hz1, hz2⟩ := info_parts int_info
  have hold : (Builtin.firstCells i0.size 0 (.slice none 0 0)).run Tryd.prog w.drew = .ok ([] : List Value).toArray w.drew := by
    simp [Builtin.firstCells]
  have hr := Go.Lib.run_append_grow_zeros (P := Tryd.prog) w 57 3 57 3 i0 (.int .i64 0) .i64 .i64 Tryd.underlying57 Tryd.underlying3 hi hz0 none 0 0 [] hold k hk (by rw [hz1]; decide) (by omega) (by omega) (by rw [hz2]; omega) (by rw [hz2]; exact growslice_fits (by omega) (by omega))
  rw [Nat.zero_add] at hr
  have hge := grownCap_ge w k 0 3
  have hle := grownCap_le_maxLen w k 0 3 (by unfold maxLen; omega)
  refine ⟨_, _, hr, hge, ⟨rfl, .inr ⟨w.heap.size, _, _, rfl, Nat.le_refl _, heap_alloc_new w.drew _, Nat.zero_le _, hle, ?_, by simp⟩⟩, ?_⟩
  · have hzc : (Value.int .i64 0).cells.size = 1 := rfl
    simp only [Array.size_append, List.size_toArray, size_zeroCells, hzc, List.length_nil]
    omega
  · exact (low_drewN (Below.refl w.heap.size w) 1).alloc (Nat.le_refl _) _
theorem wpList_zeros {w : World} {ops : Array Oper} {rest : List Oper} {o : Oper} {a : Act} {Q : Exit → Act → World → Prop} (hgd : o.guard = none) (s x : Operand)
    (ho : o.op = .call { callee := .builtin .append, args := #[s, x], argTypes := #[57, 3] }) (hty : o.type = 57) (k : Nat) (hk : 0 < k) (hk2 : k ≤ 400) (hs : a.eval s = .slice none 0 0) (hx : a.eval x = .int .i64 k)
    (h : ∀ c w', k ≤ c → w'.ownsRow w.heap.size 3 1 (.slice (some ⟨w.heap.size, 0, none⟩) 0 c) 0 [] → Below w.heap.size w w' → wpList Tryd.prog ops Q rest (a.put o.dst (.slice (some ⟨w.heap.size, 0, none⟩) k c)) w') : wpList Tryd.prog ops Q (o :: rest) a w :=
  wpList_plain hgd fun _ hK => by
    obtain ⟨c, w', hr, h2, h3, h4⟩ := grow_run k hk hk2 w
    unfold Oper.wp execOp
    simp only [ho, hty, resolve, invoke, builtin, Sem.run_bind, Sem.run_pure, Result.andThen_ok, List.map_toArray, List.map_cons, List.map_nil, hs, hx, hr]
    exact hK _ _ (h c w' h2 h3 h4)
theorem grow_is (k : Nat) (hk : 0 < k) (hk2 : k ≤ 400) (w : World) : Calls Tryd.prog 63 #[.slice none 0 0, .int .i64 k] w fun e w' => ∃ c, e = .returned (.slice (some ⟨w.heap.size, 0, none⟩) 0 c) ∧ w'.ownsRow w.heap.size 3 1 (.slice (some ⟨w.heap.size, 0, none⟩) 0 c) 0 [] ∧ Below w.heap.size w w' := by
  have h1 : decide ((k : Int) < 0) = false := by simp
  have h2 : decide ((k : Int) > 0) = true := by simp; omega
  go_enter Tryd.func63, Tryd.ntmps63
  go_wp2_with (at_builtin; refine wpList_zeros rfl _ _ rfl rfl k hk hk2 rfl rfl ?_; intro c w' hc hown hb)
  have HO := Lib.hid (And.intro hown hb)
  clear hown hb
  go_wp2_with fail
  go_ret
  exact ⟨c, rfl, HO.out.1, HO.out.2⟩
/-- the four rows of the fixed lengths -/
def fxn : List Nat := [144, 112, 24, 8]
def fxv : List Int := [8, 9, 7, 8]
def fxs : List Nat := [0, 144, 256, 280, 288]
theorem fx_step : ∀ k, k < 4 → fxs.getD (k + 1) 0 = fxs.getD k 0 + fxn.getD k 0 ∧ fixL.take (fxs.getD (k + 1) 0) = fixL.take (fxs.getD k 0) ++ List.replicate (fxn.getD k 0) (fxv.getD k 0) ∧ fxs.getD k 0 ≤ 288 ∧ fxn.getD k 0 ≤ 144 := by decide +kernel
set_option maxHeartbeats 4000000 in
theorem concat_is (w : World) (SB c : Nat) (bs : Nat → Nat) (hsl : ∀ k, k < 4 → w.cell? ⟨SB, k, none⟩ = some (.slice (some ⟨bs k, 0, none⟩) (fxn.getD k 0) (fxn.getD k 0))) (hSB : SB < w.heap.size)
    (hbl : ∀ k, k < 4 → w.heap[bs k]? = some (.cells (arrN (fxn.getD k 0) fun _ => fxv.getD k 0) 3 (0, 0))) :
    Calls Tryd.prog 43 #[.slice (some ⟨SB, 0, none⟩) 4 4] w fun e w' => ∃ a c, e = .returned (.slice a 288 c) ∧ w'.ownsRow w.heap.size 3 1 (.slice a 288 c) 288 (fixL.map (Value.int .i64)) ∧ Below w.heap.size w w' := by
  have HB := Lib.hid (And.intro hsl hbl)
  clear hsl hbl
  go_enter Tryd.func43, Tryd.ntmps43
  go_wp2_with fail
  go_loop [3, 11] (fun sz i => ∃ k : Nat, k ≤ 4 ∧ i = .int .i64 k ∧ sz = .int .i64 (fxs.getD k 0 : Nat)) (fun _ i => 4 - (intOf i).toNat)
  case atStart => exact ⟨0, by omega, rfl, rfl⟩
  case round =>
    obtain ⟨k, hk, rfl, rfl⟩ := hrel
    by_cases hlt : k < 4
    · obtain ⟨e1, e2, e3, e4⟩ := fx_step k hlt
      have hc := HB.out.1 k hlt
      obtain ⟨S, hS⟩ : ∃ S, fxs.getD k 0 = S := ⟨_, rfl⟩
      obtain ⟨N, hN⟩ : ∃ N, fxn.getD k 0 = N := ⟨_, rfl⟩
      rw [hS, hN] at e1
      rw [hN] at hc e4
      rw [hS] at e3
      have HE := Lib.hid e1
      have h0 : decide ((S : Int) + (N : Int) < 0) = false := by simp; omega
      rw [hS]
      clear e1 e2 hS hN
      go_wp2_with fail
      exact ⟨⟨k + 1, by omega, by go_num, by rw [HE.out]; go_num⟩, by simp [intOf]; omega⟩
    · obtain rfl : k = 4 := by omega
      have hg := grow_is 288 (by decide) (by decide) w
      rw [show ((fxs.getD 4 0 : Nat) : Int) = 288 from rfl]
      rw [show ((288 : Nat) : Int) = 288 from rfl] at hg
      go_wp2_with fail
      refine hg.mono ?_
      rintro e w2 ⟨c2, rfl, hown, hb⟩
      have H2 := Lib.hid (And.intro hown hb)
      clear hown hb hg
      go_wp2_with fail
      go_loopw [6, 27] (fun v i wr => ∃ (k : Nat) (a2 : Option Addr) (c2 : Nat), k ≤ 4 ∧ i = .int .i64 k ∧ v = .slice a2 (fxs.getD k 0) c2 ∧ Hid (wr.ownsRow w.heap.size 3 1 (.slice a2 (fxs.getD k 0) c2) (fxs.getD k 0) ((fixL.take (fxs.getD k 0)).map (Value.int .i64)) ∧ Below w.heap.size w wr)) (fun _ i _ => 4 - (intOf i).toNat)
      case atStart => exact ⟨0, _, c2, by omega, rfl, rfl, H2⟩
      case round =>
        obtain ⟨k, a2, c2, hk, rfl, rfl, H⟩ := hrel
        by_cases hlt : k < 4
        · obtain ⟨e1, e2, e3, e4⟩ := fx_step k hlt
          have hc := (cell_keep' (H.out.2.block SB hSB)).trans (HB.out.1 k hlt)
          have hbk := HB.out.2 k hlt
          have hbk2 := (H.out.2.block _ (blk_lt hbk)).trans hbk
          have hsrc : Src wr (some ⟨bs k, 0, none⟩) (List.replicate (fxn.getD k 0) (Value.int .i64 (fxv.getD k 0))) := fun _ => ⟨_, 0, rfl, fun j hj => by
            rw [List.length_replicate] at hj
            rw [blk_cell hbk2, Nat.zero_add, arrN_get _ _ hj, List.getElem?_replicate, if_pos hj]⟩
          have hone : ∀ u ∈ List.replicate (fxn.getD k 0) (Value.int .i64 (fxv.getD k 0)), u.oneCell' = true := by intro u hu; rw [List.eq_of_mem_replicate hu]; rfl
          have hbase := H.out.2.size
          obtain ⟨S, hS⟩ : ∃ S, fxs.getD k 0 = S := ⟨_, rfl⟩
          obtain ⟨N, hN⟩ : ∃ N, fxn.getD k 0 = N := ⟨_, rfl⟩
          obtain ⟨V, hV⟩ : ∃ V, fxv.getD k 0 = V := ⟨_, rfl⟩
          have hown := H.out.1
          rw [hS] at hown e3
          rw [hS, hN] at e1 
          rw [e1, hS, hN, hV] at e2
          rw [hN, hV] at hsrc hone
          rw [hN] at hc e4
          rw [hS]
          have hmx : S + N ≤ maxLen := by unfold maxLen; omega
          have HE := Lib.hid (And.intro e1 (And.intro e2 (And.intro hown (And.intro hsrc (And.intro hone (And.intro hmx H.out.2))))))
          clear e1 e2 hS hN hV hown hsrc hone hmx hbk hbk2 H
          go_wp2_with (at_builtin; refine wpList_appG 57 3 (.int .i64 0) 8 Tryd.underlying57 int_info rfl rfl _ _ rfl w.heap.size (.slice a2 S c2) S ((fixL.take S).map (Value.int .i64)) rfl HE.out.2.2.1 (some ⟨bs k, 0, none⟩) N N (List.replicate N (Value.int .i64 V)) rfl List.length_replicate HE.out.2.2.2.1 HE.out.2.2.2.2.1 (fun h => by cases h) HE.out.2.2.2.2.2.1 (by omega) hbase ?_; intro v5 w5 hown5 hg5 hl5; obtain ⟨a5, c5, rfl⟩ := own_shape hown5)
          have hbw := HE.out.2.2.2.2.2.2
          have hb5 : Below w.heap.size w w5 := ⟨hg5.os.trans hbw.os, hg5.tape.trans hbw.tape, hg5.output.trans hbw.output, Nat.le_trans hbw.size hg5.size, fun i hi => (hg5.block i (Nat.lt_of_lt_of_le hi hbw.size) fun e => by have := (HE.out.2.2.1.lt i e.symm).1; omega).trans (hbw.block i hi)⟩
          have hfin : w5.ownsRow w.heap.size 3 1 (.slice a5 (S + N) c5) (S + N) ((fixL.take (S + N)).map (Value.int .i64)) := by rw [HE.out.2.1, List.map_append, List.map_replicate]; exact hown5
          refine ⟨⟨k + 1, a5, c5, by omega, by go_num, by rw [HE.out.1], ?_⟩, by simp [intOf]; omega⟩
          rw [HE.out.1]
          exact Lib.hid ⟨hfin, hb5⟩
        · obtain rfl : k = 4 := by omega
          go_wp2_with fail
          go_ret
          exact ⟨a2, c2, rfl, H.out.1, H.out.2⟩
end Go.Proofs.YtpnnfekfoomgaaaDoor
