/- What slices.Repeat makes of one number: contracts of math/bits.Mul64, Mul and slices.Repeat at a row of one. Condition: not more than 400. -/
import Derived.Test.YtpnnfekfoomgaaaDoorUg
import Derived.Laws.CopyOwn
set_option linter.unusedVariables false
set_option maxRecDepth 100000
namespace Go.Proofs.YtpnnfekfoomgaaaDoor
open Go.RowKit

theorem and_low (n : Nat) (h : n ≤ 400) : bits .and .u64 (n : Int) 4294967295 = n := by
  show IntKind.u64.wrap ((BitVec.ofInt 64 (n : Int) &&& BitVec.ofInt 64 4294967295).toNat : Int) = _
  rw [BitVec.toNat_and, BitVec.ofInt_natCast, BitVec.toNat_ofNat, Nat.mod_eq_of_lt (by omega), show (BitVec.ofInt 64 4294967295).toNat = 2 ^ 32 - 1 by decide, Nat.and_two_pow_sub_one_eq_mod, Nat.mod_eq_of_lt (by omega), IntWalk.u64_in _ (by omega)]
theorem mul64_is (n : Nat) (hn : n ≤ 400) (w : World) : Calls Tryd.prog 76 #[.int .u64 1, .int .u64 n] w fun e w' => e = .returned (.tuple #[.int .u64 0, .int .u64 n]) ∧ w = w' := by
  have h1 := and_low n hn
  have h2 : (n : Int) / 4294967296 = 0 := by omega
  have h3 : bits .and .u64 1 4294967295 = 1 := by decide
  have h4 : IntKind.u64.wrap (n : Int) = n := IntWalk.u64_in _ (by omega)
  have h5 : IntKind.u64.wrap 0 = 0 := by decide
  go_enter Tryd.func76, Tryd.ntmps76
  go_wp2_with fail
  go_ret2
  exact ⟨ret2' (by decide) rfl, rfl⟩
theorem mul_is (n : Nat) (hn : n ≤ 400) (w : World) : Calls Tryd.prog 64 #[.int .u64 1, .int .u64 n] w fun e w' => e = .returned (.tuple #[.int .u64 0, .int .u64 n]) ∧ w = w' := by
  have hc := mul64_is n hn w
  go_enter Tryd.func64, Tryd.ntmps64
  go_wp2_with fail
  refine hc.mono ?_
  rintro e w' ⟨rfl, rfl⟩
  go_wp2_with fail
  go_ret2
  exact ⟨rfl, rfl⟩
/-- n numbers, of which the first k are v, the others 0 -/
def repL (v : Int) (n k : Nat) : List Value := List.replicate k (Value.int .i64 v) ++ List.replicate (n - k) (Value.int .i64 0)
theorem repL_start (v : Int) (n : Nat) : arrN n (fun _ => 0) = (repL v n 0).toArray := by
  symm
  apply arrN_ext
  · simp [repL]
  · intro i hi
    simp [repL, hi]
theorem repL_end (v : Int) (n : Nat) : (repL v n n).toArray = arrN n fun _ => v := by
  apply arrN_ext
  · simp [repL]
  · intro i hi
    simp [repL, hi]
theorem repL_splice (v : Int) (n k m : Nat) (h : k + m ≤ n) : splice (repL v n k) k (List.replicate m (Value.int .i64 v)) = repL v n (k + m) := by
  unfold splice repL
  rw [List.take_left' (by simp), List.length_replicate, ← List.append_assoc, List.replicate_append_replicate, List.drop_append, List.drop_of_length_le (by simp), List.nil_append, List.length_replicate, List.drop_replicate]
  congr 2
  omega
theorem repL_len (v : Int) (n k : Nat) (h : k ≤ n) : (repL v n k).length = n := by simp [repL]; omega
theorem repL_get (v : Int) (n k i : Nat) (h : i < k) : (repL v n k)[i]? = some (.int .i64 v) := by
  unfold repL; rw [List.getElem?_append_left (by simpa using h), List.getElem?_replicate, if_pos h]
set_option maxHeartbeats 2000000 in
theorem repeat_is (v : Int) (n : Nat) (hn : n ≤ 400) (b : Nat) (w : World) (hb : b < w.heap.size) (hv : w.cell? ⟨b, 0, none⟩ = some (.int .i64 v)) (c : Nat) :
    Calls Tryd.prog 44 #[.slice (some ⟨b, 0, none⟩) 1 c, .int .i64 n] w fun e w' => e = .returned (.slice (some ⟨w.heap.size, 0, none⟩) n n) ∧ w'.heap[w.heap.size]? = some (.cells (arrN n fun _ => v) 3 (0, 0)) ∧ Below w.heap.size w w' := by
  have hc := mul_is n hn w
  have hmk := run_make_ints n hn
  have hw0 : decide ((n : Int) < 0) = false := by simp
  have hu1 : IntKind.u64.wrap (n : Int) = n := IntWalk.u64_in _ (by omega)
  have hu2 : IntKind.i64.wrap (n : Int) = n := IntWalk.i64_in _ (by omega)
  have hdd : decide ((9223372036854775807 : Int) < (n : Int)) = false := by simp; omega
  have hsz : (Tryd.prog.info? 3).map (·.size) = some 1 := by kernel_rfl
  go_enter Tryd.func44, Tryd.ntmps44
  go_wp2_with fail
  refine hc.mono ?_
  rintro e w' ⟨rfl, rfl⟩
  clear hc
  have hg0 := heap_alloc_new w (.cells (repL v n 0).toArray 3)
  have hb0 : Below w.heap.size w (w.alloc (.cells (repL v n 0).toArray 3)) := (Below.refl _ _).alloc (Nat.le_refl _) _
  have hv0 : (w.alloc (.cells (repL v n 0).toArray 3)).cell? ⟨b, 0, none⟩ = some (.int .i64 v) := (cell_keep' (Below.heap_alloc _ _ _ hb)).trans hv
  rw [repL_start v n] at hmk
  obtain ⟨k0, hk0, hk1, hk2⟩ : ∃ k0, k0 = Nat.min 1 n ∧ k0 ≤ n ∧ (n = 0 ∨ 1 ≤ k0) := ⟨Nat.min 1 n, rfl, Nat.min_le_right _ _, by rcases Nat.eq_zero_or_pos n with h | h; exact .inl h; exact .inr (Nat.le_min.2 ⟨Nat.le_refl _, h⟩)⟩
  have hk3 : k0 ≤ 1 := by rw [hk0]; exact Nat.min_le_left _ _
  have hsp := repL_splice v n 0 k0 (by omega)
  rw [Nat.zero_add] at hsp
  have hL0 : (List.replicate k0 (Value.int .i64 v)).length = Nat.min 1 n := by rw [List.length_replicate]; exact hk0
  have hL1 : 0 + (List.replicate k0 (Value.int .i64 v)).length ≤ (repL v n 0).length := by rw [repL_len _ _ _ (Nat.zero_le _), List.length_replicate]; omega
  have hL2 : ∀ u ∈ List.replicate k0 (Value.int .i64 v), u.oneCell' = true := by intro u hu; rw [List.eq_of_mem_replicate hu]; rfl
  have hL3 : 0 < (List.replicate k0 (Value.int .i64 v)).length → (some ⟨w.heap.size, 0, none⟩ : Option Addr) = some ⟨w.heap.size, 0, none⟩ ∧ ∃ ad, (some ⟨b, 0, none⟩ : Option Addr) = some ad ∧ ∀ j x, (List.replicate k0 (Value.int .i64 v))[j]? = some x → (w.alloc (.cells (repL v n 0).toArray 3)).cell? (ad.add j) = some x := fun hp => by
    rw [List.length_replicate] at hp
    obtain rfl : k0 = 1 := by omega
    refine ⟨rfl, _, rfl, fun j x hx => ?_⟩
    cases j with
    | zero => simp at hx; subst hx; exact hv0
    | succ j => simp at hx
  have HL := Lib.hid (And.intro hL0 (And.intro hL1 (And.intro hL2 hL3)))
  have HSP := Lib.hid (And.intro hsp (And.intro hg0 hb0))
  clear hL0 hL1 hL2 hL3 hsp hv0 hg0 hb0
  go_upto_region 7 with (fail)
  go_wp2_with ((refine wpList_copy_splice (o := ⟨some 33, _, _, _, _, _⟩) rfl (.tmp 31) (.tmp 32) 57 57 rfl 3 Tryd.underlying57 hsz (some ⟨w.heap.size, 0, none⟩) (some ⟨b, 0, none⟩) n n 1 c rfl rfl w.heap.size 0 (repL v n 0) 3 HSP.out.2.1 (List.replicate k0 (.int .i64 v)) HL.out.1 (fun hp => ⟨rfl, (HL.out.2.2.2 hp).2⟩) HL.out.2.1 HL.out.2.2.1 w.heap.size w HSP.out.2.2 (Nat.le_refl _) ?_); intro w1 hg1 hb1)
  rw [HSP.out.1] at hg1
  have H1 := Lib.hid (And.intro hg1.out hb1)
  clear hg1 hb1 HSP HL hv hmk hw0 hu1 hu2 hdd
  go_loopw [8] (fun kk wr => ∃ k : Nat, k ≤ n ∧ (n = 0 ∨ 1 ≤ k) ∧ kk = .int .i64 k ∧ Hid (wr.heap[w.heap.size]? = some (.cells (repL v n k).toArray 3 (0, 0)) ∧ Below w.heap.size w wr)) (fun kk _ => n - (intOf kk).toNat)
  case atStart => exact ⟨k0, hk1, hk2, by simp; rw [hk0], H1⟩
  case round =>
    clear H1 hk0 hk1 hk2 hk3
    obtain ⟨k, hkn, hk1, rfl, H⟩ := hrel
    by_cases hlt : k < n
    · have hk0' : 1 ≤ k := by omega
      obtain ⟨m, hm⟩ : ∃ m, m = Nat.min k (n - k) := ⟨_, rfl⟩
      have hm1 : m ≤ k := by rw [hm]; exact Nat.min_le_left _ _
      have hm2 : m ≤ n - k := by rw [hm]; exact Nat.min_le_right _ _
      have hm3 : 1 ≤ m := by rw [hm]; exact Nat.le_min.2 ⟨hk0', by omega⟩
      have hL0 : (List.replicate m (Value.int .i64 v)).length = Nat.min k (n - k) := by rw [List.length_replicate]; exact hm
      have hL1 : k + (List.replicate m (Value.int .i64 v)).length ≤ (repL v n k).length := by rw [repL_len _ _ _ hkn, List.length_replicate]; omega
      have hL2 : ∀ u ∈ List.replicate m (Value.int .i64 v), u.oneCell' = true := by intro u hu; rw [List.eq_of_mem_replicate hu]; rfl
      have hL3 : ∀ j x, (List.replicate m (Value.int .i64 v))[j]? = some x → wr.drew.cell? ((⟨w.heap.size, 0, none⟩ : Addr).add j) = some x := fun j x hx => by
        have hj : j < m := by
          rcases Nat.lt_or_ge j m with h | h
          · exact h
          · rw [List.getElem?_eq_none (by simpa using h)] at hx; cases hx
        rw [List.getElem?_replicate, if_pos hj] at hx
        have e2 : (⟨w.heap.size, 0, none⟩ : Addr).add j = ⟨w.heap.size, j, none⟩ := by unfold Addr.add; split <;> simp_all
        rw [e2]
        show wr.cell? _ = _
        rw [blk_cell H.out.1, List.getElem?_toArray, repL_get v n k j (by omega)]
        exact hx
      have hsp := repL_splice v n k m (by omega)
      have hbd : Below w.heap.size w wr.drew := low_drewN H.out.2 1
      have hgd : wr.drew.heap[w.heap.size]? = some (.cells (repL v n k).toArray 3 (0, 0)) := H.out.1
      have hrun := run_copy_row (P := Tryd.prog) wr.drew 57 57 3 3 w.heap.size k (n - k) (n - k) ⟨w.heap.size, 0, none⟩ k n (repL v n k).toArray 3 (List.replicate m (.int .i64 v)) Tryd.underlying57 hsz hgd hL0 hL3 (by simpa using hL1) hL2
      have hsr := setRow_heap wr.drew w.heap.size (repL v n k).toArray ((repL v n k).toArray.toList.take k ++ List.replicate m (Value.int .i64 v) ++ (repL v n k).toArray.toList.drop (k + (List.replicate m (Value.int .i64 v)).length)).toArray 3 (0, 0) hgd
      have hbs := below_setRow hbd (Nat.le_refl _) ((repL v n k).toArray.toList.take k ++ List.replicate m (Value.int .i64 v) ++ (repL v n k).toArray.toList.drop (k + (List.replicate m (Value.int .i64 v)).length)).toArray
      generalize wr.drew.setRow w.heap.size ((repL v n k).toArray.toList.take k ++ List.replicate m (Value.int .i64 v) ++ (repL v n k).toArray.toList.drop (k + (List.replicate m (Value.int .i64 v)).length)).toArray = w2 at *
      rw [List.append_assoc] at hsr
      have hsr2 : w2.heap[w.heap.size]? = some (.cells (repL v n (k + m)).toArray 3 (0, 0)) := by rw [← hsp]; exact hsr
      rw [List.length_replicate] at hrun
      have HB := Lib.hid (And.intro hsr2 hbs)
      have HM := Lib.hid (And.intro hm1 (And.intro hm2 hm3))
      have hlti : (k : Int) < (n : Int) := by omega
      have hlei : (k : Int) ≤ (n : Int) := by omega
      have hne : ¬ (n = k) := by omega
      have hge : (0 : Int) ≤ (k : Int) := by omega
      have hwr : IntKind.i64.wrap ((k : Int) + (m : Int)) = ((k + m : Nat) : Int) := by rw [IntWalk.i64_in _ (by omega)]; omega
      clear hL0 hL1 hL2 hL3 hsp hbd hm hm1 hm2 hm3 hsr hsr2 hbs hgd
      go_wp2_with fail
      go_region_law (fail)
      all_goals (
        clear hwr
        have h1 := HM.out.2.1
        have h2 := HM.out.2.2
        go_simp
        go_wp2_with fail
        exact ⟨⟨k + m, by omega, by omega, by go_num, HB⟩, by simp [intOf]; omega⟩)
    · obtain rfl : k = n := by omega
      go_wp2_with fail
      go_ret
      exact ⟨rfl, by have := H.out.1; rw [repL_end] at this; exact this, H.out.2⟩
end Go.Proofs.YtpnnfekfoomgaaaDoor
