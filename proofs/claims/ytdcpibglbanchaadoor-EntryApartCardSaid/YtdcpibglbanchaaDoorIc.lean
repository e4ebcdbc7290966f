/- What slices.Repeat makes of one number: contracts of math/bits.Mul64, Mul and slices.Repeat at a row of one. Condition: not more than 400. What a symbol of the code of lengths stands for: contract of repeated. No condition but what the words say. The lengths that a code of lengths tells: contract of lengths. No condition but what the words say. -/
import Derived.Test.YtdcpibglbanchaaDoorIb
import Derived.Laws.CopyOwn
set_option linter.unusedVariables false
set_option maxRecDepth 100000
namespace Go.Proofs.YtdcpibglbanchaaDoor
open Go.RowKit

theorem and_low (n : Nat) (h : n ≤ 400) : bits .and .u64 (n : Int) 4294967295 = n := by
  show IntKind.u64.wrap ((BitVec.ofInt 64 (n : Int) &&& BitVec.ofInt 64 4294967295).toNat : Int) = _
  rw [BitVec.toNat_and, BitVec.ofInt_natCast, BitVec.toNat_ofNat, Nat.mod_eq_of_lt (by omega), show (BitVec.ofInt 64 4294967295).toNat = 2 ^ 32 - 1 by decide, Nat.and_two_pow_sub_one_eq_mod, Nat.mod_eq_of_lt (by omega), IntWalk.u64_in _ (by omega)]
theorem mul64_is (n : Nat) (hn : n ≤ 400) (w : World) : Calls Tryd.prog 79 #[.int .u64 1, .int .u64 n] w fun e w' => e = .returned (.tuple #[.int .u64 0, .int .u64 n]) ∧ w = w' := by
  have h1 := and_low n hn
  have h2 : (n : Int) / 4294967296 = 0 := by omega
  have h3 : bits .and .u64 1 4294967295 = 1 := by decide
  have h4 : IntKind.u64.wrap (n : Int) = n := IntWalk.u64_in _ (by omega)
  have h5 : IntKind.u64.wrap 0 = 0 := by decide
  go_enter Tryd.func79, Tryd.ntmps79
  go_wp2_with fail
  go_ret2
  exact ⟨ret2' (by decide) rfl, rfl⟩
theorem mul_is (n : Nat) (hn : n ≤ 400) (w : World) : Calls Tryd.prog 64 #[.int .u64 1, .int .u64 n] w fun e w' => e = .returned (.tuple #[.int .u64 0, .int .u64 n]) ∧ w = w' := by
  have hc := mul64_is n hn w
  go_enter Tryd.func64, Tryd.ntmps64
  go_wp2_with fail
  refine hc.mono ?_
  rintro e w' ⟨rfl, rfl⟩
  go_wp2_with fail
  go_ret2
  exact ⟨rfl, rfl⟩
/-- n numbers, of which the first k are v, the others 0 -/
def repL (v : Int) (n k : Nat) : List Value := List.replicate k (Value.int .i64 v) ++ List.replicate (n - k) (Value.int .i64 0)
theorem repL_start (v : Int) (n : Nat) : arrN n (fun _ => 0) = (repL v n 0).toArray := by
  symm
  apply arrN_ext
  · simp [repL]
  · intro i hi
    simp [repL, hi]
theorem repL_end (v : Int) (n : Nat) : (repL v n n).toArray = arrN n fun _ => v := by
  apply arrN_ext
  · simp [repL]
  · intro i hi
    simp [repL, hi]
theorem repL_splice (v : Int) (n k m : Nat) (h : k + m ≤ n) : splice (repL v n k) k (List.replicate m (Value.int .i64 v)) = repL v n (k + m) := by
  unfold splice repL
  rw [List.take_left' (by simp), List.length_replicate, ← List.append_assoc, List.replicate_append_replicate, List.drop_append, List.drop_of_length_le (by simp), List.nil_append, List.length_replicate, List.drop_replicate]
  congr 2
  omega
theorem repL_len (v : Int) (n k : Nat) (h : k ≤ n) : (repL v n k).length = n := by simp [repL]; omega
theorem repL_get (v : Int) (n k i : Nat) (h : i < k) : (repL v n k)[i]? = some (.int .i64 v) := by
  unfold repL; rw [List.getElem?_append_left (by simpa using h), List.getElem?_replicate, if_pos h]
set_option maxHeartbeats 2000000 in
theorem repeat_is (v : Int) (n : Nat) (hn : n ≤ 400) (b : Nat) (w : World) (hb : b < w.heap.size) (hv : w.cell? ⟨b, 0, none⟩ = some (.int .i64 v)) (c : Nat) :
    Calls Tryd.prog 51 #[.slice (some ⟨b, 0, none⟩) 1 c, .int .i64 n] w fun e w' => e = .returned (.slice (some ⟨w.heap.size, 0, none⟩) n n) ∧ w'.heap[w.heap.size]? = some (.cells (arrN n fun _ => v) 3 (0, 0)) ∧ Below w.heap.size w w' := by
  have hc := mul_is n hn w
  have hmk := run_make_ints n hn
  have hw0 : decide ((n : Int) < 0) = false := by simp
  have hu1 : IntKind.u64.wrap (n : Int) = n := IntWalk.u64_in _ (by omega)
  have hu2 : IntKind.i64.wrap (n : Int) = n := IntWalk.i64_in _ (by omega)
  have hdd : decide ((9223372036854775807 : Int) < (n : Int)) = false := by simp; omega
  have hsz : (Tryd.prog.info? 3).map (·.size) = some 1 := by kernel_rfl
  go_enter Tryd.func51, Tryd.ntmps51
  go_wp2_with fail
  refine hc.mono ?_
  rintro e w' ⟨rfl, rfl⟩
  clear hc
  have hg0 := heap_alloc_new w (.cells (repL v n 0).toArray 3)
  have hb0 : Below w.heap.size w (w.alloc (.cells (repL v n 0).toArray 3)) := (Below.refl _ _).alloc (Nat.le_refl _) _
  have hv0 : (w.alloc (.cells (repL v n 0).toArray 3)).cell? ⟨b, 0, none⟩ = some (.int .i64 v) := (cell_keep' (Below.heap_alloc _ _ _ hb)).trans hv
  rw [repL_start v n] at hmk
  obtain ⟨k0, hk0, hk1, hk2⟩ : ∃ k0, k0 = Nat.min 1 n ∧ k0 ≤ n ∧ (n = 0 ∨ 1 ≤ k0) := ⟨Nat.min 1 n, rfl, Nat.min_le_right _ _, by rcases Nat.eq_zero_or_pos n with h | h; exact .inl h; exact .inr (Nat.le_min.2 ⟨Nat.le_refl _, h⟩)⟩
  have hk3 : k0 ≤ 1 := by rw [hk0]; exact Nat.min_le_left _ _
  have hsp := repL_splice v n 0 k0 (by omega)
  rw [Nat.zero_add] at hsp
  have hL0 : (List.replicate k0 (Value.int .i64 v)).length = Nat.min 1 n := by rw [List.length_replicate]; exact hk0
  have hL1 : 0 + (List.replicate k0 (Value.int .i64 v)).length ≤ (repL v n 0).length := by rw [repL_len _ _ _ (Nat.zero_le _), List.length_replicate]; omega
  have hL2 : ∀ u ∈ List.replicate k0 (Value.int .i64 v), u.oneCell' = true := by intro u hu; rw [List.eq_of_mem_replicate hu]; rfl
  have hL3 : 0 < (List.replicate k0 (Value.int .i64 v)).length → (some ⟨w.heap.size, 0, none⟩ : Option Addr) = some ⟨w.heap.size, 0, none⟩ ∧ ∃ ad, (some ⟨b, 0, none⟩ : Option Addr) = some ad ∧ ∀ j x, (List.replicate k0 (Value.int .i64 v))[j]? = some x → (w.alloc (.cells (repL v n 0).toArray 3)).cell? (ad.add j) = some x := fun hp => by
    rw [List.length_replicate] at hp
    obtain rfl : k0 = 1 := by omega
    refine ⟨rfl, _, rfl, fun j x hx => ?_⟩
    cases j with
    | zero => simp at hx; subst hx; exact hv0
    | succ j => simp at hx
  have HL := Lib.hid (And.intro hL0 (And.intro hL1 (And.intro hL2 hL3)))
  have HSP := Lib.hid (And.intro hsp (And.intro hg0 hb0))
  clear hL0 hL1 hL2 hL3 hsp hv0 hg0 hb0
  go_upto_region 7 with (fail)
  go_wp2_with ((refine wpList_copy_splice (o := ⟨some 33, _, _, _, _, _⟩) rfl (.tmp 31) (.tmp 32) 95 95 rfl 3 Tryd.underlying95 hsz (some ⟨w.heap.size, 0, none⟩) (some ⟨b, 0, none⟩) n n 1 c rfl rfl w.heap.size 0 (repL v n 0) 3 HSP.out.2.1 (List.replicate k0 (.int .i64 v)) HL.out.1 (fun hp => ⟨rfl, (HL.out.2.2.2 hp).2⟩) HL.out.2.1 HL.out.2.2.1 w.heap.size w HSP.out.2.2 (Nat.le_refl _) ?_); intro w1 hg1 hb1)
  rw [HSP.out.1] at hg1
  have H1 := Lib.hid (And.intro hg1.out hb1)
  clear hg1 hb1 HSP HL hv hmk hw0 hu1 hu2 hdd
  go_loopw [8] (fun kk wr => ∃ k : Nat, k ≤ n ∧ (n = 0 ∨ 1 ≤ k) ∧ kk = .int .i64 k ∧ Hid (wr.heap[w.heap.size]? = some (.cells (repL v n k).toArray 3 (0, 0)) ∧ Below w.heap.size w wr)) (fun kk _ => n - (intOf kk).toNat)
  case atStart => exact ⟨k0, hk1, hk2, by simp; rw [hk0], H1⟩
  case round =>
    clear H1 hk0 hk1 hk2 hk3
    obtain ⟨k, hkn, hk1, rfl, H⟩ := hrel
    by_cases hlt : k < n
    · have hk0' : 1 ≤ k := by omega
      obtain ⟨m, hm⟩ : ∃ m, m = Nat.min k (n - k) := ⟨_, rfl⟩
      have hm1 : m ≤ k := by rw [hm]; exact Nat.min_le_left _ _
      have hm2 : m ≤ n - k := by rw [hm]; exact Nat.min_le_right _ _
      have hm3 : 1 ≤ m := by rw [hm]; exact Nat.le_min.2 ⟨hk0', by omega⟩
      have hL0 : (List.replicate m (Value.int .i64 v)).length = Nat.min k (n - k) := by rw [List.length_replicate]; exact hm
      have hL1 : k + (List.replicate m (Value.int .i64 v)).length ≤ (repL v n k).length := by rw [repL_len _ _ _ hkn, List.length_replicate]; omega
      have hL2 : ∀ u ∈ List.replicate m (Value.int .i64 v), u.oneCell' = true := by intro u hu; rw [List.eq_of_mem_replicate hu]; rfl
      have hL3 : ∀ j x, (List.replicate m (Value.int .i64 v))[j]? = some x → wr.drew.cell? ((⟨w.heap.size, 0, none⟩ : Addr).add j) = some x := fun j x hx => by
        have hj : j < m := by
          rcases Nat.lt_or_ge j m with h | h
          · exact h
          · rw [List.getElem?_eq_none (by simpa using h)] at hx; cases hx
        rw [List.getElem?_replicate, if_pos hj] at hx
        have e2 : (⟨w.heap.size, 0, none⟩ : Addr).add j = ⟨w.heap.size, j, none⟩ := by unfold Addr.add; split <;> simp_all
        rw [e2]
        show wr.cell? _ = _
        rw [blk_cell H.out.1, List.getElem?_toArray, repL_get v n k j (by omega)]
        exact hx
      have hsp := repL_splice v n k m (by omega)
      have hbd : Below w.heap.size w wr.drew := low_drewN H.out.2 1
      have hgd : wr.drew.heap[w.heap.size]? = some (.cells (repL v n k).toArray 3 (0, 0)) := H.out.1
      have hrun := run_copy_row (P := Tryd.prog) wr.drew 95 95 3 3 w.heap.size k (n - k) (n - k) ⟨w.heap.size, 0, none⟩ k n (repL v n k).toArray 3 (List.replicate m (.int .i64 v)) Tryd.underlying95 hsz hgd hL0 hL3 (by simpa using hL1) hL2
      have hsr := setRow_heap wr.drew w.heap.size (repL v n k).toArray ((repL v n k).toArray.toList.take k ++ List.replicate m (Value.int .i64 v) ++ (repL v n k).toArray.toList.drop (k + (List.replicate m (Value.int .i64 v)).length)).toArray 3 (0, 0) hgd
      have hbs := below_setRow hbd (Nat.le_refl _) ((repL v n k).toArray.toList.take k ++ List.replicate m (Value.int .i64 v) ++ (repL v n k).toArray.toList.drop (k + (List.replicate m (Value.int .i64 v)).length)).toArray
      generalize wr.drew.setRow w.heap.size ((repL v n k).toArray.toList.take k ++ List.replicate m (Value.int .i64 v) ++ (repL v n k).toArray.toList.drop (k + (List.replicate m (Value.int .i64 v)).length)).toArray = w2 at *
      rw [List.append_assoc] at hsr
      have hsr2 : w2.heap[w.heap.size]? = some (.cells (repL v n (k + m)).toArray 3 (0, 0)) := by rw [← hsp]; exact hsr
      rw [List.length_replicate] at hrun
      have HB := Lib.hid (And.intro hsr2 hbs)
      have HM := Lib.hid (And.intro hm1 (And.intro hm2 hm3))
      have hlti : (k : Int) < (n : Int) := by omega
      have hlei : (k : Int) ≤ (n : Int) := by omega
      have hne : ¬ (n = k) := by omega
      have hge : (0 : Int) ≤ (k : Int) := by omega
      have hwr : IntKind.i64.wrap ((k : Int) + (m : Int)) = ((k + m : Nat) : Int) := by rw [IntWalk.i64_in _ (by omega)]; omega
      clear hL0 hL1 hL2 hL3 hsp hbd hm hm1 hm2 hm3 hsr hsr2 hbs hgd
      go_wp2_with fail
      go_region_law (fail)
      all_goals (
        clear hwr
        have h1 := HM.out.2.1
        have h2 := HM.out.2.2
        go_simp
        go_wp2_with fail
        exact ⟨⟨k + m, by omega, by omega, by go_num, HB⟩, by simp [intOf]; omega⟩)
    · obtain rfl : k = n := by omega
      go_wp2_with fail
      go_ret
      exact ⟨rfl, by have := H.out.1; rw [repL_end] at this; exact this, H.out.2⟩
end Go.Proofs.YtdcpibglbanchaaDoor

set_option linter.unusedVariables false
set_option maxRecDepth 100000
namespace Go.Proofs.YtdcpibglbanchaaDoor
open Go.RowKit

/-- what a symbol stands for, and how often -/
def repT (l : List Int) (p : Nat) (row : List Int) (s : Int) : Except Int (Int × Int × Nat) := match repS row s with
  | .error e => .error e
  | .ok (v, least, width) => match takeS l p width with
    | .error e => .error e
    | .ok (more, p2) => .ok (v, least + more, p2)
section
variable {w : World} {gu gr : Nat} {l : List Int} {limit : Nat} {fl fd : Option Addr} {p : Nat} {out : List Int} {o : Option Addr × Nat}
/-- what repeated answers -/
def Rpts (w : World) (gu gr : Nat) (l : List Int) (limit : Nat) (fl fd : Option Addr) (out : List Int) (o : Option Addr × Nat) (s : Except Int (Int × Int × Nat)) (e : Ending) (w' : World) : Prop :=
  Only gr w w' ∧ ((∃ v t p', s = .ok (v, t, p') ∧ e = .returned (.tuple #[.int .i64 v, .int .i64 t, .int .i64 0]) ∧ Un w' gu gr l limit fl fd p' out o) ∨ (∃ er y z, s = .error er ∧ er ≠ 0 ∧ e = .returned (.tuple #[.int .i64 y, .int .i64 z, .int .i64 er])))
theorem ret3' {a b c a' b' c' : Value} (h1 : a = a') (h2 : b = b') (h3 : c = c') : Ending.returned (.tuple #[a, b, c]) = .returned (.tuple #[a', b', c']) := by rw [h1, h2, h3]
set_option maxHeartbeats 2000000 in
theorem unRepeated {row : List Int} {a : Option Addr} {c : Nat} (s : Nat) (hs : s ≤ 18) (hrl : row.length ≤ 400) (hb : Ints .i64 w w.heap.size a row) (h : Un w gu gr l limit fl fd p out o) :
    Calls Tryd.prog 68 #[.pointer (some ⟨gu, 0, none⟩), .int .i64 s, .slice a row.length c] w (Rpts w gu gr l limit fl fd out o (repT l p row s)) := by
  have c0 : w.cell? ⟨gu, 0, none⟩ = some (.pointer (some ⟨gr, 0, none⟩)) := blk_cell h.blk 0
  have HU := Lib.hid h
  have hr0 := h.rdr
  clear h
  by_cases h16 : s = 16
  · subst h16
    by_cases hrow : row.length = 0
    · have hrep : repT l p row ((16 : Nat) : Int) = .error 6 := by
        unfold repT repS
        rw [if_pos (by decide), if_pos hrow]
      have hre : ((row.length : Int) == 0) = true := by simp [hrow]
      have HR := Lib.hid hrep
      clear hr0 hrep hrow
      go_enter Tryd.func68, Tryd.ntmps68
      go_wp2_with fail
      go_ret3
      exact ⟨only_refl _ _, .inr ⟨6, 0, 0, HR.out, by decide, rfl⟩⟩
    · have hre : ((row.length : Int) == 0) = false := by simp; intro h; exact hrow (by rw [h]; rfl)
      obtain ⟨b, off, rfl, hbl, hc, _⟩ := hb.at_ (i := row.length - 1) (show row.length - 1 < row.length by omega)
      obtain ⟨k, hk⟩ : ∃ k, row.length - 1 = k := ⟨_, rfl⟩
      obtain ⟨n, hn⟩ : ∃ n, row.length = n := ⟨_, rfl⟩
      have hkn : (n : Int) - 1 = (k : Int) := by omega
      have hwk : wrap64 (k : Int) = (k : Int) := wrap64_in _ (by omega)
      have hk1 : (k : Int) < (n : Int) := by omega
      have hk0 : (0 : Int) ≤ (k : Int) := by omega
      rw [hk] at hc
      rw [hn] at hre
      rw [hn]
      have hrep : repT l p row ((16 : Nat) : Int) = match takeS l p 2 with
          | .error e => .error e
          | .ok (more, p2) => .ok (row.getD k 0, 3 + more, p2) := by
        unfold repT repS
        rw [if_pos (by decide), if_neg hrow, hk]
      have hcall := bitTakeS (w := w) 2 (by decide) hr0
      have HR := Lib.hid hrep
      clear hr0 hrep hrow hk hn hb hrl
      obtain ⟨x, hx⟩ : ∃ x, row.getD k 0 = x := ⟨_, rfl⟩
      rw [hx] at hc HR
      clear hx
      go_enter Tryd.func68, Tryd.ntmps68
      go_wp2_with fail
      refine hcall.mono ?_
      rintro e w2 ⟨ho, ⟨t, p', hv, rfl, hr⟩ | ⟨hv, rfl⟩⟩
      · obtain ⟨hv1, _, _⟩ := takeS_val hv
        have hb0 := tk_bd l p 2
        rw [← hv1, show (2 : Int) ^ 2 = 4 by decide] at hb0
        have hs := HR.out
        rw [hv] at hs
        have HX := Lib.hid (And.intro hs (And.intro (HU.out.only hr ho) ho))
        clear hcall hv hs HR HU hr ho hv1
        go_wp2_with fail
        go_ret3
        exact ⟨HX.out.2.2, .inl ⟨_, _, p', HX.out.1, rfl, HX.out.2.1⟩⟩
      · have hs := HR.out
        rw [hv] at hs
        have HX := Lib.hid (And.intro hs ho)
        clear hcall hv hs HR HU ho
        go_wp2_with fail
        go_ret3
        exact ⟨HX.out.2, .inr ⟨2, _, _, HX.out.1, by decide, rfl⟩⟩
  · by_cases h17 : s = 17
    · subst h17
      have hrep : repT l p row ((17 : Nat) : Int) = match takeS l p 3 with
          | .error e => .error e
          | .ok (more, p2) => .ok (0, 3 + more, p2) := by
        unfold repT repS
        rw [if_neg (by decide), if_pos (by decide)]
      have hcall := bitTakeS (w := w) 3 (by decide) hr0
      have HR := Lib.hid hrep
      clear hr0 hrep
      go_enter Tryd.func68, Tryd.ntmps68
      go_wp2_with fail
      refine hcall.mono ?_
      rintro e w2 ⟨ho, ⟨t, p', hv, rfl, hr⟩ | ⟨hv, rfl⟩⟩
      · obtain ⟨hv1, _, _⟩ := takeS_val hv
        have hb0 := tk_bd l p 3
        rw [← hv1, show (2 : Int) ^ 3 = 8 by decide] at hb0
        have hs := HR.out
        rw [hv] at hs
        have HX := Lib.hid (And.intro hs (And.intro (HU.out.only hr ho) ho))
        clear hcall hv hs HR HU hr ho hv1
        go_wp2_with fail
        go_ret3
        exact ⟨HX.out.2.2, .inl ⟨_, _, p', HX.out.1, rfl, HX.out.2.1⟩⟩
      · have hs := HR.out
        rw [hv] at hs
        have HX := Lib.hid (And.intro hs ho)
        clear hcall hv hs HR HU ho
        go_wp2_with fail
        go_ret3
        exact ⟨HX.out.2, .inr ⟨2, _, _, HX.out.1, by decide, rfl⟩⟩
    · by_cases h18 : s = 18
      · subst h18
        have hrep : repT l p row ((18 : Nat) : Int) = match takeS l p 7 with
            | .error e => .error e
            | .ok (more, p2) => .ok (0, 11 + more, p2) := by
          unfold repT repS
          rw [if_neg (by decide), if_neg (by decide), if_pos (by decide)]
        have hcall := bitTakeS (w := w) 7 (by decide) hr0
        have HR := Lib.hid hrep
        clear hr0 hrep
        go_enter Tryd.func68, Tryd.ntmps68
        go_wp2_with fail
        refine hcall.mono ?_
        rintro e w2 ⟨ho, ⟨t, p', hv, rfl, hr⟩ | ⟨hv, rfl⟩⟩
        · obtain ⟨hv1, _, _⟩ := takeS_val hv
          have hb0 := tk_bd l p 7
          rw [← hv1, show (2 : Int) ^ 7 = 128 by decide] at hb0
          have hs := HR.out
          rw [hv] at hs
          have HX := Lib.hid (And.intro hs (And.intro (HU.out.only hr ho) ho))
          clear hcall hv hs HR HU hr ho hv1
          go_wp2_with fail
          go_ret3
          exact ⟨HX.out.2.2, .inl ⟨_, _, p', HX.out.1, rfl, HX.out.2.1⟩⟩
        · have hs := HR.out
          rw [hv] at hs
          have HX := Lib.hid (And.intro hs ho)
          clear hcall hv hs HR HU ho
          go_wp2_with fail
          go_ret3
          exact ⟨HX.out.2, .inr ⟨2, _, _, HX.out.1, by decide, rfl⟩⟩
      · have q16 : ((s : Int) == 16) = false := by simp; omega
        have q17 : ((s : Int) == 17) = false := by simp; omega
        have q18 : ((s : Int) == 18) = false := by simp; omega
        have hrep : repT l p row (s : Int) = match takeS l p 0 with
            | .error e => .error e
            | .ok (more, p2) => .ok ((s : Int), 1 + more, p2) := by
          unfold repT repS
          rw [if_neg (by omega), if_neg (by omega), if_neg (by omega)]
        have hcall := bitTakeS (w := w) 0 (by decide) hr0
        have HR := Lib.hid hrep
        clear hr0 hrep
        go_enter Tryd.func68, Tryd.ntmps68
        go_wp2_with fail
        refine hcall.mono ?_
        rintro e w2 ⟨ho, ⟨t, p', hv, rfl, hr⟩ | ⟨hv, rfl⟩⟩
        · obtain ⟨hv1, _, _⟩ := takeS_val hv
          have hb0 := tk_bd l p 0
          rw [← hv1, show (2 : Int) ^ 0 = 1 by decide] at hb0
          have hs := HR.out
          rw [hv] at hs
          have HX := Lib.hid (And.intro hs (And.intro (HU.out.only hr ho) ho))
          clear hcall hv hs HR HU hr ho hv1
          go_wp2_with fail
          go_ret3
          exact ⟨HX.out.2.2, .inl ⟨_, _, p', HX.out.1, rfl, HX.out.2.1⟩⟩
        · have hs := HR.out
          rw [hv] at hs
          have HX := Lib.hid (And.intro hs ho)
          clear hcall hv hs HR HU ho
          go_wp2_with fail
          go_ret3
          exact ⟨HX.out.2, .inr ⟨2, _, _, HX.out.1, by decide, rfl⟩⟩
end
end Go.Proofs.YtdcpibglbanchaaDoor

set_option linter.unusedVariables false
set_option maxRecDepth 100000
namespace Go.Proofs.YtdcpibglbanchaaDoor
open Go.RowKit

theorem Ints.of_own' {w : World} {base : Nat} {t : TypeId} {a : Option Addr} {c : Nat} {l : List Int} (h : w.ownsRow base t 1 (.slice a l.length c) l.length (l.map (Value.int .i64))) (hl : ∀ n ∈ l, (Lit.int .i64 n).wf = true) : Ints .i64 w w.heap.size a l := by
  refine ⟨hl, fun hn => ?_⟩
  obtain ⟨g, cap, hv, _, hlt⟩ := h.form hn
  have hA : a = some ⟨g, 0, none⟩ := by injection hv
  subst hA
  refine ⟨g, 0, rfl, hlt, fun i hi => ?_⟩
  have := h.cells (g := g) rfl i (.int .i64 (l.getD i 0)) (by simp [List.getElem?_map, List.getElem?_eq_getElem hi])
  rw [add_off'] at this
  rw [Nat.zero_add]; exact this
theorem ints_row {w : World} {base n : Nat} {t : TypeId} {a : Option Addr} {c : Nat} {l : List Int} (h : w.ownsRow base t 1 (.slice a n c) n (l.map (Value.int .i64))) (hn : l.length = n) (hl : ∀ n ∈ l, (Lit.int .i64 n).wf = true) : Ints .i64 w w.heap.size a l := by
  subst hn
  exact Ints.of_own' h hl
theorem lenStep_is (ns : List Nat) (l : List Int) (n p : Nat) (row : List Int) : lenStep ns l n p row = match nxS ns l p with
    | .error e => .error e
    | .ok (s, p1) => match repT l p1 row s with
      | .error e => .error e
      | .ok (v, t, p2) => if (n : Int) - row.length < t then .error 6 else .ok (p2, row ++ List.replicate t.toNat v) := by
  unfold lenStep
  cases nxS ns l p with
  | error e => rfl
  | ok x =>
    obtain ⟨s, p1⟩ := x
    simp only [bind, Except.bind]
    unfold repT
    cases repS row s with
    | error e => rfl
    | ok y =>
      obtain ⟨v, least, width⟩ := y
      simp only
      cases takeS l p1 width with
      | error e => rfl
      | ok z => obtain ⟨more, p2⟩ := z; rfl
theorem takeS_b {l : List Int} {p n p' : Nat} {v : Int} (hn : n ≤ 7) (h : takeS l p n = .ok (v, p')) : (∃ V : Nat, v = V ∧ V < 128) ∧ p ≤ p' ∧ p' ≤ 8 * l.length := by
  obtain ⟨h1, h2, h3⟩ := takeS_val h
  have hb := tk_bd l p n
  have hp := pow_mono2 hn
  rw [show (2 : Int) ^ 7 = 128 by decide] at hp
  rw [← h1] at hb
  obtain ⟨V, rfl⟩ := Int.eq_ofNat_of_zero_le hb.1
  exact ⟨⟨V, rfl, by omega⟩, by omega, by omega⟩
theorem repT_val {l : List Int} {p p2 s : Nat} {row : List Int} {v t : Int} (hs : s ≤ 18) (hr : ∀ x ∈ row, 0 ≤ x ∧ x ≤ 18) (h : repT l p row (s : Int) = .ok (v, t, p2)) : (∃ T : Nat, t = T ∧ 1 ≤ T ∧ T ≤ 140) ∧ (0 ≤ v ∧ v ≤ 18) ∧ p ≤ p2 ∧ p2 ≤ 8 * l.length := by
  unfold repT repS at h
  by_cases h16 : (s : Int) = 16
  · rw [if_pos h16] at h
    by_cases hrow : row.length = 0
    · rw [if_pos hrow] at h; cases h
    · rw [if_neg hrow] at h
      simp only at h
      cases ht : takeS l p 2 with
      | error e => rw [ht] at h; cases h
      | ok x =>
        obtain ⟨m, q⟩ := x
        rw [ht] at h
        injection h with h
        injection h with h1 h
        injection h with h2 h3
        obtain ⟨⟨V, rfl, hV⟩, h4, h5⟩ := takeS_b (by decide) ht
        subst h3
        refine ⟨⟨3 + V, by omega, by omega, by omega⟩, ?_, h4, h5⟩
        rw [← h1]
        have hm : row.getD (row.length - 1) 0 ∈ row := by rw [List.getD_eq_getElem?_getD, List.getElem?_eq_getElem (by omega)]; exact List.getElem_mem _
        exact hr _ hm
  · rw [if_neg h16] at h
    have key : ∀ (x lst : Int) (wd : Nat), 0 ≤ x ∧ x ≤ 18 → 1 ≤ lst ∧ lst ≤ 11 → wd ≤ 7 → (match takeS l p wd with | .error e => (.error e : Except Int (Int × Int × Nat)) | .ok (more, p2) => .ok (x, lst + more, p2)) = .ok (v, t, p2) → (∃ T : Nat, t = T ∧ 1 ≤ T ∧ T ≤ 140) ∧ (0 ≤ v ∧ v ≤ 18) ∧ p ≤ p2 ∧ p2 ≤ 8 * l.length := by
      intro x lst wd hx hl hw h
      cases ht : takeS l p wd with
      | error e => rw [ht] at h; cases h
      | ok y =>
        obtain ⟨m, q⟩ := y
        rw [ht] at h
        injection h with h
        injection h with h1 h
        injection h with h2 h3
        obtain ⟨⟨V, rfl, hV⟩, h4, h5⟩ := takeS_b hw ht
        subst h3 h1
        exact ⟨⟨(lst + V).toNat, by omega, by omega, by omega⟩, hx, h4, h5⟩
    by_cases h17 : (s : Int) = 17
    · rw [if_pos h17] at h; exact key 0 3 3 (by decide) (by decide) (by decide) h
    · rw [if_neg h17] at h
      by_cases h18 : (s : Int) = 18
      · rw [if_pos h18] at h; exact key 0 11 7 (by decide) (by decide) (by decide) h
      · rw [if_neg h18] at h; exact key s 1 0 (by omega) (by decide) (by decide) h
theorem rpts_ok {w w' : World} {gu gr : Nat} {l : List Int} {limit : Nat} {fl fd : Option Addr} {out : List Int} {o : Option Addr × Nat} {s : Except Int (Int × Int × Nat)} {v t : Int} {p' : Nat} (hs : s = .ok (v, t, p')) {e : Ending} (h : Rpts w gu gr l limit fl fd out o s e w') : e = .returned (.tuple #[.int .i64 v, .int .i64 t, .int .i64 0]) ∧ Only gr w w' ∧ Un w' gu gr l limit fl fd p' out o := by
  obtain ⟨ho, ⟨v1, t1, p1, h1, h2, h3⟩ | ⟨er, y, z, h1, _, _⟩⟩ := h
  · rw [hs] at h1; injection h1 with h1; injection h1 with h4 h5; injection h5 with h5 h6; subst h4 h5 h6; exact ⟨h2, ho, h3⟩
  · rw [hs] at h1; cases h1
theorem rpts_bad {w w' : World} {gu gr : Nat} {l : List Int} {limit : Nat} {fl fd : Option Addr} {out : List Int} {o : Option Addr × Nat} {s : Except Int (Int × Int × Nat)} {er : Int} (hs : s = .error er) {e : Ending} (h : Rpts w gu gr l limit fl fd out o s e w') : ∃ y z, e = .returned (.tuple #[.int .i64 y, .int .i64 z, .int .i64 er]) ∧ Only gr w w' ∧ er ≠ 0 := by
  obtain ⟨ho, ⟨v1, t1, p1, h1, h2, h3⟩ | ⟨er', y, z, h1, h2, h3⟩⟩ := h
  · rw [hs] at h1; cases h1
  · rw [hs] at h1; injection h1 with h1; subst h1; exact ⟨y, z, h3, ho, h2⟩
section
variable {w : World} {gu gr : Nat} {l : List Int} {limit : Nat} {fl fd : Option Addr} {p : Nat} {out : List Int} {o : Option Addr × Nat}
theorem un_low {w1 w2 : World} {B : Nat} (h : Un w1 gu gr l limit fl fd p out o) (hB : gu < B) (hr : ∀ i, (outV out o).ownBlock = some i → i < B) (hlow : ∀ i, i < B → w2.heap[i]? = w1.heap[i]?) : Un w2 gu gr l limit fl fd p out o := by
  have h2 := h.under
  obtain ⟨a, c, q1, q2, q3, q4, q5, q6⟩ := h.rdr
  exact ⟨(hlow gu hB).trans h.blk, ⟨a, c, (hlow gr (by omega)).trans q1, q2, q3, q4.keep fun q hq => cell_keep' (hlow _ (by omega)), q5, q6⟩, own_keep' h.row fun i hi => hlow i (hr i hi), h.bytes, h.under, h.small, h.lim⟩
/-- what lengths answers -/
def Lns (w : World) (gu gr : Nat) (l : List Int) (limit : Nat) (fl fd : Option Addr) (out : List Int) (o : Option Addr × Nat) (n : Nat) (s : Except Int (Nat × List Int)) (e : Ending) (w' : World) : Prop :=
  Only gr w w' ∧ ((∃ row p' ra rc, s = .ok (p', row) ∧ row.length = n ∧ (∀ x ∈ row, 0 ≤ x ∧ x ≤ 18) ∧ e = .returned (.tuple #[.slice ra n rc, .int .i64 0]) ∧ Un w' gu gr l limit fl fd p' out o ∧ w'.ownsRow w.heap.size 3 1 (.slice ra n rc) n (row.map (Value.int .i64))) ∨ (∃ er, s = .error er ∧ er ≠ 0 ∧ e = .returned (.tuple #[.slice none 0 0, .int .i64 er])))
set_option maxHeartbeats 4000000 in
theorem unLengths {F : Nat → Prop} {g n : Nat} {ns : List Nat} (hF : Aside w gu gr out o F) (hc : PC w F g ns) (hns : ns.length = 19) (hn : n ≤ 350) (h : Un w gu gr l limit fl fd p out o) :
    Calls Tryd.prog 54 #[.pointer (some ⟨gu, 0, none⟩), .pointer (some ⟨g, 0, none⟩), .int .i64 n] w (Lns w gu gr l limit fl fd out o n (lensS ns l n (n + 1) p [])) := by
  have HC := Lib.hid (And.intro hF (And.intro hc h))
  have hgu := blk_lt h.blk
  have hgr := h.under
  clear hF hc h
  go_enter Tryd.func54, Tryd.ntmps54
  go_wp2_with fail
  go_loopg [8] n (fun K rv wr => ∃ (p' f : Nat) (row : List Int) (ra : Option Addr) (rc : Nat), rv = .slice ra row.length rc ∧ n + 1 ≤ row.length + f ∧ n ≤ row.length + K ∧ row.length ≤ n ∧ Hid (lensS ns l n (n + 1) p [] = lensS ns l n f p' row ∧ Un wr gu gr l limit fl fd p' out o ∧ Only gr w wr ∧ wr.ownsRow w.heap.size 3 1 (.slice ra row.length rc) row.length (row.map (Value.int .i64)) ∧ ∀ x ∈ row, 0 ≤ x ∧ x ≤ 18))
  case atStart => exact ⟨p, n + 1, [], none, 0, rfl, by simp, by simp, Nat.zero_le _, Lib.hid ⟨rfl, HC.out.2.2, only_refl _ _, World.ownsRow_nil w w.heap.size 3 1, fun x hx => by cases hx⟩⟩
  case round =>
    obtain ⟨p', f, row, ra, rc, rfl, hf, hK, hrn, H⟩ := hrel
    obtain ⟨R, hR⟩ : ∃ R, row.length = R := ⟨_, rfl⟩
    have HR := Lib.hid hR
    rw [hR] at hf hK hrn H
    rw [hR]
    clear hR
    by_cases hlt : R < n
    · obtain ⟨f, rfl⟩ : ∃ f', f = f' + 1 := ⟨f - 1, by omega⟩
      obtain ⟨e1, hU, hO, hown, hbd⟩ := H.out
      have hp := hU.rdr.choose_spec.choose_spec.2.2.2.2.1
      have c0 : wr.cell? ⟨gu, 0, none⟩ = some (.pointer (some ⟨gr, 0, none⟩)) := blk_cell hU.blk 0
      have hA := HC.out.1.step (stp_only hO)
      have hP : PC wr F g ns := HC.out.2.1.keep fun b hb => (stp_only (gu := gu) (out := out) (o := o) hO).foot.block b (HC.out.1 b hb).1 (HC.out.1 b hb).2
      have hcall := unNext hA hP hU
      have e2 : lensS ns l n (f + 1) p' row = match lenStep ns l n p' row with
          | .error e => .error e
          | .ok (p', r) => lensS ns l n f p' r := by
        rw [lensS, if_pos (by rw [HR.out]; exact hlt)]
        cases lenStep ns l n p' row with
        | error e => rfl
        | ok x => rfl
      rw [← e1, lenStep_is, HR.out] at e2
      have HX := Lib.hid (And.intro e2 (And.intro hO (And.intro hown hbd)))
      clear e1 e2 hU hO hown hbd H hA hP
      cases hx : nxS ns l p' with
      | error er =>
        have hs := HX.out.1
        rw [hx] at hs
        have hne := nxS_bad hx
        have hd : (er != 0) = true := by simp [hne]
        have HNX := Lib.hid (hcall.mono fun e w' h => got_bad hx h)
        have HS := Lib.hid (And.intro hs hne)
        clear hcall hs hx hne
        go_wp2_with fail
        refine HNX.out.mono ?_
        rintro e w2 ⟨y, rfl, ho, _⟩
        have HO := Lib.hid (only_trans HX.out.2.1 ho)
        clear HNX HX ho
        go_wp2_with fail
        go_ret2
        exact ⟨HO.out, .inr ⟨er, HS.out.1, HS.out.2, rfl⟩⟩
      | ok x =>
        obtain ⟨v, p1⟩ := x
        obtain ⟨⟨s, hs, rfl⟩, hpp, hp1⟩ := nxS_ok hp hx
        have hs18 : s ≤ 18 := by omega
        have HNX := Lib.hid (hcall.mono fun e w' h => got_ok hx h)
        have hs2 := HX.out.1
        rw [hx] at hs2
        have HS := Lib.hid hs2
        clear hcall hx hs2
        go_wp2_with fail
        refine HNX.out.mono ?_
        rintro e w2 ⟨rfl, ho, hU2⟩
        have hO2 := only_trans HX.out.2.1 ho
        have hown2 : w2.ownsRow w.heap.size 3 1 (.slice ra R rc) R (row.map (Value.int .i64)) := own_keep' HX.out.2.2.1 fun i hi => ho.block i (HX.out.2.2.1.lt i hi).2 (by intro e; injection e with e; have := (HX.out.2.2.1.lt i hi).1; omega)
        have hints : Ints .i64 w2 w2.heap.size ra row := ints_row hown2 HR.out (fun x hx => by
          have := HX.out.2.2.2 x hx
          simp [Lit.wf, IntKind.min, IntKind.max, IntKind.signed, IntKind.bits]; omega)
        have hrep := unRepeated (row := row) (c := rc) s hs18 (by rw [HR.out]; omega) hints hU2
        rw [HR.out] at hrep
        have HY := Lib.hid (And.intro hO2 (And.intro hown2 HX.out.2.2.2))
        clear HNX HX ho hU2 hO2 hown2 hints c0
        cases hx2 : repT l p1 row (s : Int) with
        | error er =>
          have hs3 := HS.out
          rw [hx2] at hs3
          have HNX := Lib.hid (hrep.mono fun e w' h => rpts_bad hx2 h)
          have HS3 := Lib.hid hs3
          clear hrep hs3 hx2 HS
          go_wp2_with fail
          refine HNX.out.mono ?_
          rintro e w3 ⟨y, z, rfl, ho, hne⟩
          have hd : (er != 0) = true := by simp [hne]
          have HO := Lib.hid (And.intro (only_trans HY.out.1 ho) hne)
          clear HNX HY ho hne
          go_wp2_with fail
          go_ret2
          exact ⟨HO.out.1, .inr ⟨er, HS3.out, HO.out.2, rfl⟩⟩
        | ok x =>
          obtain ⟨v, t, p2⟩ := x
          obtain ⟨⟨T, rfl, hT1, hT2⟩, hv18, hp12, hp2⟩ := repT_val hs18 HY.out.2.2 hx2
          have hs3 := HS.out
          rw [hx2] at hs3
          simp only [Int.toNat_natCast] at hs3
          have HNX := Lib.hid (hrep.mono fun e w' h => rpts_ok hx2 h)
          have HS3 := Lib.hid hs3
          clear hrep hs3 hx2 HS
          go_wp2_with fail
          refine HNX.out.mono ?_
          rintro e w3 ⟨rfl, ho, hU3⟩
          have hO3 := only_trans HY.out.1 ho
          have hown3 : w3.ownsRow w.heap.size 3 1 (.slice ra R rc) R (row.map (Value.int .i64)) := own_keep' HY.out.2.1 fun i hi => ho.block i (HY.out.2.1.lt i hi).2 (by intro e; injection e with e; have := (HY.out.2.1.lt i hi).1; omega)
          have HZ := Lib.hid (And.intro hU3 (And.intro hO3 (And.intro hown3 HY.out.2.2)))
          clear HNX HY ho hU3 hO3 hown3
          by_cases hlong : n - R < T
          · have hd : decide ((T : Int) > (n : Int) - R) = true := by simp; omega
            have hs4 := HS3.out
            rw [if_pos (by omega)] at hs4
            have HE := Lib.hid (And.intro hs4 HZ.out.2.1)
            clear hs4 HS3 HZ
            go_wp2_with fail
            go_ret2
            exact ⟨HE.out.2, .inr ⟨6, HE.out.1, by decide, rfl⟩⟩
          · have hd : decide ((T : Int) > (n : Int) - R) = false := by simp; omega
            have hs4 := HS3.out
            rw [if_neg (by omega)] at hs4
            have HE := Lib.hid hs4
            clear hs4 HS3
            have hbs := (Below.refl w3.heap.size w3).alloc (Nat.le_refl _) (.cells #[.int .i64 v] 3)
            have hnew := heap_alloc_new w3 (.cells #[.int .i64 v] 3)
            have hsz : (w3.alloc (.cells #[.int .i64 v] 3)).heap.size = w3.heap.size + 1 := by simp
            have hrpt := repeat_is v T (by omega) w3.heap.size (w3.alloc (.cells #[.int .i64 v] 3)) (by rw [hsz]; omega) (by rw [blk_cell hnew]; rfl) 1
            have HB := Lib.hid (And.intro hbs hsz)
            clear hbs hnew hsz
            go_wp2_with fail
            refine hrpt.mono ?_
            rintro e w4 ⟨rfl, hblk, hb4⟩
            have hszz := HB.out.2
            rw [hszz] at hblk hb4
            have hB34 : Below w3.heap.size w3 w4 := below_next HB.out.1 (Nat.le_refl _) (by rw [hszz]; exact hb4)
            have hown4 : w4.ownsRow w.heap.size 3 1 (.slice ra R rc) R (row.map (Value.int .i64)) := own_below HZ.out.2.2.1 hB34
            have hsrc : Src w4 (some ⟨w3.heap.size + 1, 0, none⟩) (List.replicate T (Value.int .i64 v)) := fun _ => ⟨_, 0, rfl, fun j hj => by
              rw [List.length_replicate] at hj
              rw [blk_cell hblk, Nat.zero_add, arrN_get _ _ hj, List.getElem?_replicate, if_pos hj]⟩
            have hone : ∀ u ∈ List.replicate T (Value.int .i64 v), u.oneCell' = true := by intro u hu; rw [List.eq_of_mem_replicate hu]; rfl
            have hbase : w.heap.size ≤ w4.heap.size := Nat.le_trans HZ.out.2.1.size hB34.size
            have hnb : R + T ≤ maxLen := by unfold maxLen; omega
            have HQ := Lib.hid (And.intro hB34 (And.intro hown4 (And.intro hsrc (And.intro hone (And.intro hbase hnb)))))
            clear hszz hblk hb4 hB34 hown4 hsrc hone hbase hnb hrpt HB
            go_wp2_with (at_builtin; refine wpList_appG 95 3 (.int .i64 0) 8 Tryd.underlying95 int_info rfl rfl _ _ rfl w.heap.size (.slice ra R rc) R (row.map (Value.int .i64)) rfl HQ.out.2.1 (some ⟨w3.heap.size + 1, 0, none⟩) T T (List.replicate T (Value.int .i64 v)) rfl List.length_replicate HQ.out.2.2.1 HQ.out.2.2.2.1 (fun h => by cases h) HQ.out.2.2.2.2.2 (by omega) HQ.out.2.2.2.2.1 ?_; intro v5 w5 hown5 hg5 hl5; obtain ⟨a5, c5, rfl⟩ := own_shape hown5)
            have hO4 : Only gr w w4 := only_trans HZ.out.2.1 (below_only HQ.out.1)
            have hl5 : ∀ i, i < w.heap.size → w5.heap[i]? = w4.heap[i]? := fun i hi => hg5.block i (Nat.lt_of_lt_of_le hi HQ.out.2.2.2.2.1) fun e => by have := (HQ.out.2.1.lt i e.symm).1; omega
            have hO5 : Only gr w w5 := ⟨hg5.os.trans hO4.os, hg5.tape.trans hO4.tape, hg5.output.trans hO4.output, Nat.le_trans hO4.size hg5.size, fun i hi hne => (hl5 i hi).trans (hO4.block i hi hne)⟩
            have hU5 : Un w5 gu gr l limit fl fd p2 out o := un_low (HZ.out.1.below HQ.out.1) hgu (fun i hi => (HC.out.2.2.row.lt i hi).2) hl5
            have hlen : (row ++ List.replicate T v).length = R + T := by rw [List.length_append, HR.out, List.length_replicate]
            have hown6 : w5.ownsRow w.heap.size 3 1 (.slice a5 (R + T) c5) (R + T) ((row ++ List.replicate T v).map (Value.int .i64)) := by rw [List.map_append, List.map_replicate]; exact hown5
            have hb6 : ∀ x ∈ row ++ List.replicate T v, 0 ≤ x ∧ x ≤ 18 := fun x hx => by
              rcases List.mem_append.1 hx with h | h
              · exact HZ.out.2.2.2 x h
              · rw [List.eq_of_mem_replicate h]; exact hv18
            have HEND := Lib.hid (And.intro HE.out (And.intro hU5 (And.intro hO5 (And.intro hown6 (And.intro hb6 hlen)))))
            clear hO4 hl5 hO5 hU5 hlen hown6 hb6 hown5 hg5 HE HZ HQ
            go_roundg (gk - T)
            case measure => omega
            case rel =>
              refine ⟨p2, f, row ++ List.replicate T v, a5, c5, by rw [HEND.out.2.2.2.2.2], by rw [HEND.out.2.2.2.2.2]; omega, by rw [HEND.out.2.2.2.2.2]; omega, by rw [HEND.out.2.2.2.2.2]; omega, ?_⟩
              rw [HEND.out.2.2.2.2.2]
              exact Lib.hid ⟨HEND.out.1, HEND.out.2.1, HEND.out.2.2.1, HEND.out.2.2.2.1, HEND.out.2.2.2.2.1⟩
    · obtain rfl : R = n := by omega
      obtain ⟨f, rfl⟩ : ∃ f', f = f' + 1 := ⟨f - 1, by omega⟩
      go_wp2_with fail
      go_ret2
      obtain ⟨e1, hU, hO, hown, hbd⟩ := H.out
      refine ⟨hO, .inl ⟨row, p', ra, rc, ?_, HR.out, hbd, rfl, hU, hown⟩⟩
      rw [e1, lensS, if_neg (by rw [HR.out]; omega)]
end
end Go.Proofs.YtdcpibglbanchaaDoor
