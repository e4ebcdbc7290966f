/- What package prefix asks of sixteen counts: contracts of isFull, isLone and firsts. Condition: the counts are those of up to 288 lengths of up to 15 bits. -/
import Derived.Test.YtpnnfekfoomgaaaDoorPP
import Derived.Test.YtpnnfekfoomgaaaDoorRef5N
set_option linter.unusedVariables false
set_option maxRecDepth 100000
namespace Go.Proofs.YtpnnfekfoomgaaaDoor
open Go.RowKit

def cntF (ns : List Nat) (i : Nat) : Int := (pcnt ns i : Int)
theorem pcnt_le (ns : List Nat) (n : Nat) : pcnt ns n ≤ ns.length := List.count_le_length
theorem full_step (ns : List Nat) (hl : ns.length ≤ 288) {n : Nat} (h0 : 1 ≤ n) (h1 : n ≤ 15) (hp : ppart ns (n - 1) ≤ 4718592 * (n - 1)) :
    wrap64 (((32768 - (ppart ns (n - 1) : Int)) : Int) - wrap64 ((pcnt ns n : Int) * 2 ^ (15 - n))) = 32768 - (ppart ns n : Int) ∧ ppart ns n ≤ 4718592 * n := by
  obtain ⟨k, rfl⟩ : ∃ k, n = k + 1 := ⟨n - 1, by omega⟩
  rw [Nat.add_sub_cancel] at hp ⊢
  have h2 : 2 ^ (15 - (k + 1)) ≤ 16384 := Nat.pow_le_pow_right (n := 2) (j := 14) (by decide) (by omega)
  have hc := pcnt_le ns (k + 1)
  have e : ppart ns (k + 1) = ppart ns k + pcnt ns (k + 1) * 2 ^ (15 - (k + 1)) := rfl
  rw [e, pow_cast, ← Int.natCast_mul]
  have h3 : pcnt ns (k + 1) * 2 ^ (15 - (k + 1)) ≤ 288 * 16384 := Nat.mul_le_mul (by omega) h2
  generalize pcnt ns (k + 1) * 2 ^ (15 - (k + 1)) = q at *
  rw [wrap64_in (q : Int) (by omega), wrap64_in _ (by omega)]
  omega
set_option maxHeartbeats 1000000 in
theorem isFull_is {w : World} {ns : List Nat} (hl : ns.length ≤ 288) (hall : ∀ n ∈ ns, n ≤ 15) :
    Calls Tryd.prog 65 #[.agg (arr (cntF ns))] w fun e w' => e = .returned (.bool (decide (kraft ns = 32768))) ∧ Below w.heap.size w w' := by
  have hbel : Below w.heap.size w (w.alloc (.cells (arr (cntF ns)) 62)) := (Below.refl _ _).alloc (Nat.le_refl _) _
  have hh := heap_alloc_new w (.cells (arr (cntF ns)) 62)
  have HB := Lib.hid hbel; clear hbel
  go_enter Tryd.func65, Tryd.ntmps65
  go_wp2_with fail
  go_loop [3, 4] (fun r v => ∃ n : Nat, 1 ≤ n ∧ n ≤ 16 ∧ v = .int .i64 n ∧ r = .int .i64 (32768 - (ppart ns (n - 1) : Int)) ∧ ppart ns (n - 1) ≤ 4718592 * (n - 1)) (fun _ v => 16 - (intOf v).toNat)
  case atStart => exact ⟨1, by omega, by omega, rfl, rfl, by simp [ppart]⟩
  case round =>
    obtain ⟨n, h1, h2, rfl, rfl, h3⟩ := hrel
    by_cases hlt : n ≤ 15
    · obtain ⟨hst, hb2⟩ := full_step ns hl h1 hlt h3
      have hc : (w.alloc (.cells (arr (cntF ns)) 62)).cell? ⟨w.heap.size, n, none⟩ = some (.int .i64 (pcnt ns n)) := by rw [blk_cell hh]; exact arr_get _ (by omega)
      have i0 : (0 : Int) ≤ (n : Int) := by omega
      have i1 : (n : Int) < 16 := by omega
      have HS := Lib.hid hst
      have HB2 := Lib.hid hb2
      clear hh hst hb2
      generalize pcnt ns n = c at *
      generalize ppart ns (n - 1) = q at *
      go_wp2_with fail
      exact ⟨⟨n + 1, by omega, by omega, by go_num, by rw [HS.out, Nat.add_sub_cancel], by rw [Nat.add_sub_cancel]; exact HB2.out⟩, by simp [intOf]; omega⟩
    · obtain rfl : n = 16 := by omega
      go_wp2_with fail
      go_ret
      refine ⟨retb ?_, HB.out⟩
      rw [kraft_part hall]
      have : ppart ns (16 - 1) = ppart ns 15 := rfl
      rw [this]
      generalize ppart ns 15 = q
      rw [Bool.eq_iff_iff]; simp; omega
set_option maxHeartbeats 1000000 in
theorem isLone_is {w : World} {ns : List Nat} (hl : ns.length ≤ 288) :
    Calls Tryd.prog 66 #[.agg (arr (cntF ns)), .int .i64 ns.length] w fun e w' => e = .returned (.bool (decide (ns.length - pcnt ns 0 = 0) || decide (ns.length - pcnt ns 0 = 1) && decide (pcnt ns 1 = 1))) ∧ Below w.heap.size w w' := by
  have hbel : Below w.heap.size w (w.alloc (.cells (arr (cntF ns)) 62)) := (Below.refl _ _).alloc (Nat.le_refl _) _
  have hh := heap_alloc_new w (.cells (arr (cntF ns)) 62)
  have c0 : (w.alloc (.cells (arr (cntF ns)) 62)).cell? ⟨w.heap.size, 0, none⟩ = some (.int .i64 (pcnt ns 0)) := by rw [blk_cell hh]; exact arr_get _ (by omega)
  have c1 : (w.alloc (.cells (arr (cntF ns)) 62)).cell? ⟨w.heap.size, 1, none⟩ = some (.int .i64 (pcnt ns 1)) := by rw [blk_cell hh]; exact arr_get _ (by omega)
  have h0 := pcnt_le ns 0
  have h1 := pcnt_le ns 1
  have HB := Lib.hid hbel; clear hbel hh
  generalize pcnt ns 0 = z at *
  generalize pcnt ns 1 = o at *
  obtain ⟨d, hd⟩ : ∃ d : Nat, ns.length - z = d := ⟨_, rfl⟩
  have hdz : ((ns.length : Int) - z) = (d : Int) := by omega
  have hdw : IntKind.i64.wrap ((ns.length : Int) - z) = (d : Int) := by rw [hdz]; exact IntWalk.i64_in _ (by omega)
  rw [hd]
  generalize ns.length = L at *
  have HD := Lib.hid hd; clear hd
  by_cases hd0 : d = 0
  · subst hd0
    go_enter Tryd.func66, Tryd.ntmps66
    go_wp2_with fail
    go_ret
    exact ⟨rfl, HB.out⟩
  · have g0 : ((d : Int) == 0) = false := by simp; omega
    by_cases hd1 : d = 1
    · subst hd1
      by_cases ho : o = 1
      · subst ho
        go_enter Tryd.func66, Tryd.ntmps66
        go_wp2_with fail
        go_ret
        exact ⟨rfl, HB.out⟩
      · have g1 : ((o : Int) == 1) = false := by simp; omega
        have g2 : decide (o = 1) = false := by simp [ho]
        rw [g2]
        go_enter Tryd.func66, Tryd.ntmps66
        go_wp2_with fail
        go_ret
        exact ⟨rfl, HB.out⟩
    · have g1 : ((d : Int) == 1) = false := by simp; omega
      have g2 : decide (d = 1) = false := by simp [hd1]
      have g3 : decide (d = 0) = false := by simp [hd0]
      rw [g2, g3]
      go_enter Tryd.func66, Tryd.ntmps66
      go_wp2_with fail
      go_ret
      exact ⟨rfl, HB.out⟩
theorem arr_ld {ops : Array Oper} {rest : List Oper} {op : Oper} {a : Act} {W : World} {Q : Exit → Act → World → Prop} {x : Operand} {f : Nat → Int} (hgd : op.guard = none) (ho : op.op = .load 62 x) (b : Nat) (hx : a.eval x = .pointer (some ⟨b, 0, none⟩)) (hh : W.heap[b]? = some (.cells (arr f) 62 (0, 0)))
    (h : wpList Tryd.prog ops Q rest (a.put op.dst (.agg (arr f))) W) : wpList Tryd.prog ops Q (op :: rest) a W := by
  refine wpList_load_mid hgd 62 x ho b 0 hx (arr f).toList _ (fun j v hv => ?_) Tryd.underlying62 rfl ?_ (by simpa using h)
  · rw [Nat.zero_add, blk_cell hh]; simpa using hv
  · rw [Array.length_toList, arr_size]; kernel_rfl
theorem wpList_wanted {P : Program} {ops : Array Oper} {rest : List Oper} {o : Oper} {a : Act} {w : World} {Q : Exit → Act → World → Prop} (hw : Region.wanted o (yielded ops a.tmps) = true) (h : ∀ K : Act → World → Prop, (∀ a w, wpList P ops Q rest a w → K a w) → o.wp P a w K Q) : wpList P ops Q (o :: rest) a w := by
  unfold wpList
  rw [if_pos hw]
  exact .inl (h _ fun _ _ h => h)
theorem arr_ldg {ops : Array Oper} {rest : List Oper} {op : Oper} {a : Act} {W : World} {Q : Exit → Act → World → Prop} {x : Operand} {f : Nat → Int} (hw : Region.wanted op (yielded ops a.tmps) = true) (ho : op.op = .load 62 x) (b : Nat) (hx : a.eval x = .pointer (some ⟨b, 0, none⟩)) (hh : W.heap[b]? = some (.cells (arr f) 62 (0, 0)))
    (h : wpList Tryd.prog ops Q rest (a.put op.dst (.agg (arr f))) W) : wpList Tryd.prog ops Q (op :: rest) a W :=
  wpList_wanted hw fun K hK => wp_load_mid 62 x ho b 0 hx (arr f).toList _ (fun j v hv => by rw [Nat.zero_add, blk_cell hh]; simpa using hv) Tryd.underlying62 rfl (by rw [Array.length_toList, arr_size]; kernel_rfl) (hK _ _ (by simpa using h))
theorem arr_one (f : Nat → Int) : (arr f).all (·.oneCell') = true := by
  rw [Array.all_eq_true_iff_forall_mem]
  intro u hu
  simp [arr] at hu
  obtain ⟨i, _, rfl⟩ := hu
  rfl
theorem arr_st {ops : Array Oper} {rest : List Oper} {op : Oper} {a : Act} {W : World} {Q : Exit → Act → World → Prop} {x y : Operand} {f f0 : Nat → Int} (hgd : op.guard = none) (ho : op.op = .store 62 x y) (b : Nat) (hx : a.eval x = .pointer (some ⟨b, 0, none⟩)) (hy : a.eval y = .agg (arr f)) (hh : W.heap[b]? = some (.cells (arr f0) 62 (0, 0)))
    (h : wpList Tryd.prog ops Q rest (a.put op.dst undef) (W.setRow b (arr f))) : wpList Tryd.prog ops Q (op :: rest) a W :=
  wpList_plain hgd fun _ hK => by
    have hi : (Tryd.prog.info? 62).map (·.size) = some (arr f).size := by rw [arr_size]; kernel_rfl
    unfold Oper.wp execOp
    simp only [ho, hx, hy, Instr.storeAt, Instr.sureAddr, Sem.run_bind, Sem.run_pure, Result.andThen_ok, run_storeVar_row W b 62 62 (arr f0) (arr f) hh hi (by rw [arr_size, arr_size]) (arr_one f)]
    exact hK _ _ h
theorem arr_ret {fn : Func} {tmps : Array Value} {W : World} {b : Nat} {f : Nat → Int} (hf : fn.results = #[.cell 2 62]) (h4 : tmps.getD 2 undef = .pointer (some ⟨b, 0, none⟩)) (hh : W.heap[b]? = some (.cells (arr f) 62 (0, 0))) :
    (results fn tmps).run Tryd.prog W = .ok (.agg (arr f)) W := by
  have hl := run_loadVar_row (P := Tryd.prog) W b _ 62 (arr f) (0, 0) _ hh Tryd.underlying62 rfl (by rw [arr_size]; kernel_rfl)
  have h4' : tmps[2]?.getD undef = .pointer (some ⟨b, 0, none⟩) := by rw [← h4, Array.getD_eq_getD_getElem?]
  simp only [results, hf]
  simp [h4', asAddr, hl]
theorem zeroA (W : World) : (zeroValue 62).run Tryd.prog W = .ok (.agg (arr fun _ => 0)) W := by kernel_rfl
set_option maxHeartbeats 2000000 in
theorem firsts_is {w : World} {ns : List Nat} (hl : ns.length ≤ 288) :
    Calls Tryd.prog 77 #[.agg (arr (cntF ns))] w fun e w' => e = .returned (.agg (arr fun i => (pfirst ns i : Int))) ∧ Below w.heap.size w w' := by
  have hz := zeroA
  go_enter Tryd.func77, Tryd.ntmps77
  go_wp2_with fail
  have hw1 : Below w.heap.size w (((w.alloc (.cells (arr (cntF ns)) 62)).alloc (.cells (arr fun _ => 0) 62)).alloc (.cells (arr fun _ => 0) 62)) := (((Below.refl _ _).alloc (Nat.le_refl _) _).alloc (by simp) _).alloc (by simp; omega) _
  have hc0 : (((w.alloc (.cells (arr (cntF ns)) 62)).alloc (.cells (arr fun _ => 0) 62)).alloc (.cells (arr fun _ => 0) 62)).heap[w.heap.size]? = some (.cells (arr (cntF ns)) 62 (0, 0)) := (Below.heap_alloc _ _ _ (by simp; omega)).trans ((Below.heap_alloc _ _ _ (by simp)).trans (heap_alloc_new _ _))
  have hc1 : (((w.alloc (.cells (arr (cntF ns)) 62)).alloc (.cells (arr fun _ => 0) 62)).alloc (.cells (arr fun _ => 0) 62)).heap[w.heap.size + 1]? = some (.cells (arr fun _ => 0) 62 (0, 0)) := (Below.heap_alloc _ _ _ (by simp)).trans (by simpa using heap_alloc_new (w.alloc (.cells (arr (cntF ns)) 62)) (.cells (arr fun _ => 0) 62))
  have hc2 : (((w.alloc (.cells (arr (cntF ns)) 62)).alloc (.cells (arr fun _ => 0) 62)).alloc (.cells (arr fun _ => 0) 62)).heap[w.heap.size + 1 + 1]? = some (.cells (arr fun _ => 0) 62 (0, 0)) := by simpa using heap_alloc_new ((w.alloc (.cells (arr (cntF ns)) 62)).alloc (.cells (arr fun _ => 0) 62)) (.cells (arr fun _ => 0) 62)
  generalize (((w.alloc (.cells (arr (cntF ns)) 62)).alloc (.cells (arr fun _ => 0) 62)).alloc (.cells (arr fun _ => 0) 62)) = w1 at *
  have H0 := Lib.hid (And.intro hc0 (And.intro hc1 (And.intro hc2 hw1)))
  clear hc0 hc1 hc2 hw1 hz
  go_loopw [4] (fun v wr => ∃ n : Nat, 2 ≤ n ∧ n ≤ 16 ∧ v = .int .i64 n ∧ Hid (wr.heap[w.heap.size]? = some (.cells (arr (cntF ns)) 62 (0, 0)) ∧ wr.heap[w.heap.size + 1]? = some (.cells (arr fun _ => 0) 62 (0, 0)) ∧ wr.heap[w.heap.size + 1 + 1]? = some (.cells (arr fun i => if i < n then (pfirst ns i : Int) else 0) 62 (0, 0)) ∧ Below w.heap.size w wr)) (fun v _ => 16 - (intOf v).toNat)
  case atStart =>
    refine ⟨2, by omega, by omega, rfl, Lib.hid ⟨H0.out.1, H0.out.2.1, ?_, H0.out.2.2.2⟩⟩
    rw [H0.out.2.2.1]
    have e : (arr fun _ => 0) = arr fun i => if i < 2 then (pfirst ns i : Int) else 0 := arr_congr fun i hi => by
      by_cases h : i < 2
      · rw [if_pos h]
        rcases (show i = 0 ∨ i = 1 by omega) with rfl | rfl <;> rfl
      · rw [if_neg h]
    rw [e]
  case round =>
    obtain ⟨n, h2, h16, rfl, H⟩ := hrel
    by_cases hlt : n ≤ 15
    · have c1 : wr.cell? ⟨w.heap.size + 1 + 1, n - 1, none⟩ = some (.int .i64 (pfirst ns (n - 1))) := by rw [blk_cell H.out.2.2.1, arr_get _ (by omega), if_pos (by omega)]
      have c2 : wr.cell? ⟨w.heap.size, n - 1, none⟩ = some (.int .i64 (pcnt ns (n - 1))) := by rw [blk_cell H.out.1]; exact arr_get _ (by omega)
      have f1 := blk_free H.out.2.2.1 n
      have c3 : wr.cell? ⟨w.heap.size + 1 + 1, n, none⟩ = some (.int .i64 0) := by rw [blk_cell H.out.2.2.1, arr_get _ (by omega), if_neg (by omega)]
      have hb1 := pfirst_bd ns hl (n := n - 1) (by omega) (by omega)
      have hb2 := pcnt_le ns (n - 1)
      have hst : pfirst ns n = 2 * (pfirst ns (n - 1) + pcnt ns (n - 1)) := by
        obtain ⟨k, rfl⟩ : ∃ k, n = k + 2 := ⟨n - 2, by omega⟩
        rfl
      have i0 : (0 : Int) ≤ (n : Int) - 1 := by omega
      have i1 : (n : Int) - 1 < 16 := by omega
      have i2 : (n : Int) < 16 := by omega
      have i3 : (0 : Int) ≤ (n : Int) := by omega
      have hn1 : IntKind.i64.wrap ((n : Int) - 1) = ((n - 1 : Nat) : Int) := by rw [IntWalk.i64_in _ (by omega)]; omega
      have HST := Lib.hid hst
      clear hst
      obtain ⟨u, hu⟩ : ∃ u, pfirst ns (n - 1) = u := ⟨_, rfl⟩
      obtain ⟨x, hx⟩ : ∃ x, pcnt ns (n - 1) = x := ⟨_, rfl⟩
      rw [hu] at c1 hb1 HST
      rw [hx] at c2 hb2 HST
      clear hu hx
      have hn2 : ((n : Int) - 1) = ((n - 1 : Nat) : Int) := by omega
      rw [hn2] at i0 i1
      generalize n - 1 = m at *
      go_wp2_with fail
      go_region
      go_wp2_with fail
      go_roundw
      case rel =>
        refine ⟨n + 1, by omega, by omega, by go_num, Lib.hid ⟨?_, ?_, ?_, ?_⟩⟩
        · exact (Below.heap_setCell wr ⟨w.heap.size + 1 + 1, n, none⟩ _ _ (by simp; omega)).trans H.out.1
        · exact (Below.heap_setCell wr ⟨w.heap.size + 1 + 1, n, none⟩ _ _ (by simp)).trans H.out.2.1
        · refine (blk_set H.out.2.2.1 n _).trans ?_
          rw [arr_set]
          congr 1
          congr 1
          refine arr_congr fun i hi => ?_
          by_cases e : i = n
          · subst e; rw [if_pos rfl, if_pos (by omega), HST.out]; omega
          · rw [if_neg e]
            by_cases h : i < n
            · rw [if_pos h, if_pos (by omega)]
            · rw [if_neg h, if_neg (by omega)]
        · exact low_drewN (H.out.2.2.2.setCell (p := ⟨w.heap.size + 1 + 1, n, none⟩) (by simp; omega) _) 1
      case measure => simp [intOf]; omega
    · obtain rfl : n = 16 := by omega
      have hfull : (arr fun i => if i < 16 then (pfirst ns i : Int) else 0) = arr fun i => (pfirst ns i : Int) := arr_congr fun i hi => if_pos hi
      have h3 := H.out.2.2.1
      rw [hfull] at h3
      have h2 := H.out.2.1
      have H4 := Lib.hid H.out.2.2.2
      clear hfull H
      go_wp2_with (first | refine arr_ld rfl rfl (w.heap.size + 1 + 1) rfl h3 ?_ | refine arr_st rfl rfl (w.heap.size + 1) rfl rfl h2 ?_)
      (try simp only [Exit.inBlock, Exit.then])
      refine bodyPost_ret (arr_ret rfl rfl (setRow_heap _ _ _ _ _ _ h2)) rfl ?_
      exact ⟨rfl, low_setRow H4.out (Nat.le_succ _) _⟩
end Go.Proofs.YtpnnfekfoomgaaaDoor
