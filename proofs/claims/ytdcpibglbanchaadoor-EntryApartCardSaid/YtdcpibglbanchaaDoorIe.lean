/- The fixed lengths made: contracts of slices.Grow (of nil) and slices.Concat (of the four rows of the fixed lengths). No condition but what the words say. The codes of fixed blocks: contract of fixedPair. No condition but what the words say. A block of whatever kind: contract of block. Condition: the order of the lengths lies where the program's own text lays it. -/
import Derived.Test.YtdcpibglbanchaaDoorId
import Derived.Lib.AppendZerosOnto
set_option linter.unusedVariables false
set_option maxRecDepth 100000
namespace Go.Proofs.YtdcpibglbanchaaDoor
open Go.RowKit

theorem grow_run (k : Nat) (hk : 0 < k) (hk2 : k ≤ 400) (w : World) : ∃ c w', (Builtin.append_ #[95, 3] 95 #[.slice none 0 0, .int .i64 k]).run Tryd.prog w = .ok (.slice (some ⟨w.heap.size, 0, none⟩) k c) w' ∧ k ≤ c ∧ w'.ownsRow w.heap.size 3 1 (.slice (some ⟨w.heap.size, 0, none⟩) 0 c) 0 [] ∧ Below w.heap.size w w' := by
  obtain ⟨i0, hi, hz0, hz1, hz2⟩ := info_parts int_info
  have hold : (Builtin.firstCells i0.size 0 (.slice none 0 0)).run Tryd.prog w.drew = .ok ([] : List Value).toArray w.drew := by
    simp [Builtin.firstCells]
  have hr := Go.Lib.run_append_grow_zeros (P := Tryd.prog) w 95 3 95 3 i0 (.int .i64 0) .i64 .i64 Tryd.underlying95 Tryd.underlying3 hi hz0 none 0 0 [] hold k hk (by rw [hz1]; decide) (by omega) (by omega) (by rw [hz2]; omega) (by rw [hz2]; exact growslice_fits (by omega) (by omega))
  rw [Nat.zero_add] at hr
  have hge := grownCap_ge w k 0 3
  have hle := grownCap_le_maxLen w k 0 3 (by unfold maxLen; omega)
  refine ⟨_, _, hr, hge, ⟨rfl, .inr ⟨w.heap.size, _, _, rfl, Nat.le_refl _, heap_alloc_new w.drew _, Nat.zero_le _, hle, ?_, by simp⟩⟩, ?_⟩
  · have hzc : (Value.int .i64 0).cells.size = 1 := rfl
    simp only [Array.size_append, List.size_toArray, size_zeroCells, hzc, List.length_nil]
    omega
  · exact (low_drewN (Below.refl w.heap.size w) 1).alloc (Nat.le_refl _) _
theorem wpList_zeros {w : World} {ops : Array Oper} {rest : List Oper} {o : Oper} {a : Act} {Q : Exit → Act → World → Prop} (hgd : o.guard = none) (s x : Operand)
    (ho : o.op = .call { callee := .builtin .append, args := #[s, x], argTypes := #[95, 3] }) (hty : o.type = 95) (k : Nat) (hk : 0 < k) (hk2 : k ≤ 400) (hs : a.eval s = .slice none 0 0) (hx : a.eval x = .int .i64 k)
    (h : ∀ c w', k ≤ c → w'.ownsRow w.heap.size 3 1 (.slice (some ⟨w.heap.size, 0, none⟩) 0 c) 0 [] → Below w.heap.size w w' → wpList Tryd.prog ops Q rest (a.put o.dst (.slice (some ⟨w.heap.size, 0, none⟩) k c)) w') : wpList Tryd.prog ops Q (o :: rest) a w :=
  wpList_plain hgd fun _ hK => by
    obtain ⟨c, w', hr, h2, h3, h4⟩ := grow_run k hk hk2 w
    unfold Oper.wp execOp
    simp only [ho, hty, resolve, invoke, builtin, Sem.run_bind, Sem.run_pure, Result.andThen_ok, List.map_toArray, List.map_cons, List.map_nil, hs, hx, hr]
    exact hK _ _ (h c w' h2 h3 h4)
theorem grow_is (k : Nat) (hk : 0 < k) (hk2 : k ≤ 400) (w : World) : Calls Tryd.prog 63 #[.slice none 0 0, .int .i64 k] w fun e w' => ∃ c, e = .returned (.slice (some ⟨w.heap.size, 0, none⟩) 0 c) ∧ w'.ownsRow w.heap.size 3 1 (.slice (some ⟨w.heap.size, 0, none⟩) 0 c) 0 [] ∧ Below w.heap.size w w' := by
  have h1 : decide ((k : Int) < 0) = false := by simp
  have h2 : decide ((k : Int) > 0) = true := by simp; omega
  go_enter Tryd.func63, Tryd.ntmps63
  go_wp2_with (at_builtin; refine wpList_zeros rfl _ _ rfl rfl k hk hk2 rfl rfl ?_; intro c w' hc hown hb)
  have HO := Lib.hid (And.intro hown hb)
  clear hown hb
  go_wp2_with fail
  go_ret
  exact ⟨c, rfl, HO.out.1, HO.out.2⟩
/-- the four rows of the fixed lengths -/
def fxn : List Nat := [144, 112, 24, 8]
def fxv : List Int := [8, 9, 7, 8]
def fxs : List Nat := [0, 144, 256, 280, 288]
theorem fx_step : ∀ k, k < 4 → fxs.getD (k + 1) 0 = fxs.getD k 0 + fxn.getD k 0 ∧ fixL.take (fxs.getD (k + 1) 0) = fixL.take (fxs.getD k 0) ++ List.replicate (fxn.getD k 0) (fxv.getD k 0) ∧ fxs.getD k 0 ≤ 288 ∧ fxn.getD k 0 ≤ 144 := by decide +kernel
set_option maxHeartbeats 4000000 in
theorem concat_is (w : World) (SB c : Nat) (bs : Nat → Nat) (hsl : ∀ k, k < 4 → w.cell? ⟨SB, k, none⟩ = some (.slice (some ⟨bs k, 0, none⟩) (fxn.getD k 0) (fxn.getD k 0))) (hSB : SB < w.heap.size)
    (hbl : ∀ k, k < 4 → w.heap[bs k]? = some (.cells (arrN (fxn.getD k 0) fun _ => fxv.getD k 0) 3 (0, 0))) :
    Calls Tryd.prog 50 #[.slice (some ⟨SB, 0, none⟩) 4 4] w fun e w' => ∃ a c, e = .returned (.slice a 288 c) ∧ w'.ownsRow w.heap.size 3 1 (.slice a 288 c) 288 (fixL.map (Value.int .i64)) ∧ Below w.heap.size w w' := by
  have HB := Lib.hid (And.intro hsl hbl)
  clear hsl hbl
  go_enter Tryd.func50, Tryd.ntmps50
  go_wp2_with fail
  go_loop [3, 11] (fun sz i => ∃ k : Nat, k ≤ 4 ∧ i = .int .i64 k ∧ sz = .int .i64 (fxs.getD k 0 : Nat)) (fun _ i => 4 - (intOf i).toNat)
  case atStart => exact ⟨0, by omega, rfl, rfl⟩
  case round =>
    obtain ⟨k, hk, rfl, rfl⟩ := hrel
    by_cases hlt : k < 4
    · obtain ⟨e1, e2, e3, e4⟩ := fx_step k hlt
      have hc := HB.out.1 k hlt
      obtain ⟨S, hS⟩ : ∃ S, fxs.getD k 0 = S := ⟨_, rfl⟩
      obtain ⟨N, hN⟩ : ∃ N, fxn.getD k 0 = N := ⟨_, rfl⟩
      rw [hS, hN] at e1
      rw [hN] at hc e4
      rw [hS] at e3
      have HE := Lib.hid e1
      have h0 : decide ((S : Int) + (N : Int) < 0) = false := by simp; omega
      rw [hS]
      clear e1 e2 hS hN
      go_wp2_with fail
      exact ⟨⟨k + 1, by omega, by go_num, by rw [HE.out]; go_num⟩, by simp [intOf]; omega⟩
    · obtain rfl : k = 4 := by omega
      have hg := grow_is 288 (by decide) (by decide) w
      rw [show ((fxs.getD 4 0 : Nat) : Int) = 288 from rfl]
      rw [show ((288 : Nat) : Int) = 288 from rfl] at hg
      go_wp2_with fail
      refine hg.mono ?_
      rintro e w2 ⟨c2, rfl, hown, hb⟩
      have H2 := Lib.hid (And.intro hown hb)
      clear hown hb hg
      go_wp2_with fail
      go_loopw [6, 27] (fun v i wr => ∃ (k : Nat) (a2 : Option Addr) (c2 : Nat), k ≤ 4 ∧ i = .int .i64 k ∧ v = .slice a2 (fxs.getD k 0) c2 ∧ Hid (wr.ownsRow w.heap.size 3 1 (.slice a2 (fxs.getD k 0) c2) (fxs.getD k 0) ((fixL.take (fxs.getD k 0)).map (Value.int .i64)) ∧ Below w.heap.size w wr)) (fun _ i _ => 4 - (intOf i).toNat)
      case atStart => exact ⟨0, _, c2, by omega, rfl, rfl, H2⟩
      case round =>
        obtain ⟨k, a2, c2, hk, rfl, rfl, H⟩ := hrel
        by_cases hlt : k < 4
        · obtain ⟨e1, e2, e3, e4⟩ := fx_step k hlt
          have hc := (cell_keep' (H.out.2.block SB hSB)).trans (HB.out.1 k hlt)
          have hbk := HB.out.2 k hlt
          have hbk2 := (H.out.2.block _ (blk_lt hbk)).trans hbk
          have hsrc : Src wr (some ⟨bs k, 0, none⟩) (List.replicate (fxn.getD k 0) (Value.int .i64 (fxv.getD k 0))) := fun _ => ⟨_, 0, rfl, fun j hj => by
            rw [List.length_replicate] at hj
            rw [blk_cell hbk2, Nat.zero_add, arrN_get _ _ hj, List.getElem?_replicate, if_pos hj]⟩
          have hone : ∀ u ∈ List.replicate (fxn.getD k 0) (Value.int .i64 (fxv.getD k 0)), u.oneCell' = true := by intro u hu; rw [List.eq_of_mem_replicate hu]; rfl
          have hbase := H.out.2.size
          obtain ⟨S, hS⟩ : ∃ S, fxs.getD k 0 = S := ⟨_, rfl⟩
          obtain ⟨N, hN⟩ : ∃ N, fxn.getD k 0 = N := ⟨_, rfl⟩
          obtain ⟨V, hV⟩ : ∃ V, fxv.getD k 0 = V := ⟨_, rfl⟩
          have hown := H.out.1
          rw [hS] at hown e3
          rw [hS, hN] at e1 
          rw [e1, hS, hN, hV] at e2
          rw [hN, hV] at hsrc hone
          rw [hN] at hc e4
          rw [hS]
          have hmx : S + N ≤ maxLen := by unfold maxLen; omega
          have HE := Lib.hid (And.intro e1 (And.intro e2 (And.intro hown (And.intro hsrc (And.intro hone (And.intro hmx H.out.2))))))
          clear e1 e2 hS hN hV hown hsrc hone hmx hbk hbk2 H
          go_wp2_with (at_builtin; refine wpList_appG 95 3 (.int .i64 0) 8 Tryd.underlying95 int_info rfl rfl _ _ rfl w.heap.size (.slice a2 S c2) S ((fixL.take S).map (Value.int .i64)) rfl HE.out.2.2.1 (some ⟨bs k, 0, none⟩) N N (List.replicate N (Value.int .i64 V)) rfl List.length_replicate HE.out.2.2.2.1 HE.out.2.2.2.2.1 (fun h => by cases h) HE.out.2.2.2.2.2.1 (by omega) hbase ?_; intro v5 w5 hown5 hg5 hl5; obtain ⟨a5, c5, rfl⟩ := own_shape hown5)
          have hbw := HE.out.2.2.2.2.2.2
          have hb5 : Below w.heap.size w w5 := ⟨hg5.os.trans hbw.os, hg5.tape.trans hbw.tape, hg5.output.trans hbw.output, Nat.le_trans hbw.size hg5.size, fun i hi => (hg5.block i (Nat.lt_of_lt_of_le hi hbw.size) fun e => by have := (HE.out.2.2.1.lt i e.symm).1; omega).trans (hbw.block i hi)⟩
          have hfin : w5.ownsRow w.heap.size 3 1 (.slice a5 (S + N) c5) (S + N) ((fixL.take (S + N)).map (Value.int .i64)) := by rw [HE.out.2.1, List.map_append, List.map_replicate]; exact hown5
          refine ⟨⟨k + 1, a5, c5, by omega, by go_num, by rw [HE.out.1], ?_⟩, by simp [intOf]; omega⟩
          rw [HE.out.1]
          exact Lib.hid ⟨hfin, hb5⟩
        · obtain rfl : k = 4 := by omega
          go_wp2_with fail
          go_ret
          exact ⟨a2, c2, rfl, H.out.1, H.out.2⟩
end Go.Proofs.YtdcpibglbanchaaDoor

set_option linter.unusedVariables false
set_option maxRecDepth 100000
namespace Go.Proofs.YtdcpibglbanchaaDoor
open Go.RowKit

theorem fixL_ok : errN fixL false = 0 := by decide +kernel
theorem fixD_ok : errN fixD false = 0 := by decide +kernel
/-- the codes of fixed blocks, if they have been made -/
def Fxd (w : World) (F : Nat → Prop) (fl fd : Option Addr) : Prop := (fl = none ∧ fd = none) ∨ (∃ g1 g2, fl = some ⟨g1, 0, none⟩ ∧ fd = some ⟨g2, 0, none⟩ ∧ PC w F g1 (nsOf fixL) ∧ PC w F g2 (nsOf fixD))
theorem pair_ret {fn : Func} {tmps : Array Value} {W : World} {b : Nat} {x y : Value} (hf : fn.results = #[.cell 2 76]) (h4 : tmps.getD 2 undef = .pointer (some ⟨b, 0, none⟩)) (hh : W.heap[b]? = some (.cells #[x, y] 76 (0, 0))) :
    (results fn tmps).run Tryd.prog W = .ok (.agg #[x, y]) W := by
  have hl := run_loadVar_row (P := Tryd.prog) W b _ 76 #[x, y] (0, 0) _ hh Tryd.underlying76 rfl (by kernel_rfl)
  have h4' : tmps[2]?.getD undef = .pointer (some ⟨b, 0, none⟩) := by rw [← h4, Array.getD_eq_getD_getElem?]
  simp only [results, hf]
  simp [h4', asAddr, hl]
section
variable {w : World} {gu gr : Nat} {l : List Int} {limit : Nat} {fl fd : Option Addr} {p : Nat} {out : List Int} {o : Option Addr × Nat}
def Fixes (w : World) (gu gr : Nat) (l : List Int) (limit p : Nat) (out : List Int) (o : Option Addr × Nat) (e : Ending) (w' : World) : Prop :=
  ∃ g1 g2 F', e = .returned (.agg #[.pointer (some ⟨g1, 0, none⟩), .pointer (some ⟨g2, 0, none⟩)]) ∧ Un w' gu gr l limit (some ⟨g1, 0, none⟩) (some ⟨g2, 0, none⟩) p out o ∧ Stp gu gr w out o w' out o ∧ Aside w' gu gr out o F' ∧ PC w' F' g1 (nsOf fixL) ∧ PC w' F' g2 (nsOf fixD)
set_option maxHeartbeats 4000000 in
theorem unFixedHad {F : Nat → Prop} {g1 g2 : Nat} (hF : Aside w gu gr out o F) (hc1 : PC w F g1 (nsOf fixL)) (hc2 : PC w F g2 (nsOf fixD)) (h : Un w gu gr l limit (some ⟨g1, 0, none⟩) (some ⟨g2, 0, none⟩) p out o) :
    Calls Tryd.prog 37 #[.pointer (some ⟨gu, 0, none⟩)] w (Fixes w gu gr l limit p out o) := by
  have c3 : w.cell? ⟨gu, 3, none⟩ = some (.pointer (some ⟨g1, 0, none⟩)) := blk_cell h.blk 3
  have c4 : w.cell? ⟨gu, 4, none⟩ = some (.pointer (some ⟨g2, 0, none⟩)) := blk_cell h.blk 4
  have hgu := blk_lt h.blk
  have HC := Lib.hid (And.intro hF (And.intro hc1 (And.intro hc2 h)))
  clear hF hc1 hc2 h
  go_enter Tryd.func37, Tryd.ntmps37
  go_wp2_with fail
  refine bodyPost_ret (pair_ret rfl rfl (heap_alloc_new _ _)) rfl ?_
  obtain ⟨hF, hc1, hc2, h⟩ := HC.out
  have hb := (Below.refl w.heap.size w).alloc (Nat.le_refl _) (.cells #[.pointer (some ⟨g1, 0, none⟩), .pointer (some ⟨g2, 0, none⟩)] 76)
  have hst : Stp gu gr w out o _ out o := stp_below hb
  exact ⟨g1, g2, F, rfl, h.below hb, hst, hF.step hst, hc1.keep fun b hb' => hb.block b (hF b hb').1, hc2.keep fun b hb' => hb.block b (hF b hb').1⟩
theorem rep_after (W : World) (v : Int) (n : Nat) (hn : n ≤ 400) : Calls Tryd.prog 51 #[.slice (some ⟨W.heap.size, 0, none⟩) 1 1, .int .i64 n] (W.alloc (.cells #[.int .i64 v] 3)) fun e w' => e = .returned (.slice (some ⟨W.heap.size + 1, 0, none⟩) n n) ∧ w'.heap[W.heap.size + 1]? = some (.cells (arrN n fun _ => v) 3 (0, 0)) ∧ Below W.heap.size W w' := by
  have hsz : (W.alloc (.cells #[.int .i64 v] 3)).heap.size = W.heap.size + 1 := by simp
  have hb := (Below.refl W.heap.size W).alloc (Nat.le_refl _) (.cells #[.int .i64 v] 3)
  refine (repeat_is v n hn W.heap.size (W.alloc (.cells #[.int .i64 v] 3)) (by rw [hsz]; omega) (by rw [blk_cell (heap_alloc_new W _)]; rfl) 1).mono ?_
  rintro e w' ⟨h1, h2, h3⟩
  rw [hsz] at h1 h2
  exact ⟨h1, h2, below_next hb (Nat.le_refl _) h3⟩
theorem ints_fixD {w : World} {B : Nat} (h : w.heap[B]? = some (.cells (arrN 32 fun _ => 5) 3 (0, 0))) : Ints .i64 w w.heap.size (some ⟨B, 0, none⟩) fixD := by
  refine ⟨by decide, fun _ => ⟨B, 0, rfl, blk_lt h, fun i hi => ?_⟩⟩
  have hi32 : i < 32 := hi
  rw [blk_cell h, Nat.zero_add, arrN_get _ _ hi32, List.getD_eq_getElem?_getD]
  unfold fixD
  rw [List.getElem?_replicate, if_pos hi32]; rfl
set_option maxHeartbeats 8000000 in
theorem unFixedNone (h : Un w gu gr l limit none none p out o) :
    Calls Tryd.prog 37 #[.pointer (some ⟨gu, 0, none⟩)] w (Fixes w gu gr l limit p out o) := by
  have hgu := blk_lt h.blk
  have hgr := h.under
  have hb0 := (Below.refl w.heap.size w).alloc (Nat.le_refl _) (.cells #[.pointer none, .pointer none] 76)
  have hR0 := heap_alloc_new w (.cells #[.pointer none, .pointer none] 76)
  have hz0 : (w.alloc (.cells #[.pointer none, .pointer none] 76)).heap.size = w.heap.size + 1 := by simp
  have c3 : (w.alloc (.cells #[.pointer none, .pointer none] 76)).cell? ⟨gu, 3, none⟩ = some (.pointer none) := blk_cell (h.below hb0).blk 3
  have HW := Lib.hid (And.intro h (And.intro hb0 (And.intro hR0 hz0)))
  clear h hb0 hR0 hz0
  go_enter Tryd.func37, Tryd.ntmps37
  go_upto_region 2 with (fail)
  generalize (w.alloc (.cells #[.pointer none, .pointer none] 76)) = w0 at *
  have hrA := rep_after w0 8 144 (by decide)
  rw [show ((144 : Nat) : Int) = 144 from rfl] at hrA
  go_wp2_with fail
  refine hrA.mono ?_
  rintro e wA ⟨rfl, hkA, hbA⟩
  have hrB := rep_after wA 9 112 (by decide)
  rw [show ((112 : Nat) : Int) = 112 from rfl] at hrB
  have HA := Lib.hid (And.intro hkA hbA)
  clear hkA hbA hrA
  go_wp2_with fail
  refine hrB.mono ?_
  rintro e wB ⟨rfl, hkB, hbB⟩
  have hrC := rep_after wB 7 24 (by decide)
  rw [show ((24 : Nat) : Int) = 24 from rfl] at hrC
  have HB := Lib.hid (And.intro hkB hbB)
  clear hkB hbB hrB
  go_wp2_with fail
  refine hrC.mono ?_
  rintro e wC ⟨rfl, hkC, hbC⟩
  have hrD := rep_after wC 8 8 (by decide)
  rw [show ((8 : Nat) : Int) = 8 from rfl] at hrD
  have HC := Lib.hid (And.intro hkC hbC)
  clear hkC hbC hrC
  go_wp2_with fail
  refine hrD.mono ?_
  rintro e wD ⟨rfl, hkD, hbD⟩
  have HD := Lib.hid (And.intro hkD hbD)
  clear hkD hbD hrD
  go_wp2_with fail
  have hS := heap_alloc_new wD (.cells #[.slice (some ⟨w0.heap.size + 1, 0, none⟩) 144 144, .slice (some ⟨wA.heap.size + 1, 0, none⟩) 112 112, .slice (some ⟨wB.heap.size + 1, 0, none⟩) 24 24, .slice (some ⟨wC.heap.size + 1, 0, none⟩) 8 8] 95)
  have hbS := (Below.refl wD.heap.size wD).alloc (Nat.le_refl _) (.cells #[.slice (some ⟨w0.heap.size + 1, 0, none⟩) 144 144, .slice (some ⟨wA.heap.size + 1, 0, none⟩) 112 112, .slice (some ⟨wB.heap.size + 1, 0, none⟩) 24 24, .slice (some ⟨wC.heap.size + 1, 0, none⟩) 8 8] 95)
  have hzS : (wD.alloc (.cells #[.slice (some ⟨w0.heap.size + 1, 0, none⟩) 144 144, .slice (some ⟨wA.heap.size + 1, 0, none⟩) 112 112, .slice (some ⟨wB.heap.size + 1, 0, none⟩) 24 24, .slice (some ⟨wC.heap.size + 1, 0, none⟩) 8 8] 95)).heap.size = wD.heap.size + 1 := by simp
  generalize (wD.alloc (.cells #[.slice (some ⟨w0.heap.size + 1, 0, none⟩) 144 144, .slice (some ⟨wA.heap.size + 1, 0, none⟩) 112 112, .slice (some ⟨wB.heap.size + 1, 0, none⟩) 24 24, .slice (some ⟨wC.heap.size + 1, 0, none⟩) 8 8] 95)) = wS at *
  have hbAS : Below wA.heap.size wA wS := below_next (below_next (below_next HB.out.2 (Nat.le_refl _) HC.out.2) (Nat.le_refl _) HD.out.2) (Nat.le_refl _) hbS
  have hbBS : Below wB.heap.size wB wS := below_next (below_next HC.out.2 (Nat.le_refl _) HD.out.2) (Nat.le_refl _) hbS
  have hbCS : Below wC.heap.size wC wS := below_next HD.out.2 (Nat.le_refl _) hbS
  have hb0S : Below w0.heap.size w0 wS := below_next HA.out.2 (Nat.le_refl _) hbAS
  have hcon := concat_is wS wD.heap.size 4 (fun k => [w0.heap.size + 1, wA.heap.size + 1, wB.heap.size + 1, wC.heap.size + 1].getD k 0) (fun k hk => by
    rw [blk_cell hS]
    match k, hk with
    | 0, _ => rfl
    | 1, _ => rfl
    | 2, _ => rfl
    | 3, _ => rfl) (by omega) (fun k hk => by
    match k, hk with
    | 0, _ => exact (hbAS.block _ (blk_lt HA.out.1)).trans HA.out.1
    | 1, _ => exact (hbBS.block _ (blk_lt HB.out.1)).trans HB.out.1
    | 2, _ => exact (hbCS.block _ (blk_lt HC.out.1)).trans HC.out.1
    | 3, _ => exact (hbS.block _ (blk_lt HD.out.1)).trans HD.out.1)
  have HS := Lib.hid hb0S
  clear hS hbS hzS hbAS hbBS hbCS hb0S HA HB HC HD
  refine hcon.mono ?_
  rintro e wE ⟨ra, rc, rfl, hownE, hbE⟩
  have hbwE : Below w.heap.size w wE := below_next (below_next HW.out.2.1 (Nat.le_refl _) HS.out) (Nat.le_refl _) hbE
  have hnwl := new_is (w := wE) ra 288 rc fixL (by decide) (by decide) (ints_row hownE (by decide) (by decide)) false
  have hRE : wE.heap[w.heap.size]? = some (.cells #[.pointer none, .pointer none] 76 (0, 0)) := (hbE.block _ (Nat.lt_of_lt_of_le (by have := HW.out.2.2.2; omega) HS.out.size)).trans ((HS.out.block _ (by have := HW.out.2.2.2; omega)).trans HW.out.2.2.1)
  have HE := Lib.hid (And.intro hbwE hRE)
  clear hcon hownE hbE hbwE hRE HS
  go_wp2_with fail
  refine hnwl.mono ?_
  rintro e w7 ⟨hb7, ⟨hne, _⟩ | ⟨_, g1, rfl, hpc1⟩⟩
  · exact absurd fixL_ok hne
  have hbw7 : Below w.heap.size w w7 := below_next HE.out.1 (Nat.le_refl _) hb7
  have hsE : w.heap.size ≤ wE.heap.size := HE.out.1.size
  have hR7 := (hb7.block _ (blk_lt HE.out.2)).trans HE.out.2
  have hU7 := HW.out.1.below hbw7
  have hRE := blk_lt HE.out.2
  have q3 : w7.cell? ⟨gu, 3, none⟩ = some (.pointer none) := blk_cell hU7.blk 3
  have f3 := blk_free hU7.blk 3
  have hset := blk_set hU7.blk 3 (.pointer (some ⟨g1, 0, none⟩))
  obtain ⟨w8, hw8⟩ : ∃ w8, w8 = w7.setCell ⟨gu, 3, none⟩ (.pointer (some ⟨g1, 0, none⟩)) := ⟨_, rfl⟩
  have hl8 : ∀ i, i ≠ gu → w8.heap[i]? = w7.heap[i]? := fun i hi => by rw [hw8]; exact Below.heap_setCell _ ⟨gu, 3, none⟩ _ i hi
  have hz8 : w8.heap.size = w7.heap.size := by rw [hw8]; simp [World.setCell]
  have ho8 : w8.os = w7.os ∧ w8.tape = w7.tape ∧ w8.output = w7.output := by rw [hw8]; exact ⟨rfl, rfl, rfl⟩
  rw [← hw8] at hset
  have hr5 := rep_after w8 5 32 (by decide)
  rw [show ((32 : Nat) : Int) = 32 from rfl, hz8, hw8] at hr5
  have h7 := hb7.size
  have HM := Lib.hid (And.intro hset (And.intro hl8 (And.intro ho8 (And.intro hbw7 (And.intro hR7 (And.intro hpc1 hw8))))))
  clear hset hl8 ho8 hbw7 hR7 hpc1 hw8 hU7 hb7 HE hnwl
  go_wp2_with fail
  refine hr5.mono ?_
  rintro e w9 ⟨rfl, hk9, hb9⟩
  obtain ⟨hset, hl8, ho8, hbw7, hR7, hpc1, hw8⟩ := HM.out
  rw [← hw8] at hb9
  have hnwd := new_is (w := w9) (some ⟨w7.heap.size + 1, 0, none⟩) 32 32 fixD (by decide) (by decide) (ints_fixD hk9) false
  have h9 := hb9.size
  have HN := Lib.hid hb9
  clear hset hl8 ho8 hbw7 hR7 hpc1 hw8 hk9 hb9 hr5 q3 f3
  go_wp2_with fail
  refine hnwd.mono ?_
  rintro e w10 ⟨hb10, ⟨hne, _⟩ | ⟨_, g2, rfl, hpc2⟩⟩
  · exact absurd fixD_ok hne
  obtain ⟨hset, hl8, ho8, hbw7, hR7, hpc1, hw8⟩ := HM.out
  have hb810 : Below w8.heap.size w8 w10 := by
    have h1 : Below w7.heap.size w8 w9 := HN.out
    rw [← hz8] at h1
    exact below_next h1 (Nat.le_refl _) hb10
  have hgu10 : w10.heap[gu]? = _ := (hb810.block gu (by omega)).trans hset
  have q4 : w10.cell? ⟨gu, 4, none⟩ = some (.pointer none) := blk_cell hgu10 4
  have q5 : w10.cell? ⟨gu, 3, none⟩ = some (.pointer (some ⟨g1, 0, none⟩)) := blk_cell hgu10 3
  have f4 := blk_free hgu10 4
  have hset4 := blk_set hgu10 4 (.pointer (some ⟨g2, 0, none⟩))
  have hR10 : w10.heap[w.heap.size]? = some (.cells #[.pointer none, .pointer none] 76 (0, 0)) := (hb810.block _ (by omega)).trans ((hl8 _ (by omega)).trans hR7)
  have r0 : w10.cell? ⟨w.heap.size, 0, none⟩ = some (.pointer none) := blk_cell hR10 0
  have r1 : w10.cell? ⟨w.heap.size, 1, none⟩ = some (.pointer none) := blk_cell hR10 1
  have f0 := blk_free hR10 0
  have f1 := blk_free hR10 1
  have h10 := hb10.size
  have HP := Lib.hid (And.intro hset4 (And.intro hR10 (And.intro hb810 (And.intro hpc2 hgu10))))
  clear hset hl8 ho8 hbw7 hR7 hpc1 hw8 hset4 hR10 hb810 hpc2 hb10 hgu10 hnwd
  go_wp2_with fail
  obtain ⟨hset4, hR10, hb810, hpc2, hgu10⟩ := HP.out
  obtain ⟨hset, hl8, ho8, hbw7, hR7, hpc1, hw8⟩ := HM.out
  have hRR := blk_set (blk_set ((Below.heap_setCell w10 ⟨gu, 4, none⟩ (.pointer (some ⟨g2, 0, none⟩)) w.heap.size (by show w.heap.size ≠ gu; omega)).trans hR10) 0 (.pointer (some ⟨g1, 0, none⟩))) 1 (.pointer (some ⟨g2, 0, none⟩))
  refine bodyPost_ret (pair_ret rfl rfl hRR) rfl ?_
  obtain ⟨wZ, hwZ⟩ : ∃ wZ, wZ = ((w10.setCell ⟨gu, 4, none⟩ (.pointer (some ⟨g2, 0, none⟩))).setCell ⟨w.heap.size, 0, none⟩ (.pointer (some ⟨g1, 0, none⟩))).setCell ⟨w.heap.size, 1, none⟩ (.pointer (some ⟨g2, 0, none⟩)) := ⟨_, rfl⟩
  have hlZ : ∀ i, i ≠ gu → i ≠ w.heap.size → wZ.heap[i]? = w10.heap[i]? := fun i h1 h2 => by
    rw [hwZ]
    exact (Below.heap_setCell _ ⟨w.heap.size, 1, none⟩ _ i h2).trans ((Below.heap_setCell _ ⟨w.heap.size, 0, none⟩ _ i h2).trans (Below.heap_setCell _ ⟨gu, 4, none⟩ _ i h1))
  have hguZ := (Below.heap_setCell ((w10.setCell ⟨gu, 4, none⟩ (.pointer (some ⟨g2, 0, none⟩))).setCell ⟨w.heap.size, 0, none⟩ (.pointer (some ⟨g1, 0, none⟩))) ⟨w.heap.size, 1, none⟩ (.pointer (some ⟨g2, 0, none⟩)) gu (by show gu ≠ w.heap.size; omega)).trans ((Below.heap_setCell (w10.setCell ⟨gu, 4, none⟩ (.pointer (some ⟨g2, 0, none⟩))) ⟨w.heap.size, 0, none⟩ (.pointer (some ⟨g1, 0, none⟩)) gu (by show gu ≠ w.heap.size; omega)).trans hset4)
  rw [← hwZ] at hguZ
  have hzZ : wZ.heap.size = w10.heap.size := by rw [hwZ]; simp [World.setCell]
  have hoZ : wZ.os = w10.os ∧ wZ.tape = w10.tape ∧ wZ.output = w10.output := by rw [hwZ]; exact ⟨rfl, rfl, rfl⟩
  rw [← hwZ]
  clear hwZ hRR
  have hlow : ∀ i, i ≠ gu → i < w.heap.size → wZ.heap[i]? = w.heap[i]? := fun i h1 h2 => (hlZ i h1 (by omega)).trans ((hb810.block i (by omega)).trans ((hl8 i h1).trans (hbw7.block i h2)))
  have h := HW.out.1
  have hst : Stp gu gr w out o wZ out o := ⟨⟨hoZ.1.trans (hb810.os.trans (ho8.1.trans hbw7.os)), hoZ.2.1.trans (hb810.tape.trans (ho8.2.1.trans hbw7.tape)), hoZ.2.2.trans (hb810.output.trans (ho8.2.2.trans hbw7.output)), by omega, fun i hi hn => hlow i (fun e => hn (.inl e)) hi⟩, fun i hi => .inl hi⟩
  refine ⟨g1, g2, fun b => w.heap.size + 1 ≤ b ∧ b < wZ.heap.size, rfl, ⟨hguZ, ?_, ?_, h.bytes, h.under, h.small, h.lim⟩, hst, fun b hb => ⟨hb.2, fun hq => ?_⟩, ?_, ?_⟩
  · obtain ⟨a, c, z1, z2, z3, z4, z5, z6⟩ := h.rdr
    exact ⟨a, c, (hlow gr (by omega) (by omega)).trans z1, z2, z3, z4.keep fun q hq => cell_keep' (hlow _ (by omega) (by omega)), z5, z6⟩
  · exact own_keep' h.row fun i hi => hlow i (by have := (h.row.lt i hi).1; omega) (h.row.lt i hi).2
  · rcases hq with q | q | q
    · omega
    · omega
    · have := (h.row.lt b q).2; omega
  · exact (hpc1.keep fun b hb => (hlZ b (by omega) (by omega)).trans ((hb810.block b (by omega)).trans (hl8 b (by omega)))).more fun b hb => ⟨by omega, by omega⟩
  · exact (hpc2.keep fun b hb => hlZ b (by omega) (by omega)).more fun b hb => ⟨by omega, by omega⟩
end
end Go.Proofs.YtdcpibglbanchaaDoor

set_option linter.unusedVariables false
set_option maxRecDepth 100000
namespace Go.Proofs.YtdcpibglbanchaaDoor
open Go.RowKit

/-- what follows a block's head -/
def blockC (l : List Int) (limit p : Nat) (out : List Int) (last : Bool) (kind : Int) : Except Int (Bool × Nat × List Int) :=
  match (if kind = 0 then storedS l limit ((p + 7) / 8) out else if kind = 1 then symsS (nsOf fixL) (nsOf fixD) l limit (8 * l.length + 1 - p) p out else if kind = 2 then toldB l limit p out else .error 3) with
  | .error e => .error e
  | .ok (p3, o) => .ok (last, p3, o)
theorem blockS_bad {l : List Int} {limit p : Nat} {out : List Int} {er : Int} (h : takesS l p [1, 2] = .error er) : blockS l limit p out = .error er := by
  unfold blockS
  unfold takesS takesS takesS at h
  cases h1 : takeS l p 1 with
  | error e => rw [h1] at h; simp only at h; injection h with h; subst h; rfl
  | ok x =>
    obtain ⟨v, p1⟩ := x
    rw [h1] at h
    simp only at h
    simp only [bind, Except.bind]
    cases h2 : takeS l p1 2 with
    | error e => rw [h2] at h; simp only at h; injection h with h; subst h; rfl
    | ok y => obtain ⟨v2, p2⟩ := y; rw [h2] at h; simp only at h; cases h
theorem blockS_ok {l : List Int} {limit p : Nat} {out : List Int} {vs : List Int} {p' : Nat} (h : takesS l p [1, 2] = .ok (vs, p')) : blockS l limit p out = blockC l limit (p + 1 + 2) out (tk l p 1 == 1) (tk l (p + 1) 2) := by
  obtain ⟨_, _, _, h1, h2⟩ := takesS_two h
  unfold blockS blockC
  rw [h1]
  simp only [bind, Except.bind]
  rw [h2]
  simp only
  by_cases k0 : tk l (p + 1) 2 = 0
  · rw [if_pos k0, if_pos k0]
    cases storedS l limit ((p + 1 + 2 + 7) / 8) out with
    | error e => rfl
    | ok x => rfl
  · rw [if_neg k0, if_neg k0]
    by_cases k1 : tk l (p + 1) 2 = 1
    · rw [if_pos k1, if_pos k1]
      cases symsS (nsOf fixL) (nsOf fixD) l limit (8 * l.length + 1 - (p + 1 + 2)) (p + 1 + 2) out with
      | error e => rfl
      | ok x => rfl
    · rw [if_neg k1, if_neg k1]
      by_cases k2 : tk l (p + 1) 2 = 2
      · rw [if_pos k2, if_pos k2]
        unfold toldB
        cases toldS l (p + 1 + 2) with
        | error e => rfl
        | ok x =>
          obtain ⟨p3, nl, nd⟩ := x
          simp only
          cases symsS nl nd l limit (8 * l.length + 1 - p3) p3 out with
          | error e => rfl
          | ok y => rfl
      · rw [if_neg k2, if_neg k2]
section
variable {w : World} {gu gr : Nat} {l : List Int} {limit : Nat} {fl fd : Option Addr} {p : Nat} {out : List Int} {o : Option Addr × Nat}
theorem Fxd.step {w' : World} {F : Nat → Prop} (h : Fxd w F fl fd) (hF : Aside w gu gr out o F) {out' : List Int} {o' : Option Addr × Nat} (s : Stp gu gr w out o w' out' o') : Fxd w' F fl fd := by
  rcases h with h | ⟨g1, g2, h1, h2, h3, h4⟩
  · exact .inl h
  · exact .inr ⟨g1, g2, h1, h2, h3.keep (hF.blk s), h4.keep (hF.blk s)⟩
theorem unFixed {F : Nat → Prop} (hF : Aside w gu gr out o F) (hfx : Fxd w F fl fd) (h : Un w gu gr l limit fl fd p out o) :
    Calls Tryd.prog 37 #[.pointer (some ⟨gu, 0, none⟩)] w (Fixes w gu gr l limit p out o) := by
  rcases hfx with ⟨rfl, rfl⟩ | ⟨g1, g2, rfl, rfl, h1, h2⟩
  · exact unFixedNone h
  · exact unFixedHad hF h1 h2 h
/-- what block answers -/
def Bls (w : World) (gu gr : Nat) (l : List Int) (limit : Nat) (out : List Int) (o : Option Addr × Nat) (s : Except Int (Bool × Nat × List Int)) (e : Ending) (w' : World) : Prop :=
  ∃ out' o', Stp gu gr w out o w' out' o' ∧ ((∃ last p' fl' fd' F', s = .ok (last, p', out') ∧ e = .returned (.tuple #[.bool last, .int .i64 0]) ∧ Un w' gu gr l limit fl' fd' p' out' o' ∧ Aside w' gu gr out' o' F' ∧ Fxd w' F' fl' fd') ∨ (∃ er b, s = .error er ∧ er ≠ 0 ∧ e = .returned (.tuple #[.bool b, .int .i64 er])))
set_option maxHeartbeats 8000000 in
theorem unBlock {F : Nat → Prop} (hord : Ord w) (hg0 : gr ≠ 0) (hF : Aside w gu gr out o F) (hfx : Fxd w F fl fd) (h : Un w gu gr l limit fl fd p out o) :
    Calls Tryd.prog 29 #[.pointer (some ⟨gu, 0, none⟩)] w (Bls w gu gr l limit out o (blockS l limit p out)) := by
  have hgu := blk_lt h.blk
  have hgr := h.under
  have hb1 := (Below.refl w.heap.size w).alloc (Nat.le_refl _) (.cells #[.int .i64 1, .int .i64 2] 3)
  have hU1 := h.below hb1
  have hints := lit_ints' w 3 [1, 2] (by decide)
  have htake := unTake (ws := [1, 2]) (a := some ⟨w.heap.size, 0, none⟩) (n := 2) (c := 2) hU1 rfl (by decide) (by decide) hints (by intro b off e; injection e with e; injection e with e; omega)
  have hsz : (w.alloc (.cells #[.int .i64 1, .int .i64 2] 3)).heap.size = w.heap.size + 1 := by simp
  have HW := Lib.hid (And.intro h (And.intro hord (And.intro (below_only (g := gr) hb1) (And.intro hsz (And.intro hF hfx)))))
  clear hb1 hU1 hints hsz h hord hF hfx
  go_enter Tryd.func29, Tryd.ntmps29
  go_wp2_with fail
  refine htake.mono ?_
  rintro e w2 ⟨ho2, ⟨vs, p2, hv, hvl, rfl, hblk, hU⟩ | ⟨er, hv, hne, rfl⟩⟩
  · have hs := blockS_ok (limit := limit) (out := out) hv
    obtain ⟨hvs, hp2, hpl, _, _⟩ := takesS_two hv
    subst hvs hp2
    have hb0 := tk_bd l p 1
    have hb1 := tk_bd l (p + 1) 2
    rw [show (2 : Int) ^ 1 = 2 by decide] at hb0
    rw [show (2 : Int) ^ 2 = 4 by decide] at hb1
    have hblk' : w2.heap[w.heap.size + 1]? = some (.cells (arrN 2 fun i => [tk l p 1, tk l (p + 1) 2].getD i 0) 3 (0, 0)) := by rw [HW.out.2.2.2.1] at hblk; exact hblk
    have k1 : w2.cell? ⟨w.heap.size + 1, 1, none⟩ = some (.int .i64 (tk l (p + 1) 2)) := by rw [blk_cell hblk', arrN_get _ _ (by decide)]; rfl
    have hO2 := only_trans HW.out.2.2.1 ho2
    have hS2 : Stp gu gr w out o w2 out o := stp_only hO2
    have hA2 := HW.out.2.2.2.2.1.step hS2
    have hF2 := HW.out.2.2.2.2.2.step HW.out.2.2.2.2.1 hS2
    -- the head's row stays
    have hkeep : ∀ (w' : World) (out' : List Int) (o' : Option Addr × Nat), Stp gu gr w2 out o w' out' o' → w'.cell? ⟨w.heap.size + 1, 0, none⟩ = some (.int .i64 (tk l p 1)) := fun w' out' o' hst => by
      have hq : w'.heap[w.heap.size + 1]? = w2.heap[w.heap.size + 1]? := hst.foot.block _ (blk_lt hblk') fun hq => by
        rcases hq with q | q | q
        · omega
        · omega
        · have := (HW.out.1.row.lt _ q).2; omega
      rw [blk_cell (hq.trans hblk'), arrN_get _ _ (by decide)]; rfl
    obtain ⟨L, hL⟩ := Int.eq_ofNat_of_zero_le hb0.1
    obtain ⟨K, hK⟩ := Int.eq_ofNat_of_zero_le hb1.1
    rw [hL] at hkeep hs
    rw [hK] at k1 hs hb1
    have hlast : ((L : Int) == 1) = (tk l p 1 == 1) := by rw [hL]
    have HX := Lib.hid (And.intro hs (And.intro hU (And.intro hS2 (And.intro hA2 (And.intro hF2 (And.intro hkeep (HW.out.2.1.only hO2 hg0)))))))
    clear htake hv hvl hblk hblk' hU ho2 hO2 hS2 hA2 hF2 hkeep hL hK hs hlast hb0
    by_cases h0 : K = 0
    · subst h0
      have hst := unStored HX.out.2.1
      go_wp2_with fail
      refine hst.mono ?_
      rintro e w3 ⟨out', o', hst3, ⟨p', he, rfl, hU3⟩ | ⟨er, he, hne, rfl⟩⟩
      · have k0 := HX.out.2.2.2.2.2.1 w3 out' o' (hst3)
        have hs := HX.out.1
        unfold blockC at hs
        rw [if_pos (by decide), he] at hs
        have HR := Lib.hid (And.intro hs (And.intro (HX.out.2.2.1.trans hst3) (And.intro hU3 (And.intro (HX.out.2.2.2.1.step hst3) (HX.out.2.2.2.2.1.step HX.out.2.2.2.1 hst3)))))
        clear he hst3 hU3 hs HX hst
        go_wp2_with fail
        go_ret2
        exact ⟨out', o', HR.out.2.1, .inl ⟨_, p', _, _, _, HR.out.1, rfl, HR.out.2.2.1, HR.out.2.2.2.1, HR.out.2.2.2.2⟩⟩
      · have k0 := HX.out.2.2.2.2.2.1 w3 out' o' (hst3)
        have hs := HX.out.1
        unfold blockC at hs
        rw [if_pos (by decide), he] at hs
        have HR := Lib.hid (And.intro hs (And.intro hne (HX.out.2.2.1.trans hst3)))
        clear he hst3 hs hne HX hst
        go_wp2_with fail
        go_ret2
        exact ⟨out', o', HR.out.2.2, .inr ⟨er, _, HR.out.1, HR.out.2.1, rfl⟩⟩
    · by_cases h1 : K = 1
      · subst h1
        have hfx := unFixed HX.out.2.2.2.1 HX.out.2.2.2.2.1 HX.out.2.1
        go_wp2_with fail
        refine hfx.mono ?_
        rintro e w4 ⟨g1, g2, F', rfl, hU4, hS4, hA4, hp1, hp2⟩
        have hsy := unSymbols hA4 hp1 hp2 (by simp [nsOf, fixL]) (by simp [nsOf, fixD]) hU4
        have hF4 : Fxd w4 F' (some ⟨g1, 0, none⟩) (some ⟨g2, 0, none⟩) := .inr ⟨g1, g2, rfl, rfl, hp1, hp2⟩
        have HY := Lib.hid (And.intro hS4 (And.intro hA4 hF4))
        clear hfx hU4 hS4 hA4 hp1 hp2 hF4
        go_wp2_with fail
        refine hsy.mono ?_
        rintro e w3 ⟨out', o', hst3, ⟨p', he, rfl, hU3⟩ | ⟨er, he, hne, rfl⟩⟩
        · have k0 := HX.out.2.2.2.2.2.1 w3 out' o' (HY.out.1.trans hst3)
          have hs := HX.out.1
          unfold blockC at hs
          rw [if_neg (by decide), if_pos (by decide), he] at hs
          have HR := Lib.hid (And.intro hs (And.intro ((HX.out.2.2.1.trans HY.out.1).trans hst3) (And.intro hU3 (And.intro (HY.out.2.1.step hst3) (HY.out.2.2.step HY.out.2.1 hst3)))))
          clear he hst3 hU3 hs HX HY hsy
          go_wp2_with fail
          go_ret2
          exact ⟨out', o', HR.out.2.1, .inl ⟨_, p', _, _, _, HR.out.1, rfl, HR.out.2.2.1, HR.out.2.2.2.1, HR.out.2.2.2.2⟩⟩
        · have k0 := HX.out.2.2.2.2.2.1 w3 out' o' (HY.out.1.trans hst3)
          have hs := HX.out.1
          unfold blockC at hs
          rw [if_neg (by decide), if_pos (by decide), he] at hs
          have HR := Lib.hid (And.intro hs (And.intro hne ((HX.out.2.2.1.trans HY.out.1).trans hst3)))
          clear he hst3 hs hne HX HY hsy
          go_wp2_with fail
          go_ret2
          exact ⟨out', o', HR.out.2.2, .inr ⟨er, _, HR.out.1, HR.out.2.1, rfl⟩⟩
      · by_cases h2 : K = 2
        · subst h2
          have hto := unTold HX.out.2.2.2.2.2.2 HX.out.2.1 hg0
          go_wp2_with fail
          refine hto.mono ?_
          rintro e w3 ⟨out', o', hst3, ⟨p', he, rfl, hU3⟩ | ⟨er, he, hne, rfl⟩⟩
          · have k0 := HX.out.2.2.2.2.2.1 w3 out' o' (hst3)
            have hs := HX.out.1
            unfold blockC at hs
            rw [if_neg (by decide), if_neg (by decide), if_pos (by decide), he] at hs
            have HR := Lib.hid (And.intro hs (And.intro (HX.out.2.2.1.trans hst3) (And.intro hU3 (And.intro (HX.out.2.2.2.1.step hst3) (HX.out.2.2.2.2.1.step HX.out.2.2.2.1 hst3)))))
            clear he hst3 hU3 hs HX hto
            go_wp2_with fail
            go_ret2
            exact ⟨out', o', HR.out.2.1, .inl ⟨_, p', _, _, _, HR.out.1, rfl, HR.out.2.2.1, HR.out.2.2.2.1, HR.out.2.2.2.2⟩⟩
          · have k0 := HX.out.2.2.2.2.2.1 w3 out' o' (hst3)
            have hs := HX.out.1
            unfold blockC at hs
            rw [if_neg (by decide), if_neg (by decide), if_pos (by decide), he] at hs
            have HR := Lib.hid (And.intro hs (And.intro hne (HX.out.2.2.1.trans hst3)))
            clear he hst3 hs hne HX hto
            go_wp2_with fail
            go_ret2
            exact ⟨out', o', HR.out.2.2, .inr ⟨er, _, HR.out.1, HR.out.2.1, rfl⟩⟩
        · have q0 : ((K : Int) == 0) = false := by simp; omega
          have q1 : ((K : Int) == 1) = false := by simp; omega
          have q2 : ((K : Int) == 2) = false := by simp; omega
          have k0 := HX.out.2.2.2.2.2.1 w2 out o (Stp.refl _ _ _ _ _)
          have hs := HX.out.1
          unfold blockC at hs
          rw [if_neg (by omega), if_neg (by omega), if_neg (by omega)] at hs
          have HR := Lib.hid (And.intro hs HX.out.2.2.1)
          clear hs HX
          go_wp2_with fail
          go_ret2
          exact ⟨out, o, HR.out.2, .inr ⟨3, _, HR.out.1, by decide, rfl⟩⟩
  · have hs := blockS_bad (limit := limit) (out := out) hv
    have HR := Lib.hid (And.intro hs (And.intro hne (only_trans HW.out.2.2.1 ho2)))
    have hd : (er != 0) = true := by simp [hne]
    clear htake HW hs hv hne ho2
    go_wp2_with fail
    go_ret2
    exact ⟨out, o, stp_only HR.out.2.2, .inr ⟨er, false, HR.out.1, HR.out.2.1, rfl⟩⟩
end
end Go.Proofs.YtdcpibglbanchaaDoor
