/- The codes of fixed blocks: contract of fixedPair. No condition but what the words say. -/
import Derived.Test.YtpnnfekfoomgaaaDoorCc
set_option linter.unusedVariables false
set_option maxRecDepth 100000
namespace Go.Proofs.YtpnnfekfoomgaaaDoor
open Go.RowKit

theorem fixL_ok : errN fixL false = 0 := by decide +kernel
theorem fixD_ok : errN fixD false = 0 := by decide +kernel
/-- the codes of fixed blocks, if they have been made -/
def Fxd (w : World) (F : Nat → Prop) (fl fd : Option Addr) : Prop := (fl = none ∧ fd = none) ∨ (∃ g1 g2, fl = some ⟨g1, 0, none⟩ ∧ fd = some ⟨g2, 0, none⟩ ∧ PC w F g1 (nsOf fixL) ∧ PC w F g2 (nsOf fixD))
theorem pair_ret {fn : Func} {tmps : Array Value} {W : World} {b : Nat} {x y : Value} (hf : fn.results = #[.cell 2 45]) (h4 : tmps.getD 2 undef = .pointer (some ⟨b, 0, none⟩)) (hh : W.heap[b]? = some (.cells #[x, y] 45 (0, 0))) :
    (results fn tmps).run Tryd.prog W = .ok (.agg #[x, y]) W := by
  have hl := run_loadVar_row (P := Tryd.prog) W b _ 45 #[x, y] (0, 0) _ hh Tryd.underlying45 rfl (by kernel_rfl)
  have h4' : tmps[2]?.getD undef = .pointer (some ⟨b, 0, none⟩) := by rw [← h4, Array.getD_eq_getD_getElem?]
  simp only [results, hf]
  simp [h4', asAddr, hl]
section
variable {w : World} {gu gr : Nat} {l : List Int} {limit : Nat} {fl fd : Option Addr} {p : Nat} {out : List Int} {o : Option Addr × Nat}
def Fixes (w : World) (gu gr : Nat) (l : List Int) (limit p : Nat) (out : List Int) (o : Option Addr × Nat) (e : Ending) (w' : World) : Prop :=
  ∃ g1 g2 F', e = .returned (.agg #[.pointer (some ⟨g1, 0, none⟩), .pointer (some ⟨g2, 0, none⟩)]) ∧ Un w' gu gr l limit (some ⟨g1, 0, none⟩) (some ⟨g2, 0, none⟩) p out o ∧ Stp gu gr w out o w' out o ∧ Aside w' gu gr out o F' ∧ PC w' F' g1 (nsOf fixL) ∧ PC w' F' g2 (nsOf fixD)
set_option maxHeartbeats 4000000 in
theorem unFixedHad {F : Nat → Prop} {g1 g2 : Nat} (hF : Aside w gu gr out o F) (hc1 : PC w F g1 (nsOf fixL)) (hc2 : PC w F g2 (nsOf fixD)) (h : Un w gu gr l limit (some ⟨g1, 0, none⟩) (some ⟨g2, 0, none⟩) p out o) :
    Calls Tryd.prog 37 #[.pointer (some ⟨gu, 0, none⟩)] w (Fixes w gu gr l limit p out o) := by
  have c3 : w.cell? ⟨gu, 3, none⟩ = some (.pointer (some ⟨g1, 0, none⟩)) := blk_cell h.blk 3
  have c4 : w.cell? ⟨gu, 4, none⟩ = some (.pointer (some ⟨g2, 0, none⟩)) := blk_cell h.blk 4
  have hgu := blk_lt h.blk
  have HC := Lib.hid (And.intro hF (And.intro hc1 (And.intro hc2 h)))
  clear hF hc1 hc2 h
  go_enter Tryd.func37, Tryd.ntmps37
  go_wp2_with fail
  refine bodyPost_ret (pair_ret rfl rfl (heap_alloc_new _ _)) rfl ?_
  obtain ⟨hF, hc1, hc2, h⟩ := HC.out
  have hb := (Below.refl w.heap.size w).alloc (Nat.le_refl _) (.cells #[.pointer (some ⟨g1, 0, none⟩), .pointer (some ⟨g2, 0, none⟩)] 45)
  have hst : Stp gu gr w out o _ out o := stp_below hb
  exact ⟨g1, g2, F, rfl, h.below hb, hst, hF.step hst, hc1.keep fun b hb' => hb.block b (hF b hb').1, hc2.keep fun b hb' => hb.block b (hF b hb').1⟩
theorem rep_after (W : World) (v : Int) (n : Nat) (hn : n ≤ 400) : Calls Tryd.prog 44 #[.slice (some ⟨W.heap.size, 0, none⟩) 1 1, .int .i64 n] (W.alloc (.cells #[.int .i64 v] 3)) fun e w' => e = .returned (.slice (some ⟨W.heap.size + 1, 0, none⟩) n n) ∧ w'.heap[W.heap.size + 1]? = some (.cells (arrN n fun _ => v) 3 (0, 0)) ∧ Below W.heap.size W w' := by
  have hsz : (W.alloc (.cells #[.int .i64 v] 3)).heap.size = W.heap.size + 1 := by simp
  have hb := (Below.refl W.heap.size W).alloc (Nat.le_refl _) (.cells #[.int .i64 v] 3)
  refine (repeat_is v n hn W.heap.size (W.alloc (.cells #[.int .i64 v] 3)) (by rw [hsz]; omega) (by rw [blk_cell (heap_alloc_new W _)]; rfl) 1).mono ?_
  rintro e w' ⟨h1, h2, h3⟩
  rw [hsz] at h1 h2
  exact ⟨h1, h2, below_next hb (Nat.le_refl _) h3⟩
theorem ints_fixD {w : World} {B : Nat} (h : w.heap[B]? = some (.cells (arrN 32 fun _ => 5) 3 (0, 0))) : Ints .i64 w w.heap.size (some ⟨B, 0, none⟩) fixD := by
  refine ⟨by decide, fun _ => ⟨B, 0, rfl, blk_lt h, fun i hi => ?_⟩⟩
  have hi32 : i < 32 := hi
  rw [blk_cell h, Nat.zero_add, arrN_get _ _ hi32, List.getD_eq_getElem?_getD]
  unfold fixD
  rw [List.getElem?_replicate, if_pos hi32]; rfl
set_option maxHeartbeats 8000000 in
theorem unFixedNone (h : Un w gu gr l limit none none p out o) :
    Calls Tryd.prog 37 #[.pointer (some ⟨gu, 0, none⟩)] w (Fixes w gu gr l limit p out o) := by
  have hgu := blk_lt h.blk
  have hgr := h.under
  have hb0 := (Below.refl w.heap.size w).alloc (Nat.le_refl _) (.cells #[.pointer none, .pointer none] 45)
  have hR0 := heap_alloc_new w (.cells #[.pointer none, .pointer none] 45)
  have hz0 : (w.alloc (.cells #[.pointer none, .pointer none] 45)).heap.size = w.heap.size + 1 := by simp
  have c3 : (w.alloc (.cells #[.pointer none, .pointer none] 45)).cell? ⟨gu, 3, none⟩ = some (.pointer none) := blk_cell (h.below hb0).blk 3
  have HW := Lib.hid (And.intro h (And.intro hb0 (And.intro hR0 hz0)))
  clear h hb0 hR0 hz0
  go_enter Tryd.func37, Tryd.ntmps37
  go_upto_region 2 with (fail)
  generalize (w.alloc (.cells #[.pointer none, .pointer none] 45)) = w0 at *
  have hrA := rep_after w0 8 144 (by decide)
  rw [show ((144 : Nat) : Int) = 144 from rfl] at hrA
  go_wp2_with fail
  refine hrA.mono ?_
  rintro e wA ⟨rfl, hkA, hbA⟩
  have hrB := rep_after wA 9 112 (by decide)
  rw [show ((112 : Nat) : Int) = 112 from rfl] at hrB
  have HA := Lib.hid (And.intro hkA hbA)
  clear hkA hbA hrA
  go_wp2_with fail
  refine hrB.mono ?_
  rintro e wB ⟨rfl, hkB, hbB⟩
  have hrC := rep_after wB 7 24 (by decide)
  rw [show ((24 : Nat) : Int) = 24 from rfl] at hrC
  have HB := Lib.hid (And.intro hkB hbB)
  clear hkB hbB hrB
  go_wp2_with fail
  refine hrC.mono ?_
  rintro e wC ⟨rfl, hkC, hbC⟩
  have hrD := rep_after wC 8 8 (by decide)
  rw [show ((8 : Nat) : Int) = 8 from rfl] at hrD
  have HC := Lib.hid (And.intro hkC hbC)
  clear hkC hbC hrC
  go_wp2_with fail
  refine hrD.mono ?_
  rintro e wD ⟨rfl, hkD, hbD⟩
  have HD := Lib.hid (And.intro hkD hbD)
  clear hkD hbD hrD
  go_wp2_with fail
  have hS := heap_alloc_new wD (.cells #[.slice (some ⟨w0.heap.size + 1, 0, none⟩) 144 144, .slice (some ⟨wA.heap.size + 1, 0, none⟩) 112 112, .slice (some ⟨wB.heap.size + 1, 0, none⟩) 24 24, .slice (some ⟨wC.heap.size + 1, 0, none⟩) 8 8] 57)
  have hbS := (Below.refl wD.heap.size wD).alloc (Nat.le_refl _) (.cells #[.slice (some ⟨w0.heap.size + 1, 0, none⟩) 144 144, .slice (some ⟨wA.heap.size + 1, 0, none⟩) 112 112, .slice (some ⟨wB.heap.size + 1, 0, none⟩) 24 24, .slice (some ⟨wC.heap.size + 1, 0, none⟩) 8 8] 57)
  have hzS : (wD.alloc (.cells #[.slice (some ⟨w0.heap.size + 1, 0, none⟩) 144 144, .slice (some ⟨wA.heap.size + 1, 0, none⟩) 112 112, .slice (some ⟨wB.heap.size + 1, 0, none⟩) 24 24, .slice (some ⟨wC.heap.size + 1, 0, none⟩) 8 8] 57)).heap.size = wD.heap.size + 1 := by simp
  generalize (wD.alloc (.cells #[.slice (some ⟨w0.heap.size + 1, 0, none⟩) 144 144, .slice (some ⟨wA.heap.size + 1, 0, none⟩) 112 112, .slice (some ⟨wB.heap.size + 1, 0, none⟩) 24 24, .slice (some ⟨wC.heap.size + 1, 0, none⟩) 8 8] 57)) = wS at *
  have hbAS : Below wA.heap.size wA wS := below_next (below_next (below_next HB.out.2 (Nat.le_refl _) HC.out.2) (Nat.le_refl _) HD.out.2) (Nat.le_refl _) hbS
  have hbBS : Below wB.heap.size wB wS := below_next (below_next HC.out.2 (Nat.le_refl _) HD.out.2) (Nat.le_refl _) hbS
  have hbCS : Below wC.heap.size wC wS := below_next HD.out.2 (Nat.le_refl _) hbS
  have hb0S : Below w0.heap.size w0 wS := below_next HA.out.2 (Nat.le_refl _) hbAS
  have hcon := concat_is wS wD.heap.size 4 (fun k => [w0.heap.size + 1, wA.heap.size + 1, wB.heap.size + 1, wC.heap.size + 1].getD k 0) (fun k hk => by
    rw [blk_cell hS]
    match k, hk with
    | 0, _ => rfl
    | 1, _ => rfl
    | 2, _ => rfl
    | 3, _ => rfl) (by omega) (fun k hk => by
    match k, hk with
    | 0, _ => exact (hbAS.block _ (blk_lt HA.out.1)).trans HA.out.1
    | 1, _ => exact (hbBS.block _ (blk_lt HB.out.1)).trans HB.out.1
    | 2, _ => exact (hbCS.block _ (blk_lt HC.out.1)).trans HC.out.1
    | 3, _ => exact (hbS.block _ (blk_lt HD.out.1)).trans HD.out.1)
  have HS := Lib.hid hb0S
  clear hS hbS hzS hbAS hbBS hbCS hb0S HA HB HC HD
  refine hcon.mono ?_
  rintro e wE ⟨ra, rc, rfl, hownE, hbE⟩
  have hbwE : Below w.heap.size w wE := below_next (below_next HW.out.2.1 (Nat.le_refl _) HS.out) (Nat.le_refl _) hbE
  have hnwl := new_is (w := wE) ra 288 rc fixL (by decide) (by decide) (ints_row hownE (by decide) (by decide)) false
  have hRE : wE.heap[w.heap.size]? = some (.cells #[.pointer none, .pointer none] 45 (0, 0)) := (hbE.block _ (Nat.lt_of_lt_of_le (by have := HW.out.2.2.2; omega) HS.out.size)).trans ((HS.out.block _ (by have := HW.out.2.2.2; omega)).trans HW.out.2.2.1)
  have HE := Lib.hid (And.intro hbwE hRE)
  clear hcon hownE hbE hbwE hRE HS
  go_wp2_with fail
  refine hnwl.mono ?_
  rintro e w7 ⟨hb7, ⟨hne, _⟩ | ⟨_, g1, rfl, hpc1⟩⟩
  · exact absurd fixL_ok hne
  have hbw7 : Below w.heap.size w w7 := below_next HE.out.1 (Nat.le_refl _) hb7
  have hsE : w.heap.size ≤ wE.heap.size := HE.out.1.size
  have hR7 := (hb7.block _ (blk_lt HE.out.2)).trans HE.out.2
  have hU7 := HW.out.1.below hbw7
  have hRE := blk_lt HE.out.2
  have q3 : w7.cell? ⟨gu, 3, none⟩ = some (.pointer none) := blk_cell hU7.blk 3
  have f3 := blk_free hU7.blk 3
  have hset := blk_set hU7.blk 3 (.pointer (some ⟨g1, 0, none⟩))
  obtain ⟨w8, hw8⟩ : ∃ w8, w8 = w7.setCell ⟨gu, 3, none⟩ (.pointer (some ⟨g1, 0, none⟩)) := ⟨_, rfl⟩
  have hl8 : ∀ i, i ≠ gu → w8.heap[i]? = w7.heap[i]? := fun i hi => by rw [hw8]; exact Below.heap_setCell _ ⟨gu, 3, none⟩ _ i hi
  have hz8 : w8.heap.size = w7.heap.size := by rw [hw8]; simp [World.setCell]
  have ho8 : w8.os = w7.os ∧ w8.tape = w7.tape ∧ w8.output = w7.output := by rw [hw8]; exact ⟨rfl, rfl, rfl⟩
  rw [← hw8] at hset
  have hr5 := rep_after w8 5 32 (by decide)
  rw [show ((32 : Nat) : Int) = 32 from rfl, hz8, hw8] at hr5
  have h7 := hb7.size
  have HM := Lib.hid (And.intro hset (And.intro hl8 (And.intro ho8 (And.intro hbw7 (And.intro hR7 (And.intro hpc1 hw8))))))
  clear hset hl8 ho8 hbw7 hR7 hpc1 hw8 hU7 hb7 HE hnwl
  go_wp2_with fail
  refine hr5.mono ?_
  rintro e w9 ⟨rfl, hk9, hb9⟩
  obtain ⟨hset, hl8, ho8, hbw7, hR7, hpc1, hw8⟩ := HM.out
  rw [← hw8] at hb9
  have hnwd := new_is (w := w9) (some ⟨w7.heap.size + 1, 0, none⟩) 32 32 fixD (by decide) (by decide) (ints_fixD hk9) false
  have h9 := hb9.size
  have HN := Lib.hid hb9
  clear hset hl8 ho8 hbw7 hR7 hpc1 hw8 hk9 hb9 hr5 q3 f3
  go_wp2_with fail
  refine hnwd.mono ?_
  rintro e w10 ⟨hb10, ⟨hne, _⟩ | ⟨_, g2, rfl, hpc2⟩⟩
  · exact absurd fixD_ok hne
  obtain ⟨hset, hl8, ho8, hbw7, hR7, hpc1, hw8⟩ := HM.out
  have hb810 : Below w8.heap.size w8 w10 := by
    have h1 : Below w7.heap.size w8 w9 := HN.out
    rw [← hz8] at h1
    exact below_next h1 (Nat.le_refl _) hb10
  have hgu10 : w10.heap[gu]? = _ := (hb810.block gu (by omega)).trans hset
  have q4 : w10.cell? ⟨gu, 4, none⟩ = some (.pointer none) := blk_cell hgu10 4
  have q5 : w10.cell? ⟨gu, 3, none⟩ = some (.pointer (some ⟨g1, 0, none⟩)) := blk_cell hgu10 3
  have f4 := blk_free hgu10 4
  have hset4 := blk_set hgu10 4 (.pointer (some ⟨g2, 0, none⟩))
  have hR10 : w10.heap[w.heap.size]? = some (.cells #[.pointer none, .pointer none] 45 (0, 0)) := (hb810.block _ (by omega)).trans ((hl8 _ (by omega)).trans hR7)
  have r0 : w10.cell? ⟨w.heap.size, 0, none⟩ = some (.pointer none) := blk_cell hR10 0
  have r1 : w10.cell? ⟨w.heap.size, 1, none⟩ = some (.pointer none) := blk_cell hR10 1
  have f0 := blk_free hR10 0
  have f1 := blk_free hR10 1
  have h10 := hb10.size
  have HP := Lib.hid (And.intro hset4 (And.intro hR10 (And.intro hb810 (And.intro hpc2 hgu10))))
  clear hset hl8 ho8 hbw7 hR7 hpc1 hw8 hset4 hR10 hb810 hpc2 hb10 hgu10 hnwd
  go_wp2_with fail
  obtain ⟨hset4, hR10, hb810, hpc2, hgu10⟩ := HP.out
  obtain ⟨hset, hl8, ho8, hbw7, hR7, hpc1, hw8⟩ := HM.out
  have hRR := blk_set (blk_set ((Below.heap_setCell w10 ⟨gu, 4, none⟩ (.pointer (some ⟨g2, 0, none⟩)) w.heap.size (by show w.heap.size ≠ gu; omega)).trans hR10) 0 (.pointer (some ⟨g1, 0, none⟩))) 1 (.pointer (some ⟨g2, 0, none⟩))
  refine bodyPost_ret (pair_ret rfl rfl hRR) rfl ?_
  obtain ⟨wZ, hwZ⟩ : ∃ wZ, wZ = ((w10.setCell ⟨gu, 4, none⟩ (.pointer (some ⟨g2, 0, none⟩))).setCell ⟨w.heap.size, 0, none⟩ (.pointer (some ⟨g1, 0, none⟩))).setCell ⟨w.heap.size, 1, none⟩ (.pointer (some ⟨g2, 0, none⟩)) := ⟨_, rfl⟩
  have hlZ : ∀ i, i ≠ gu → i ≠ w.heap.size → wZ.heap[i]? = w10.heap[i]? := fun i h1 h2 => by
    rw [hwZ]
    exact (Below.heap_setCell _ ⟨w.heap.size, 1, none⟩ _ i h2).trans ((Below.heap_setCell _ ⟨w.heap.size, 0, none⟩ _ i h2).trans (Below.heap_setCell _ ⟨gu, 4, none⟩ _ i h1))
  have hguZ := (Below.heap_setCell ((w10.setCell ⟨gu, 4, none⟩ (.pointer (some ⟨g2, 0, none⟩))).setCell ⟨w.heap.size, 0, none⟩ (.pointer (some ⟨g1, 0, none⟩))) ⟨w.heap.size, 1, none⟩ (.pointer (some ⟨g2, 0, none⟩)) gu (by show gu ≠ w.heap.size; omega)).trans ((Below.heap_setCell (w10.setCell ⟨gu, 4, none⟩ (.pointer (some ⟨g2, 0, none⟩))) ⟨w.heap.size, 0, none⟩ (.pointer (some ⟨g1, 0, none⟩)) gu (by show gu ≠ w.heap.size; omega)).trans hset4)
  rw [← hwZ] at hguZ
  have hzZ : wZ.heap.size = w10.heap.size := by rw [hwZ]; simp [World.setCell]
  have hoZ : wZ.os = w10.os ∧ wZ.tape = w10.tape ∧ wZ.output = w10.output := by rw [hwZ]; exact ⟨rfl, rfl, rfl⟩
  rw [← hwZ]
  clear hwZ hRR
  have hlow : ∀ i, i ≠ gu → i < w.heap.size → wZ.heap[i]? = w.heap[i]? := fun i h1 h2 => (hlZ i h1 (by omega)).trans ((hb810.block i (by omega)).trans ((hl8 i h1).trans (hbw7.block i h2)))
  have h := HW.out.1
  have hst : Stp gu gr w out o wZ out o := ⟨⟨hoZ.1.trans (hb810.os.trans (ho8.1.trans hbw7.os)), hoZ.2.1.trans (hb810.tape.trans (ho8.2.1.trans hbw7.tape)), hoZ.2.2.trans (hb810.output.trans (ho8.2.2.trans hbw7.output)), by omega, fun i hi hn => hlow i (fun e => hn (.inl e)) hi⟩, fun i hi => .inl hi⟩
  refine ⟨g1, g2, fun b => w.heap.size + 1 ≤ b ∧ b < wZ.heap.size, rfl, ⟨hguZ, ?_, ?_, h.bytes, h.under, h.small, h.lim⟩, hst, fun b hb => ⟨hb.2, fun hq => ?_⟩, ?_, ?_⟩
  · obtain ⟨a, c, z1, z2, z3, z4, z5, z6⟩ := h.rdr
    exact ⟨a, c, (hlow gr (by omega) (by omega)).trans z1, z2, z3, z4.keep fun q hq => cell_keep' (hlow _ (by omega) (by omega)), z5, z6⟩
  · exact own_keep' h.row fun i hi => hlow i (by have := (h.row.lt i hi).1; omega) (h.row.lt i hi).2
  · rcases hq with q | q | q
    · omega
    · omega
    · have := (h.row.lt b q).2; omega
  · exact (hpc1.keep fun b hb => (hlZ b (by omega) (by omega)).trans ((hb810.block b (by omega)).trans (hl8 b (by omega)))).more fun b hb => ⟨by omega, by omega⟩
  · exact (hpc2.keep fun b hb => hlZ b (by omega) (by omega)).more fun b hb => ⟨by omega, by omega⟩
end
end Go.Proofs.YtpnnfekfoomgaaaDoor
