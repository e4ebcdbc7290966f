/- The walk of the law BitsWrites: it returns true and turns nothing that was there. Condition: the asks lie below the heap's size. -/
import Derived.Test.YtfgifimmdkiejaaWBW1
import Derived.Deep.DeepCutAuto
set_option linter.unusedVariables false
namespace Go.Proofs.Ytfgifimmdkiejaa
open Go.RowKit

theorem BSt.drewN {w : World} {base gw gx : Nat} {L : List Bool} (h : BSt w base gw gx L) (n : Nat) : BSt (w.drewN n) base gw gx L := h
theorem bst_new (w : World) : BSt ((w.alloc (.cells #[.slice none 0 0, .int .i64 0] 56)).alloc (.cells #[.slice none 0 0] 60)) w.heap.size w.heap.size (w.heap.size + 1) [] := by
  refine ⟨none, 0, none, 0, ?_, ?_, ?_, Nat.le_refl _, by omega⟩
  · exact (wt_new w w.heap.size).keep (fun i hi => by
      rcases hi with rfl | hi
      · exact Below.heap_alloc _ _ _ (by simp)
      · simp [Value.ownBlock] at hi)
  · have h := heap_alloc_new (w.alloc (.cells #[.slice none 0 0, .int .i64 0] 56)) (.cells #[.slice none 0 0] 60)
    exact ⟨by simpa using h, World.ownsRow_nil _ _ _ _, by simp [Value.ownBlock]⟩
  · intro i hi hx
    rcases hi with rfl | hi
    · rcases hx with q | q
      · omega
      · simp [Value.ownBlock] at q
    · simp [Value.ownBlock] at hi

theorem same_pieces {a a' : Option Addr} {c c' : Nat} {l : List Int} {w : World} (hl : l.length ≤ 140737488355328) (hb : Bs w w.heap.size a l) (hb' : Bs w w.heap.size a' l) :
    Calls Try.prog 26 #[.slice a l.length c, .slice a' l.length c'] w fun e w' => e = .returned (.bool true) ∧ ∃ n, w' = w.drewN n := same_true rfl rfl hl hb hb'
set_option maxRecDepth 100000 in
set_option maxHeartbeats 4000000 in
theorem bitswrites_walk (w : World) (a1 : Option Addr) (c1 : Nat) (q : List Ask) (hq : q.length ≤ 140737488351232) (hasks : Asks w w.heap.size a1 q) :
    Calls Try.prog 9 #[.slice a1 q.length c1] w fun e w' => e = .returned (.bool true) ∧ Below w.heap.size w w' := by
  go_enter Try.func9, Try.ntmps9
  go_wp2_with fail
  refine (bitFixed _).mono ?_; rintro e w1 ⟨rfl, hbel1⟩
  have hs1 := hbel1.size
  have HB0 := Lib.hid (And.intro (bst_new w1) ((hbel1.alloc hs1 (.cells #[.slice none 0 0, .int .i64 0] 56)).alloc (by simp; omega) (.cells #[.slice none 0 0] 60)))
  go_wp2_with fail
  go_loopw [5, 6, 7, 8, 17] (fun _ _ _ _ i wr => ∃ k : Nat, ∃ L : List Bool, k ≤ q.length ∧ k ≤ 100 ∧ i = .int .i64 k ∧ L.length ≤ 9000 * k ∧ Hid (BSt wr w1.heap.size w1.heap.size (w1.heap.size + 1) L) ∧ Below w.heap.size w wr) (fun _ _ _ _ i _ => (q.length - intOf i).toNat)
  case atStart => exact ⟨0, [], by omega, by omega, rfl, by simp, Lib.hid HB0.out.1, HB0.out.2⟩
  case round =>
    clear HB0
    obtain ⟨k, L, hk, hk100, rfl, hLk, HS, hbel⟩ := hrel
    have hsz := hbel.size
    by_cases hlt : k < q.length
    · obtain ⟨b, off, rfl, hbb, hask⟩ := (hasks.below hbel).at_ hlt
      obtain ⟨b_, off_, e_, hbb_, hask0⟩ := hasks.at_ hlt
      injection e_ with e_; injection e_ with e1_ e2_; subst e1_; subst e2_
      have hbs0 := hask0.2.2.2.2.2.2
      obtain ⟨hkd, hnb, hvb, d0, d1, d2, ab, cb, d3, hbs, hab⟩ := hask
      generalize q.getD k default = Q at *
      obtain ⟨kd, n, v, bl⟩ := Q
      simp only at hkd hnb hvb d0 d1 d2 d3 hbs hab hbs0
      have HAB := Lib.hid hab; clear hab
      obtain ⟨a, c, a', c', hW0, hX0, hD, hg1, hg2⟩ := HS.out
      have hltW := fun i (h : WF w1.heap.size a (pk L).length c i) => wt_lt hW0 h
      have hltX := fun i (h : WF (w1.heap.size + 1) a' L.length c' i) => wx_lt hX0 h
      have hOb : Below wr.heap.size wr (wr.alloc (.cells #[.int .u8 kd, .int .i64 n, .int .i64 v, .slice ab bl.length cb] 46)) := (Below.refl _ _).alloc (Nat.le_refl _) _
      have hL40 : L.length ≤ 900000 := by omega
      have HB := Lib.hid (And.intro (hW0.below hOb) (And.intro (hX0.below hOb) (And.intro (hbel.alloc hbel.size (.cells #[.int .u8 kd, .int .i64 n, .int .i64 v, .slice ab bl.length cb] 46)) (And.intro (heap_alloc_new wr (.cells #[.int .u8 kd, .int .i64 n, .int .i64 v, .slice ab bl.length cb] 46)) (And.intro hD (And.intro hltW hltX))))))
      have hnW : ¬ WF w1.heap.size a (pk L).length c wr.heap.size := fun h => by have := hltW _ h; omega
      have hnX : ¬ WF (w1.heap.size + 1) a' L.length c' wr.heap.size := fun h => by have := hltX _ h; omega
      have HBB : Hid (∀ W, Below w.heap.size w W → Bs W w.heap.size ab bl) := Lib.hid fun W hW => by
        obtain ⟨ab_, cb_, q1, q2, q3⟩ := hbs0
        have q1' := (hbel.cell (p := ⟨b, _, none⟩) hbb).trans q1
        rw [d3] at q1'
        injection q1' with q1'; injection q1' with q1'
        subst q1'
        exact q2.below hW
      clear hOb hask0 hbs0 hW0 hX0 hD hbel HS hltW hltX
      by_cases hbig : k < 100 ∧ bl.length ≤ 1000
      · obtain ⟨hk1, hbl⟩ := hbig
        have u1 : decide (100 ≤ (k : Int)) = false := by simp; omega
        have u2 : decide (1000 < (bl.length : Int)) = false := by simp; omega
        rcases (show kd % 3 = 0 ∨ kd % 3 = 1 ∨ kd % 3 = 2 by omega) with h3 | h3 | h3
        · have t0 : (kd % 3 == 0) = true := by simp [h3]
          clear h3
          have hpl := putE_len L n v
          go_upto_region 11 with (fail)
          obtain ⟨wb, hwb⟩ : ∃ wb, wr.alloc (.cells #[.int .u8 kd, .int .i64 n, .int .i64 v, .slice ab bl.length cb] 46) = wb := ⟨_, rfl⟩
          rw [hwb] at HB ⊢
          obtain ⟨hW, hX, hbw, hh, hD, _⟩ := HB.out
          have hszb := hbw.size
          have e1 : wb.cell? ⟨wr.heap.size, 1, none⟩ = some (.int .i64 n) := blk_cell hh 1
          have e2 : wb.cell? ⟨wr.heap.size, 2, none⟩ = some (.int .i64 v) := blk_cell hh 2
          have hbase : w1.heap.size ≤ wb.heap.size := by have := blk_lt hW.1; omega
          have HP1 := Lib.hid (wrPutE (w := wb.drew) hW (by omega) hbase n v hvb)
          have HWX := Lib.hid (And.intro hW (And.intro hX hD))
          have HBW := Lib.hid hbw
          clear hW hX hbw hh hD HB hwb d0 d1 d2 d3
          go_region_held3 (fun W => W.cell? ⟨wr.heap.size, 1, none⟩ = some (.int .i64 n) ∧ W.cell? ⟨wr.heap.size, 2, none⟩ = some (.int .i64 v))
            (first | go_keep | exact ⟨foot_at hfB hnX (foot_at (w := wb.drew) hf2 hnW e1), foot_at hfB hnX (foot_at (w := wb.drew) hf2 hnW e2)⟩ | exact ⟨foot_at (w := wb.drew) hf2 hnW e1, foot_at (w := wb.drew) hf2 hnW e2⟩)
            (first | (go_at_call 30; (with_reducible refine HP1.out.mono ?_); rintro e wA ⟨rfl, a2, c2, hW2, hf2, hr2⟩; have hM := mid_of (w := wb.drew) HWX.out.1 HWX.out.2.1 HWX.out.2.2 hW2 hf2 hr2; have hszA := hf2.size) | (go_at_call 31; refine (xrPutE hM.choose_spec.choose_spec.2.1 (by omega) (by have := blk_lt hW2.1; omega) n v hvb).mono ?_; rintro e wB ⟨rfl, hXS⟩; have hBS := bst_of hM ⟨Nat.le_refl _, by omega⟩ hXS; have hfB := hXS.choose_spec.choose_spec.2.1))
          have hwA := wt_low (w := wb.drew) HWX.out.1 (Nat.le_refl _) hf2
          have hwX := wx_low hM.choose_spec.choose_spec.2.1 (by omega) hfB
          have hwB : Below w.heap.size w wB := ((low_drewN HBW.out 1).trans (hwA.mono hs1)).trans (hwX.mono hs1)
          have hLL : (putE L n v).length ≤ 9000 * (k + 1) := by omega
          have hLB : Hid (BSt wB w1.heap.size w1.heap.size (w1.heap.size + 1) (putE L n v) ∧ Below w.heap.size w wB) := Lib.hid ⟨hBS, hwB⟩
          clear hBS hwB hwA hwX hf2 hfB hr2 hW2 hM hXS e1 e2 HP1 HWX HBW hpl
          generalize (putE L n v) = L2 at *
          obtain ⟨aW, cW, aX, cX, hW, hX, hD, _, _⟩ := hLB.out.1
          have hltW := fun i (h : WF w1.heap.size aW (pk L2).length cW i) => wt_lt hW h
          have hltX := fun i (h : WF (w1.heap.size + 1) aX L2.length cX i) => wx_lt hX h
          have HLT := Lib.hid (And.intro hltW (And.intro hltX hD))
          have hpk : (pk L2).length ≤ 1000000 := by have := pk_len L2; omega
          have hszB := hLB.out.2.size
          have HWB := Lib.hid (wrBytes hW (pk_bytes L2) (by omega))
          have HWX2 := Lib.hid (And.intro hW hX)
          clear hW hX hD hltW hltX
          go_wp2_with fail
          refine HWB.out.mono ?_
          rintro e wC ⟨ab2, cb2, rfl, hob, hbb2⟩
          have hW := HWX2.out.1.below hbb2
          have hX := HWX2.out.2.below hbb2
          have hwC := below_next hLB.out.2 (Nat.le_refl _) hbb2
          have hszC := hbb2.size
          have HC := Lib.hid (And.intro hW (And.intro hX (And.intro hob hwC)))
          have x1 : wC.cell? ⟨w1.heap.size + 1, 0, none⟩ = some (.slice aX L2.length cX) := blk_cell hX.1 0
          have hgx := blk_lt hX.1
          have HL1 := Lib.hid (wrLen (w := wC.drew) hW)
          have HL2 := Lib.hid (xrBytes (w := wC.drew) hX (by omega))
          have hbs1 : Bs wC wC.heap.size ab2 (pk L2) := Bs.of_own hob (pk_bytes L2)
          have hpb : (pk L2).length ≤ 140737488355328 := by omega
          have HBS1 := Lib.hid hbs1
          clear hW hX hob hwC hbb2 hLB HWB hbs1 HWX2
          go_wp2_with fail
          go_region_held3 (fun W => W.cell? ⟨w1.heap.size + 1, 0, none⟩ = some (.slice aX L2.length cX))
            (first | go_keep | exact (hbE.cell (p := ⟨w1.heap.size + 1, 0, none⟩) (by simp; omega)).trans x1)
            (first | (go_at_call 37; (with_reducible refine HL1.out.mono ?_); rintro e wD ⟨rfl, rfl⟩) | (go_at_call 38; (with_reducible refine HL2.out.mono ?_); rintro e wE hmade; obtain ⟨aE, cE, rfl, hoE, hbE⟩ := made_eq hmade; have hbsE := Bs.of_own hoE (pk_bytes L2); have hbsA := (show Bs wC.drew wC.drew.heap.size ab2 (pk L2) from HBS1.out).next hbE) | (go_at_call 26; (with_reducible refine (same_pieces hpb hbsA hbsE).mono ?_); rintro e wF ⟨rfl, mF, rfl⟩))
          have hbE2 : Below wC.heap.size wC (wE.drewN mF) := ⟨hbE.os, hbE.tape, hbE.output, hbE.size, hbE.block⟩
          have hW : Wt (wE.drewN mF) w1.heap.size w1.heap.size aW cW (pk L2) L2.length := HC.out.1.below hbE2
          have hX : Wx (wE.drewN mF) w1.heap.size (w1.heap.size + 1) aX cX L2 := HC.out.2.1.below hbE2
          have ho2 : (wE.drewN mF).ownsRow wB.heap.size 5 1 (.slice ab2 (pk L2).length cb2) (pk L2).length ((pk L2).map (Value.int .u8)) := own_below HC.out.2.2.1 hbE2
          have hwE := below_next HC.out.2.2.2 (Nat.le_refl _) hbE2
          have HG := Lib.hid (And.intro hW (And.intro hX (And.intro ho2 hwE)))
          clear hW hX ho2 hwE hbE2 hbE hoE hbsE hbsA HC HL1 HL2 HBS1 x1
          generalize wE.drewN mF = wG at *
          go_wp2_with fail
          go_loopw [8, 83] (fun _ i wr => ∃ j : Nat, ∃ xs : List Int, j ≤ (pk L2).length ∧ i = .int .i64 j ∧ xs.length = (pk L2).length ∧ Bytes xs ∧ wr.ownsRow wB.heap.size 5 1 (.slice ab2 (pk L2).length cb2) (pk L2).length (xs.map (Value.int .u8)) ∧ Hid (Wt wr w1.heap.size w1.heap.size aW cW (pk L2) L2.length ∧ Wx wr w1.heap.size (w1.heap.size + 1) aX cX L2) ∧ Below w.heap.size w wr) (fun _ i _ => (pk L2).length - (intOf i).toNat)
          case atStart => exact ⟨0, pk L2, Nat.zero_le _, rfl, rfl, pk_bytes L2, HG.out.2.2.1, Lib.hid ⟨HG.out.1, HG.out.2.1⟩, HG.out.2.2.2⟩
          case round =>
            clear HG
            obtain ⟨j, xs, hj, rfl, hxs, hxb, oo, HWX3, hbel⟩ := hrel
            by_cases hlt2 : j < (pk L2).length
            · obtain ⟨go, co', eo, ho1, _⟩ := oo.form (by omega)
              injection eo with eo _ ec; subst eo; subst ec
              have hc1 := own_byte oo hxs hlt2
              have f1 := oo.frozenAt j
              have hxj := hxb.at_ j
              have HXL := Lib.hid hxs
              have HS2 := Lib.hid (And.intro oo hbel)
              clear oo hbel hxs
              generalize xs.getD j 0 = x at *
              go_wp2_with fail
              go_roundw
              case rel =>
                obtain ⟨oo, hbel⟩ := HS2.out
                have hft : Foot (fun i => i = go) wr (wr.setCell ⟨go, j, none⟩ (.int .u8 ((x + 1) % 256))) := (Foot.refl _ _).set (.inl rfl)
                refine ⟨j + 1, xs.set j ((x + 1) % 256), by omega, by go_num, by simpa using HXL.out, ?_, own_put oo j _, Lib.hid ⟨HWX3.out.1.keep (fun i hi => hft.block i (wt_lt HWX3.out.1 hi) (fun e => by subst e; have := HLT.out.1 _ hi; omega)), HWX3.out.2.keep (fun i hi => hft.block i (wx_lt HWX3.out.2 hi) (fun e => by subst e; have := HLT.out.2.1 _ hi; omega))⟩, ?_⟩
                · intro y hy
                  rcases List.mem_or_eq_of_mem_set hy with q | q
                  · exact hxb y q
                  · omega
                · exact hbel.setCell (p := ⟨go, j, none⟩) (show w.heap.size ≤ go by omega) _
              case measure => simp [intOf]; omega
            · obtain rfl : j = (pk L2).length := by omega
              have HBN : Hid (BSt wr w1.heap.size w1.heap.size (w1.heap.size + 1) L2) := Lib.hid ⟨aW, cW, aX, cX, HWX3.out.1, HWX3.out.2, HLT.out.2.2, Nat.le_refl _, by omega⟩
              clear oo HWX3 hxb hxs
              go_wp2_with fail
              go_roundw
              case rel => exact ⟨k + 1, L2, by omega, by omega, by go_num, hLL, HBN, hbel⟩
              case measure => simp [intOf]; omega
        · have t0 : (kd % 3 == 0) = false := by simp [h3]
          have t1 : (kd % 3 == 1) = true := by simp [h3]
          clear h3
          have hal := alignL_len L
          have hpl : (alignL L).length ≤ L.length + 8 := by omega
          clear hal
          go_upto_region 14 with (fail)
          obtain ⟨wb, hwb⟩ : ∃ wb, wr.alloc (.cells #[.int .u8 kd, .int .i64 n, .int .i64 v, .slice ab bl.length cb] 46) = wb := ⟨_, rfl⟩
          rw [hwb] at HB ⊢
          obtain ⟨hW, hX, hbw, hh, hD, _⟩ := HB.out
          have hszb := hbw.size
          have hbase : w1.heap.size ≤ wb.heap.size := by have := blk_lt hW.1; omega
          have HP1 := Lib.hid (wrAlignE hW (by omega))
          have HWX := Lib.hid (And.intro hW (And.intro hX (And.intro hD hbw)))
          clear hW hX hbw hh hD HB hwb d0 d1 d2 d3
          go_wp2_with fail
          refine HP1.out.mono ?_
          rintro e wA ⟨rfl, a2, c2, hW2, hf2, hr2⟩
          obtain ⟨hW, hX, hD, hbw⟩ := HWX.out
          have hM := mid_of hW hX hD hW2 hf2 hr2
          have hwA := wt_low hW (Nat.le_refl _) hf2
          have hbA := hbw.trans (hwA.mono hs1)
          have HM := Lib.hid (And.intro hM hbA)
          have hszA := hf2.size
          have HX3 := Lib.hid (xrAlign hM.choose_spec.choose_spec.2.1 (by omega) (by omega))
          clear hW hX hD hbw hW2 hf2 hr2 hM hwA hbA HWX HP1
          go_wp2_with fail
          refine HX3.out.mono ?_
          rintro e wB ⟨rfl, hXS⟩
          have hBS := bst_of HM.out.1 ⟨Nat.le_refl _, by omega⟩ hXS
          have hwX := wx_low HM.out.1.choose_spec.choose_spec.2.1 (by omega) hXS.choose_spec.choose_spec.2.1
          have hwB : Below w.heap.size w wB := HM.out.2.trans (hwX.mono hs1)
          have hLL : (alignL L).length ≤ 9000 * (k + 1) := by omega
          have hLB : Hid (BSt wB w1.heap.size w1.heap.size (w1.heap.size + 1) (alignL L) ∧ Below w.heap.size w wB) := Lib.hid ⟨hBS, hwB⟩
          clear hBS hwB hwX hXS HX3 HM hpl
          generalize (alignL L) = L2 at *
          obtain ⟨aW, cW, aX, cX, hW, hX, hD, _, _⟩ := hLB.out.1
          have hltW := fun i (h : WF w1.heap.size aW (pk L2).length cW i) => wt_lt hW h
          have hltX := fun i (h : WF (w1.heap.size + 1) aX L2.length cX i) => wx_lt hX h
          have HLT := Lib.hid (And.intro hltW (And.intro hltX hD))
          have hpk : (pk L2).length ≤ 1000000 := by have := pk_len L2; omega
          have hszB := hLB.out.2.size
          have HWB := Lib.hid (wrBytes hW (pk_bytes L2) (by omega))
          have HWX2 := Lib.hid (And.intro hW hX)
          clear hW hX hD hltW hltX
          go_wp2_with fail
          refine HWB.out.mono ?_
          rintro e wC ⟨ab2, cb2, rfl, hob, hbb2⟩
          have hW := HWX2.out.1.below hbb2
          have hX := HWX2.out.2.below hbb2
          have hwC := below_next hLB.out.2 (Nat.le_refl _) hbb2
          have hszC := hbb2.size
          have HC := Lib.hid (And.intro hW (And.intro hX (And.intro hob hwC)))
          have x1 : wC.cell? ⟨w1.heap.size + 1, 0, none⟩ = some (.slice aX L2.length cX) := blk_cell hX.1 0
          have hgx := blk_lt hX.1
          have HL1 := Lib.hid (wrLen (w := wC.drew) hW)
          have HL2 := Lib.hid (xrBytes (w := wC.drew) hX (by omega))
          have hbs1 : Bs wC wC.heap.size ab2 (pk L2) := Bs.of_own hob (pk_bytes L2)
          have hpb : (pk L2).length ≤ 140737488355328 := by omega
          have HBS1 := Lib.hid hbs1
          clear hW hX hob hwC hbb2 hLB HWB hbs1 HWX2
          go_wp2_with fail
          go_region_held3 (fun W => W.cell? ⟨w1.heap.size + 1, 0, none⟩ = some (.slice aX L2.length cX))
            (first | go_keep | exact (hbE.cell (p := ⟨w1.heap.size + 1, 0, none⟩) (by simp; omega)).trans x1)
            (first | (go_at_call 37; (with_reducible refine HL1.out.mono ?_); rintro e wD ⟨rfl, rfl⟩) | (go_at_call 38; (with_reducible refine HL2.out.mono ?_); rintro e wE hmade; obtain ⟨aE, cE, rfl, hoE, hbE⟩ := made_eq hmade; have hbsE := Bs.of_own hoE (pk_bytes L2); have hbsA := (show Bs wC.drew wC.drew.heap.size ab2 (pk L2) from HBS1.out).next hbE) | (go_at_call 26; (with_reducible refine (same_pieces hpb hbsA hbsE).mono ?_); rintro e wF ⟨rfl, mF, rfl⟩))
          have hbE2 : Below wC.heap.size wC (wE.drewN mF) := ⟨hbE.os, hbE.tape, hbE.output, hbE.size, hbE.block⟩
          have hW : Wt (wE.drewN mF) w1.heap.size w1.heap.size aW cW (pk L2) L2.length := HC.out.1.below hbE2
          have hX : Wx (wE.drewN mF) w1.heap.size (w1.heap.size + 1) aX cX L2 := HC.out.2.1.below hbE2
          have ho2 : (wE.drewN mF).ownsRow wB.heap.size 5 1 (.slice ab2 (pk L2).length cb2) (pk L2).length ((pk L2).map (Value.int .u8)) := own_below HC.out.2.2.1 hbE2
          have hwE := below_next HC.out.2.2.2 (Nat.le_refl _) hbE2
          have HG := Lib.hid (And.intro hW (And.intro hX (And.intro ho2 hwE)))
          clear hW hX ho2 hwE hbE2 hbE hoE hbsE hbsA HC HL1 HL2 HBS1 x1
          generalize wE.drewN mF = wG at *
          go_wp2_with fail
          go_loopw [8, 83] (fun _ i wr => ∃ j : Nat, ∃ xs : List Int, j ≤ (pk L2).length ∧ i = .int .i64 j ∧ xs.length = (pk L2).length ∧ Bytes xs ∧ wr.ownsRow wB.heap.size 5 1 (.slice ab2 (pk L2).length cb2) (pk L2).length (xs.map (Value.int .u8)) ∧ Hid (Wt wr w1.heap.size w1.heap.size aW cW (pk L2) L2.length ∧ Wx wr w1.heap.size (w1.heap.size + 1) aX cX L2) ∧ Below w.heap.size w wr) (fun _ i _ => (pk L2).length - (intOf i).toNat)
          case atStart => exact ⟨0, pk L2, Nat.zero_le _, rfl, rfl, pk_bytes L2, HG.out.2.2.1, Lib.hid ⟨HG.out.1, HG.out.2.1⟩, HG.out.2.2.2⟩
          case round =>
            clear HG
            obtain ⟨j, xs, hj, rfl, hxs, hxb, oo, HWX3, hbel⟩ := hrel
            by_cases hlt2 : j < (pk L2).length
            · obtain ⟨go, co', eo, ho1, _⟩ := oo.form (by omega)
              injection eo with eo _ ec; subst eo; subst ec
              have hc1 := own_byte oo hxs hlt2
              have f1 := oo.frozenAt j
              have hxj := hxb.at_ j
              have HXL := Lib.hid hxs
              have HS2 := Lib.hid (And.intro oo hbel)
              clear oo hbel hxs
              generalize xs.getD j 0 = x at *
              go_wp2_with fail
              go_roundw
              case rel =>
                obtain ⟨oo, hbel⟩ := HS2.out
                have hft : Foot (fun i => i = go) wr (wr.setCell ⟨go, j, none⟩ (.int .u8 ((x + 1) % 256))) := (Foot.refl _ _).set (.inl rfl)
                refine ⟨j + 1, xs.set j ((x + 1) % 256), by omega, by go_num, by simpa using HXL.out, ?_, own_put oo j _, Lib.hid ⟨HWX3.out.1.keep (fun i hi => hft.block i (wt_lt HWX3.out.1 hi) (fun e => by subst e; have := HLT.out.1 _ hi; omega)), HWX3.out.2.keep (fun i hi => hft.block i (wx_lt HWX3.out.2 hi) (fun e => by subst e; have := HLT.out.2.1 _ hi; omega))⟩, ?_⟩
                · intro y hy
                  rcases List.mem_or_eq_of_mem_set hy with q | q
                  · exact hxb y q
                  · omega
                · exact hbel.setCell (p := ⟨go, j, none⟩) (show w.heap.size ≤ go by omega) _
              case measure => simp [intOf]; omega
            · obtain rfl : j = (pk L2).length := by omega
              have HBN : Hid (BSt wr w1.heap.size w1.heap.size (w1.heap.size + 1) L2) := Lib.hid ⟨aW, cW, aX, cX, HWX3.out.1, HWX3.out.2, HLT.out.2.2, Nat.le_refl _, by omega⟩
              clear oo HWX3 hxb hxs
              go_wp2_with fail
              go_roundw
              case rel => exact ⟨k + 1, L2, by omega, by omega, by go_num, hLL, HBN, hbel⟩
              case measure => simp [intOf]; omega
        · have t0 : (kd % 3 == 0) = false := by simp [h3]
          have t1 : (kd % 3 == 1) = false := by simp [h3]
          have t2 : (kd % 3 == 2) = true := by simp [h3]
          clear h3
          have hal := alignL_len L
          have hal2 := addL_len bl (alignL L)
          have hpl : (addL (alignL L) bl).length ≤ L.length + 8 + 8000 := by omega
          clear hal hal2
          go_upto_region 17 with (fail)
          obtain ⟨wb, hwb⟩ : ∃ wb, wr.alloc (.cells #[.int .u8 kd, .int .i64 n, .int .i64 v, .slice ab bl.length cb] 46) = wb := ⟨_, rfl⟩
          rw [hwb] at HB ⊢
          obtain ⟨hW, hX, hbw, hh, hD, _⟩ := HB.out
          have hszb := hbw.size
          have hbase : w1.heap.size ≤ wb.heap.size := by have := blk_lt hW.1; omega
          have hbb0 := (HBB.out w (Below.refl _ _)).1
          have e3 : wb.cell? ⟨wr.heap.size, 3, none⟩ = some (.slice ab bl.length cb) := blk_cell hh 3
          have HP1 := Lib.hid (wrAddE hW (by omega) hbase ab bl.length cb bl rfl hbl hbb0 (fun w' ho => (HBB.out w' (hbw.trans ((only_low ho (Nat.le_refl _) hbase).mono hs1))).more (by have := ho.size; omega)) HAB.out)
          have HWX := Lib.hid (And.intro hW (And.intro hX (And.intro hD hbw)))
          clear hW hX hbw hh hD HB hwb d0 d1 d2 d3
          go_wp2_with fail
          refine HP1.out.mono ?_
          rintro e wA ⟨rfl, a2, c2, hW2, hf2, hr2⟩
          obtain ⟨hW, hX, hD, hbw⟩ := HWX.out
          have hM := mid_of hW hX hD hW2 hf2 hr2
          have hwA := wt_low hW (Nat.le_refl _) hf2
          have hbA := hbw.trans (hwA.mono hs1)
          have HM := Lib.hid (And.intro hM hbA)
          have hszA := hf2.size
          have e3A : wA.cell? ⟨wr.heap.size, 3, none⟩ = some (.slice ab bl.length cb) := foot_at hf2 hnW e3
          have HX3 := Lib.hid (xrAdd hM.choose_spec.choose_spec.2.1 (by omega) (by omega) ab bl.length cb bl rfl hbl (fun w' hf => (HBB.out w' (hbA.trans ((wx_low hM.choose_spec.choose_spec.2.1 (by omega) hf).mono hs1))).more (by have := hf.size; omega)))
          clear hW hX hD hbw hW2 hf2 hr2 hM hwA hbA HWX HP1 e3
          go_wp2_with fail
          refine HX3.out.mono ?_
          rintro e wB ⟨rfl, hXS⟩
          have hBS := bst_of HM.out.1 ⟨Nat.le_refl _, by omega⟩ hXS
          have hwX := wx_low HM.out.1.choose_spec.choose_spec.2.1 (by omega) hXS.choose_spec.choose_spec.2.1
          have hwB : Below w.heap.size w wB := HM.out.2.trans (hwX.mono hs1)
          have hLL : (addL (alignL L) bl).length ≤ 9000 * (k + 1) := by omega
          have hLB : Hid (BSt wB w1.heap.size w1.heap.size (w1.heap.size + 1) (addL (alignL L) bl) ∧ Below w.heap.size w wB) := Lib.hid ⟨hBS, hwB⟩
          clear hBS hwB hwX hXS HX3 HM hpl e3A
          generalize (addL (alignL L) bl) = L2 at *
          obtain ⟨aW, cW, aX, cX, hW, hX, hD, _, _⟩ := hLB.out.1
          have hltW := fun i (h : WF w1.heap.size aW (pk L2).length cW i) => wt_lt hW h
          have hltX := fun i (h : WF (w1.heap.size + 1) aX L2.length cX i) => wx_lt hX h
          have HLT := Lib.hid (And.intro hltW (And.intro hltX hD))
          have hpk : (pk L2).length ≤ 1000000 := by have := pk_len L2; omega
          have hszB := hLB.out.2.size
          have HWB := Lib.hid (wrBytes hW (pk_bytes L2) (by omega))
          have HWX2 := Lib.hid (And.intro hW hX)
          clear hW hX hD hltW hltX
          go_wp2_with fail
          refine HWB.out.mono ?_
          rintro e wC ⟨ab2, cb2, rfl, hob, hbb2⟩
          have hW := HWX2.out.1.below hbb2
          have hX := HWX2.out.2.below hbb2
          have hwC := below_next hLB.out.2 (Nat.le_refl _) hbb2
          have hszC := hbb2.size
          have HC := Lib.hid (And.intro hW (And.intro hX (And.intro hob hwC)))
          have x1 : wC.cell? ⟨w1.heap.size + 1, 0, none⟩ = some (.slice aX L2.length cX) := blk_cell hX.1 0
          have hgx := blk_lt hX.1
          have HL1 := Lib.hid (wrLen (w := wC.drew) hW)
          have HL2 := Lib.hid (xrBytes (w := wC.drew) hX (by omega))
          have hbs1 : Bs wC wC.heap.size ab2 (pk L2) := Bs.of_own hob (pk_bytes L2)
          have hpb : (pk L2).length ≤ 140737488355328 := by omega
          have HBS1 := Lib.hid hbs1
          clear hW hX hob hwC hbb2 hLB HWB hbs1 HWX2
          go_wp2_with fail
          go_region_held3 (fun W => W.cell? ⟨w1.heap.size + 1, 0, none⟩ = some (.slice aX L2.length cX))
            (first | go_keep | exact (hbE.cell (p := ⟨w1.heap.size + 1, 0, none⟩) (by simp; omega)).trans x1)
            (first | (go_at_call 37; (with_reducible refine HL1.out.mono ?_); rintro e wD ⟨rfl, rfl⟩) | (go_at_call 38; (with_reducible refine HL2.out.mono ?_); rintro e wE hmade; obtain ⟨aE, cE, rfl, hoE, hbE⟩ := made_eq hmade; have hbsE := Bs.of_own hoE (pk_bytes L2); have hbsA := (show Bs wC.drew wC.drew.heap.size ab2 (pk L2) from HBS1.out).next hbE) | (go_at_call 26; (with_reducible refine (same_pieces hpb hbsA hbsE).mono ?_); rintro e wF ⟨rfl, mF, rfl⟩))
          have hbE2 : Below wC.heap.size wC (wE.drewN mF) := ⟨hbE.os, hbE.tape, hbE.output, hbE.size, hbE.block⟩
          have hW : Wt (wE.drewN mF) w1.heap.size w1.heap.size aW cW (pk L2) L2.length := HC.out.1.below hbE2
          have hX : Wx (wE.drewN mF) w1.heap.size (w1.heap.size + 1) aX cX L2 := HC.out.2.1.below hbE2
          have ho2 : (wE.drewN mF).ownsRow wB.heap.size 5 1 (.slice ab2 (pk L2).length cb2) (pk L2).length ((pk L2).map (Value.int .u8)) := own_below HC.out.2.2.1 hbE2
          have hwE := below_next HC.out.2.2.2 (Nat.le_refl _) hbE2
          have HG := Lib.hid (And.intro hW (And.intro hX (And.intro ho2 hwE)))
          clear hW hX ho2 hwE hbE2 hbE hoE hbsE hbsA HC HL1 HL2 HBS1 x1
          generalize wE.drewN mF = wG at *
          go_wp2_with fail
          go_loopw [8, 83] (fun _ i wr => ∃ j : Nat, ∃ xs : List Int, j ≤ (pk L2).length ∧ i = .int .i64 j ∧ xs.length = (pk L2).length ∧ Bytes xs ∧ wr.ownsRow wB.heap.size 5 1 (.slice ab2 (pk L2).length cb2) (pk L2).length (xs.map (Value.int .u8)) ∧ Hid (Wt wr w1.heap.size w1.heap.size aW cW (pk L2) L2.length ∧ Wx wr w1.heap.size (w1.heap.size + 1) aX cX L2) ∧ Below w.heap.size w wr) (fun _ i _ => (pk L2).length - (intOf i).toNat)
          case atStart => exact ⟨0, pk L2, Nat.zero_le _, rfl, rfl, pk_bytes L2, HG.out.2.2.1, Lib.hid ⟨HG.out.1, HG.out.2.1⟩, HG.out.2.2.2⟩
          case round =>
            clear HG
            obtain ⟨j, xs, hj, rfl, hxs, hxb, oo, HWX3, hbel⟩ := hrel
            by_cases hlt2 : j < (pk L2).length
            · obtain ⟨go, co', eo, ho1, _⟩ := oo.form (by omega)
              injection eo with eo _ ec; subst eo; subst ec
              have hc1 := own_byte oo hxs hlt2
              have f1 := oo.frozenAt j
              have hxj := hxb.at_ j
              have HXL := Lib.hid hxs
              have HS2 := Lib.hid (And.intro oo hbel)
              clear oo hbel hxs
              generalize xs.getD j 0 = x at *
              go_wp2_with fail
              go_roundw
              case rel =>
                obtain ⟨oo, hbel⟩ := HS2.out
                have hft : Foot (fun i => i = go) wr (wr.setCell ⟨go, j, none⟩ (.int .u8 ((x + 1) % 256))) := (Foot.refl _ _).set (.inl rfl)
                refine ⟨j + 1, xs.set j ((x + 1) % 256), by omega, by go_num, by simpa using HXL.out, ?_, own_put oo j _, Lib.hid ⟨HWX3.out.1.keep (fun i hi => hft.block i (wt_lt HWX3.out.1 hi) (fun e => by subst e; have := HLT.out.1 _ hi; omega)), HWX3.out.2.keep (fun i hi => hft.block i (wx_lt HWX3.out.2 hi) (fun e => by subst e; have := HLT.out.2.1 _ hi; omega))⟩, ?_⟩
                · intro y hy
                  rcases List.mem_or_eq_of_mem_set hy with q | q
                  · exact hxb y q
                  · omega
                · exact hbel.setCell (p := ⟨go, j, none⟩) (show w.heap.size ≤ go by omega) _
              case measure => simp [intOf]; omega
            · obtain rfl : j = (pk L2).length := by omega
              have HBN : Hid (BSt wr w1.heap.size w1.heap.size (w1.heap.size + 1) L2) := Lib.hid ⟨aW, cW, aX, cX, HWX3.out.1, HWX3.out.2, HLT.out.2.2, Nat.le_refl _, by omega⟩
              clear oo HWX3 hxb hxs
              go_wp2_with fail
              go_roundw
              case rel => exact ⟨k + 1, L2, by omega, by omega, by go_num, hLL, HBN, hbel⟩
              case measure => simp [intOf]; omega
      · have hv1 : k < 100 → 1000 < bl.length := by omega
        by_cases hk1 : k < 100
        · have hv1 := hv1 hk1
          have u1 : decide (100 ≤ (k : Int)) = false := by simp; omega
          have u2 : decide (1000 < (bl.length : Int)) = true := by simp; omega
          go_wp2_with fail
          go_ret
          exact ⟨rfl, HB.out.2.2.1⟩
        · have u1 : decide (100 ≤ (k : Int)) = true := by simp; omega
          go_wp2_with fail
          go_ret
          exact ⟨rfl, HB.out.2.2.1⟩
    · obtain rfl : k = q.length := by omega
      obtain ⟨aW, cW, aX, cX, hW, hX, hD, _, _⟩ := HS.out
      have hpk : (pk L).length ≤ 1000000 := by have := pk_len L; omega
      have HWB := Lib.hid (wrBytes hW (pk_bytes L) (by omega))
      have HWX2 := Lib.hid hX
      clear hW hX hD HS
      go_wp2_with fail
      refine HWB.out.mono ?_
      rintro e wC ⟨ab2, cb2, rfl, hob, hbb2⟩
      have HXB := Lib.hid (xrBytes (HWX2.out.below hbb2) (by omega))
      have hwC := below_next hbel (Nat.le_refl _) hbb2
      have hbs1 := Bs.of_own hob (pk_bytes L)
      have HC := Lib.hid (And.intro hbs1 hwC)
      clear hob hbb2 hbs1 hwC HWB HWX2 hbel
      go_wp2_with fail
      refine HXB.out.mono ?_
      rintro e wE ⟨aE, cE, rfl, hoE, hbE⟩
      have hwE := below_next HC.out.2 (Nat.le_refl _) hbE
      have HSM := Lib.hid (same_pieces (c := cb2) (c' := cE) (by omega) (HC.out.1.next hbE) (Bs.of_own hoE (pk_bytes L)))
      clear hoE hbE HC HXB
      go_wp2_with fail
      refine HSM.out.mono ?_
      rintro e wF ⟨rfl, mF, rfl⟩
      go_wp2_with fail
      go_ret
      exact ⟨rfl, low_drewN hwE mF⟩
end Go.Proofs.Ytfgifimmdkiejaa
