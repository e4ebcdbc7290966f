/- Do entries lie on one another; what is answered: contracts of overlap, records. Conditions: the bytes are bytes. Rows of records; what is answered: contract of records. Conditions: the bytes are bytes. What two rows of bytes that are the same on a stretch have in common bz archives. No condition; no program is named. The directory of an archive: contract of archive's Directory. Conditions: the bytes are bytes; the variable internal/bytealg.MaxLen has a value. -/
import Derived.Test.YtdcpibglbanchaaDoorDq
import Derived.Test.YtdcpibglbanchaaDoorDp
set_option linter.unusedVariables false
set_option maxRecDepth 100000
namespace Go.Proofs.YtdcpibglbanchaaDoor
open Go.RowKit Go.Maps Go.ChangeMaps

theorem fnd_ldo {ops : Array Oper} {rest : List Oper} {op : Oper} {a : Act} {W : World} {Q : Exit → Act → World → Prop} {x : Operand} {cs : List Value} (hgd : op.guard = none) (ho : op.op = .load 59 x) (b o : Nat) (hx : a.eval x = .pointer (some ⟨b, o, none⟩)) (hs : cs.length = 32) (hr : W.rangeAt b o cs)
    (h : wpList Tryd.prog ops Q rest (a.put op.dst (.agg cs.toArray)) W) : wpList Tryd.prog ops Q (op :: rest) a W :=
  wpList_load_mid hgd 59 x ho b o hx cs _ hr Tryd.underlying59 rfl (by rw [hs]; exact fnd_info32) h
theorem sized_fnd (W : World) : (sizeOf (Tryd.prog.elem 40)).run Tryd.prog W = .ok 32 W := by kernel_rfl
theorem elem_fnd : Tryd.prog.underlying 40 = some (.slice (Tryd.prog.elem 40)) := by kernel_rfl
theorem cutF_h (g n c hi : Nat) (h : hi ≤ n) (hc : n ≤ c) (h0 : 0 < n) : ∀ W, (Instr.slice 40 (.slice (some ⟨g, 0, none⟩) n c) none (some (.int .i64 hi)) none).run Tryd.prog W = .ok (.slice (some ⟨g, 0, none⟩) hi c) W := by
  intro W
  rw [run_slice_h W 40 (some ⟨g, 0, none⟩) n c elem_fnd .i64 hi (by omega) (by omega), sized_fnd]
  simp [Result.andThen, sliced, Addr.add]
/-- the cells of an entry whose local header was read -/
def fndE (l : List Int) (e : Nat × Nat) : List Value := fndC l e (e.2 + pkL l e.1)
theorem fndE_31 {l : List Int} {e : Nat × Nat} (h : e.1 + 30 ≤ l.length) : (fndE l e)[31]? = some (.int .i64 ((e.2 + pkL l e.1 : Nat) : Int)) := by
  unfold fndE fndC
  have hl : (cutOf l (e.1 + 6) (e.1 + 30)).length = 24 := by rw [cutOf_len h]; omega
  rw [List.getElem?_append_right (by rw [List.length_append, List.length_map, recC_len, hl]; decide), List.length_append, List.length_map, recC_len, hl]; rfl
theorem ent_split {l : List Int} {es : List (Nat × Nat)} {q : Nat} {e : Nat × Nat} (he : es[q]? = some e) (hall : ∀ e ∈ es, e.1 + 30 ≤ l.length) :
    ((es.take q).flatMap (fndE l)).length = q * 32 ∧ fndA l es [] = (es.take q).flatMap (fndE l) ++ (fndE l e ++ (es.drop (q + 1)).flatMap (fndE l)) := by
  have hq : q < es.length := (List.getElem?_eq_some_iff.1 he).1
  refine ⟨?_, ?_⟩
  · rw [flat_len (f := fndE l) (k := 32) (fun x hx => fndC_len (hall x (List.mem_of_mem_take hx))), List.length_take]; congr 1; omega
  · have h1 : es = es.take q ++ e :: es.drop (q + 1) := by
      have : es.drop q = e :: es.drop (q + 1) := by rw [List.drop_eq_getElem?_toList_append, he]; rfl
      rw [← this, List.take_append_drop]
    show es.flatMap (fndE l) ++ [] = _
    rw [List.append_nil]
    conv => lhs; rw [h1]
    rw [List.flatMap_append, List.flatMap_cons]
section
variable {W w : World} {g mb k mn base : Nat} {b : Option Addr} {n c : Nat} {fr tt ct : Int} {m : Nat} {ns : List (List UInt8)} {G cp : Nat} {l : List Int} {es : List (Nat × Nat)}
theorem LK.ent {q : Nat} {e : Nat × Nat} (h : LK W w g mb k mn base b n c fr tt ct (.slice (some ⟨G, 0, none⟩) m cp) m (fndA l es []) ns) (he : es[q]? = some e) (hm : es.length = m) (hall : ∀ e ∈ es, e.1 + 30 ≤ l.length) : w.rangeAt G (q * 32) (fndE l e) := fun j v hv => by
  have hq : q < es.length := (List.getElem?_eq_some_iff.1 he).1
  have hfl : (fndE l e).length = 32 := fndC_len (hall e (List.mem_of_getElem? he))
  have hj : j < 32 := by
    rcases Nat.lt_or_ge j 32 with z | z
    · exact z
    · rw [List.getElem?_eq_none (by omega)] at hv; cases hv
  obtain ⟨h1, h2⟩ := ent_split he hall
  have hr := h.row
  rw [h2] at hr
  rw [hr.cellAt (q * 32 + j) (by omega), List.getElem?_append_right (by omega), h1, show q * 32 + j - q * 32 = j by omega, List.getElem?_append_left (by omega)]
  exact hv
theorem fndE_one (l : List Int) (e : Nat × Nat) : (fndE l e).toArray.all (·.oneCell') = true := all_oneCell_toArray (fun u hu => by
  unfold fndE fndC recC at hu
  simp only [List.cons_append, List.nil_append, List.mem_cons, List.mem_append, List.mem_map, List.not_mem_nil, or_false] at hu
  rcases hu with rfl | rfl | rfl | rfl | rfl | rfl | rfl | ⟨y, _, rfl⟩ | rfl <;> rfl)
set_option maxHeartbeats 8000000 in
theorem overlap_is {V : Value} (h : LK W w g mb k mn base b n c fr tt ct V m (fndA l es []) ns) (hm : es.length = m) (hN : m ≤ 64) (hB : Bytes l) (hall : ∀ e ∈ es, e.1 + 30 ≤ l.length ∧ e.2 ≤ 65536) :
    Calls Tryd.prog 13 #[.pointer (some ⟨g, 0, none⟩)] w fun e w' => e = .returned (.bool (ovS l [] es)) ∧ LK W w' g mb k mn base b n c fr tt ct V m (fndA l es []) ns := by
  have c6 : w.cell? ⟨g, 6, none⟩ = some V := by rw [blk_cell h.blk]; rfl
  obtain ⟨aV, cV, rfl⟩ := own_shape h.row
  have hcV := own_cap h.row
  have hbd : ∀ p, hdL l p ≤ 4294967295 ∧ pkL l p ≤ 4294967295 := fun p => by
    have h1 := numL_bd hB ((p : Int) + 42) 4 (by decide)
    have h2 := numL_bd hB ((p : Int) + 20) 4 (by decide)
    unfold hdL pkL; omega
  have HL := Lib.hid (And.intro h (And.intro hm (And.intro hall hbd)))
  clear h hall hbd hm
  go_enter Tryd.func13, Tryd.ntmps13
  go_wp2_with fail
  go_loopw [12] (fun i wr => ∃ (q : Nat), q ≤ m ∧ i = .int .i64 q ∧ Hid (ovS l [] es = ovS l (es.take q) (es.drop q) ∧ LK W wr g mb k mn base b n c fr tt ct (.slice aV m cV) m (fndA l es []) ns)) (fun i _ => m - (intOf i).toNat)
  case atStart => exact ⟨0, Nat.zero_le _, rfl, Lib.hid ⟨rfl, HL.out.1⟩⟩
  case round =>
    obtain ⟨q, hq, rfl, HI⟩ := hrel
    by_cases hlt : q < m
    · obtain ⟨e, he⟩ : ∃ e, es[q]? = some e := ⟨_, List.getElem?_eq_getElem (by rw [HL.out.2.1]; exact hlt)⟩
      have hem : e ∈ es := List.mem_of_getElem? he
      have hal := HL.out.2.2.1
      obtain ⟨G, cp, hV, _, _⟩ := HI.out.2.row.form (by omega)
      injection hV with hV1 _ hV2
      subst hV1
      subst hV2
      have hrg := HI.out.2.ent he HL.out.2.1 (fun x hx => (hal x hx).1)
      have hfl : (fndE l e).length = 32 := fndC_len (hal e hem).1
      have hrun := cutF_h G m cV q (by omega) hcV.1 (by omega)
      have hF : ∀ (wf : World) (o : Obj), wf.heap[wr.heap.size]? = some (.cells (fndE l e).toArray 59 (0, 0)) → Only wr.heap.size (wr.alloc o) wf →
          Hid (LK W wf g mb k mn base b n c fr tt ct (.slice (some ⟨G, 0, none⟩) m cV) m (fndA l es []) ns ∧ wf.heap[wr.heap.size]? = some (.cells (fndE l e).toArray 59 (0, 0)) ∧ wr.heap.size < wf.heap.size) ∧ wf.cell? ⟨g, 6, none⟩ = some (.slice (some ⟨G, 0, none⟩) m cV) := fun wf o hwf hof => by
        have hbf : Below wr.heap.size wr wf := low_only ((Below.refl wr.heap.size wr).alloc (Nat.le_refl _) o) hof (Nat.le_refl _) (Nat.le_refl _)
        have hL := HI.out.2.below hbf
        exact ⟨Lib.hid ⟨hL, hwf, blk_lt hwf⟩, by rw [blk_cell hL.blk]; rfl⟩
      have h1c := fndE_one l e
      have hdrop : es.drop q = e :: es.drop (q + 1) := by rw [List.drop_eq_getElem?_toList_append, he]; rfl
      have htake : es.take (q + 1) = es.take q ++ [e] := by rw [List.take_add_one, he]; rfl
      have hstep : ovS l (es.take q) (es.drop q) = ((es.take q).any (fun d => onOne l e d) || ovS l (es.take (q + 1)) (es.drop (q + 1))) := by rw [hdrop, htake]; rfl
      have hE := HL.out.2.2.2 e.1
      have HS := Lib.hid (And.intro hstep (And.intro he (And.intro hE (hal e hem))))
      clear he hem hal hdrop htake hstep c6 hE
      generalize hFE : fndE l e = FE at *
      have HFE := Lib.hid hFE
      clear hFE
      go_wp2_with (first | (refine fnd_ldo rfl rfl G (q * 32) rfl hfl hrg ?_) | (refine fnd_st rfl rfl wr.heap.size rfl rfl (by simpa using hfl) rfl h1c (heap_alloc_new _ _) ?_; intro wf hwf hof; obtain ⟨HF, c6f⟩ := hF wf _ hwf hof; clear hwf hof hF))
      obtain ⟨bf, hbf⟩ : ∃ bf, wr.heap.size = bf := ⟨_, rfl⟩
      have HIo := Lib.hid HI.out.1
      rw [hbf] at HF ⊢
      clear HI hbf hrg h1c hfl hrun c6f
      rename World => wz
      go_loopw [24] (fun i wr => ∃ (k2 : Nat), k2 ≤ q ∧ i = .int .i64 k2 ∧ Hid ((es.take q).any (fun d => onOne l e d) = ((es.take q).drop k2).any (fun d => onOne l e d) ∧ LK W wr g mb k mn base b n c fr tt ct (.slice (some ⟨G, 0, none⟩) m cV) m (fndA l es []) ns ∧ wr.heap[bf]? = some (.cells FE.toArray 59 (0, 0)))) (fun i _ => q - (intOf i).toNat)
      case atStart => exact ⟨0, Nat.zero_le _, rfl, Lib.hid ⟨rfl, HF.out.1, HF.out.2.1⟩⟩
      case round =>
        obtain ⟨k2, hk2, rfl, HJ⟩ := hrel
        clear HF
        by_cases hlt2 : k2 < q
        · obtain ⟨d, hd⟩ : ∃ d, es[k2]? = some d := ⟨_, List.getElem?_eq_getElem (by rw [HL.out.2.1]; omega)⟩
          have hdm : d ∈ es := List.mem_of_getElem? hd
          have hal := HL.out.2.2.1
          have hrg := HJ.out.2.1.ent hd HL.out.2.1 (fun x hx => (hal x hx).1)
          have hfl : (fndE l d).length = 32 := fndC_len (hal d hdm).1
          have h1c := fndE_one l d
          have hdd : (es.take q).drop k2 = d :: (es.take q).drop (k2 + 1) := by
            have : (es.take q)[k2]? = some d := by rw [List.getElem?_take_of_lt hlt2]; exact hd
            rw [List.drop_eq_getElem?_toList_append, this]; rfl
          have hf6 : (fndE l e)[6]? = some (.int .i64 (hdL l e.1)) := rfl
          have hf31 : (fndE l e)[31]? = some (.int .i64 ((e.2 + pkL l e.1 : Nat) : Int)) := fndE_31 HS.out.2.2.2.1
          have hg31 : (fndE l d)[31]? = some (.int .i64 ((d.2 + pkL l d.1 : Nat) : Int)) := fndE_31 (hal d hdm).1
          rw [HFE.out] at hf6 hf31
          have hF2 : ∀ (wf : World) (o : Obj), wf.heap[wr.heap.size]? = some (.cells (fndE l d).toArray 59 (0, 0)) → Only wr.heap.size (wr.alloc o) wf →
              Hid (LK W wf g mb k mn base b n c fr tt ct (.slice (some ⟨G, 0, none⟩) m cV) m (fndA l es []) ns ∧ wf.heap[bf]? = some (.cells FE.toArray 59 (0, 0))) ∧ wf.cell? ⟨bf, 6, none⟩ = some (.int .i64 (hdL l e.1)) ∧ wf.cell? ⟨bf, 31, none⟩ = some (.int .i64 ((e.2 + pkL l e.1 : Nat) : Int)) ∧ wf.cell? ⟨wr.heap.size, 6, none⟩ = some (.int .i64 (hdL l d.1)) ∧ wf.cell? ⟨wr.heap.size, 31, none⟩ = some (.int .i64 ((d.2 + pkL l d.1 : Nat) : Int)) := fun wf o hwf hof => by
            have hbl : Below wr.heap.size wr wf := low_only ((Below.refl wr.heap.size wr).alloc (Nat.le_refl _) o) hof (Nat.le_refl _) (Nat.le_refl _)
            have hb2 := (hbl.block _ (blk_lt HJ.out.2.2)).trans HJ.out.2.2
            exact ⟨Lib.hid ⟨HJ.out.2.1.below hbl, hb2⟩, by rw [blk_cell hb2, List.getElem?_toArray]; exact hf6, by rw [blk_cell hb2, List.getElem?_toArray]; exact hf31, by rw [blk_cell hwf]; rfl, by rw [blk_cell hwf, List.getElem?_toArray]; exact hg31⟩
          have hon : onOne l e d = (decide (hdL l e.1 < d.2 + pkL l d.1) && decide (hdL l d.1 < e.2 + pkL l e.1)) := rfl
          have hE1 := HS.out.2.2.1
          have hE2 := HL.out.2.2.2 d.1
          have HT := Lib.hid (And.intro hdd hon)
          clear hd hdm hal hf6 hf31 hg31 hdd hon
          generalize fndE l d = FD at *
          generalize hdL l e.1 = he1 at *
          generalize e.2 + pkL l e.1 = en1 at *
          generalize hdL l d.1 = hd1 at *
          generalize d.2 + pkL l d.1 = en2 at *
          by_cases d1 : he1 < en2
          · have t1 : decide ((he1 : Int) < (en2 : Int)) = true := by simp; omega
            have t1' : decide (he1 < en2) = true := by simp; omega
            by_cases d2 : hd1 < en1
            · have t2 : decide ((hd1 : Int) < (en1 : Int)) = true := by simp; omega
              have t2' : decide (hd1 < en1) = true := by simp; omega
              have hO : ovS l [] es = true := by
                rw [HIo.out, HS.out.1, HJ.out.1, HT.out.1, List.any_cons, HT.out.2, t1', t2']; rfl
              have HO := Lib.hid hO
              clear hO
              go_wp2_with (first | (refine fnd_ldo rfl rfl G (k2 * 32) rfl hfl hrg ?_) | (refine fnd_st rfl rfl wr.heap.size rfl rfl (by simpa using hfl) rfl h1c (heap_alloc_new _ _) ?_; intro wf hwf hof; obtain ⟨HF, x6, x31, y6, y31⟩ := hF2 wf _ hwf hof; clear hwf hof hF2))
              go_ret
              exact ⟨by rw [HO.out]; rfl, HF.out.1⟩
            · have t2 : decide ((hd1 : Int) < (en1 : Int)) = false := by simp; omega
              have t2' : decide (hd1 < en1) = false := by simp; omega
              have hO : (es.take q).any (fun d => onOne l e d) = ((es.take q).drop (k2 + 1)).any (fun d => onOne l e d) := by
                rw [HJ.out.1, HT.out.1, List.any_cons, HT.out.2, t1', t2']; rfl
              have HO := Lib.hid hO
              clear hO
              go_wp2_with (first | (refine fnd_ldo rfl rfl G (k2 * 32) rfl hfl hrg ?_) | (refine fnd_st rfl rfl wr.heap.size rfl rfl (by simpa using hfl) rfl h1c (heap_alloc_new _ _) ?_; intro wf hwf hof; obtain ⟨HF, x6, x31, y6, y31⟩ := hF2 wf _ hwf hof; clear hwf hof hF2))
              go_roundw
              case rel => exact ⟨k2 + 1, by omega, by go_num, Lib.hid ⟨HO.out, HF.out.1, HF.out.2⟩⟩
              case measure => simp [intOf]; omega
          · have t1 : decide ((he1 : Int) < (en2 : Int)) = false := by simp; omega
            have t1' : decide (he1 < en2) = false := by simp; omega
            have hO : (es.take q).any (fun d => onOne l e d) = ((es.take q).drop (k2 + 1)).any (fun d => onOne l e d) := by
              rw [HJ.out.1, HT.out.1, List.any_cons, HT.out.2, t1']; rfl
            have HO := Lib.hid hO
            clear hO
            go_wp2_with (first | (refine fnd_ldo rfl rfl G (k2 * 32) rfl hfl hrg ?_) | (refine fnd_st rfl rfl wr.heap.size rfl rfl (by simpa using hfl) rfl h1c (heap_alloc_new _ _) ?_; intro wf hwf hof; obtain ⟨HF, x6, x31, y6, y31⟩ := hF2 wf _ hwf hof; clear hwf hof hF2))
            go_roundw
            case rel => exact ⟨k2 + 1, by omega, by go_num, Lib.hid ⟨HO.out, HF.out.1, HF.out.2⟩⟩
            case measure => simp [intOf]; omega
        · obtain rfl : q = k2 := by omega
          have hO : ovS l [] es = ovS l (es.take (q + 1)) (es.drop (q + 1)) := by
            rw [HIo.out, HS.out.1, HJ.out.1, List.drop_eq_nil_of_le (by rw [List.length_take]; omega)]; rfl
          have HO := Lib.hid hO
          clear hO
          go_wp2_with fail
          go_roundw
          case rel => exact ⟨q + 1, by omega, by go_num, Lib.hid ⟨HO.out, HJ.out.2.1⟩⟩
          case measure => simp [intOf]; omega
    · obtain rfl : m = q := by omega
      have hD : es.drop m = [] := List.drop_eq_nil_of_le (by rw [HL.out.2.1]; exact Nat.le_refl _)
      have hE : ovS l [] es = false := by rw [HI.out.1, hD]; rfl
      have HE := Lib.hid hE
      clear hE hD
      go_wp2_with fail
      go_ret
      exact ⟨by rw [HE.out]; rfl, HI.out.2⟩
end
end Go.Proofs.YtdcpibglbanchaaDoor

set_option linter.unusedVariables false
set_option maxRecDepth 100000
namespace Go.Proofs.YtdcpibglbanchaaDoor
open Go.RowKit Go.Maps Go.ChangeMaps

theorem rec_info : (Tryd.prog.info? 30).bind (fun i => i.zero.map fun z => (i.size, i.bytes, z.cells.size)) = some (7, 64, 7) := by kernel_rfl
theorem rec_info7 : (Tryd.prog.info? 30).map (·.size) = some 7 := by kernel_rfl
theorem rec_parts : ∃ i z, Tryd.prog.info? 30 = some i ∧ i.zero = some z ∧ i.size = 7 ∧ i.bytes = 64 ∧ z.cells.size = 7 := by
  have h := rec_info
  cases hi : Tryd.prog.info? 30 with
  | none => rw [hi] at h; cases h
  | some i =>
    rw [hi] at h
    cases hz : i.zero with
    | none => simp [hz] at h
    | some z =>
      simp [hz] at h
      exact ⟨i, z, rfl, hz, h.1, h.2.1, h.2.2⟩
theorem rec_ld {ops : Array Oper} {rest : List Oper} {op : Oper} {a : Act} {W : World} {Q : Exit → Act → World → Prop} {x : Operand} {cs : List Value} (hgd : op.guard = none) (ho : op.op = .load 30 x) (b o : Nat) (hx : a.eval x = .pointer (some ⟨b, o, none⟩)) (hs : cs.length = 7) (hr : W.rangeAt b o cs)
    (h : wpList Tryd.prog ops Q rest (a.put op.dst (.agg cs.toArray)) W) : wpList Tryd.prog ops Q (op :: rest) a W :=
  wpList_load_mid hgd 30 x ho b o hx cs _ hr Tryd.underlying30 rfl (by rw [hs]; exact rec_info7) h
theorem y_buildR {a : Act} {w : World} {o : Oper} {k : Nat} {cs : List Value} (hl : cs.length = 7) (ho : o.op = .buildSlice 25 1 #[(0, .tmp k)]) (hx : a.eval (.tmp k) = .agg cs.toArray) : (execOp a.eval o).run Tryd.prog w = .ok (.value (.slice (some ⟨w.heap.size, 0, none⟩) 1 1)) (w.alloc (.cells cs.toArray 30)) := by
  obtain ⟨i, z, hi, hz, h32, h96, hzs⟩ := rec_parts
  have hr : (Instr.buildSlice 25 1 #[(0, .agg cs.toArray)]).run Tryd.prog w = .ok (.slice (some ⟨w.heap.size, 0, none⟩) 1 1) (w.alloc (.cells cs.toArray 30)) :=
    run_buildSlice w _ _ 1 _ _ i z Tryd.underlying25 hi hz (by rw [h32]; decide) (by rw [h32]; decide) (by rw [h32]; exact fill_one 7 cs hl _ (by simp))
  unfold execOp
  simp only [ho, List.map_toArray, List.map, hx, Sem.run_bind, hr]
  rfl
/-- an append of one record that lies in a new block -/
theorem rec_app {w : World} {ops : Array Oper} {rest : List Oper} {o : Oper} {a : Act} {Q : Exit → Act → World → Prop} (hgd : o.guard = none) (s x : Operand)
    (ho : o.op = .call { callee := .builtin .append, args := #[s, x], argTypes := #[25, 25] }) (base : Nat) (v : Value) (n : Nat) (xs : List Value) (hs : a.eval s = v) (hown : w.ownsRow base 30 7 v n xs)
    (q : Nat) (cs : List Value) (hl : cs.length = 7) (hx : a.eval x = .slice (some ⟨q, 0, none⟩) 1 1) (hh : w.heap[q]? = some (.cells cs.toArray 30 (0, 0))) (h1 : ∀ u ∈ cs, u.oneCell' = true) (hn : n ≤ 1000) (hbase : base ≤ w.heap.size)
    (h : ∀ v' w', w'.ownsRow base 30 7 v' (n + 1) (xs ++ cs) → w.grownBy w' v.ownBlock → (v'.ownBlock = v.ownBlock ∨ v'.ownBlock = some w.heap.size) → wpList Tryd.prog ops Q rest (a.put o.dst v') w') : wpList Tryd.prog ops Q (o :: rest) a w := by
  obtain ⟨i, z, hi, hz, h32, h96, hzs⟩ := rec_parts
  obtain ⟨v', w', hr, h2, h3, _, h4⟩ := run_append_own_at (P := Tryd.prog) (w := w) base 25 o.type 30 i z 7 64 Tryd.underlying25 hi hz h32 h96 hzs (by decide) v n xs hown ⟨q, 0, none⟩ 1 1 cs (by rw [hl]) (fun j u hu => by
    rw [show Addr.add ⟨q, 0, none⟩ j = ⟨q, j, none⟩ by simp [Addr.add]; exact fun h => h.symm, blk_cell hh]; simpa using hu) h1 (by unfold maxLen; omega) (by omega) hbase
  exact wpList_val hgd (y_app ho hs hx hr) (h v' w' h2 h3 h4)
/-- the cells of all records -/
def recR (l : List Int) (es : List (Nat × Nat)) : List Value := es.flatMap (recC l)
theorem recC_one (l : List Int) (e : Nat × Nat) : ∀ u ∈ recC l e, u.oneCell' = true := fun u hu => by
  unfold recC at hu
  simp only [List.mem_cons, List.not_mem_nil, or_false] at hu
  rcases hu with rfl | rfl | rfl | rfl | rfl | rfl | rfl <;> rfl
section
variable {W w : World} {g mb k mn base : Nat} {b : Option Addr} {n c : Nat} {fr tt ct : Int} {m : Nat} {ns : List (List UInt8)} {l : List Int} {es : List (Nat × Nat)}
set_option maxHeartbeats 8000000 in
theorem records_is {V : Value} (h : LK W w g mb k mn base b n c fr tt ct V m (fndA l es []) ns) (hm : es.length = m) (hN : m ≤ 64) (hall : ∀ e ∈ es, e.1 + 30 ≤ l.length) :
    Calls Tryd.prog 14 #[.pointer (some ⟨g, 0, none⟩)] w fun e w' => ∃ V', e = .returned V' ∧ w'.ownsRow w.heap.size 30 7 V' m (recR l es) ∧ Below w.heap.size w w' := by
  have c6 : w.cell? ⟨g, 6, none⟩ = some V := by rw [blk_cell h.blk]; rfl
  obtain ⟨aV, cV, rfl⟩ := own_shape h.row
  have hcV := own_cap h.row
  have HL := Lib.hid (And.intro h (And.intro hm hall))
  clear h hall hm
  go_enter Tryd.func14, Tryd.ntmps14
  go_wp2_with fail
  go_loopw [3, 11] (fun v i wr => ∃ (q : Nat), q ≤ m ∧ i = .int .i64 q ∧ Hid (wr.ownsRow w.heap.size 30 7 v q (recR l (es.take q)) ∧ Below w.heap.size w wr)) (fun _ i _ => m - (intOf i).toNat)
  case atStart => exact ⟨0, Nat.zero_le _, rfl, Lib.hid ⟨by simpa [recR] using World.ownsRow_nil _ _ _ _, Below.refl _ _⟩⟩
  case round =>
    obtain ⟨q, hq, rfl, HI⟩ := hrel
    by_cases hlt : q < m
    · obtain ⟨e, he⟩ : ∃ e, es[q]? = some e := ⟨_, List.getElem?_eq_getElem (by rw [HL.out.2.1]; exact hlt)⟩
      have hem : e ∈ es := List.mem_of_getElem? he
      have hLr : LK W wr g mb k mn base b n c fr tt ct (.slice aV m cV) m (fndA l es []) ns := HL.out.1.below HI.out.2
      obtain ⟨G, cp, hV, _, _⟩ := hLr.row.form (by omega)
      injection hV with hV1 _ hV2
      subst hV1
      subst hV2
      have hrg := hLr.ent he HL.out.2.1 HL.out.2.2
      have hfl : (fndE l e).length = 32 := fndC_len (HL.out.2.2 e hem)
      have h1c := fndE_one l e
      have htake : es.take (q + 1) = es.take q ++ [e] := by rw [List.take_add_one, he]; rfl
      have hF : ∀ (wf : World) (o : Obj), wf.heap[wr.heap.size]? = some (.cells (fndE l e).toArray 59 (0, 0)) → Only wr.heap.size (wr.alloc o) wf →
          (Hid (Below w.heap.size w wf ∧ wf.ownsRow w.heap.size 30 7 u3 q (recR l (es.take q))) ∧ (∀ o2, (wf.alloc o2).ownsRow w.heap.size 30 7 u3 q (recR l (es.take q))) ∧ (∀ o2, w.heap.size ≤ (wf.alloc o2).heap.size)) ∧ wf.rangeAt wr.heap.size 0 (recC l e) := fun wf o hwf hof => by
        have hbf : Below wr.heap.size wr wf := low_only ((Below.refl wr.heap.size wr).alloc (Nat.le_refl _) o) hof (Nat.le_refl _) (Nat.le_refl _)
        have hb0 := below_next HI.out.2 (Nat.le_refl _) hbf
        have ho0 := own_below HI.out.1 hbf
        refine ⟨⟨Lib.hid ⟨hb0, ho0⟩, fun o2 => ho0.alloc o2, fun o2 => Nat.le_trans hb0.size (by simp)⟩, fun j v hv => ?_⟩
        rw [Nat.zero_add, blk_cell hwf, List.getElem?_toArray]
        unfold fndE fndC
        have hj : j < 7 := (List.getElem?_eq_some_iff.1 hv).1
        rw [List.append_assoc, List.getElem?_append_left (by rw [recC_len]; exact hj)]
        exact hv
      have hr7 := recC_len l e
      have hr1 := recC_one l e
      have HS := Lib.hid (And.intro htake hLr)
      clear he hem htake hLr c6
      generalize fndE l e = FE at *
      obtain ⟨RC, hRC⟩ : ∃ RC, recC l e = RC := ⟨_, rfl⟩
      rw [hRC] at hr7 hr1
      simp only [hRC] at hF
      have HRC := Lib.hid hRC
      clear hRC
      go_wp2_with (first | (refine fnd_ldo rfl rfl G (q * 32) rfl hfl hrg ?_) | (refine fnd_st rfl rfl wr.heap.size rfl rfl (by simpa using hfl) rfl h1c (heap_alloc_new _ _) ?_; intro wf hwf hof; obtain ⟨⟨HF, hoo, hss⟩, hrc⟩ := hF wf _ hwf hof; clear hwf hof hF) | (refine rec_ld rfl rfl wr.heap.size 0 rfl hr7 hrc ?_) | (refine wpList_val rfl (y_buildR hr7 rfl rfl) ?_) | (at_builtin; refine rec_app rfl _ _ rfl w.heap.size _ q (recR l (es.take q)) rfl (hoo _) wf.heap.size RC hr7 rfl (heap_alloc_new _ _) hr1 (by omega) (hss _) ?_; intro v' w4 ho4 hg4 _; have HG := Lib.hid (And.intro ho4 (grown_below HF.out.1 HF.out.1.size HF.out.2 hg4)); clear ho4 hg4 hoo hss hrc))
      go_roundw
      case rel => exact ⟨q + 1, by omega, by go_num, Lib.hid ⟨by rw [HS.out.1]; unfold recR at HG ⊢; rw [List.flatMap_append]; simp only [List.flatMap_cons, List.flatMap_nil, List.append_nil]; rw [HRC.out]; exact HG.out.1, HG.out.2⟩⟩
      case measure => simp [intOf]; omega
    · obtain rfl : m = q := by omega
      have hT : es.take m = es := List.take_of_length_le (by rw [HL.out.2.1]; exact Nat.le_refl _)
      rw [hT] at HI
      go_wp2_with fail
      go_ret
      exact ⟨_, rfl, HI.out.1, HI.out.2⟩
end
end Go.Proofs.YtdcpibglbanchaaDoor

set_option linter.unusedVariables false
set_option maxRecDepth 100000
namespace Go.Proofs.YtdcpibglbanchaaDoor
open Go.RowKit

/-- two rows of bytes of one length that are the same from lo on, up to hi -/
def Agr (l l' : List Int) (lo hi : Nat) : Prop := l.length = l'.length ∧ ∀ i, lo ≤ i → i < hi → l.getD i 0 = l'.getD i 0
section
variable {l l' : List Int} {lo hi : Nat}
theorem Agr.get? (h : Agr l l' lo hi) {i : Nat} (h1 : lo ≤ i) (h2 : i < hi) : l[i]? = l'[i]? := by
  have hg := h.2 i h1 h2
  rw [List.getD_eq_getElem?_getD, List.getD_eq_getElem?_getD] at hg
  by_cases hi : i < l.length
  · have hi' : i < l'.length := by rw [← h.1]; exact hi
    rw [List.getElem?_eq_getElem hi, List.getElem?_eq_getElem hi'] at hg ⊢
    exact congrArg some hg
  · rw [List.getElem?_eq_none (by omega), List.getElem?_eq_none (by rw [← h.1]; omega)]
theorem Agr.cut (h : Agr l l' lo hi) {p q : Nat} (h1 : lo ≤ p) (h2 : q ≤ hi) : cutOf l p q = cutOf l' p q := by
  unfold cutOf
  apply List.ext_getElem?
  intro i
  by_cases hi : i < q - p
  · rw [List.getElem?_take_of_lt hi, List.getElem?_take_of_lt hi, List.getElem?_drop, List.getElem?_drop]
    exact h.get? (by omega) (by omega)
  · rw [List.getElem?_eq_none (by rw [List.length_take]; omega), List.getElem?_eq_none (by rw [List.length_take]; omega)]
theorem piece_cut (l : List Int) (p k : Nat) : O2.piece l (p : Int) (k : Int) = cutOf l p (p + k) := by
  unfold O2.piece cutOf
  rw [Int.toNat_natCast, Int.toNat_natCast, Nat.add_sub_cancel_left]
theorem Agr.num (h : Agr l l' lo hi) (p k : Nat) (h1 : lo ≤ p) (h2 : p + k ≤ hi) : numL l (p : Int) (k : Int) = numL l' (p : Int) (k : Int) := by
  unfold numL O2.LT
  rw [piece_cut, piece_cut, h.cut h1 h2, h.1]
theorem Agr.num2 (h : Agr l l' lo hi) (p q : Nat) (h1 : lo ≤ p) (h2 : p + q + 2 ≤ hi) : numL l ((p : Int) + q) 2 = numL l' ((p : Int) + q) 2 := by
  have := h.num (p + q) 2 (by omega) h2
  rw [Int.natCast_add] at this; exact this
theorem Agr.num4 (h : Agr l l' lo hi) (p q : Nat) (h1 : lo ≤ p) (h2 : p + q + 4 ≤ hi) : numL l ((p : Int) + q) 4 = numL l' ((p : Int) + q) 4 := by
  have := h.num (p + q) 4 (by omega) h2
  rw [Int.natCast_add] at this; exact this
theorem Agr.kind (h : Agr l l' lo hi) (p : Nat) (h1 : lo ≤ p) (h2 : p + 4 ≤ hi) : kindL l p = kindL l' p := by
  unfold kindL
  rw [h.2 p h1 (by omega), h.2 (p + 1) (by omega) (by omega), h.2 (p + 2) (by omega) (by omega), h.2 (p + 3) (by omega) (by omega)]
theorem Agr.cutR {lo' hi' : Nat} (h : Agr l l' lo hi) (h1 : lo ≤ lo') (h2 : hi' ≤ hi) : Agr l l' lo' hi' := ⟨h.1, fun i a b => h.2 i (by omega) (by omega)⟩
/-- central records -/
theorem Agr.nmN (h : Agr l l' lo hi) (p : Nat) (h1 : lo ≤ p) (h2 : p + 46 ≤ hi) : nmN l p = nmN l' p := by
  unfold Go.Proofs.YtdcpibglbanchaaDoor.nmN; rw [show ((p : Int) + 28) = (p : Int) + (28 : Nat) from rfl, h.num2 p 28 h1 (by omega)]
theorem Agr.szL (h : Agr l l' lo hi) (p : Nat) (h1 : lo ≤ p) (h2 : p + 46 ≤ hi) : szL l p = szL l' p := by
  unfold Go.Proofs.YtdcpibglbanchaaDoor.szL
  rw [h.nmN p h1 h2, show ((p : Int) + 30) = (p : Int) + (30 : Nat) from rfl, show ((p : Int) + 32) = (p : Int) + (32 : Nat) from rfl, h.num2 p 30 h1 (by omega), h.num2 p 32 h1 (by omega)]
theorem Agr.nmT (h : Agr l l' lo hi) (p : Nat) (h1 : lo ≤ p) (h2 : p + Go.Proofs.YtdcpibglbanchaaDoor.szL l p ≤ hi) : nmT l p = nmT l' p := by
  have hs := szL_ge l p
  unfold Go.Proofs.YtdcpibglbanchaaDoor.nmT
  rw [← h.nmN p h1 (by omega), h.cut (by omega) (by omega)]
theorem Agr.recE (h : Agr l l' lo hi) (p : Nat) (h1 : lo ≤ p) (ns : List (List UInt8)) : recS l hi p ns = recS l' hi p ns := by
  unfold recS
  by_cases h46 : hi < p + 46
  · rw [if_pos (.inl h46), if_pos (.inl h46)]
  · rw [h.kind p h1 (by omega), h.szL p h1 (by omega)]
    by_cases hz : hi < p + Go.Proofs.YtdcpibglbanchaaDoor.szL l' p
    · rw [if_pos (.inl hz : hi < p + Go.Proofs.YtdcpibglbanchaaDoor.szL l' p ∨ numL l ((p : Int) + 34) 2 ≠ 0), if_pos (.inl hz : hi < p + Go.Proofs.YtdcpibglbanchaaDoor.szL l' p ∨ numL l' ((p : Int) + 34) 2 ≠ 0)]
    · have hT := h.nmT p h1 (by rw [h.szL p h1 (by omega)]; omega)
      unfold nmU
      rw [hT, show ((p : Int) + 34) = (p : Int) + (34 : Nat) from rfl, show ((p : Int) + 6) = (p : Int) + (6 : Nat) from rfl, show ((p : Int) + 8) = (p : Int) + (8 : Nat) from rfl, show ((p : Int) + 10) = (p : Int) + (10 : Nat) from rfl,
        h.num2 p 34 h1 (by omega), h.num2 p 6 h1 (by omega), h.num2 p 8 h1 (by omega), h.num2 p 10 h1 (by omega)]
theorem Agr.cen (h : Agr l l' lo hi) : ∀ (n p : Nat) (ps : List Nat), lo ≤ p → ps.map (nmU l) = ps.map (nmU l') → cenS l hi n p ps = cenS l' hi n p ps
  | 0, p, ps, _, _ => rfl
  | n + 1, p, ps, h1, hps => by
    unfold cenS
    rw [hps, h.recE p h1]
    by_cases h0 : recS l' hi p (ps.map (nmU l')) = 0
    · rw [if_neg (by simpa using h0), if_neg (by simpa using h0)]
      have hok := recS_ok (by rw [← h.recE p h1] at h0; exact h0)
      rw [← h.szL p h1 hok.1]
      refine h.cen n _ _ (by omega) ?_
      rw [List.map_append, List.map_append, hps]
      have : nmU l p = nmU l' p := by unfold nmU; rw [h.nmT p h1 hok.2.2.1]
      simp [this]
    · rw [if_pos h0, if_pos h0]
end
/-- what is known of central records that were read -/
structure CenK (l : List Int) (fr tt : Nat) (ps : List Nat) : Prop where
  at_ : ∀ p ∈ ps, fr ≤ p ∧ p + szL l p ≤ tt ∧ nameB (nmT l p) = true ∧ (numL l ((p : Int) + 10) 2 = 0 ∨ numL l ((p : Int) + 10) 2 = 8)
  apart : (ps.map (nmU l)).Nodup
theorem cenS_ok {l : List Int} {fr tt : Nat} : ∀ {n p : Nat} {ps qs : List Nat}, fr ≤ p → CenK l fr tt ps → cenS l tt n p ps = .ok qs → CenK l fr tt qs ∧ qs.length = ps.length + n
  | 0, p, ps, qs, _, hk, h => by
    unfold cenS at h
    split at h
    · cases h
    · injection h with h
      subst h
      exact ⟨hk, rfl⟩
  | n + 1, p, ps, qs, hp, hk, h => by
    unfold cenS at h
    split at h
    · cases h
    · rename_i h0
      simp only [ne_eq, Decidable.not_not] at h0
      obtain ⟨h1, h2, h3, h4, h5, h6⟩ := recS_ok h0
      have hk' : CenK l fr tt (ps ++ [p]) := by
        refine ⟨fun q hq => ?_, ?_⟩
        · rcases List.mem_append.1 hq with hq | hq
          · exact hk.at_ q hq
          · obtain rfl := List.mem_singleton.1 hq
            exact ⟨hp, h3, h4, h6⟩
        · rw [List.map_append, List.nodup_append]
          refine ⟨hk.apart, by simp, fun a ha b hb => ?_⟩
          have : b = nmU l p := by simpa using hb
          rintro rfl
          exact h5 (this ▸ ha)
      have := cenS_ok (by omega) hk' h
      rw [List.length_append, List.length_singleton] at this
      exact ⟨this.1, by omega⟩
theorem locsS_len {l : List Int} {fr : Nat} : ∀ {ps bz : List Nat}, locsS l fr ps = some bz → bz.length = ps.length
  | [], bz, h => by injection h with h; subst h; rfl
  | p :: ps, bz, h => by
    unfold locsS at h
    split at h
    · cases h
    · cases h2 : locsS l fr ps with
      | none => rw [h2] at h; cases h
      | some bs => rw [h2] at h; injection h with h; subst h; simp [locsS_len h2]
theorem locsS_at {l : List Int} {fr : Nat} : ∀ {ps bz : List Nat}, locsS l fr ps = some bz → ∀ e ∈ ps.zip bz, locS l fr e.1 = some e.2
  | [], bz, h, e, he => by simp at he
  | p :: ps, bz, h, e, he => by
    unfold locsS at h
    split at h
    · cases h
    · rename_i a ha
      cases h2 : locsS l fr ps with
      | none => rw [h2] at h; cases h
      | some bs =>
        rw [h2] at h; injection h with h; subst h
        rw [List.zip_cons_cons] at he
        rcases List.mem_cons.1 he with rfl | he
        · exact ha
        · exact locsS_at h2 e he
theorem locS_ok {l : List Int} {fr p a : Nat} (h : locS l fr p = some a) : hdL l p + 30 ≤ fr ∧ hdL l p + 30 + nmN l p ≤ a ∧ a + pkL l p ≤ fr ∧ a = hdL l p + 30 + nmN l p + (numL l ((hdL l p : Int) + 28) 2).toNat ∧ kindL l (hdL l p) = 1 ∧ cutOf l (hdL l p + 4) (hdL l p + 28) = cutOf l (p + 6) (p + 30) ∧ strOfNums (cutOf l (hdL l p + 30) (hdL l p + 30 + nmN l p)) = nmT l p := by
  unfold locS at h
  split at h
  · cases h
  · split at h
    · cases h
    · split at h
      · cases h
      · rename_i h1 h2 h3
        injection h with h
        simp only [not_or, Decidable.not_not] at h1 h2 h3
        refine ⟨by omega, by omega, by omega, h.symm, h1.2, h2, h3.2⟩
end Go.Proofs.YtdcpibglbanchaaDoor

set_option linter.unusedVariables false
set_option maxRecDepth 100000
namespace Go.Proofs.YtdcpibglbanchaaDoor
open Go.RowKit Go.Maps Go.ChangeMaps

theorem epS_at (l : List Int) : ∀ k, (epS l k).2 ≠ 0 → endC l (epS l k).1 ∧ (epS l k).1 < k
  | 0, h => absurd rfl h
  | k + 1, h => by
    unfold epS at h ⊢
    split
    · rename_i hc; rw [if_pos hc] at h; exact ⟨hc, Nat.lt_succ_self k⟩
    · rename_i hc; rw [if_neg hc] at h
      have := epS_at l k h
      exact ⟨this.1, Nat.lt_succ_of_lt this.2⟩
theorem endS_ok {l : List Int} (hB : Bytes l) {fr ct : Int} {tt : Nat} (h : endS l = .ok (fr, tt, ct)) : tt + 22 ≤ l.length ∧ ∃ F N : Nat, fr = F ∧ ct = N ∧ F ≤ tt ∧ N ≤ 64 ∧ endC l tt ∧ (epS l (l.length - 21)) = (tt, 1) := by
  unfold endS at h
  simp only at h
  split at h
  · cases h
  · rename_i h1
    split at h
    · cases h
    · rename_i h2
      simp only [not_or, Decidable.not_not] at h1 h2
      injection h with h
      injection h with h3 h4
      injection h4 with h4 h5
      subst h3 h4 h5
      obtain ⟨_, _, _, h6, h7⟩ := h2
      have b10 := numL_bd hB (((epS l (l.length - 21)).1 : Int) + 10) 2 (by decide)
      have b12 := numL_bd hB (((epS l (l.length - 21)).1 : Int) + 12) 4 (by decide)
      have b16 := numL_bd hB (((epS l (l.length - 21)).1 : Int) + 16) 4 (by decide)
      have hat := epS_at l (l.length - 21) (by rw [h1]; decide)
      refine ⟨by omega, _, _, (Int.toNat_of_nonneg b16.1).symm, (Int.toNat_of_nonneg b10.1).symm, by omega, by omega, hat.1, ?_⟩
      rw [← h1]
/-- what Directory answers -/
def DirP (T : TypeId) (l : List Int) (w : World) (e : Ending) (w' : World) : Prop :=
  (∃ er, dirS l = .error er ∧ er ≠ 0 ∧ e = .returned (.tuple #[.slice none 0 0, .int .i64 er]) ∧ Below w.heap.size w w') ∨
  (∃ es V, dirS l = .ok es ∧ e = .returned (.tuple #[V, .int .i64 0]) ∧ w'.ownsRow w.heap.size T 7 V es.length (recR l es) ∧ Below w.heap.size w w')
theorem endS_err {l : List Int} {er : Int} (h : endS l = .error er) : er = 9 ∨ er = 10 := by
  unfold endS at h
  simp only at h
  split at h
  · injection h with h; exact .inl h.symm
  · split at h
    · injection h with h; exact .inr h.symm
    · cases h
theorem dir_end2 {w w1 : World} {b : Option Addr} {c k : Nat} {l : List Int} (hc : l.length ≤ c) (hm : l.length ≤ 65536) (hb : Bs w w.heap.size b l) (hmx : Mx w) (hmp : Mp4 w1 w.heap.size k (sigF true true true)) (hb1 : Below w.heap.size w w1) :
    Calls Tryd.prog 10 #[.pointer (some ⟨w1.heap.size + 1, 0, none⟩)] (dirW w w1 b l.length c) fun e w' => (∃ er, endS l = .error er ∧ er ≠ 0 ∧ e = .returned (.int .i64 er) ∧ Below w.heap.size w w') ∨ (∃ fr tt ct, endS l = .ok (fr, (tt : Nat), ct) ∧ e = .returned (.int .i64 0) ∧ LK w w' (w1.heap.size + 1) w.heap.size k w1.heap.size (w1.heap.size + 2) b l.length c fr (tt : Nat) ct (.slice none 0 0) 0 [] []) := by
  have hnew := heap_alloc_new (w1.alloc (Obj.map #[] 0)) (.cells #[.slice b l.length c, .map (some w.heap.size), .int .i64 0, .int .i64 0, .int .i64 0, .map (some w1.heap.size), .slice none 0 0] 42)
  rw [show (w1.alloc (Obj.map #[] 0)).heap.size = w1.heap.size + 1 by simp] at hnew
  have hbl : Below w1.heap.size w1 (dirW w w1 b l.length c) := ((Below.refl w1.heap.size w1).alloc (Nat.le_refl _) (Obj.map #[] 0)).alloc (by simp) (.cells #[.slice b l.length c, .map (some w.heap.size), .int .i64 0, .int .i64 0, .int .i64 0, .map (some w1.heap.size), .slice none 0 0] 42)
  have hsz := hb1.size
  have hs2 : (dirW w w1 b l.length c).heap.size = w1.heap.size + 2 := by unfold dirW; simp
  have hlow := below_next hb1 (Nat.le_refl _) hbl
  have hmb := hmp.lt
  have hm2 : Mp4 (dirW w w1 b l.length c) w.heap.size k (sigF true true true) := hmp.blk (hbl.block _ hmp.lt)
  have hn1 : NM (w1.alloc (Obj.map #[] 0)) w1.heap.size 0 [] := NM.made w1
  have hn2 : NM (dirW w w1 b l.length c) w1.heap.size 0 [] := hn1.keep ((Below.refl (w1.alloc (Obj.map #[] 0)).heap.size _).alloc (Nat.le_refl _) _ |>.block _ (by simp))
  have hq1 : w.heap.size < (dirW w w1 b l.length c).heap.size := by omega
  have hq2 : w1.heap.size < (dirW w w1 b l.length c).heap.size := by omega
  refine (lkEnd hnew hm2 hc hm (hb.below hlow) (by omega)).mono ?_
  rintro e w' ⟨ho, h⟩
  have hlo := low_only hlow ho (by omega) (Nat.le_refl _)
  rcases h with ⟨er, h1, h2, h3⟩ | ⟨fr, tt, ct, h1, h2, h3⟩
  · exact .inl ⟨er, h1, h2, h3, hlo⟩
  · refine .inr ⟨fr, tt, ct, h1, h2, hlo, hmx.1, Nat.le_refl _, hmb, Nat.lt_succ_self _, Nat.lt_succ_self _, by rw [← hs2]; exact ho.size, h3, hm2.blk (ho.block _ hq1 (by intro e; injection e with e; omega)), hn2.keep (ho.block _ hq2 (by intro e; injection e with e; omega)), World.ownsRow_nil _ _ _ _, hmx.below hlo⟩
set_option maxHeartbeats 4000000 in
theorem dir_is (w : World) (b : Option Addr) (c : Nat) (l : List Int) (hc : l.length ≤ c) (hm : l.length ≤ 65536) (hb : Bs w w.heap.size b l) (hmx : Mx w) : Calls Tryd.prog 5 #[.slice b l.length c] w (DirP 30 l w) := by
  have hmm := @run_makeMap Tryd.prog
  have hsg := sigs_is w
  have hlen : decide ((l.length : Int) > 65536) = false := by simp; omega
  have HB := Lib.hid (And.intro hb hmx)
  have hD : dirS l = match endS l with
    | .error e => .error e
    | .ok (fr, tt, ct) => match cenS l tt ct.toNat fr.toNat [] with
      | .error e => .error e
      | .ok ps => match locsS l fr.toNat ps with
        | none => .error 15
        | some bs => if ovS l [] (ps.zip bs) then .error 16 else .ok (ps.zip bs) := rfl
  have HD := Lib.hid hD
  clear hb hmx hD
  go_enter Tryd.func5, Tryd.ntmps5
  go_wp2_with fail
  refine hsg.mono ?_
  rintro e w1 ⟨k, rfl, hmp, hb1⟩
  have hen := dir_end2 hc hm HB.out.1 HB.out.2 hmp hb1
  clear hsg hmp hb1
  unfold dirW at hen
  go_wp2_with fail
  refine hen.mono ?_
  rintro e w2 (⟨er, h1, h2, rfl, hb2⟩ | ⟨fr, tt, ct, h1, rfl, hL⟩)
  · have t1 : (er != 0) = true := by simp [h2]
    have H2 := Lib.hid (And.intro h1 (And.intro h2 hb2))
    clear hen hb2 h1 h2
    go_wp2_with fail
    go_ret2
    exact .inl ⟨er, by rw [HD.out, H2.out.1], H2.out.2.1, rfl, H2.out.2.2⟩
  · obtain ⟨htt, F, N, rfl, rfl, hF, hN, _, _⟩ := endS_ok HB.out.1.1 h1
    have hce := central_is hL HB.out.1 hc hm (by omega) hF hN
    have HE := Lib.hid (And.intro h1 (And.intro htt hF))
    have HN := Lib.hid hN
    clear hen hL h1 htt hF hN
    go_wp2_with fail
    refine hce.mono ?_
    rintro e w3 (⟨er, h1, h2, rfl, hb2⟩ | ⟨ps, V', h1, rfl, hL3⟩)
    · have t1 : (er != 0) = true := by simp [h2]
      have H2 := Lib.hid (And.intro h1 (And.intro h2 hb2))
      clear hce hb2 h1 h2
      go_wp2_with fail
      go_ret2
      exact .inl ⟨er, by rw [HD.out, HE.out.1]; simp only [Int.toNat_natCast]; rw [H2.out.1], H2.out.2.1, rfl, H2.out.2.2⟩
    · obtain ⟨hck, hpl⟩ := cenS_ok (fr := F) (ps := []) (Nat.le_refl _) ⟨fun p hp => (by cases hp), List.nodup_nil⟩ h1
      have hps : ∀ p ∈ ps, p + szL l p ≤ l.length := fun p hp => by have := (hck.at_ p hp).2.1; have := HE.out.2.1; omega
      have hlo := locals_is hL3 HB.out.1 hc hm (by have := HE.out.2; omega) hps (by rw [hpl]; simpa using HN.out)
      have HC := Lib.hid (And.intro h1 (And.intro hck (And.intro hps hpl)))
      clear hce hL3 h1 hck hps hpl
      go_wp2_with fail
      refine hlo.mono ?_
      rintro e w4 (⟨h1, rfl, hb2⟩ | ⟨bs, h1, rfl, hL4⟩)
      · have H2 := Lib.hid (And.intro h1 hb2)
        clear hlo hb2 h1
        go_wp2_with fail
        go_ret2
        exact .inl ⟨15, by rw [HD.out, HE.out.1]; simp only [Int.toNat_natCast]; rw [HC.out.1]; simp only; rw [H2.out.1], by decide, rfl, H2.out.2⟩
      · have hzl : (ps.zip bs).length = ps.length := by rw [List.length_zip, locsS_len h1]; omega
        have hall : ∀ e ∈ ps.zip bs, e.1 + 30 ≤ l.length ∧ e.2 ≤ 65536 := fun e he => by
          have h2 := HC.out.2.2.1 e.1 (List.of_mem_zip he).1
          have h3 := szL_ge l e.1
          have h4 := locS_ok (locsS_at h1 e he)
          have := HE.out.2
          omega
        have hN64 : ps.length ≤ 64 := by rw [HC.out.2.2.2]; simpa using HN.out
        have hov := overlap_is hL4 hzl hN64 HB.out.1.1 hall
        have H2 := Lib.hid (And.intro h1 (And.intro hzl (And.intro hall hN64)))
        clear hlo hL4 h1 hzl hall hN64
        obtain ⟨O, hO⟩ : ∃ O, ovS l [] (ps.zip bs) = O := ⟨_, rfl⟩
        rw [hO] at hov
        have HO := Lib.hid hO
        clear hO
        go_wp2_with fail
        refine hov.mono ?_
        rintro e w5 ⟨rfl, hL5⟩
        cases O with
        | true =>
          have H3 := Lib.hid hL5.low
          clear hov hL5
          go_wp2_with fail
          go_ret2
          exact .inl ⟨16, by rw [HD.out, HE.out.1]; simp only [Int.toNat_natCast]; rw [HC.out.1]; simp only; rw [H2.out.1]; simp only; rw [HO.out]; rfl, by decide, rfl, H3.out⟩
        | false =>
          have hre := records_is hL5 H2.out.2.1 H2.out.2.2.2 (fun e he => (H2.out.2.2.1 e he).1)
          have H3 := Lib.hid hL5.low
          clear hov hL5
          go_wp2_with fail
          refine hre.mono ?_
          rintro e w6 ⟨V6, rfl, hr6, hb6⟩
          have hsz := H3.out.size
          have H6 := Lib.hid (And.intro (own_base hr6 hsz) (below_next H3.out (Nat.le_refl _) hb6))
          clear hre hr6 hb6 hsz
          go_wp2_with fail
          go_ret2
          refine .inr ⟨ps.zip bs, V6, by rw [HD.out, HE.out.1]; simp only [Int.toNat_natCast]; rw [HC.out.1]; simp only; rw [H2.out.1]; simp only; rw [HO.out]; rfl, rfl, by rw [H2.out.2.1]; exact H6.out.1, H6.out.2⟩
end Go.Proofs.YtdcpibglbanchaaDoor
