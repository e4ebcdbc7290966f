/- Do entries lie on one another; what is answered: contracts of overlap, records. Conditions: the bytes are bytes. -/
import Derived.Test.YtimojfkpcmphfaaDoorDq
set_option linter.unusedVariables false
set_option maxRecDepth 100000
namespace Go.Proofs.YtimojfkpcmphfaaDoor
open Go.RowKit Go.Maps Go.ChangeMaps

theorem fnd_ldo {ops : Array Oper} {rest : List Oper} {op : Oper} {a : Act} {W : World} {Q : Exit → Act → World → Prop} {x : Operand} {cs : List Value} (hgd : op.guard = none) (ho : op.op = .load 73 x) (b o : Nat) (hx : a.eval x = .pointer (some ⟨b, o, none⟩)) (hs : cs.length = 32) (hr : W.rangeAt b o cs)
    (h : wpList Tryd.prog ops Q rest (a.put op.dst (.agg cs.toArray)) W) : wpList Tryd.prog ops Q (op :: rest) a W :=
  wpList_load_mid hgd 73 x ho b o hx cs _ hr Tryd.underlying73 rfl (by rw [hs]; exact fnd_info32) h
theorem sized_fnd (W : World) : (sizeOf (Tryd.prog.elem 44)).run Tryd.prog W = .ok 32 W := by kernel_rfl
theorem elem_fnd : Tryd.prog.underlying 44 = some (.slice (Tryd.prog.elem 44)) := by kernel_rfl
theorem cutF_h (g n c hi : Nat) (h : hi ≤ n) (hc : n ≤ c) (h0 : 0 < n) : ∀ W, (Instr.slice 44 (.slice (some ⟨g, 0, none⟩) n c) none (some (.int .i64 hi)) none).run Tryd.prog W = .ok (.slice (some ⟨g, 0, none⟩) hi c) W := by
  intro W
  rw [run_slice_h W 44 (some ⟨g, 0, none⟩) n c elem_fnd .i64 hi (by omega) (by omega), sized_fnd]
  simp [Result.andThen, sliced, Addr.add]
/-- the cells of an entry whose local header was read -/
def fndE (l : List Int) (e : Nat × Nat) : List Value := fndC l e (e.2 + pkL l e.1)
theorem fndE_31 {l : List Int} {e : Nat × Nat} (h : e.1 + 30 ≤ l.length) : (fndE l e)[31]? = some (.int .i64 ((e.2 + pkL l e.1 : Nat) : Int)) := by
  unfold fndE fndC
  have hl : (cutOf l (e.1 + 6) (e.1 + 30)).length = 24 := by rw [cutOf_len h]; omega
  rw [List.getElem?_append_right (by rw [List.length_append, List.length_map, recC_len, hl]; decide), List.length_append, List.length_map, recC_len, hl]; rfl
theorem ent_split {l : List Int} {es : List (Nat × Nat)} {q : Nat} {e : Nat × Nat} (he : es[q]? = some e) (hall : ∀ e ∈ es, e.1 + 30 ≤ l.length) :
    ((es.take q).flatMap (fndE l)).length = q * 32 ∧ fndA l es [] = (es.take q).flatMap (fndE l) ++ (fndE l e ++ (es.drop (q + 1)).flatMap (fndE l)) := by
  have hq : q < es.length := (List.getElem?_eq_some_iff.1 he).1
  refine ⟨?_, ?_⟩
  · rw [flat_len (f := fndE l) (k := 32) (fun x hx => fndC_len (hall x (List.mem_of_mem_take hx))), List.length_take]; congr 1; omega
  · have h1 : es = es.take q ++ e :: es.drop (q + 1) := by
      have : es.drop q = e :: es.drop (q + 1) := by rw [List.drop_eq_getElem?_toList_append, he]; rfl
      rw [← this, List.take_append_drop]
    show es.flatMap (fndE l) ++ [] = _
    rw [List.append_nil]
    conv => lhs; rw [h1]
    rw [List.flatMap_append, List.flatMap_cons]
section
variable {W w : World} {g mb k mn base : Nat} {b : Option Addr} {n c : Nat} {fr tt ct : Int} {m : Nat} {ns : List (List UInt8)} {G cp : Nat} {l : List Int} {es : List (Nat × Nat)}
theorem LK.ent {q : Nat} {e : Nat × Nat} (h : LK W w g mb k mn base b n c fr tt ct (.slice (some ⟨G, 0, none⟩) m cp) m (fndA l es []) ns) (he : es[q]? = some e) (hm : es.length = m) (hall : ∀ e ∈ es, e.1 + 30 ≤ l.length) : w.rangeAt G (q * 32) (fndE l e) := fun j v hv => by
  have hq : q < es.length := (List.getElem?_eq_some_iff.1 he).1
  have hfl : (fndE l e).length = 32 := fndC_len (hall e (List.mem_of_getElem? he))
  have hj : j < 32 := by
    rcases Nat.lt_or_ge j 32 with z | z
    · exact z
    · rw [List.getElem?_eq_none (by omega)] at hv; cases hv
  obtain ⟨h1, h2⟩ := ent_split he hall
  have hr := h.row
  rw [h2] at hr
  rw [hr.cellAt (q * 32 + j) (by omega), List.getElem?_append_right (by omega), h1, show q * 32 + j - q * 32 = j by omega, List.getElem?_append_left (by omega)]
  exact hv
theorem fndE_one (l : List Int) (e : Nat × Nat) : (fndE l e).toArray.all (·.oneCell') = true := all_oneCell_toArray (fun u hu => by
  unfold fndE fndC recC at hu
  simp only [List.cons_append, List.nil_append, List.mem_cons, List.mem_append, List.mem_map, List.not_mem_nil, or_false] at hu
  rcases hu with rfl | rfl | rfl | rfl | rfl | rfl | rfl | ⟨y, _, rfl⟩ | rfl <;> rfl)
set_option maxHeartbeats 8000000 in
theorem overlap_is {V : Value} (h : LK W w g mb k mn base b n c fr tt ct V m (fndA l es []) ns) (hm : es.length = m) (hN : m ≤ 64) (hB : Bytes l) (hall : ∀ e ∈ es, e.1 + 30 ≤ l.length ∧ e.2 ≤ 65536) :
    Calls Tryd.prog 20 #[.pointer (some ⟨g, 0, none⟩)] w fun e w' => e = .returned (.bool (ovS l [] es)) ∧ LK W w' g mb k mn base b n c fr tt ct V m (fndA l es []) ns := by
  have c6 : w.cell? ⟨g, 6, none⟩ = some V := by rw [blk_cell h.blk]; rfl
  obtain ⟨aV, cV, rfl⟩ := own_shape h.row
  have hcV := own_cap h.row
  have hbd : ∀ p, hdL l p ≤ 4294967295 ∧ pkL l p ≤ 4294967295 := fun p => by
    have h1 := numL_bd hB ((p : Int) + 42) 4 (by decide)
    have h2 := numL_bd hB ((p : Int) + 20) 4 (by decide)
    unfold hdL pkL; omega
  have HL := Lib.hid (And.intro h (And.intro hm (And.intro hall hbd)))
  clear h hall hbd hm
  go_enter Tryd.func20, Tryd.ntmps20
  go_wp2_with fail
  go_loopw [12] (fun i wr => ∃ (q : Nat), q ≤ m ∧ i = .int .i64 q ∧ Hid (ovS l [] es = ovS l (es.take q) (es.drop q) ∧ LK W wr g mb k mn base b n c fr tt ct (.slice aV m cV) m (fndA l es []) ns)) (fun i _ => m - (intOf i).toNat)
  case atStart => exact ⟨0, Nat.zero_le _, rfl, Lib.hid ⟨rfl, HL.out.1⟩⟩
  case round =>
    obtain ⟨q, hq, rfl, HI⟩ := hrel
    by_cases hlt : q < m
    · obtain ⟨e, he⟩ : ∃ e, es[q]? = some e := ⟨_, List.getElem?_eq_getElem (by rw [HL.out.2.1]; exact hlt)⟩
      have hem : e ∈ es := List.mem_of_getElem? he
      have hal := HL.out.2.2.1
      obtain ⟨G, cp, hV, _, _⟩ := HI.out.2.row.form (by omega)
      injection hV with hV1 _ hV2
      subst hV1
      subst hV2
      have hrg := HI.out.2.ent he HL.out.2.1 (fun x hx => (hal x hx).1)
      have hfl : (fndE l e).length = 32 := fndC_len (hal e hem).1
      have hrun := cutF_h G m cV q (by omega) hcV.1 (by omega)
      have hF : ∀ (wf : World) (o : Obj), wf.heap[wr.heap.size]? = some (.cells (fndE l e).toArray 73 (0, 0)) → Only wr.heap.size (wr.alloc o) wf →
          Hid (LK W wf g mb k mn base b n c fr tt ct (.slice (some ⟨G, 0, none⟩) m cV) m (fndA l es []) ns ∧ wf.heap[wr.heap.size]? = some (.cells (fndE l e).toArray 73 (0, 0)) ∧ wr.heap.size < wf.heap.size) ∧ wf.cell? ⟨g, 6, none⟩ = some (.slice (some ⟨G, 0, none⟩) m cV) := fun wf o hwf hof => by
        have hbf : Below wr.heap.size wr wf := low_only ((Below.refl wr.heap.size wr).alloc (Nat.le_refl _) o) hof (Nat.le_refl _) (Nat.le_refl _)
        have hL := HI.out.2.below hbf
        exact ⟨Lib.hid ⟨hL, hwf, blk_lt hwf⟩, by rw [blk_cell hL.blk]; rfl⟩
      have h1c := fndE_one l e
      have hdrop : es.drop q = e :: es.drop (q + 1) := by rw [List.drop_eq_getElem?_toList_append, he]; rfl
      have htake : es.take (q + 1) = es.take q ++ [e] := by rw [List.take_add_one, he]; rfl
      have hstep : ovS l (es.take q) (es.drop q) = ((es.take q).any (fun d => onOne l e d) || ovS l (es.take (q + 1)) (es.drop (q + 1))) := by rw [hdrop, htake]; rfl
      have hE := HL.out.2.2.2 e.1
      have HS := Lib.hid (And.intro hstep (And.intro he (And.intro hE (hal e hem))))
      clear he hem hal hdrop htake hstep c6 hE
      generalize hFE : fndE l e = FE at *
      have HFE := Lib.hid hFE
      clear hFE
      go_wp2_with (first | (refine fnd_ldo rfl rfl G (q * 32) rfl hfl hrg ?_) | (refine fnd_st rfl rfl wr.heap.size rfl rfl (by simpa using hfl) rfl h1c (heap_alloc_new _ _) ?_; intro wf hwf hof; obtain ⟨HF, c6f⟩ := hF wf _ hwf hof; clear hwf hof hF))
      obtain ⟨bf, hbf⟩ : ∃ bf, wr.heap.size = bf := ⟨_, rfl⟩
      have HIo := Lib.hid HI.out.1
      rw [hbf] at HF ⊢
      clear HI hbf hrg h1c hfl hrun c6f
      rename World => wz
      go_loopw [24] (fun i wr => ∃ (k2 : Nat), k2 ≤ q ∧ i = .int .i64 k2 ∧ Hid ((es.take q).any (fun d => onOne l e d) = ((es.take q).drop k2).any (fun d => onOne l e d) ∧ LK W wr g mb k mn base b n c fr tt ct (.slice (some ⟨G, 0, none⟩) m cV) m (fndA l es []) ns ∧ wr.heap[bf]? = some (.cells FE.toArray 73 (0, 0)))) (fun i _ => q - (intOf i).toNat)
      case atStart => exact ⟨0, Nat.zero_le _, rfl, Lib.hid ⟨rfl, HF.out.1, HF.out.2.1⟩⟩
      case round =>
        obtain ⟨k2, hk2, rfl, HJ⟩ := hrel
        clear HF
        by_cases hlt2 : k2 < q
        · obtain ⟨d, hd⟩ : ∃ d, es[k2]? = some d := ⟨_, List.getElem?_eq_getElem (by rw [HL.out.2.1]; omega)⟩
          have hdm : d ∈ es := List.mem_of_getElem? hd
          have hal := HL.out.2.2.1
          have hrg := HJ.out.2.1.ent hd HL.out.2.1 (fun x hx => (hal x hx).1)
          have hfl : (fndE l d).length = 32 := fndC_len (hal d hdm).1
          have h1c := fndE_one l d
          have hdd : (es.take q).drop k2 = d :: (es.take q).drop (k2 + 1) := by
            have : (es.take q)[k2]? = some d := by rw [List.getElem?_take_of_lt hlt2]; exact hd
            rw [List.drop_eq_getElem?_toList_append, this]; rfl
          have hf6 : (fndE l e)[6]? = some (.int .i64 (hdL l e.1)) := rfl
          have hf31 : (fndE l e)[31]? = some (.int .i64 ((e.2 + pkL l e.1 : Nat) : Int)) := fndE_31 HS.out.2.2.2.1
          have hg31 : (fndE l d)[31]? = some (.int .i64 ((d.2 + pkL l d.1 : Nat) : Int)) := fndE_31 (hal d hdm).1
          rw [HFE.out] at hf6 hf31
          have hF2 : ∀ (wf : World) (o : Obj), wf.heap[wr.heap.size]? = some (.cells (fndE l d).toArray 73 (0, 0)) → Only wr.heap.size (wr.alloc o) wf →
              Hid (LK W wf g mb k mn base b n c fr tt ct (.slice (some ⟨G, 0, none⟩) m cV) m (fndA l es []) ns ∧ wf.heap[bf]? = some (.cells FE.toArray 73 (0, 0))) ∧ wf.cell? ⟨bf, 6, none⟩ = some (.int .i64 (hdL l e.1)) ∧ wf.cell? ⟨bf, 31, none⟩ = some (.int .i64 ((e.2 + pkL l e.1 : Nat) : Int)) ∧ wf.cell? ⟨wr.heap.size, 6, none⟩ = some (.int .i64 (hdL l d.1)) ∧ wf.cell? ⟨wr.heap.size, 31, none⟩ = some (.int .i64 ((d.2 + pkL l d.1 : Nat) : Int)) := fun wf o hwf hof => by
            have hbl : Below wr.heap.size wr wf := low_only ((Below.refl wr.heap.size wr).alloc (Nat.le_refl _) o) hof (Nat.le_refl _) (Nat.le_refl _)
            have hb2 := (hbl.block _ (blk_lt HJ.out.2.2)).trans HJ.out.2.2
            exact ⟨Lib.hid ⟨HJ.out.2.1.below hbl, hb2⟩, by rw [blk_cell hb2, List.getElem?_toArray]; exact hf6, by rw [blk_cell hb2, List.getElem?_toArray]; exact hf31, by rw [blk_cell hwf]; rfl, by rw [blk_cell hwf, List.getElem?_toArray]; exact hg31⟩
          have hon : onOne l e d = (decide (hdL l e.1 < d.2 + pkL l d.1) && decide (hdL l d.1 < e.2 + pkL l e.1)) := rfl
          have hE1 := HS.out.2.2.1
          have hE2 := HL.out.2.2.2 d.1
          have HT := Lib.hid (And.intro hdd hon)
          clear hd hdm hal hf6 hf31 hg31 hdd hon
          generalize fndE l d = FD at *
          generalize hdL l e.1 = he1 at *
          generalize e.2 + pkL l e.1 = en1 at *
          generalize hdL l d.1 = hd1 at *
          generalize d.2 + pkL l d.1 = en2 at *
          by_cases d1 : he1 < en2
          · have t1 : decide ((he1 : Int) < (en2 : Int)) = true := by simp; omega
            have t1' : decide (he1 < en2) = true := by simp; omega
            by_cases d2 : hd1 < en1
            · have t2 : decide ((hd1 : Int) < (en1 : Int)) = true := by simp; omega
              have t2' : decide (hd1 < en1) = true := by simp; omega
              have hO : ovS l [] es = true := by
                rw [HIo.out, HS.out.1, HJ.out.1, HT.out.1, List.any_cons, HT.out.2, t1', t2']; rfl
              have HO := Lib.hid hO
              clear hO
              go_wp2_with (first | (refine fnd_ldo rfl rfl G (k2 * 32) rfl hfl hrg ?_) | (refine fnd_st rfl rfl wr.heap.size rfl rfl (by simpa using hfl) rfl h1c (heap_alloc_new _ _) ?_; intro wf hwf hof; obtain ⟨HF, x6, x31, y6, y31⟩ := hF2 wf _ hwf hof; clear hwf hof hF2))
              go_ret
              exact ⟨by rw [HO.out]; rfl, HF.out.1⟩
            · have t2 : decide ((hd1 : Int) < (en1 : Int)) = false := by simp; omega
              have t2' : decide (hd1 < en1) = false := by simp; omega
              have hO : (es.take q).any (fun d => onOne l e d) = ((es.take q).drop (k2 + 1)).any (fun d => onOne l e d) := by
                rw [HJ.out.1, HT.out.1, List.any_cons, HT.out.2, t1', t2']; rfl
              have HO := Lib.hid hO
              clear hO
              go_wp2_with (first | (refine fnd_ldo rfl rfl G (k2 * 32) rfl hfl hrg ?_) | (refine fnd_st rfl rfl wr.heap.size rfl rfl (by simpa using hfl) rfl h1c (heap_alloc_new _ _) ?_; intro wf hwf hof; obtain ⟨HF, x6, x31, y6, y31⟩ := hF2 wf _ hwf hof; clear hwf hof hF2))
              go_roundw
              case rel => exact ⟨k2 + 1, by omega, by go_num, Lib.hid ⟨HO.out, HF.out.1, HF.out.2⟩⟩
              case measure => simp [intOf]; omega
          · have t1 : decide ((he1 : Int) < (en2 : Int)) = false := by simp; omega
            have t1' : decide (he1 < en2) = false := by simp; omega
            have hO : (es.take q).any (fun d => onOne l e d) = ((es.take q).drop (k2 + 1)).any (fun d => onOne l e d) := by
              rw [HJ.out.1, HT.out.1, List.any_cons, HT.out.2, t1']; rfl
            have HO := Lib.hid hO
            clear hO
            go_wp2_with (first | (refine fnd_ldo rfl rfl G (k2 * 32) rfl hfl hrg ?_) | (refine fnd_st rfl rfl wr.heap.size rfl rfl (by simpa using hfl) rfl h1c (heap_alloc_new _ _) ?_; intro wf hwf hof; obtain ⟨HF, x6, x31, y6, y31⟩ := hF2 wf _ hwf hof; clear hwf hof hF2))
            go_roundw
            case rel => exact ⟨k2 + 1, by omega, by go_num, Lib.hid ⟨HO.out, HF.out.1, HF.out.2⟩⟩
            case measure => simp [intOf]; omega
        · obtain rfl : q = k2 := by omega
          have hO : ovS l [] es = ovS l (es.take (q + 1)) (es.drop (q + 1)) := by
            rw [HIo.out, HS.out.1, HJ.out.1, List.drop_eq_nil_of_le (by rw [List.length_take]; omega)]; rfl
          have HO := Lib.hid hO
          clear hO
          go_wp2_with fail
          go_roundw
          case rel => exact ⟨q + 1, by omega, by go_num, Lib.hid ⟨HO.out, HJ.out.2.1⟩⟩
          case measure => simp [intOf]; omega
    · obtain rfl : m = q := by omega
      have hD : es.drop m = [] := List.drop_eq_nil_of_le (by rw [HL.out.2.1]; exact Nat.le_refl _)
      have hE : ovS l [] es = false := by rw [HI.out.1, hD]; rfl
      have HE := Lib.hid hE
      clear hE hD
      go_wp2_with fail
      go_ret
      exact ⟨by rw [HE.out]; rfl, HI.out.2⟩
end
end Go.Proofs.YtimojfkpcmphfaaDoor
