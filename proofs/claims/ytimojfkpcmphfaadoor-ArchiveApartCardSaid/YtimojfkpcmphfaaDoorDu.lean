/- Rows of records; what is answered: contract of records. Conditions: the bytes are bytes. -/
import Derived.Test.YtimojfkpcmphfaaDoorDs
set_option linter.unusedVariables false
set_option maxRecDepth 100000
namespace Go.Proofs.YtimojfkpcmphfaaDoor
open Go.RowKit Go.Maps Go.ChangeMaps

theorem rec_info : (Tryd.prog.info? 32).bind (fun i => i.zero.map fun z => (i.size, i.bytes, z.cells.size)) = some (7, 64, 7) := by kernel_rfl
theorem rec_info7 : (Tryd.prog.info? 32).map (·.size) = some 7 := by kernel_rfl
theorem rec_parts : ∃ i z, Tryd.prog.info? 32 = some i ∧ i.zero = some z ∧ i.size = 7 ∧ i.bytes = 64 ∧ z.cells.size = 7 := by
  have h := rec_info
  cases hi : Tryd.prog.info? 32 with
  | none => rw [hi] at h; cases h
  | some i =>
    rw [hi] at h
    cases hz : i.zero with
    | none => simp [hz] at h
    | some z =>
      simp [hz] at h
      exact ⟨i, z, rfl, hz, h.1, h.2.1, h.2.2⟩
theorem rec_ld {ops : Array Oper} {rest : List Oper} {op : Oper} {a : Act} {W : World} {Q : Exit → Act → World → Prop} {x : Operand} {cs : List Value} (hgd : op.guard = none) (ho : op.op = .load 32 x) (b o : Nat) (hx : a.eval x = .pointer (some ⟨b, o, none⟩)) (hs : cs.length = 7) (hr : W.rangeAt b o cs)
    (h : wpList Tryd.prog ops Q rest (a.put op.dst (.agg cs.toArray)) W) : wpList Tryd.prog ops Q (op :: rest) a W :=
  wpList_load_mid hgd 32 x ho b o hx cs _ hr Tryd.underlying32 rfl (by rw [hs]; exact rec_info7) h
theorem y_buildR {a : Act} {w : World} {o : Oper} {k : Nat} {cs : List Value} (hl : cs.length = 7) (ho : o.op = .buildSlice 24 1 #[(0, .tmp k)]) (hx : a.eval (.tmp k) = .agg cs.toArray) : (execOp a.eval o).run Tryd.prog w = .ok (.value (.slice (some ⟨w.heap.size, 0, none⟩) 1 1)) (w.alloc (.cells cs.toArray 32)) := by
  obtain ⟨i, z, hi, hz, h32, h96, hzs⟩ := rec_parts
  have hr : (Instr.buildSlice 24 1 #[(0, .agg cs.toArray)]).run Tryd.prog w = .ok (.slice (some ⟨w.heap.size, 0, none⟩) 1 1) (w.alloc (.cells cs.toArray 32)) :=
    run_buildSlice w _ _ 1 _ _ i z Tryd.underlying24 hi hz (by rw [h32]; decide) (by rw [h32]; decide) (by rw [h32]; exact fill_one 7 cs hl _ (by simp))
  unfold execOp
  simp only [ho, List.map_toArray, List.map, hx, Sem.run_bind, hr]
  rfl
/-- an append of one record that lies in a new block -/
theorem rec_app {w : World} {ops : Array Oper} {rest : List Oper} {o : Oper} {a : Act} {Q : Exit → Act → World → Prop} (hgd : o.guard = none) (s x : Operand)
    (ho : o.op = .call { callee := .builtin .append, args := #[s, x], argTypes := #[24, 24] }) (base : Nat) (v : Value) (n : Nat) (xs : List Value) (hs : a.eval s = v) (hown : w.ownsRow base 32 7 v n xs)
    (q : Nat) (cs : List Value) (hl : cs.length = 7) (hx : a.eval x = .slice (some ⟨q, 0, none⟩) 1 1) (hh : w.heap[q]? = some (.cells cs.toArray 32 (0, 0))) (h1 : ∀ u ∈ cs, u.oneCell' = true) (hn : n ≤ 1000) (hbase : base ≤ w.heap.size)
    (h : ∀ v' w', w'.ownsRow base 32 7 v' (n + 1) (xs ++ cs) → w.grownBy w' v.ownBlock → (v'.ownBlock = v.ownBlock ∨ v'.ownBlock = some w.heap.size) → wpList Tryd.prog ops Q rest (a.put o.dst v') w') : wpList Tryd.prog ops Q (o :: rest) a w := by
  obtain ⟨i, z, hi, hz, h32, h96, hzs⟩ := rec_parts
  obtain ⟨v', w', hr, h2, h3, _, h4⟩ := run_append_own_at (P := Tryd.prog) (w := w) base 24 o.type 32 i z 7 64 Tryd.underlying24 hi hz h32 h96 hzs (by decide) v n xs hown ⟨q, 0, none⟩ 1 1 cs (by rw [hl]) (fun j u hu => by
    rw [show Addr.add ⟨q, 0, none⟩ j = ⟨q, j, none⟩ by simp [Addr.add]; exact fun h => h.symm, blk_cell hh]; simpa using hu) h1 (by unfold maxLen; omega) (by omega) hbase
  exact wpList_val hgd (y_app ho hs hx hr) (h v' w' h2 h3 h4)
/-- the cells of all records -/
def recR (l : List Int) (es : List (Nat × Nat)) : List Value := es.flatMap (recC l)
theorem recC_one (l : List Int) (e : Nat × Nat) : ∀ u ∈ recC l e, u.oneCell' = true := fun u hu => by
  unfold recC at hu
  simp only [List.mem_cons, List.not_mem_nil, or_false] at hu
  rcases hu with rfl | rfl | rfl | rfl | rfl | rfl | rfl <;> rfl
section
variable {W w : World} {g mb k mn base : Nat} {b : Option Addr} {n c : Nat} {fr tt ct : Int} {m : Nat} {ns : List (List UInt8)} {l : List Int} {es : List (Nat × Nat)}
set_option maxHeartbeats 8000000 in
theorem records_is {V : Value} (h : LK W w g mb k mn base b n c fr tt ct V m (fndA l es []) ns) (hm : es.length = m) (hN : m ≤ 64) (hall : ∀ e ∈ es, e.1 + 30 ≤ l.length) :
    Calls Tryd.prog 21 #[.pointer (some ⟨g, 0, none⟩)] w fun e w' => ∃ V', e = .returned V' ∧ w'.ownsRow w.heap.size 32 7 V' m (recR l es) ∧ Below w.heap.size w w' := by
  have c6 : w.cell? ⟨g, 6, none⟩ = some V := by rw [blk_cell h.blk]; rfl
  obtain ⟨aV, cV, rfl⟩ := own_shape h.row
  have hcV := own_cap h.row
  have HL := Lib.hid (And.intro h (And.intro hm hall))
  clear h hall hm
  go_enter Tryd.func21, Tryd.ntmps21
  go_wp2_with fail
  go_loopw [3, 11] (fun v i wr => ∃ (q : Nat), q ≤ m ∧ i = .int .i64 q ∧ Hid (wr.ownsRow w.heap.size 32 7 v q (recR l (es.take q)) ∧ Below w.heap.size w wr)) (fun _ i _ => m - (intOf i).toNat)
  case atStart => exact ⟨0, Nat.zero_le _, rfl, Lib.hid ⟨by simpa [recR] using World.ownsRow_nil _ _ _ _, Below.refl _ _⟩⟩
  case round =>
    obtain ⟨q, hq, rfl, HI⟩ := hrel
    by_cases hlt : q < m
    · obtain ⟨e, he⟩ : ∃ e, es[q]? = some e := ⟨_, List.getElem?_eq_getElem (by rw [HL.out.2.1]; exact hlt)⟩
      have hem : e ∈ es := List.mem_of_getElem? he
      have hLr : LK W wr g mb k mn base b n c fr tt ct (.slice aV m cV) m (fndA l es []) ns := HL.out.1.below HI.out.2
      obtain ⟨G, cp, hV, _, _⟩ := hLr.row.form (by omega)
      injection hV with hV1 _ hV2
      subst hV1
      subst hV2
      have hrg := hLr.ent he HL.out.2.1 HL.out.2.2
      have hfl : (fndE l e).length = 32 := fndC_len (HL.out.2.2 e hem)
      have h1c := fndE_one l e
      have htake : es.take (q + 1) = es.take q ++ [e] := by rw [List.take_add_one, he]; rfl
      have hF : ∀ (wf : World) (o : Obj), wf.heap[wr.heap.size]? = some (.cells (fndE l e).toArray 73 (0, 0)) → Only wr.heap.size (wr.alloc o) wf →
          (Hid (Below w.heap.size w wf ∧ wf.ownsRow w.heap.size 32 7 u3 q (recR l (es.take q))) ∧ (∀ o2, (wf.alloc o2).ownsRow w.heap.size 32 7 u3 q (recR l (es.take q))) ∧ (∀ o2, w.heap.size ≤ (wf.alloc o2).heap.size)) ∧ wf.rangeAt wr.heap.size 0 (recC l e) := fun wf o hwf hof => by
        have hbf : Below wr.heap.size wr wf := low_only ((Below.refl wr.heap.size wr).alloc (Nat.le_refl _) o) hof (Nat.le_refl _) (Nat.le_refl _)
        have hb0 := below_next HI.out.2 (Nat.le_refl _) hbf
        have ho0 := own_below HI.out.1 hbf
        refine ⟨⟨Lib.hid ⟨hb0, ho0⟩, fun o2 => ho0.alloc o2, fun o2 => Nat.le_trans hb0.size (by simp)⟩, fun j v hv => ?_⟩
        rw [Nat.zero_add, blk_cell hwf, List.getElem?_toArray]
        unfold fndE fndC
        have hj : j < 7 := (List.getElem?_eq_some_iff.1 hv).1
        rw [List.append_assoc, List.getElem?_append_left (by rw [recC_len]; exact hj)]
        exact hv
      have hr7 := recC_len l e
      have hr1 := recC_one l e
      have HS := Lib.hid (And.intro htake hLr)
      clear he hem htake hLr c6
      generalize fndE l e = FE at *
      obtain ⟨RC, hRC⟩ : ∃ RC, recC l e = RC := ⟨_, rfl⟩
      rw [hRC] at hr7 hr1
      simp only [hRC] at hF
      have HRC := Lib.hid hRC
      clear hRC
      go_wp2_with (first | (refine fnd_ldo rfl rfl G (q * 32) rfl hfl hrg ?_) | (refine fnd_st rfl rfl wr.heap.size rfl rfl (by simpa using hfl) rfl h1c (heap_alloc_new _ _) ?_; intro wf hwf hof; obtain ⟨⟨HF, hoo, hss⟩, hrc⟩ := hF wf _ hwf hof; clear hwf hof hF) | (refine rec_ld rfl rfl wr.heap.size 0 rfl hr7 hrc ?_) | (refine wpList_val rfl (y_buildR hr7 rfl rfl) ?_) | (at_builtin; refine rec_app rfl _ _ rfl w.heap.size _ q (recR l (es.take q)) rfl (hoo _) wf.heap.size RC hr7 rfl (heap_alloc_new _ _) hr1 (by omega) (hss _) ?_; intro v' w4 ho4 hg4 _; have HG := Lib.hid (And.intro ho4 (grown_below HF.out.1 HF.out.1.size HF.out.2 hg4)); clear ho4 hg4 hoo hss hrc))
      go_roundw
      case rel => exact ⟨q + 1, by omega, by go_num, Lib.hid ⟨by rw [HS.out.1]; unfold recR at HG ⊢; rw [List.flatMap_append]; simp only [List.flatMap_cons, List.flatMap_nil, List.append_nil]; rw [HRC.out]; exact HG.out.1, HG.out.2⟩⟩
      case measure => simp [intOf]; omega
    · obtain rfl : m = q := by omega
      have hT : es.take m = es := List.take_of_length_le (by rw [HL.out.2.1]; exact Nat.le_refl _)
      rw [hT] at HI
      go_wp2_with fail
      go_ret
      exact ⟨_, rfl, HI.out.1, HI.out.2⟩
end
end Go.Proofs.YtimojfkpcmphfaaDoor
