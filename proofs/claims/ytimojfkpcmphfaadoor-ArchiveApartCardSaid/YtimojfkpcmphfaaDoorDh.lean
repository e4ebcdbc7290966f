/- An entry is kept: contract of keep where the name may stand. Condition: the variable internal/bytealg.MaxLen has a value. -/
import Derived.Test.YtimojfkpcmphfaaDoorDg
set_option linter.unusedVariables false
set_option maxRecDepth 100000
namespace Go.Proofs.YtimojfkpcmphfaaDoor
open Go.RowKit Go.Maps Go.ChangeMaps

/-- where the last region of keep has come to -/
structure KpC (wa wb wc wd : World) (L : Array Bool) (W : World) : Prop where
  c7 : L[7]? = some true → L[4]? = some true ∧ L[6]? = some true
  c6 : L[6]? = some true → L[5]? = some true
  cx : L[10]? = some true → L[7]? = some true
  world : W = if L[10]? = some true then wd else if L[7]? = some true then wc else if L[6]? = some true then wb else wa
theorem set_true {L : Array Bool} {i k : Nat} (h : L[k]? = some true) : (L.setIfInBounds i true)[k]? = some true := by
  by_cases e : i = k
  · subst e
    have hk : i < L.size := by
      rcases Nat.lt_or_ge i L.size with q | q
      · exact q
      · rw [Array.getElem?_eq_none q] at h; cases h
    simp [hk]
  · rw [Array.getElem?_setIfInBounds_ne e]; exact h
theorem set_ne {L : Array Bool} {i k : Nat} (e : i ≠ k) : (L.setIfInBounds i true)[k]? = L[k]? := Array.getElem?_setIfInBounds_ne e
theorem set_same {L : Array Bool} {i : Nat} (h : L[i]? = some false) : (L.setIfInBounds i true)[i]? = some true := by
  have hk : i < L.size := by
    rcases Nat.lt_or_ge i L.size with q | q
    · exact q
    · rw [Array.getElem?_eq_none q] at h; cases h
  simp [hk]
section
variable {wa wb wc wd W : World} {L : Array Bool}
theorem KpC.skip (h : KpC wa wb wc wd L W) (i : Nat) (h6 : i ≠ 6) (h7 : i ≠ 7) (hx : i ≠ 10) : KpC wa wb wc wd (L.setIfInBounds i true) W :=
  ⟨fun q => by rw [set_ne h7] at q; exact ⟨set_true (h.c7 q).1, set_true (h.c7 q).2⟩, fun q => by rw [set_ne h6] at q; exact set_true (h.c6 q), fun q => by rw [set_ne hx] at q; exact set_true (h.cx q), by rw [set_ne hx, set_ne h7, set_ne h6]; exact h.world⟩
theorem KpC.early (h : KpC wa wb wc wd L W) (h7 : L[7]? ≠ some true) : W = wa ∨ W = wb := by
  have hx : L[10]? ≠ some true := fun q => h7 (h.cx q)
  have := h.world
  rw [if_neg hx, if_neg h7] at this
  split at this
  · exact .inr this
  · exact .inl this
theorem KpC.first (h : KpC wa wb wc wd L W) (h6 : L[6]? ≠ some true) : W = wa := by
  have h7 : L[7]? ≠ some true := fun q => h6 (h.c7 q).2
  have hx : L[10]? ≠ some true := fun q => h7 (h.cx q)
  have := h.world
  rw [if_neg hx, if_neg h7, if_neg h6] at this; exact this
theorem KpC.put6 (h : KpC wa wb wc wd L W) (h6 : L[6]? = some false) (h5 : L[5]? = some true) : KpC wa wb wc wd (L.setIfInBounds 6 true) wb := by
  have h7 : L[7]? ≠ some true := fun q => by have := (h.c7 q).2; rw [h6] at this; cases this
  have hx : L[10]? ≠ some true := fun q => h7 (h.cx q)
  refine ⟨fun q => ?_, fun _ => ?_, fun q => ?_, ?_⟩
  · rw [set_ne (by decide)] at q; exact absurd q h7
  · rw [set_ne (by decide)]; exact h5
  · rw [set_ne (by decide)] at q; exact absurd q hx
  · rw [set_ne (by decide), set_ne (by decide), set_same h6, if_neg hx, if_neg h7, if_pos rfl]
theorem KpC.put7 (h : KpC wa wb wc wd L W) (h7 : L[7]? = some false) (h4 : L[4]? = some true) (h6 : L[6]? = some true) : W = wb ∧ KpC wa wb wc wd (L.setIfInBounds 7 true) wc := by
  have h7' : L[7]? ≠ some true := by rw [h7]; decide
  have hx : L[10]? ≠ some true := fun q => h7' (h.cx q)
  refine ⟨?_, fun _ => ?_, fun q => ?_, fun q => ?_, ?_⟩
  · have := h.world
    rw [if_neg hx, if_neg h7', if_pos h6] at this; exact this
  · rw [set_ne (by decide), set_ne (by decide)]; exact ⟨h4, h6⟩
  · rw [set_ne (by decide)] at q ⊢; exact h.c6 q
  · rw [set_ne (by decide)] at q; exact absurd q hx
  · rw [set_ne (by decide), set_same h7, if_neg hx, if_pos rfl]
theorem KpC.putx (h : KpC wa wb wc wd L W) (hx : L[10]? = some false) (h7 : L[7]? = some true) : W = wc ∧ KpC wa wb wc wd (L.setIfInBounds 10 true) wd := by
  have hx' : L[10]? ≠ some true := by rw [hx]; decide
  refine ⟨?_, fun q => ?_, fun q => ?_, fun q => ?_, ?_⟩
  · have := h.world
    rw [if_neg hx', if_pos h7] at this; exact this
  · rw [set_ne (by decide), set_ne (by decide)]; exact h.c7 h7
  · rw [set_ne (by decide)] at q ⊢; exact h.c6 q
  · rw [set_ne (by decide)]; exact h7
  · rw [set_same hx, if_pos rfl]
theorem KpC.last (h : KpC wa wb wc wd L W) (hx : L[10]? = some true) : W = wd := by
  have := h.world
  rw [if_pos hx] at this; exact this
end
theorem y_stF (g k : Nat) (a : Option Addr) (n c : Nat) (old : Value) (W : World) (h : W.cell? ⟨g, k, none⟩ = some old) (hf : W.frozen? ⟨g, k, none⟩ = false) : (Instr.storeAt 44 (.pointer (some ⟨g, k, none⟩)) (.slice a n c)).run Tryd.prog W = .ok () (W.setCell ⟨g, k, none⟩ (.slice a n c)) := by
  simp [Instr.storeAt, Instr.sureAddr, storeVar, Result.andThen, h, hf, go_sem]
theorem lk_fa6 (g : Nat) (W : World) : (Instr.fieldAt 46 (.pointer (some ⟨g, 0, none⟩)) 6).run Tryd.prog W = .ok (.pointer (some ⟨g, 6, none⟩)) W := by kernel_rfl
theorem y_buildF {a : Act} {w : World} {o : Oper} {k : Nat} {cs : List Value} (hl : cs.length = 32) (ho : o.op = .buildSlice 44 1 #[(0, .tmp k)]) (hx : a.eval (.tmp k) = .agg cs.toArray) : (execOp a.eval o).run Tryd.prog w = .ok (.value (.slice (some ⟨w.heap.size, 0, none⟩) 1 1)) (w.alloc (.cells cs.toArray 73)) := by
  obtain ⟨i, z, hi, hz, h32, h96, hzs⟩ := fnd_parts
  have hr : (Instr.buildSlice 44 1 #[(0, .agg cs.toArray)]).run Tryd.prog w = .ok (.slice (some ⟨w.heap.size, 0, none⟩) 1 1) (w.alloc (.cells cs.toArray 73)) :=
    run_buildSlice w _ _ 1 _ _ i z Tryd.underlying44 hi hz (by rw [h32]; decide) (by rw [h32]; decide) (by rw [h32]; exact fill_one 32 cs hl _ (by simp))
  unfold execOp
  simp only [ho, List.map_toArray, List.map, hx, Sem.run_bind, hr]
  rfl
theorem y_app {P : Program} {ρ : Operand → Value} {w w' : World} {o : Oper} {x y : Operand} {t : TypeId} {a b v : Value} (ho : o.op = .call { callee := .builtin .append, args := #[x, y], argTypes := #[t, t] }) (hx : ρ x = a) (hy : ρ y = b) (hr : (Builtin.append_ #[t, t] o.type #[a, b]).run P w = .ok v w') : (execOp ρ o).run P w = .ok (.value v) w' := by
  unfold execOp
  simp only [ho, resolve, invoke, builtin, Sem.run_bind, Sem.run_pure, Result.andThen_ok, List.map_toArray, List.map_cons, List.map_nil, hx, hy, hr]
section
variable {W w : World} {g mb k mn base : Nat} {b : Option Addr} {n c : Nat} {fr tt ct : Int} {V : Value} {m : Nat} {xs : List Value} {ns : List (List UInt8)}
set_option maxHeartbeats 8000000 in
theorem keep_ok (h : LK W w g mb k mn base b n c fr tt ct V m xs ns) (nm : ByteArray) (cs : List Value) (hl : cs.length = 31) (hn : nm.size ≤ 65536) (hgood : nameB nm = true) (hin : ¬ nm.data.toList ∈ ns) (hns : ns.length ≤ 1000) (hm : m ≤ 1000) (h1c : ∀ u ∈ (.string nm :: cs : List Value), u.oneCell' = true) :
    Calls Tryd.prog 43 #[.pointer (some ⟨g, 0, none⟩), .agg (.string nm :: cs).toArray] w fun e w' => e = .returned (.int .i64 0) ∧ ∃ V', LK W w' g mb k mn base b n c fr tt ct V' (m + 1) (xs ++ .string nm :: cs) (ns ++ [nm.data.toList]) := by
  have h1 := h.keepW nm cs
  have hnm := name_is nm (Go.Proofs.YtimojfkpcmphfaaDoor.keepW w nm cs) h1.mx
  rw [hgood] at hnm
  have hnew : (Go.Proofs.YtimojfkpcmphfaaDoor.keepW w nm cs).heap[w.heap.size]? = some (.cells (.string nm :: cs).toArray 73 (0, 0)) := heap_alloc_new w _
  have HL := Lib.hid h1
  have HN := Lib.hid hnew
  clear h h1 hnew
  have hsz : w.heap.size < (Go.Proofs.YtimojfkpcmphfaaDoor.keepW w nm cs).heap.size := by unfold Go.Proofs.YtimojfkpcmphfaaDoor.keepW; simp
  unfold Go.Proofs.YtimojfkpcmphfaaDoor.keepW at hnm
  go_enter Tryd.func43, Tryd.ntmps43
  go_wp2_with fail
  refine hnm.mono ?_
  rintro e w1 ⟨rfl, hb1⟩
  have h1 := HL.out.below hb1
  have hnew1 := (hb1.block _ hsz).trans HN.out
  have c0 : w1.cell? ⟨w.heap.size, 0, none⟩ = some (.string nm) := by rw [blk_cell hnew1]; simp
  have c5 : w1.cell? ⟨g, 5, none⟩ = some (.map (some mn)) := by rw [blk_cell h1.blk]; rfl
  have h2 := h1.below ((Below.refl w1.heap.size w1).alloc (Nat.le_refl _) (.cells #[] 99))
  have hnew2 : (w1.alloc (.cells #[] 99)).heap[w.heap.size]? = some (.cells (.string nm :: cs).toArray 73 (0, 0)) := (((Below.refl w1.heap.size w1).alloc (Nat.le_refl _) (.cells #[] 99)).block _ (blk_lt hnew1)).trans hnew1
  have c0' : (w1.alloc (.cells #[] 99)).cell? ⟨w.heap.size, 0, none⟩ = some (.string nm) := by rw [blk_cell hnew2]; simp
  have c5' : (w1.alloc (.cells #[] 99)).cell? ⟨g, 5, none⟩ = some (.map (some mn)) := by rw [blk_cell h2.blk]; rfl
  have hlook := h2.nam.look hn (W := (w1.alloc (.cells #[] 99)).drew) rfl
  have hlook' := h1.nam.look hn (W := w1.drew) rfl
  rw [decide_eq_false hin] at hlook hlook'
  have H1 := Lib.hid h2
  have HN2 := Lib.hid hnew2
  clear hnm hb1 h1 h2 hnew1 hnew2 hsz
  go_wp2_with fail
  refine' cut_later (fun hT => ?_) ?_
  rotate_left
  focus
    go_region_law (fail)
    all_goals exact hT
  have H3 := Lib.hid (show LK W (w1.alloc (.cells #[] 99)).drew g mb k mn base b n c fr tt ct V m xs ns from H1.out.drew)
  have HN3 : Hid ((w1.alloc (.cells #[] 99)).drew.heap[w.heap.size]? = some (.cells (.string nm :: cs).toArray 73 (0, 0))) := Lib.hid HN2.out
  generalize (w1.alloc (.cells #[] 99)).drew = w2 at *
  clear c0 c5 c0' c5' hlook hlook' H1 HN2
  obtain ⟨w3, hup, hnm3, hg3⟩ := H3.out.nam.put (by unfold maxLen; omega) hn (W := w2.drew) rfl
  have hl4 := H3.out.drew.named hnm3 hg3
  have hne : w.heap.size ≠ mn := by
    have h5 := HL.out.o5; have h4 := HL.out.o4; have h3 := HL.out.o3
    unfold Go.Proofs.YtimojfkpcmphfaaDoor.keepW at h5
    simp at h5
    omega
  have hn4 : w3.heap[w.heap.size]? = some (.cells (.string nm :: cs).toArray 73 (0, 0)) := (hg3.block _ (blk_lt HN3.out) (by intro e; injection e with e; exact hne e)).trans HN3.out
  have c5 : w2.cell? ⟨g, 5, none⟩ = some (.map (some mn)) := by rw [blk_cell H3.out.blk]; rfl
  have c0 : w2.cell? ⟨w.heap.size, 0, none⟩ = some (.string nm) := by rw [blk_cell HN3.out]; simp
  have H4 := Lib.hid (And.intro hl4 hn4)
  clear hnm3 hg3 hl4 hn4 hne
  go_wp2_with fail
  refine' cut_later (fun hT => ?_) ?_
  rotate_left
  focus
    go_region_law (fail)
    all_goals exact hT
  clear c0 c5 hup H3 HN3
  have c6 : w3.cell? ⟨g, 6, none⟩ = some V := by rw [blk_cell H4.out.1.blk]; rfl
  have c6' : (Go.Proofs.YtimojfkpcmphfaaDoor.keepW w3 nm cs).cell? ⟨g, 6, none⟩ = some V := by rw [blk_cell (H4.out.1.keepW nm cs).blk]; rfl
  have hld : (Instr.loadAt 73 (.pointer (some ⟨w.heap.size, 0, none⟩))).run Tryd.prog w3.drew = .ok (.agg (.string nm :: cs).toArray) w3.drew := run_fnd w3.drew _ _ (by simp [hl]) H4.out.2
  have hk4 : LK W (Go.Proofs.YtimojfkpcmphfaaDoor.keepW w3 nm cs).drew g mb k mn base b n c fr tt ct V m xs (ns ++ [nm.data.toList]) := (H4.out.1.keepW nm cs).drew
  obtain ⟨V', w4, happ, ho4, hg4, hob4⟩ := run_app32 (w := (Go.Proofs.YtimojfkpcmphfaaDoor.keepW w3 nm cs).drew) base V m xs hk4.row w3.heap.size (.string nm :: cs) (by simp [hl]) (show (Go.Proofs.YtimojfkpcmphfaaDoor.keepW w3 nm cs).heap[w3.heap.size]? = _ from heap_alloc_new w3 _) h1c hm hk4.o5
  obtain ⟨d6, f6', hk5⟩ := hk4.kept ho4 hg4 hob4
  obtain ⟨a', c', rfl⟩ := own_shape ho4
  have HK := Lib.hid hk5
  clear hk4 ho4 hg4 hob4 hk5 H4
  generalize hX : Value.string nm :: cs = X at *
  have hXl : X.length = 32 := by rw [← hX]; simp [hl]
  have hw5 : (w3.drew.alloc (.cells X.toArray 73)) = (Go.Proofs.YtimojfkpcmphfaaDoor.keepW w3 nm cs).drew := by rw [← hX]; rfl
  generalize (Go.Proofs.YtimojfkpcmphfaaDoor.keepW w3 nm cs).drew = w5 at *
  have c65 : w5.cell? ⟨g, 6, none⟩ = some V := by rw [← hw5]; rw [← hX] at *; exact c6'
  go_upto_region 7 with (fail)
  rename_i hKK
  refine wp_region_listed (C := KpC w3.drew w5 w4 (w4.setCell ⟨g, 6, none⟩ (.slice a' (m + 1) c'))) (G := GV [.pointer (some ⟨g, 0, none⟩), .pointer (some ⟨g, 0, none⟩), .pointer (some ⟨g, 0, none⟩), .pointer (some ⟨g, 6, none⟩), V, .agg X.toArray, .slice (some ⟨w3.heap.size, 0, none⟩) 1 1, .slice a' (m + 1) c', .pointer (some ⟨g, 0, none⟩), .pointer (some ⟨g, 6, none⟩)])
    (by kernel_rfl) (ordL_spec (by kernel_rfl)) (dstB_spec (by kernel_rfl)) (inB_spec (by kernel_rfl)) ⟨fun q => (by simp at q), fun q => (by simp at q), fun q => (by simp at q), by rw [if_neg (by simp), if_neg (by simp), if_neg (by simp)]; rfl⟩ ?step ?fin
  case step =>
    intro i o a1 L W1 ho hli hC hdep hsame
    have hlt11 : i < 11 := lt_of_some ho
    match i, hlt11, ho with
    | 0, _, ho =>
      obtain rfl := Option.some.inj ho
      exact step_val ho rfl (y_move rfl (hsame 0 (notB_spec (by kernel_rfl)))) rfl (hC.skip 0 (by decide) (by decide) (by decide))
    | 1, _, ho =>
      obtain rfl := Option.some.inj ho
      exact step_val ho rfl (y_move rfl (hsame 0 (notB_spec (by kernel_rfl)))) rfl (hC.skip 1 (by decide) (by decide) (by decide))
    | 2, _, ho =>
      obtain rfl := Option.some.inj ho
      exact step_val ho rfl (y_nil rfl ((hdep ⟨1, .data⟩ (by simp) rfl).2 _ _ rfl rfl)) rfl (hC.skip 2 (by decide) (by decide) (by decide))
    | 3, _, ho =>
      obtain rfl := Option.some.inj ho
      exact step_val ho rfl (y_field rfl ((hdep ⟨2, .data⟩ (by simp) rfl).2 _ _ rfl rfl) (lk_fa6 g _)) rfl (hC.skip 3 (by decide) (by decide) (by decide))
    | 4, _, ho =>
      obtain rfl := Option.some.inj ho
      have hc : W1.cell? ⟨g, 6, none⟩ = some V := by
        rcases hC.early (fun q => by have := (hC.c7 q).1; rw [hli] at this; cases this) with rfl | rfl
        · exact c6
        · exact c65
      exact step_val ho rfl (y_load rfl ((hdep ⟨3, .data⟩ (by simp) rfl).2 _ _ rfl rfl) (y_ld3 g 6 _ V _ (by kernel_rfl) hc)) rfl (hC.skip 4 (by decide) (by decide) (by decide))
    | 5, _, ho =>
      obtain rfl := Option.some.inj ho
      obtain rfl := hC.first (fun q => by have := hC.c6 q; rw [hli] at this; cases this)
      exact step_val ho rfl (y_load rfl (hsame 3 (notB_spec (by kernel_rfl))) hld) rfl (hC.skip 5 (by decide) (by decide) (by decide))
    | 6, _, ho =>
      obtain rfl := Option.some.inj ho
      obtain rfl := hC.first (fun q => by rw [hli] at q; cases q)
      have hd := hdep ⟨5, .data⟩ (by simp) rfl
      exact step_val ho rfl (y_buildF hXl rfl (hd.2 _ _ rfl rfl)) rfl (by rw [hw5]; exact hC.put6 hli hd.1)
    | 7, _, ho =>
      obtain rfl := Option.some.inj ho
      have h4 := hdep ⟨4, .data⟩ (by simp) rfl
      have h6 := hdep ⟨6, .data⟩ (by simp) rfl
      obtain ⟨rfl, hC'⟩ := hC.put7 hli h4.1 h6.1
      exact step_val ho rfl (y_app rfl (h4.2 _ _ rfl rfl) (h6.2 _ _ rfl rfl) happ) rfl hC'
    | 8, _, ho =>
      obtain rfl := Option.some.inj ho
      exact step_val ho rfl (y_nil rfl ((hdep ⟨0, .data⟩ (by simp) rfl).2 _ _ rfl rfl)) rfl (hC.skip 8 (by decide) (by decide) (by decide))
    | 9, _, ho =>
      obtain rfl := Option.some.inj ho
      exact step_val ho rfl (y_field rfl ((hdep ⟨8, .data⟩ (by simp) rfl).2 _ _ rfl rfl) (lk_fa6 g _)) rfl (hC.skip 9 (by decide) (by decide) (by decide))
    | 10, _, ho =>
      obtain rfl := Option.some.inj ho
      have h7 := hdep ⟨7, .data⟩ (by simp) rfl
      obtain ⟨rfl, hC'⟩ := hC.putx hli h7.1
      exact step_none ho rfl rfl (y_store rfl ((hdep ⟨9, .data⟩ (by simp) rfl).2 _ _ rfl rfl) (h7.2 _ _ rfl rfl) (y_stF g 6 a' (m + 1) c' V _ d6 f6')) hC'
    | n + 11, h, _ => exact absurd h (by omega)
  case fin =>
    intro a1 L W1 hall hC hgood hsame hsize hdef
    obtain rfl := hC.last (hall 10 (by decide))
    refine hKK _ _ ?_
    have hact := act_of_same (List.range 42) (fun t => decide (32 ≤ t ∧ t ≤ 41)) (by kernel_rfl) (fun t ht => hsame t (wrB_spec (wr := fun t => decide (32 ≤ t ∧ t ≤ 41)) (by kernel_rfl) ht)) hsize hdef
    rw [show List.range 42 = [0, 1, 2, 3, 4, 5, 6, 7, 8, 9, 10, 11, 12, 13, 14, 15, 16, 17, 18, 19, 20, 21, 22, 23, 24, 25, 26, 27, 28, 29, 30, 31, 32, 33, 34, 35, 36, 37, 38, 39, 40, 41] by decide] at hact
    generalize a1.eval = f at hact
    simp only [List.map_cons, List.map_nil] at hact
    simp [Act.eval] at hact
    rw [hact]
    clear hact
    go_wp2_with fail
    go_ret
    exact ⟨rfl, _, HK.out⟩
end
end Go.Proofs.YtimojfkpcmphfaaDoor
