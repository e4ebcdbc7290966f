/- The law ArchiveApart: walk. Condition: the variable internal/bytealg.MaxLen has a value. -/
import Derived.Test.YtimojfkpcmphfaaDoorWATurned
set_option linter.unusedVariables false
set_option maxRecDepth 100000
namespace Go.Proofs.YtimojfkpcmphfaaDoor
open Go.RowKit Go.Maps Go.ChangeMaps

theorem ovS_no {l : List Int} : ∀ (es dn : List (Nat × Nat)), ovS l dn es = false → ∀ (q : Nat) (e : Nat × Nat), es[q]? = some e → (∀ d ∈ dn, onOne l e d = false) ∧ ∀ (k : Nat) (d : Nat × Nat), k < q → es[k]? = some d → onOne l e d = false
  | [], dn, _, q, e, he => by simp at he
  | x :: es, dn, h, q, e, he => by
    unfold ovS at h
    rw [Bool.or_eq_false_iff] at h
    obtain ⟨h1, h2⟩ := h
    cases q with
    | zero =>
      injection he with he
      subst he
      refine ⟨fun d hd => ?_, fun k d hk => absurd hk (Nat.not_lt_zero _)⟩
      rw [List.any_eq_false] at h1
      have := h1 d hd
      simpa using this
    | succ q =>
      have ih := ovS_no es (dn ++ [x]) h2 q e (by simpa using he)
      refine ⟨fun d hd => ih.1 d (by simp [hd]), fun k d hk hd => ?_⟩
      cases k with
      | zero =>
        injection hd with hd
        subst hd
        exact ih.1 x (by simp)
      | succ k => exact ih.2 k d (by omega) (by simpa using hd)
theorem sized_rec (W : World) : (sizeOf (Tryd.prog.elem 24)).run Tryd.prog W = .ok 7 W := by kernel_rfl
theorem elem_rec : Tryd.prog.underlying 24 = some (.slice (Tryd.prog.elem 24)) := by kernel_rfl
theorem cutR_h (g n c hi : Nat) (h : hi ≤ n) (hc : n ≤ c) (h0 : 0 < n) : ∀ W, (Instr.slice 24 (.slice (some ⟨g, 0, none⟩) n c) none (some (.int .i64 hi)) none).run Tryd.prog W = .ok (.slice (some ⟨g, 0, none⟩) hi c) W := by
  intro W
  rw [run_slice_h W 24 (some ⟨g, 0, none⟩) n c elem_rec .i64 hi (by omega) (by omega), sized_rec]
  simp [Result.andThen, sliced, Addr.add]
/-- what is known of one entry -/
theorem DirK.ent {l : List Int} {F T N : Nat} {ps bs : List Nat} (h : DirK l F T N ps bs) {e : Nat × Nat} (he : e ∈ ps.zip bs) :
    nameB (nmT l e.1) = true ∧ (nmT l e.1).size = nmN l e.1 ∧ hdL l e.1 + 30 + nmN l e.1 ≤ e.2 ∧ e.2 + pkL l e.1 ≤ F ∧ F + 22 ≤ l.length ∧ (numL l ((e.1 : Int) + 10) 2 = 0 ∨ numL l ((e.1 : Int) + 10) 2 = 8) ∧ strOfNums (cutOf l (hdL l e.1 + 30) (hdL l e.1 + 30 + nmN l e.1)) = nmT l e.1 := by
  have hk := h.cenk.at_ e.1 (List.of_mem_zip he).1
  have hs := szL_ge l e.1
  have hl := locS_ok (locsS_at h.locs e he)
  have := h.ft
  have := h.tl
  refine ⟨hk.2.2.1, ?_, hl.2.1, hl.2.2.1, by omega, hk.2.2.2, hl.2.2.2.2.2.2⟩
  unfold nmT
  rw [strOf_size, cutOf_len (by omega)]; omega
theorem DirK.unlike {l : List Int} {F T N : Nat} {ps bs : List Nat} (h : DirK l F T N ps bs) {q k : Nat} {e d : Nat × Nat} (hk : k < q) (he : (ps.zip bs)[q]? = some e) (hd : (ps.zip bs)[k]? = some d) : nmU l d.1 ≠ nmU l e.1 := by
  rw [List.getElem?_zip_eq_some] at he hd
  have hn := h.cenk.apart
  intro hh
  have h1 : (ps.map (nmU l))[k]? = some (nmU l d.1) := by rw [List.getElem?_map, hd.1]; rfl
  have h2 : (ps.map (nmU l))[q]? = some (nmU l e.1) := by rw [List.getElem?_map, he.1]; rfl
  obtain ⟨a1, b1⟩ := List.getElem?_eq_some_iff.1 h1
  obtain ⟨a2, b2⟩ := List.getElem?_eq_some_iff.1 h2
  exact (List.pairwise_iff_getElem.1 hn) k q a1 a2 hk (by rw [b1, b2, hh])
def StopHere (p : Prop) : Prop := p
theorem stopHere {p : Prop} (h : StopHere p) : p := h
set_option maxHeartbeats 16000000 in
theorem archiveapart_walk (w : World) (a : Option Addr) (n c : Nat) (l : List Int) (hl : l.length = n) (hc : n ≤ c) (hm : c ≤ 140737488351232) (hA : a = none → c = 0) (hb : Bs w w.heap.size a l) (hmx : Mx w) :
    Calls Tryd.prog 4 #[.slice a n c] w fun e w' => e = .returned (.bool true) ∧ Below w.heap.size w w' := by
  have hf := fixed9 w hmx
  have hn1 : n ≤ 140737488351232 := by omega
  have HB := Lib.hid (And.intro hb (And.intro hmx (And.intro hl (And.intro hc hA))))
  clear hb hmx hA
  by_cases h7 : n > 70000
  · have t1 : decide ((n : Int) > 70000) = true := by simp; omega
    clear h7
    go_enter Tryd.func4, Tryd.ntmps4
    go_wp2_with fail
    refine hf.mono ?_
    rintro e w1 ⟨rfl, hb1⟩
    have H1 := Lib.hid hb1
    clear hf hb1
    go_wp2_with fail
    go_ret
    exact ⟨rfl, H1.out⟩
  · have t1 : decide ((n : Int) > 70000) = false := by simp; omega
    go_enter Tryd.func4, Tryd.ntmps4
    go_wp2_with fail
    refine hf.mono ?_
    rintro e w1 ⟨rfl, hb1⟩
    have H1 := Lib.hid hb1
    have hd := dirX_is w1 a n c l HB.out.2.2.1 hc (by omega) (HB.out.1.next hb1) (HB.out.2.1.below hb1)
    clear hf hb1
    go_wp2_with fail
    refine hd.mono ?_
    rintro e w2 (⟨er, h1, h2, rfl, hb2⟩ | ⟨es, V, h1, h64, rfl, ho, hb2⟩)
    · have t2 : (er != 0) = true := by simp [h2]
      have H2 := Lib.hid (below_next H1.out (Nat.le_refl _) hb2)
      clear hd hb2 h1 h2
      go_wp2_with fail
      go_ret
      exact ⟨rfl, H2.out⟩
    · obtain ⟨aV, cV, rfl⟩ := own_shape ho
      have hcV := own_cap ho
      obtain ⟨hlen, hdS⟩ := dirX_inv h1
      obtain ⟨F, T, N, ps, bs, hK, hes⟩ := dirS_inv HB.out.1.1 hdS
      have hn65 : n ≤ 65536 := by have := HB.out.2.2.1; omega
      obtain ⟨m, hmE⟩ : ∃ m, es.length = m := ⟨_, rfl⟩
      rw [hmE] at ho h64 hcV ⊢
      have t2 : decide ((m : Int) > 64) = false := by simp; omega
      have H2 := Lib.hid (And.intro (below_next H1.out (Nat.le_refl _) hb2) (And.intro ho (And.intro hmE (And.intro hK hes))))
      have hsz1 := H1.out.size
      clear hd hb2 h1 ho hK hes hdS hlen H1 hmE
      go_wp2_with fail
      go_loopw [29] (fun i wr => ∃ q : Nat, q ≤ m ∧ i = .int .i64 q ∧ Hid (Below w2.heap.size w2 wr)) (fun i _ => m - (intOf i).toNat)
      case atStart => exact ⟨0, Nat.zero_le _, rfl, Lib.hid (Below.refl _ _)⟩
      case round =>
        obtain ⟨q, hq, rfl, HI⟩ := hrel
        by_cases hq2 : q < m
        · obtain ⟨e, he⟩ : ∃ e, es[q]? = some e := ⟨_, List.getElem?_eq_getElem (by rw [H2.out.2.2.1]; exact hq2)⟩
          have hem : e ∈ ps.zip bs := by rw [← H2.out.2.2.2.2]; exact List.mem_of_getElem? he
          obtain ⟨f1, f2, f3, f4, f5, f6, f7⟩ := H2.out.2.2.2.1.ent hem
          have hown := own_below H2.out.2.1 HI.out
          obtain ⟨G, cp, hV, _, _⟩ := hown.form (by omega)
          injection hV with hV1 _ hV2
          subst hV1
          subst hV2
          have hrg : wr.rangeAt G (q * 7) (recC l e) := fun j v hv => by
            have hj : j < 7 := (List.getElem?_eq_some_iff.1 hv).1
            rw [hown.cellAt (q * 7 + j) (by omega), recR_at he hj]; exact hv
          have hmth : ∃ me : Nat, numL l ((e.1 : Int) + 10) 2 = me ∧ (me = 0 ∨ me = 8) := by
            rcases f6 with f6 | f6
            · exact ⟨0, f6, .inl rfl⟩
            · exact ⟨8, f6, .inr rfl⟩
          obtain ⟨me, hme, hme2⟩ := hmth
          have hF : ∀ (wf : World) (o : Obj), wf.heap[wr.heap.size]? = some (.cells (recC l e).toArray 32 (0, 0)) → Only wr.heap.size (wr.alloc o) wf →
              Hid (Below w2.heap.size w2 wf ∧ wr.heap.size < wf.heap.size) ∧ wf.cell? ⟨wr.heap.size, 0, none⟩ = some (.string (nmT l e.1)) ∧ wf.cell? ⟨wr.heap.size, 1, none⟩ = some (.int .i64 (me : Nat)) ∧ wf.cell? ⟨wr.heap.size, 2, none⟩ = some (.int .i64 (pkL l e.1)) ∧ wf.cell? ⟨wr.heap.size, 5, none⟩ = some (.int .i64 e.2) ∧ wf.cell? ⟨wr.heap.size, 6, none⟩ = some (.int .i64 (hdL l e.1)) := fun wf o hwf hof => by
            have hbf : Below wr.heap.size wr wf := low_only ((Below.refl wr.heap.size wr).alloc (Nat.le_refl _) o) hof (Nat.le_refl _) (Nat.le_refl _)
            exact ⟨Lib.hid ⟨below_next HI.out (Nat.le_refl _) hbf, blk_lt hwf⟩, by rw [blk_cell hwf]; rfl, by rw [blk_cell hwf, ← hme]; rfl, by rw [blk_cell hwf]; rfl, by rw [blk_cell hwf]; rfl, by rw [blk_cell hwf]; rfl⟩
          have hname : ∀ wk, Below w2.heap.size w2 wk → Calls Tryd.prog 12 #[.string (nmT l e.1)] wk fun e w' => e = .returned (.bool true) ∧ Below wk.heap.size wk w' := fun wk hbk => by
            have := name_is (nmT l e.1) wk (HB.out.2.1.below (below_next H2.out.1 (Nat.le_refl _) hbk))
            rw [f1] at this; exact this
          have hone := all_oneCell_toArray (recC_one l e)
          have h7r := recC_len l e
          have hpair : ∀ k d, k < q → es[k]? = some d → nmU l d.1 ≠ nmU l e.1 ∧ onOne l e d = false := fun k d hk hd => by
            have hes := H2.out.2.2.2.2
            rw [hes] at he hd
            exact ⟨H2.out.2.2.2.1.unlike hk he hd, (ovS_no _ [] H2.out.2.2.2.1.over q e he).2 k d hk hd⟩
          have HP := Lib.hid (And.intro hpair (And.intro f7 hname))
          have hrun := cutR_h G m cV q (by omega) hcV.1 (by omega)
          have hbnd : hdL l e.1 ≤ 65536 ∧ pkL l e.1 ≤ 65536 ∧ e.2 ≤ 65536 := by have := HB.out.2.2.1; omega
          have g3 : hdL l e.1 + 30 + (nmT l e.1).size ≤ e.2 := by omega
          have g4 : e.2 + pkL l e.1 + 22 ≤ n := by have := HB.out.2.2.1; omega
          have HN2 := Lib.hid f2
          clear he hem f1 f2 f3 f4 f5 f6 f7 hown hpair hname hme
          obtain ⟨hd0, hhd0⟩ : ∃ x, hdL l e.1 = x := ⟨_, rfl⟩
          obtain ⟨pk0, hpk0⟩ : ∃ x, pkL l e.1 = x := ⟨_, rfl⟩
          obtain ⟨at0, hat0⟩ : ∃ x, e.2 = x := ⟨_, rfl⟩
          obtain ⟨nt, hnt⟩ : ∃ x, nmT l e.1 = x := ⟨_, rfl⟩
          obtain ⟨RC, hRC⟩ : ∃ x, recC l e = x := ⟨_, rfl⟩
          simp only [hhd0, hpk0, hat0, hnt, hRC] at hF hbnd g3 g4 hrg hone h7r
          rw [hnt] at HP HN2
          have HE := Lib.hid (And.intro hhd0 (And.intro hpk0 (And.intro hat0 (And.intro hnt hRC))))
          clear hhd0 hpk0 hat0 hnt hRC
          have t3 : decide ((at0 : Int) < (hd0 : Int) + 30 + nt.size) = false := by simp; omega
          have t4 : decide ((at0 : Int) > (n : Int) - 22) = false := by simp; omega
          have t4' : decide ((n : Int) - 22 < (at0 : Int)) = false := by simp; omega
          have t5 : decide ((pk0 : Int) > (n : Int) - 22 - at0) = false := by simp; omega
          have t5' : decide ((n : Int) - 22 - at0 < (pk0 : Int)) = false := by simp; omega
          rcases hme2 with rfl | rfl
          all_goals
            go_wp2_with (first | (refine rec_ld rfl rfl G (q * 7) rfl h7r hrg ?_) | (refine rec_st rfl rfl wr.heap.size rfl rfl (by simpa using h7r) rfl hone (heap_alloc_new _ _) ?_; intro wf hwf hof; obtain ⟨HF, x0, x1, x2, x5, x6⟩ := hF wf _ hwf hof; clear hwf hof hF))
            refine (HP.out.2.2 _ HF.out.1).mono ?_
            rintro e w4 ⟨rfl, hb4⟩
            have HW4 := Lib.hid (And.intro (below_next HF.out.1 (Nat.le_refl _) hb4) (Nat.lt_of_lt_of_le HF.out.2 hb4.size))
            have y0 := (hb4.cell (p := ⟨wr.heap.size, 0, none⟩) HF.out.2).trans x0
            have y1 := (hb4.cell (p := ⟨wr.heap.size, 1, none⟩) HF.out.2).trans x1
            have y2 := (hb4.cell (p := ⟨wr.heap.size, 2, none⟩) HF.out.2).trans x2
            have y5 := (hb4.cell (p := ⟨wr.heap.size, 5, none⟩) HF.out.2).trans x5
            have y6 := (hb4.cell (p := ⟨wr.heap.size, 6, none⟩) HF.out.2).trans x6
            clear x0 x1 x2 x5 x6 hb4 HF hrg hone h7r HI
            generalize wr.heap.size = bf at *
            obtain ⟨H30, hH30⟩ : ∃ H30, hd0 + 30 = H30 := ⟨_, rfl⟩
            obtain ⟨X, hX⟩ : ∃ X, H30 + nt.size = X := ⟨_, rfl⟩
            have a1 : IntKind.i64.wrap ((hd0 : Int) + 30) = (H30 : Int) := by rw [IntWalk.i64_in _ (by omega)]; omega
            have a2 : IntKind.i64.wrap ((H30 : Int) + (nt.size : Int)) = (X : Int) := by rw [IntWalk.i64_in _ (by omega)]; omega
            have hbw4 : Below w.heap.size w w4 := below_next H2.out.1 (Nat.le_refl _) HW4.out.1
            obtain ⟨a6, c6, r6, _, b6s, hc6, _, _⟩ := cut_lh a n c l hl hc (fun z => by
              have h0 := HB.out.2.2.2.2 z
              omega) H30 X (by omega) (by omega)
            have hxz : X - H30 = nt.size := by omega
            rw [hxz] at r6
            have hcv : ∀ k, (convert 22 9 (.slice a6 nt.size c6)).run Tryd.prog (w4.drewN k) = .ok (.string nt) (w4.drewN k) := fun k => by
              have h1 := conv_bs (n := nt.size) c6 (b6s _ _ (HB.out.1.next (low_drewN hbw4 k))) (by rw [cutOf_len (by omega)]; omega)
              have h2 := HP.out.2.1
              rw [HE.out.1, ← HN2.out, hH30, hX] at h2
              rw [h2] at h1; exact h1
            have hXn : X ≤ n := by omega
            have h30X : H30 ≤ X := by omega
            have hXa : X ≤ at0 := by omega
            have hXa2 : ¬ at0 < X := by omega
            have hz1 : (0 : Int) ≤ (hd0 : Int) := by omega
            have hz2 : (0 : Int) ≤ (pk0 : Int) := by omega
            clear hxz hbw4 hH30 hX b6s
            go_wp2_with fail
            go_quiet (fail)
            go_wp2_with fail
            clear t3 t4 t4' t5 t5' a1 a2 r6 hcv hXn h30X hXa hXa2 hz1 hz2 y1
            have HY := Lib.hid (And.intro y0 (And.intro y2 (And.intro y5 y6)))
            clear y0 y2 y5 y6
            rename World => wz
            go_loopw [109] (fun i wr => ∃ k : Nat, k ≤ q ∧ i = .int .i64 k ∧ Hid (Below wz.heap.size wz wr)) (fun i _ => q - (intOf i).toNat)
            case atStart => exact ⟨0, Nat.zero_le _, rfl, Lib.hid (low_drewN (Below.refl _ _) _)⟩
            case round =>
              obtain ⟨k, hk, rfl, HJ⟩ := hrel
              have hbwz : Below w2.heap.size w2 wr := below_next HW4.out.1 (Nat.le_refl _) HJ.out
              by_cases hk2 : k < q
              · obtain ⟨d, hd⟩ : ∃ d, es[k]? = some d := ⟨_, List.getElem?_eq_getElem (by rw [H2.out.2.2.1]; omega)⟩
                have hdm : d ∈ ps.zip bs := by rw [← H2.out.2.2.2.2]; exact List.mem_of_getElem? hd
                obtain ⟨_, _, f3, f4, f5, _, _⟩ := H2.out.2.2.2.1.ent hdm
                have hown := own_below H2.out.2.1 hbwz
                have hrg : wr.rangeAt G (k * 7) (recC l d) := fun j v hv => by
                  have hj : j < 7 := (List.getElem?_eq_some_iff.1 hv).1
                  rw [hown.cellAt (k * 7 + j) (by omega), recR_at hd hj]; exact hv
                obtain ⟨hne, hov⟩ := HP.out.1 k d hk2 hd
                have hF2 : ∀ (wf : World) (o : Obj), wf.heap[wr.heap.size]? = some (.cells (recC l d).toArray 32 (0, 0)) → Only wr.heap.size (wr.alloc o) wf →
                    Hid (Below wz.heap.size wz wf) ∧ wf.cell? ⟨wr.heap.size, 0, none⟩ = some (.string (nmT l d.1)) ∧ wf.cell? ⟨wr.heap.size, 2, none⟩ = some (.int .i64 (pkL l d.1)) ∧ wf.cell? ⟨wr.heap.size, 5, none⟩ = some (.int .i64 d.2) ∧ wf.cell? ⟨wr.heap.size, 6, none⟩ = some (.int .i64 (hdL l d.1)) ∧
                    wf.cell? ⟨bf, 0, none⟩ = some (.string nt) ∧ wf.cell? ⟨bf, 2, none⟩ = some (.int .i64 pk0) ∧ wf.cell? ⟨bf, 5, none⟩ = some (.int .i64 at0) ∧ wf.cell? ⟨bf, 6, none⟩ = some (.int .i64 hd0) := fun wf o hwf hof => by
                  have hbf : Below wr.heap.size wr wf := low_only ((Below.refl wr.heap.size wr).alloc (Nat.le_refl _) o) hof (Nat.le_refl _) (Nat.le_refl _)
                  have hbz : Below wz.heap.size wz wf := below_next HJ.out (Nat.le_refl _) hbf
                  exact ⟨Lib.hid hbz, by rw [blk_cell hwf]; rfl, by rw [blk_cell hwf]; rfl, by rw [blk_cell hwf]; rfl, by rw [blk_cell hwf]; rfl, (hbz.cell (p := ⟨bf, 0, none⟩) HW4.out.2).trans HY.out.1, (hbz.cell (p := ⟨bf, 2, none⟩) HW4.out.2).trans HY.out.2.1, (hbz.cell (p := ⟨bf, 5, none⟩) HW4.out.2).trans HY.out.2.2.1, (hbz.cell (p := ⟨bf, 6, none⟩) HW4.out.2).trans HY.out.2.2.2⟩
                have hone := all_oneCell_toArray (recC_one l d)
                have h7r := recC_len l d
                have t6 : ((nmT l d.1).toList == nt.toList) = false := by
                  rw [beq_eq_false_iff_ne, Lib.toList_data, Lib.toList_data]
                  intro z
                  refine hne ?_
                  unfold nmU
                  rw [HE.out.2.2.2.1]; exact z
                have hbd2 : hdL l d.1 ≤ 65536 ∧ pkL l d.1 ≤ 65536 ∧ d.2 ≤ 65536 := by have := HB.out.2.2.1; omega
                unfold onOne at hov
                rw [HE.out.1, HE.out.2.1, HE.out.2.2.1] at hov
                generalize hdL l d.1 = hd1 at *
                generalize pkL l d.1 = pk1 at *
                generalize d.2 = at1 at *
                generalize nmT l d.1 = nt1 at *
                generalize recC l d = RC1 at *
                obtain ⟨e0, he0⟩ : ∃ x, at0 + pk0 = x := ⟨_, rfl⟩
                obtain ⟨e1, he1⟩ : ∃ x, at1 + pk1 = x := ⟨_, rfl⟩
                have s0 : IntKind.i64.wrap ((at0 : Int) + (pk0 : Int)) = (e0 : Int) := by rw [IntWalk.i64_in _ (by omega)]; omega
                have s1 : IntKind.i64.wrap ((at1 : Int) + (pk1 : Int)) = (e1 : Int) := by rw [IntWalk.i64_in _ (by omega)]; omega
                have hcase : (decide ((hd1 : Int) < (e0 : Int)) = false ∧ decide (hd1 < e0) = false) ∨ ((decide ((hd1 : Int) < (e0 : Int)) = true ∧ decide (hd1 < e0) = true) ∧ decide ((hd0 : Int) < (e1 : Int)) = false ∧ decide (hd0 < e1) = false) := by
                  rw [Bool.and_eq_false_iff] at hov
                  by_cases z : hd1 < e0
                  · refine .inr ⟨⟨by simp; omega, by simp; omega⟩, ?_⟩
                    rcases hov with hov | hov
                    · have : ¬ hd0 < at1 + pk1 := by simpa using hov
                      exact ⟨by simp; omega, by simp; omega⟩
                    · have : ¬ hd1 < at0 + pk0 := by simpa using hov
                      omega
                  · exact .inl ⟨by simp; omega, by simp; omega⟩
                have hbe : e0 ≤ 131072 ∧ e1 ≤ 131072 := by omega
                have HEE := Lib.hid (And.intro he0 he1)
                clear hov hne hown hd hdm f3 f4 f5 hbwz he0 he1
                rcases hcase with ⟨t7, t7'⟩ | ⟨⟨t7, t7'⟩, t8, t8'⟩
                · go_wp2_with (first | (refine rec_ld rfl rfl G (k * 7) rfl h7r hrg ?_) | (refine rec_st rfl rfl wr.heap.size rfl rfl (by simpa using h7r) rfl hone (heap_alloc_new _ _) ?_; intro wf hwf hof; obtain ⟨HF, x0, x2, x5, x6, u0, v2, v5, v6⟩ := hF2 wf _ hwf hof; clear hwf hof hF2; refine stopHere ?_))
                  unfold StopHere
                  clear x2 x5 v6
                  go_wp2_with fail
                  refine ⟨⟨k + 1, by omega, by go_num, HF⟩, ?_⟩
                  simp [intOf]; omega
                · go_wp2_with (first | (refine rec_ld rfl rfl G (k * 7) rfl h7r hrg ?_) | (refine rec_st rfl rfl wr.heap.size rfl rfl (by simpa using h7r) rfl hone (heap_alloc_new _ _) ?_; intro wf hwf hof; obtain ⟨HF, x0, x2, x5, x6, u0, v2, v5, v6⟩ := hF2 wf _ hwf hof; clear hwf hof hF2))
                  go_roundw
                  case rel => exact ⟨k + 1, by omega, by go_num, HF⟩
                  case measure => simp [intOf]; omega
              · obtain rfl : q = k := by omega
                go_wp2_with fail
                go_roundw
                case rel => exact ⟨q + 1, by omega, by go_num, Lib.hid hbwz⟩
                case measure => simp [intOf]; omega
        · obtain rfl : m = q := by omega
          go_wp2_with fail
          go_ret
          exact ⟨rfl, below_next H2.out.1 (Nat.le_refl _) HI.out⟩
end Go.Proofs.YtimojfkpcmphfaaDoor
