/- The lengths of a block that tells them, as the document reads them: contract of samovarref06.told, what toldS says. No condition but what the words say. -/
import Derived.Test.YthfhafnffeijpaaGreatDoorRs
import Derived.Test.YthfhafnffeijpaaGreatDoorLl
set_option linter.unusedVariables false
set_option maxRecDepth 100000
namespace Go.Proofs.YthfhafnffeijpaaGreatDoor
open Go.RowKit

/-- what told answers -/
def TolR (w0 : World) (g : Nat) (l : List Int) (s : Except Int (Nat × List Nat × List Nat)) (e : Ending) (w' : World) : Prop :=
  Only g w0 w' ∧ ((∃ (p5 : Nat) (row : List Int) (A C : Nat) (a1 : Option Addr) (c1 : Nat) (a2 : Option Addr) (c2 : Nat), s = (match codeS (row.take A) false with | .error e => .error e | .ok nl => match codeS (row.drop A) true with | .error e => .error e | .ok nd => .ok (p5, nl, nd)) ∧
      e = .returned (.tuple #[.slice a1 A c1, .slice a2 C c2, .int .i64 0]) ∧ Rdr 47 w' g l p5 ∧ row.length = A + C ∧ A ≤ 286 ∧ C ≤ 30 ∧ Ints .i64 w' w'.heap.size a1 (row.take A) ∧ Ints .i64 w' w'.heap.size a2 (row.drop A)) ∨
    (∃ er, s = .error er ∧ er ≠ 0 ∧ e = .returned (.tuple #[.slice none 0 0, .slice none 0 0, .int .i64 er])))
theorem TolR.bad {w0 : World} {g : Nat} {l : List Int} {s : Except Int (Nat × List Nat × List Nat)} {er : Int} {w' : World} (hs : s = .error er) (hne : er ≠ 0) (hf : Only g w0 w') : TolR w0 g l s (.returned (.tuple #[.slice none 0 0, .slice none 0 0, .int .i64 er])) w' := ⟨hf, .inr ⟨er, hs, hne, rfl⟩⟩
theorem told_1 {l : List Int} {p : Nat} {er : Int} (h : takeS l p 5 = .error er) : toldS l p = .error er := by unfold toldS; rw [h]; rfl
theorem told_2 {l : List Int} {p p1 : Nat} {a er : Int} (h : takeS l p 5 = .ok (a, p1)) (h2 : takeS l p1 5 = .error er) : toldS l p = .error er := by
  unfold toldS; rw [h]; simp only [bind, Except.bind]; rw [h2]
theorem told_3 {l : List Int} {p p1 p2 : Nat} {a b er : Int} (h : takeS l p 5 = .ok (a, p1)) (h2 : takeS l p1 5 = .ok (b, p2)) (h3 : takeS l p2 4 = .error er) : toldS l p = .error er := by
  unfold toldS; rw [h]; simp only [bind, Except.bind]; rw [h2]; simp only []; rw [h3]
theorem told_4 {l : List Int} {p p1 p2 p3 A C D : Nat} (h : takeS l p 5 = .ok ((A : Int), p1)) (h2 : takeS l p1 5 = .ok ((C : Int), p2)) (h3 : takeS l p2 4 = .ok ((D : Int), p3)) : toldS l p = toldC l p3 A C D := by
  obtain ⟨e1, rfl, _⟩ := takeS_val h
  obtain ⟨e2, rfl, _⟩ := takeS_val h2
  obtain ⟨e3, rfl, _⟩ := takeS_val h3
  have ht : takesS l p [5, 5, 4] = .ok ([(A : Int), (C : Int), (D : Int)], p + 5 + 5 + 4) := by
    unfold takesS; rw [h]; simp only []
    unfold takesS; rw [h2]; simp only []
    unfold takesS; rw [h3]; simp only []
    rfl
  exact toldS_is ht e1.symm e2.symm e3.symm
theorem ordCells : (arrN 19 fun i => ((tellO.getD i 0 : Nat) : Int)) = #[.int .i64 16, .int .i64 17, .int .i64 18, .int .i64 0, .int .i64 8, .int .i64 7, .int .i64 9, .int .i64 6, .int .i64 10, .int .i64 5, .int .i64 11, .int .i64 4, .int .i64 12, .int .i64 3, .int .i64 13, .int .i64 2, .int .i64 14, .int .i64 1, .int .i64 15] := by rfl

section
variable {ns : List Nat} {l : List Int} {n f p p1 p2 : Nat} {row : List Int} {s : Nat}
theorem lst_bad {er : Int} (hr : row.length < n) (hx : nxS ns l p = .error er) : lensS ns l n (f + 1) p row = .error er := by
  rw [lensS, if_pos hr, lenStep_is, hx]
theorem lst_lit (hr : row.length < n) (hp : p1 ≤ 8 * l.length) (hx : nxS ns l p = .ok ((s : Int), p1)) (hs : s < 16) : lensS ns l n (f + 1) p row = lensS ns l n f p1 (row ++ [(s : Int)]) := by
  rw [lensS, if_pos hr, lenStep_is, hx]
  simp only
  have h1 : repT l p1 row (s : Int) = .ok ((s : Int), 1 + 0, p1) := by
    unfold repT repS
    rw [if_neg (by omega), if_neg (by omega), if_neg (by omega)]
    simp only
    rw [takeS_ok (by omega), tk_zero]
    rfl
  rw [h1]
  simp only
  rw [if_neg (by omega)]
  rfl
theorem lst_none (hr : row.length < n) (h0 : row.length = 0) (hx : nxS ns l p = .ok (16, p1)) : lensS ns l n (f + 1) p row = .error 6 := by
  rw [lensS, if_pos hr, lenStep_is, hx]
  simp only
  have h1 : repT l p1 row 16 = .error 6 := by
    unfold repT repS
    rw [if_pos rfl, if_pos h0]
  rw [h1]
theorem lst_short {v least er : Int} {wd : Nat} (hr : row.length < n) (hx : nxS ns l p = .ok ((s : Int), p1)) (hs : repS row (s : Int) = .ok (v, least, wd)) (ht : takeS l p1 wd = .error er) : lensS ns l n (f + 1) p row = .error er := by
  rw [lensS, if_pos hr, lenStep_is, hx]
  simp only
  have h1 : repT l p1 row (s : Int) = .error er := by
    unfold repT
    rw [hs]
    simp only
    rw [ht]
  rw [h1]
theorem lst_rep {v least k : Int} {wd M : Nat} (hr : row.length < n) (hx : nxS ns l p = .ok ((s : Int), p1)) (hs : repS row (s : Int) = .ok (v, least, wd)) (ht : takeS l p1 wd = .ok (k, p2)) (hM : least + k = M) : lensS ns l n (f + 1) p row = if (n : Int) - row.length < M then .error 6 else lensS ns l n f p2 (row ++ List.replicate M v) := by
  rw [lensS, if_pos hr, lenStep_is, hx]
  simp only
  have h1 : repT l p1 row (s : Int) = .ok (v, (M : Int), p2) := by
    unfold repT
    rw [hs]
    simp only
    rw [ht, ← hM]
  rw [h1]
  simp only
  by_cases h : (n : Int) - row.length < M
  · rw [if_pos h, if_pos h]
  · rw [if_neg h, if_neg h, Int.toNat_natCast]
end
theorem foot_only {T : TypeId} {k : IntKind} {w0 w : World} {base g p : Nat} {v : Value} {l out : List Int} (h : RS T k w0 base g (.slice none 0 0) l w p v out) : Only g w0 w :=
  ⟨h.foot.os, h.foot.tape, h.foot.output, h.foot.size, fun i hi hne => h.foot.block i hi (by rintro (e | e); { exact hne (by rw [e]) }; { simp [Value.ownBlock] at e })⟩
theorem sized_i64 (W : World) : (sizeOf (Tryz.prog.elem 51)).run Tryz.prog W = .ok 1 W := by kernel_rfl
theorem elem_i64 : Tryz.prog.underlying 51 = some (.slice (Tryz.prog.elem 51)) := by kernel_rfl
theorem cutI_h (g n c hi : Nat) (h : hi ≤ n) (hc : n ≤ c) (h0 : 0 < n) : (∀ W, (Instr.sliceAt 51 (.slice (some ⟨g, 0, none⟩) n c) none (some (.int .i64 hi)) none).run Tryz.prog W = .ok (.slice (some ⟨g, 0, none⟩) hi c) W) ∧ (∀ W, (Instr.slice 51 (.slice (some ⟨g, 0, none⟩) n c) none (some (.int .i64 hi)) none).run Tryz.prog W = .ok (.slice (some ⟨g, 0, none⟩) hi c) W) := by
  refine ⟨fun W => ?_, fun W => ?_⟩
  · rw [run_sliceAt_slice _ _ _ _ _ _ elem_i64]
    rw [run_slice_h W 51 (some ⟨g, 0, none⟩) n c elem_i64 .i64 hi (by omega) (by omega), sized_i64]
    simp [Result.andThen, sliced, Addr.add]
  rw [run_slice_h W 51 (some ⟨g, 0, none⟩) n c elem_i64 .i64 hi (by omega) (by omega), sized_i64]
  simp [Result.andThen, sliced, Addr.add]
theorem cutI_l (g n c lo : Nat) (h : lo ≤ n) (hc : n ≤ c) (h0 : lo < c) : (∀ W, (Instr.sliceAt 51 (.slice (some ⟨g, 0, none⟩) n c) (some (.int .i64 lo)) none none).run Tryz.prog W = .ok (.slice (some ⟨g, lo, none⟩) (n - lo) (c - lo)) W) ∧ (∀ W, (Instr.slice 51 (.slice (some ⟨g, 0, none⟩) n c) (some (.int .i64 lo)) none none).run Tryz.prog W = .ok (.slice (some ⟨g, lo, none⟩) (n - lo) (c - lo)) W) := by
  refine ⟨fun W => ?_, fun W => ?_⟩
  · rw [run_sliceAt_slice _ _ _ _ _ _ elem_i64]
    rw [run_slice_l W 51 (some ⟨g, 0, none⟩) n c elem_i64 .i64 lo (by omega) (by omega), sized_i64]
    have : ¬ c = lo := by omega
    simp [Result.andThen, sliced, Addr.add, this]
    try omega
  rw [run_slice_l W 51 (some ⟨g, 0, none⟩) n c elem_i64 .i64 lo (by omega) (by omega), sized_i64]
  have : ¬ c = lo := by omega
  simp [Result.andThen, sliced, Addr.add, this]
  try omega
theorem row_ints {w : World} {base g n c : Nat} {l : List Int} (h : w.ownsRow base 3 1 (.slice (some ⟨g, 0, none⟩) n c) n (l.map (Value.int .i64))) (hn : l.length = n) (hw : ∀ x ∈ l, 0 ≤ x ∧ x ≤ 18) (k : Nat) :
    Ints .i64 w w.heap.size (some ⟨g, 0, none⟩) (l.take k) ∧ Ints .i64 w w.heap.size (some ⟨g, k, none⟩) (l.drop k) := by
  have hg := (h.lt g rfl).2
  have hwf : ∀ x ∈ l, (Lit.int .i64 x).wf = true := fun x hx => by
    have := hw x hx
    simp [Lit.wf, IntKind.min, IntKind.max, IntKind.signed, IntKind.bits]; omega
  have hc : ∀ i, i < l.length → w.cell? ⟨g, i, none⟩ = some (.int .i64 (l.getD i 0)) := fun i hi => by
    rw [h.cellAt i (by omega), List.getElem?_map, List.getD_eq_getElem?_getD, List.getElem?_eq_getElem hi]; rfl
  refine ⟨⟨fun x hx => hwf x (List.mem_of_mem_take hx), fun _ => ⟨g, 0, rfl, hg, fun i hi => ?_⟩⟩, ⟨fun x hx => hwf x (List.mem_of_mem_drop hx), fun _ => ⟨g, k, rfl, hg, fun i hi => ?_⟩⟩⟩
  · rw [List.length_take] at hi
    rw [Nat.zero_add, hc i (by omega)]
    simp [List.getD_eq_getElem?_getD, show i < k by omega]
  · rw [List.length_drop] at hi
    rw [hc (k + i) (by omega)]
    simp [List.getD_eq_getElem?_getD]
set_option maxHeartbeats 8000000 in
theorem refTold {w : World} {g : Nat} {l : List Int} {p : Nat} (h : Rdr 47 w g l p) :
    Calls Tryz.prog 24 #[.pointer (some ⟨g, 0, none⟩)] w (TolR w g l (toldS l p)) := by
  have hg0 : g < w.heap.size := blk_lt h.choose_spec.choose_spec.1
  have hp := h.choose_spec.choose_spec.2.2.2.2.1
  obtain ⟨R0, hR0⟩ : ∃ R0, toldS l p = R0 := ⟨_, rfl⟩
  rw [hR0]
  have HR0 := Lib.hid hR0
  clear hR0
  cases h1 : takeS l p 5 with
  | error er =>
    have hcall := takeR_bad (by decide) h h1
    have HS := Lib.hid (HR0.out.symm.trans (told_1 h1))
    clear h h1 HR0
    go_enter Tryz.func24, Tryz.ntmps24
    go_wp2_with fail
    refine hcall.mono ?_
    rintro e w1 ⟨rfl, hne, _, ho1⟩
    have hd : (er != 0) = true := by simp [hne]
    have HF := Lib.hid (And.intro hne ho1)
    clear hcall hne ho1
    go_wp2_with fail
    go_ret3
    exact TolR.bad HS.out HF.out.1 HF.out.2
  | ok x =>
  obtain ⟨a, p1⟩ := x
  have hcall1 := takeR_ok (by decide) h h1
  obtain ⟨hav, hp1, _⟩ := takeS_val h1
  have hab := tk_bd l p 5
  rw [← hav] at hab
  obtain ⟨A, rfl⟩ := Int.eq_ofNat_of_zero_le hab.1
  clear hav
  cases h2 : takeS l p1 5 with
  | error er =>
    have HS := Lib.hid (HR0.out.symm.trans (told_2 h1 h2))
    clear h h1 HR0
    go_enter Tryz.func24, Tryz.ntmps24
    go_wp2_with fail
    refine hcall1.mono ?_
    rintro e w1 ⟨rfl, hr1, ho1⟩
    have hcall := takeR_bad (by decide) hr1 h2
    have HF := Lib.hid ho1
    clear hcall1 ho1 hr1 h2
    go_wp2_with fail
    refine hcall.mono ?_
    rintro e w2 ⟨rfl, hne, _, ho2⟩
    have hd : (er != 0) = true := by simp [hne]
    have HF2 := Lib.hid (And.intro hne (only_trans HF.out ho2))
    clear hcall hne ho2
    go_wp2_with fail
    go_ret3
    exact TolR.bad HS.out HF2.out.1 HF2.out.2
  | ok x =>
  obtain ⟨b, p2⟩ := x
  obtain ⟨hbv, hp2, _⟩ := takeS_val h2
  have hbb := tk_bd l p1 5
  rw [← hbv] at hbb
  obtain ⟨C, rfl⟩ := Int.eq_ofNat_of_zero_le hbb.1
  clear hbv
  cases h3 : takeS l p2 4 with
  | error er =>
    have HS := Lib.hid (HR0.out.symm.trans (told_3 h1 h2 h3))
    clear h h1 HR0
    go_enter Tryz.func24, Tryz.ntmps24
    go_wp2_with fail
    refine hcall1.mono ?_
    rintro e w1 ⟨rfl, hr1, ho1⟩
    have hcall2 := takeR_ok (by decide) hr1 h2
    have HF := Lib.hid ho1
    clear hcall1 ho1 hr1 h2
    go_wp2_with fail
    refine hcall2.mono ?_
    rintro e w2 ⟨rfl, hr2, ho2⟩
    have hcall := takeR_bad (by decide) hr2 h3
    have HF2 := Lib.hid (only_trans HF.out ho2)
    clear hcall2 ho2 hr2 h3 HF
    go_wp2_with fail
    refine hcall.mono ?_
    rintro e w3 ⟨rfl, hne, _, ho3⟩
    have hd : (er != 0) = true := by simp [hne]
    have HF3 := Lib.hid (And.intro hne (only_trans HF2.out ho3))
    clear hcall hne ho3
    go_wp2_with fail
    go_ret3
    exact TolR.bad HS.out HF3.out.1 HF3.out.2
  | ok x =>
  obtain ⟨dd, p3⟩ := x
  obtain ⟨hdv, hp3, hp38⟩ := takeS_val h3
  have hdb := tk_bd l p2 4
  rw [← hdv] at hdb
  obtain ⟨D, rfl⟩ := Int.eq_ofNat_of_zero_le hdb.1
  clear hdv
  rw [show (2 : Int) ^ 5 = 32 by decide] at hab hbb
  rw [show (2 : Int) ^ 4 = 16 by decide] at hdb
  rw [← hp3] at hp38
  have hs := HR0.out.symm.trans (told_4 h1 h2 h3)
  have HS := Lib.hid hs
  clear hs HR0 hp1 hp2 hp3 h
  go_enter Tryz.func24, Tryz.ntmps24
  go_wp2_with fail
  refine hcall1.mono ?_
  rintro e w1 ⟨rfl, hr1, ho1⟩
  have hcall2 := takeR_ok (by decide) hr1 h2
  have HF1 := Lib.hid ho1
  clear hcall1 ho1 hr1 h2
  go_wp2_with fail
  refine hcall2.mono ?_
  rintro e w2 ⟨rfl, hr2, ho2⟩
  have hcall3 := takeR_ok (by decide) hr2 h3
  have HF2 := Lib.hid (only_trans HF1.out ho2)
  clear hcall2 ho2 hr2 h3 HF1
  go_wp2_with fail
  refine hcall3.mono ?_
  rintro e w3 ⟨rfl, hr3, ho3⟩
  have HF3 := Lib.hid (And.intro hr3 (only_trans HF2.out ho3))
  have hsz3 := ho3.size
  have hsz2 := HF2.out.size
  clear hcall3 ho3 hr3 HF2 h1
  by_cases hbig : 286 < A + 257 ∨ 30 < C + 1
  · have hs := HS.out
    unfold toldC at hs
    rw [if_pos hbig] at hs
    have HE := Lib.hid hs
    clear hs
    by_cases hA : 286 < A + 257
    · go_wp2_with fail
      go_ret3
      exact TolR.bad HE.out (by decide) HF3.out.2
    · have hC : 30 < C + 1 := by omega
      go_wp2_with fail
      go_ret3
      exact TolR.bad HE.out (by decide) HF3.out.2
  · have hA : ¬ 286 < A + 257 := by omega
    have hC : ¬ 30 < C + 1 := by omega
    have hs := HS.out
    unfold toldC at hs
    rw [if_neg hbig] at hs
    have HS2 := Lib.hid hs
    clear hs HS hbig
    have hmk : ∀ W, (Instr.makeSlice 51 (.int .i64 19) (.int .i64 19)).run Tryz.prog W = .ok (.slice (some ⟨W.heap.size, 0, none⟩) 19 19) (W.alloc (.cells (arrN 19 fun _ => 0) 3)) := fun W => run_make_ints 19 (by decide) W
    obtain ⟨w4, hw4⟩ : ∃ w4, (w3.alloc (.cells #[.int .i64 16, .int .i64 17, .int .i64 18, .int .i64 0, .int .i64 8, .int .i64 7, .int .i64 9, .int .i64 6, .int .i64 10, .int .i64 5, .int .i64 11, .int .i64 4, .int .i64 12, .int .i64 3, .int .i64 13, .int .i64 2, .int .i64 14, .int .i64 1, .int .i64 15] 3)).alloc (.cells (arrN 19 fun _ => 0) 3) = w4 := ⟨_, rfl⟩
    have hb34 : Below w3.heap.size w3 w4 := by rw [← hw4]; exact ((Below.refl _ _).alloc (Nat.le_refl _) _).alloc (by simp) _
    have hn1 : w4.heap[w3.heap.size]? = some (.cells (arrN 19 fun i => ((tellO.getD i 0 : Nat) : Int)) 3 (0, 0)) := by rw [← hw4, ordCells, Below.heap_alloc _ _ _ (by simp)]; exact heap_alloc_new w3 _
    have hn2 : w4.heap[w3.heap.size + 1]? = some (.cells (arrN 19 (placed l p3 0)) 3 (0, 0)) := by
      rw [← hw4]
      have := heap_alloc_new (w3.alloc (.cells #[.int .i64 16, .int .i64 17, .int .i64 18, .int .i64 0, .int .i64 8, .int .i64 7, .int .i64 9, .int .i64 6, .int .i64 10, .int .i64 5, .int .i64 11, .int .i64 4, .int .i64 12, .int .i64 3, .int .i64 13, .int .i64 2, .int .i64 14, .int .i64 1, .int .i64 15] 3)) (.cells (arrN 19 fun _ => 0) 3)
      rw [show (w3.alloc (.cells #[.int .i64 16, .int .i64 17, .int .i64 18, .int .i64 0, .int .i64 8, .int .i64 7, .int .i64 9, .int .i64 6, .int .i64 10, .int .i64 5, .int .i64 11, .int .i64 4, .int .i64 12, .int .i64 3, .int .i64 13, .int .i64 2, .int .i64 14, .int .i64 1, .int .i64 15] 3)).heap.size = w3.heap.size + 1 by simp] at this
      rw [this]
      rfl
    have hr4 : Rdr 47 w4 g l p3 := rdr_low' HF3.out.1 hb34 (by omega)
    have ho4 : Only g w w4 := only_trans HF3.out.2 (below_only hb34)
    have HW4 := Lib.hid hw4
    have HQ := Lib.hid (And.intro hr4 (And.intro ho4 (And.intro hn1 hn2)))
    clear hw4 hb34 hn1 hn2 hr4 ho4 HF3
    go_wp2_with fail
    rw [HW4.out]
    clear hmk HW4
    have hgB : g < w3.heap.size := by omega
    have hwB : w.heap.size ≤ w3.heap.size := by omega
    generalize w3.heap.size = B at *
    go_loopw [11] (fun i wr => ∃ k : Nat, k ≤ D + 4 ∧ p3 + 3 * k ≤ 8 * l.length ∧ i = .int .i64 k ∧ Hid (Rdr 47 wr g l (p3 + 3 * k) ∧ Only g w wr ∧ wr.heap[B]? = some (.cells (arrN 19 fun i => ((tellO.getD i 0 : Nat) : Int)) 3 (0, 0)) ∧ wr.heap[B + 1]? = some (.cells (arrN 19 (placed l p3 k)) 3 (0, 0)))) (fun i _ => D + 4 - (intOf i).toNat)
    case atStart => exact ⟨0, Nat.zero_le _, by omega, rfl, HQ⟩
    case round =>
      obtain ⟨k, hk, hpk, rfl, H⟩ := hrel
      by_cases hlt : k < D + 4
      · have hk19 : k < 19 := by omega
        cases ht : takeS l (p3 + 3 * k) 3 with
        | error er =>
          have hcall := takeR_bad (by decide) H.out.1 ht
          have hshort : ¬ p3 + 3 * (D + 4) ≤ 8 * l.length := fun hle => by rw [takeS_ok (by omega)] at ht; cases ht
          have her : er = 2 := by unfold takeS at ht; split at ht; { cases ht }; { injection ht with ht; exact ht.symm }
          have hs := HS2.out
          unfold lcS at hs
          rw [if_neg hshort] at hs
          have HE := Lib.hid hs
          subst her
          clear hs ht hshort
          go_wp2_with fail
          refine hcall.mono ?_
          rintro e w5 ⟨rfl, hne, _, ho5⟩
          have HF := Lib.hid (only_trans H.out.2.1 ho5)
          clear hcall ho5
          go_wp2_with fail
          go_ret3
          exact TolR.bad HE.out (by decide) HF.out
        | ok x =>
          obtain ⟨v, q⟩ := x
          have hcall := takeR_ok (by decide) H.out.1 ht
          obtain ⟨hv, hq, hq8⟩ := takeS_val ht
          subst hq
          clear ht
          go_wp2_with fail
          refine hcall.mono ?_
          rintro e w5 ⟨rfl, hr5, ho5⟩
          have k1 : w5.heap[B]? = some (.cells (arrN 19 fun i => ((tellO.getD i 0 : Nat) : Int)) 3 (0, 0)) := (ho5.block _ (blk_lt H.out.2.2.1) (by intro e; injection e with e; omega)).trans H.out.2.2.1
          have k2 : w5.heap[B + 1]? = some (.cells (arrN 19 (placed l p3 k)) 3 (0, 0)) := (ho5.block _ (blk_lt H.out.2.2.2) (by intro e; injection e with e; omega)).trans H.out.2.2.2
          obtain ⟨t1, t2⟩ := tell_lt k hk19
          have d2 : w5.cell? ⟨B, k, none⟩ = some (.int .i64 ((tellO.getD k 0 : Nat) : Int)) := by rw [blk_cell k1, arrN_get _ _ hk19]
          have d4 := blk_free k2 (tellO.getD k 0)
          have hset := blk_set k2 (tellO.getD k 0) (.int .i64 v)
          rw [hv, arrN_set, placed_set l p3 k hk19] at hset
          rw [← hv] at hset
          have d3 : w5.cell? ⟨B + 1, tellO.getD k 0, none⟩ = some (.int .i64 (placed l p3 k (tellO.getD k 0))) := by rw [blk_cell k2, arrN_get _ _ t1]
          obtain ⟨O, hO⟩ : ∃ O, tellO.getD k 0 = O := ⟨_, rfl⟩
          rw [hO] at d2 d3 d4 hset t1
          have r1 := only_trans H.out.2.1 ho5
          have hog : Only g w (w5.setCell ⟨B + 1, O, none⟩ (.int .i64 v)) := ⟨r1.os, r1.tape, r1.output, by simpa [World.setCell] using r1.size, fun i hi hne => (Below.heap_setCell _ ⟨B + 1, O, none⟩ _ i (by show i ≠ B + 1; omega)).trans (r1.block i hi hne)⟩
          have hbs : Below (B + 1) w5 (w5.setCell ⟨B + 1, O, none⟩ (.int .i64 v)) := ⟨rfl, rfl, rfl, by simp [World.setCell], fun i hi => Below.heap_setCell _ ⟨B + 1, O, none⟩ _ i (by show i ≠ B + 1; omega)⟩
          have hr6 := rdr_low' hr5 hbs (by omega)
          have hk1 : (w5.setCell ⟨B + 1, O, none⟩ (.int .i64 v)).heap[B]? = some (.cells (arrN 19 fun i => ((tellO.getD i 0 : Nat) : Int)) 3 (0, 0)) := (hbs.block B (by omega)).trans k1
          have HE := Lib.hid (And.intro hr6 (And.intro hog (And.intro hk1 hset)))
          have hO0 : (0 : Int) ≤ (O : Int) := by omega
          have hO1 : (O : Int) < 19 := by omega
          clear hcall hr5 ho5 r1 hog hbs hr6 hk1 hset k1 k2 t2 hO hv H HS2
          go_wp2_with fail
          exact ⟨⟨k + 1, by omega, by omega, by go_num, by rw [show p3 + 3 * (k + 1) = p3 + 3 * k + 3 by omega]; exact HE⟩, by simp [intOf]; omega⟩
      · obtain rfl : k = D + 4 := by omega
        rename World => wN
        have hnw := refNew (w := wN) (some ⟨B + 1, 0, none⟩) 19 19 (someS l p3 (D + 4)) (by rw [someS_placed]; simp) (by decide) (someS_ints H.out.2.2.2) false
        have hs := HS2.out
        unfold lcS at hs
        rw [if_pos (by omega)] at hs
        have HS3 := Lib.hid hs
        have HZ := Lib.hid (And.intro H.out.1 H.out.2.1)
        clear hs HS2 H
        go_wp2_with fail
        refine hnw.mono ?_
        rintro e w5 ⟨hb5, cs, h32, hone, rfl, hcd⟩
        have hz := zeroC
        have hsz5 := hb5.size
        have hszr := HZ.out.2.size
        clear hnw
        by_cases he : errN (someS l p3 (D + 4)) false = 0
        · have hcd := hcd he
          rw [he]
          have hs := HS3.out
          rw [if_pos he] at hs
          simp only at hs
          have HS4 := Lib.hid hs
          have HCD := Lib.hid hcd
          have hkr := errN_zr he
          have hns19 : (nsOf (someS l p3 (D + 4))).length = 19 := by simp [nsOf, someS]
          obtain ⟨_, hin, hok⟩ := hkr
          have HKR := Lib.hid (And.intro (okN_kraft hok) (inR_le hin))
          clear hs HS3 hcd he hin hok
          go_wp2_with (refine code_st rfl rfl w5.heap.size rfl rfl h32 zero_size hone (heap_alloc_new w5 _) ?_)
          have hset := setRow_heap (w5.alloc (.cells zeroCode 59)) w5.heap.size _ cs _ _ (heap_alloc_new w5 (.cells zeroCode 59))
          have hoth : ∀ k, k < w5.heap.size → ((w5.alloc (.cells zeroCode 59)).setRow w5.heap.size cs).heap[k]? = w5.heap[k]? := fun k hk => (setRow_other _ _ _ _ (by omega)).trans (Below.heap_alloc w5 _ k hk)
          have hb6 : Below w5.heap.size w5 ((w5.alloc (.cells zeroCode 59)).setRow w5.heap.size cs) := low_setRow ((Below.refl w5.heap.size w5).alloc (Nat.le_refl _) _) (Nat.le_refl _) cs
          have hsz6 : ((w5.alloc (.cells zeroCode 59)).setRow w5.heap.size cs).heap.size = w5.heap.size + 1 := by rw [size_setRow]; simp
          generalize ((w5.alloc (.cells zeroCode 59)).setRow w5.heap.size cs) = w6 at *
          have hbr6 := below_next hb5 (Nat.le_refl _) hb6
          have hr6 := rdr_low' HZ.out.1 hbr6 (by omega)
          have ho6 := only_trans HZ.out.2 (below_only hbr6)
          have hcd := HCD.out.keep fun b hb => hoth b hb.2
          have HQ := Lib.hid (And.intro hr6 (And.intro ho6 (And.intro hcd hset)))
          clear hcd hset hoth hb6 hbr6 hr6 ho6 HCD hb5 HZ
          have hgb : g < w6.heap.size := by omega
          have hR : RS 3 .i64 w6 w6.heap.size g (.slice none 0 0) l w6 (p3 + 3 * (D + 4)) (.slice none 0 0) [] := ⟨HQ.out.1, OwnT.nil _ _, Foot.refl _ _, fun q e => by simp [Value.ownBlock] at e, hgb, Nat.le_refl _⟩
          have HR := Lib.hid hR
          clear hR
          obtain ⟨ns, hns⟩ : ∃ ns, nsOf (someS l p3 (D + 4)) = ns := ⟨_, rfl⟩
          rw [hns] at HS4 HKR hns19 HQ
          clear hns
          obtain ⟨RL, hRL⟩ : ∃ RL, lensS ns l (A + 257 + (C + 1)) (A + 257 + (C + 1) + 1) (p3 + 3 * (D + 4)) [] = RL := ⟨_, rfl⟩
          rw [hRL] at HS4
          have HRL := Lib.hid hRL.symm
          clear hRL
          have hbc : w5.heap.size < w6.heap.size := by omega
          go_wp2_with fail
          generalize w5.heap.size = bc at *
          go_loopg [15] (A + 257 + (C + 1)) (fun K vv wr => ∃ (p' f : Nat) (row : List Int) (a : Option Addr) (c : Nat), vv = .slice a row.length c ∧ A + 257 + (C + 1) + 1 ≤ row.length + f ∧ A + 257 + (C + 1) ≤ row.length + K ∧ row.length ≤ A + 257 + (C + 1) ∧ Hid (RL = lensS ns l (A + 257 + (C + 1)) f p' row ∧ RS 3 .i64 w6 w6.heap.size g (.slice none 0 0) l wr p' (.slice a row.length c) row ∧ (∀ x ∈ row, 0 ≤ x ∧ x ≤ 18)))
          case atStart => exact ⟨_, A + 257 + (C + 1) + 1, [], none, 0, rfl, by simp, by simp, by simp, Lib.hid ⟨HRL.out, HR.out, fun x hx => by cases hx⟩⟩
          case round =>
            obtain ⟨p', f, row, a, c, rfl, hf, hK, hrn, H⟩ := hrel
            obtain ⟨e1, hS, hrow⟩ := H.out
            have hbcc : wr.heap[bc]? = some (.cells cs 59 (0, 0)) := (hS.keep (by omega) (by omega) (by simp [Value.ownBlock])).trans HQ.out.2.2.2
            have hszw := hS.size
            have hfb : ∀ b, (wN.heap.size ≤ b ∧ b < bc) → b < wr.heap.size ∧ b ≠ g := fun b hb => ⟨by omega, by omega⟩
            have hcdr := HQ.out.2.2.1.keep fun b hb => hS.keep (b := b) (by have := hb.2; omega) (by have := hb.1; omega) (by simp [Value.ownBlock])
            obtain ⟨f, rfl⟩ : ∃ f', f = f' + 1 := ⟨f - 1, by omega⟩
            have hpp := hS.inl
            by_cases hlt : row.length < A + 257 + (C + 1)
            · have hlt' : decide ((row.length : Int) < (A : Int) + 257 + ((C : Int) + 1)) = true := by simp; omega
              cases hx : nxS ns l p' with
              | error er =>
                have hcall := nxtR_bad hfb hcdr HKR.out.2 HKR.out.1 hS.rdr hx
                have hs := HS4.out
                rw [e1, lst_bad hlt hx] at hs
                have HE := Lib.hid (And.intro hs hS)
                clear hcdr hS e1 hs hx H HR HRL hrow
                go_wp2_with (refine code_ld rfl rfl bc rfl h32 hbcc ?_)
                refine hcall.mono ?_
                rintro e w7 ⟨y, q, rfl, hne, hr7, ho7⟩
                have hd : (er != 0) = true := by simp [hne]
                have HF := Lib.hid (And.intro hne (only_trans HQ.out.2.1 (foot_only (HE.out.2.only ho7 hr7))))
                clear hcall hr7 ho7 hne hbcc
                go_wp2_with fail
                go_ret3
                exact TolR.bad HE.out.1 HF.out.1 HF.out.2
              | ok x =>
                obtain ⟨v, p1⟩ := x
                obtain ⟨⟨s, hs19, rfl⟩, hpp1, hp1⟩ := nxS_ok hpp hx
                have hcall := nxtR_ok hfb hcdr HKR.out.2 HKR.out.1 hS.rdr hx
                have hs18 : s ≤ 18 := by omega
                have HE := Lib.hid (And.intro e1 (And.intro hx (And.intro hS hrow)))
                clear hcdr hS e1 hx H HR HRL hrow hs19
                go_wp2_with (refine code_ld rfl rfl bc rfl h32 hbcc ?_)
                refine hcall.mono ?_
                rintro e w7 ⟨rfl, hr7, ho7⟩
                have HS2R := Lib.hid (HE.out.2.2.1.only ho7 hr7)
                clear hcall hr7 ho7 hbcc
                by_cases hlit : s < 16
                · have hs := lst_lit (f := f) hlt hp1 HE.out.2.1 hlit
                  have HT := Lib.hid (HE.out.1.trans hs)
                  have hown := HS2R.out.own.is.2
                  have hsz7 := HS2R.out.size
                  clear hs
                  go_wp2_with (at_builtin; refine wpList_appG 51 3 (.int .i64 0) 8 Tryz.underlying51 int_info rfl rfl _ _ rfl w6.heap.size (.slice a row.length c) row.length (row.map (Value.int .i64)) rfl (hown.alloc _) (some ⟨w7.heap.size, 0, none⟩) 1 1 [.int .i64 s] rfl rfl (src_one w7 _ _) (by intro u hu; simp at hu; subst hu; rfl) (by simp) (by simp only [maxLen]; omega) (by omega) (by simp; omega) ?_; intro v8 w8 o8 g8 l8; obtain ⟨a8, c8, rfl⟩ := own_shape o8)
                  have hR8 := (HS2R.out.below ((Below.refl _ _).alloc (Nat.le_refl _) (.cells #[.int .i64 s] 3))).grown (x := [(s : Int)]) (by rw [List.map_append]; exact o8) (by simp) g8 l8
                  have H8 := Lib.hid hR8
                  clear o8 g8 l8 hR8 hown
                  go_roundg (A + 257 + (C + 1) - (row.length + 1))
                  case measure => omega
                  case rel =>
                    exact ⟨p1, f, row ++ [(s : Int)], a8, c8, by simp, by simp; omega, by simp; omega, by simp; omega, Lib.hid ⟨HT.out, by simpa using H8.out, fun x hx => by
                      rcases List.mem_append.1 hx with h | h
                      · exact HE.out.2.2.2 x h
                      · rw [List.mem_singleton.1 h]; omega⟩⟩
                · by_cases h16 : s = 16
                  · subst h16
                    by_cases h0 : row.length = 0
                    · have hs := HS4.out
                      rw [HE.out.1, lst_none hlt h0 HE.out.2.1] at hs
                      have HX := Lib.hid hs
                      clear hs
                      have h00 : ((row.length : Int) == 0) = true := by simp [h0]
                      go_wp2_with fail
                      go_ret3
                      exact TolR.bad HX.out (by decide) (only_trans HQ.out.2.1 (foot_only HS2R.out))
                    · have hrep : repS row ((16 : Nat) : Int) = .ok (row.getD (row.length - 1) 0, 3, 2) := by unfold repS; rw [if_pos (by omega), if_neg h0]
                      have hown0 := HS2R.out.own.is.2
                      obtain ⟨gq, rfl⟩ : ∃ gq, a = some ⟨gq, 0, none⟩ := by
                        rcases hown0.2 with ⟨e, hn⟩ | ⟨gq, cap, cur, e, _⟩
                        · omega
                        · injection e with e1 e2 e3
                          exact ⟨gq, e1⟩
                      obtain ⟨J, hJ⟩ : ∃ J : Nat, row.length - 1 = J := ⟨_, rfl⟩
                      have hJ1 : (row.length : Int) - 1 = (J : Int) := by omega
                      have hJ2 : J < row.length := by omega
                      have hcell : w7.cell? ⟨gq, J, none⟩ = some (.int .i64 (row.getD J 0)) := by
                        rw [hown0.cellAt J (by omega), List.getElem?_map, List.getD_eq_getElem?_getD, List.getElem?_eq_getElem hJ2]; rfl
                      have hXb := HE.out.2.2.2 (row.getD J 0) (by rw [List.getD_eq_getElem?_getD, List.getElem?_eq_getElem hJ2]; exact List.getElem_mem hJ2)
                      rw [hJ] at hrep
                      obtain ⟨X, hX⟩ : ∃ X, row.getD J 0 = X := ⟨_, rfl⟩
                      rw [hX] at hcell hXb hrep
                      clear hX hJ hown0
                      have hcall2 := fun W (hr : Rdr 47 W g l p1) => hr
                      cases ht : takeS l p1 2 with
                      | error er =>
                        have hcall := takeR_bad (by decide) HS2R.out.rdr ht
                        have hs := HS4.out
                        rw [HE.out.1, lst_short hlt HE.out.2.1 hrep ht] at hs
                        have HT := Lib.hid hs
                        clear hs ht hcall2
                        go_wp2_with fail
                        refine hcall.mono ?_
                        rintro e w8 ⟨rfl, hne, hr8, ho8⟩
                        have hd : (er != 0) = true := by simp [hne]
                        have HF := Lib.hid (And.intro hne (only_trans HQ.out.2.1 (foot_only (HS2R.out.only ho8 hr8))))
                        clear hcall hr8 ho8 hne
                        go_wp2_with fail
                        go_ret3
                        exact TolR.bad HT.out HF.out.1 HF.out.2
                      | ok y =>
                        obtain ⟨k, p2⟩ := y
                        obtain ⟨hkv, hp2, hp28⟩ := takeS_val ht
                        rw [← hp2] at hp28
                        have hkb := tk_bd l p1 2
                        rw [← hkv] at hkb
                        have hkb2 : k < 128 := by have := hkb.2; rw [show (2 : Int) ^ 2 = 4 by decide] at this; omega
                        obtain ⟨M, hM⟩ := Int.eq_ofNat_of_zero_le (show (0 : Int) ≤ k + 3 by omega)
                        have hM1 : 3 ≤ M := by omega
                        have hM2 : M < 140 := by omega
                        have hcall := takeR_ok (by decide) HS2R.out.rdr ht
                        have hs := lst_rep (n := A + 257 + (C + 1)) (f := f) hlt HE.out.2.1 hrep ht (M := M) (by omega)
                        have HT := Lib.hid (And.intro (HE.out.1.trans hs) HE.out.2.2.2)
                        clear hs ht hkv hcall2 hkb hp2
                        go_wp2_with fail
                        refine hcall.mono ?_
                        rintro e w8 ⟨rfl, hr8, ho8⟩
                        have HS8 := Lib.hid (HS2R.out.only ho8 hr8)
                        clear hcall hr8 ho8
                        go_wp2_with fail
                        have hM' : (M : Int) - ((0 : Nat) : Int) = (M : Int) := by simp
                        go_loopw [15, 21] (fun vv nv wq => ∃ (j : Nat) (a : Option Addr) (c : Nat), j ≤ M ∧ nv = .int .i64 ((M : Int) - (j : Int)) ∧ vv = .slice a (row.length + j) c ∧ Hid (RS 3 .i64 w6 w6.heap.size g (.slice none 0 0) l wq p2 (.slice a (row.length + j) c) (row ++ List.replicate j X))) (fun _ nv _ => (intOf nv).toNat)
                        case atStart => exact ⟨0, _, c, Nat.zero_le _, by rw [← hM]; simp, rfl, by simpa using HS8⟩
                        case round =>
                          obtain ⟨j, a6, c6, hj, rfl, rfl, HI⟩ := hrel
                          by_cases hjl : j < M
                          · have hown := HI.out.own.is.2
                            have hszi := HI.out.size
                            have hll : (row ++ List.replicate j X).length = row.length + j := by simp
                            have hn0 : decide ((0 : Int) < (M : Int) - (j : Int)) = true := by simp; omega
                            have HLL := Lib.hid hll
                            clear hll hM'
                            go_wp2_with (at_builtin; refine wpList_appG 51 3 (.int .i64 0) 8 Tryz.underlying51 int_info rfl rfl _ _ rfl w6.heap.size (.slice a6 (row.length + j) c6) (row.length + j) ((row ++ List.replicate j X).map (Value.int .i64)) rfl (hown.alloc _) (some ⟨wr.heap.size, 0, none⟩) 1 1 [.int .i64 X] rfl rfl (src_one wr _ _) (by intro u hu; simp at hu; subst hu; rfl) (by simp) (by simp only [maxLen]; omega) (by omega) (by simp; omega) ?_; intro v9 w9 o9 g9 l9; obtain ⟨a9, c9, rfl⟩ := own_shape o9)
                            have hR9 := (HI.out.below ((Below.refl _ _).alloc (Nat.le_refl _) (.cells #[.int .i64 X] 3))).grown (x := [X]) (by rw [List.map_append]; exact o9) (by rw [List.length_append, HLL.out]; rfl) g9 l9
                            rw [List.append_assoc, ← List.replicate_succ'] at hR9
                            have H9 := Lib.hid hR9
                            clear o9 g9 l9 hR9 hown
                            case roundEnd => exact ⟨⟨j + 1, a9, c9, by omega, by go_num, by rw [Nat.add_assoc], H9⟩, by simp [intOf]; omega⟩
                          · have hj' : j = M := by omega
                            subst hj'
                            have hn0 : decide ((0 : Int) < (j : Int) - (j : Int)) = false := by simp
                            by_cases hlong : ((A + 257 + (C + 1) : Nat) : Int) - row.length < j
                            · have hs := HS4.out
                              rw [HT.out.1, if_pos hlong] at hs
                              have HX := Lib.hid hs
                              have hd2 : decide ((A : Int) + 257 + ((C : Int) + 1) < (row.length : Int) + (j : Int)) = true := by simp; omega
                              clear hs hM' hlong
                              go_wp2_with fail
                              go_ret3
                              exact TolR.bad HX.out (by decide) (only_trans HQ.out.2.1 (foot_only HI.out))
                            · have hs := HT.out.1
                              rw [if_neg hlong] at hs
                              have HX := Lib.hid hs
                              have hd2 : decide ((A : Int) + 257 + ((C : Int) + 1) < (row.length : Int) + (j : Int)) = false := by simp; omega
                              clear hs hM'
                              go_wp2_with fail
                              go_roundg (A + 257 + (C + 1) - (row.length + j))
                              case measure => omega
                              case rel =>
                                exact ⟨p2, f, row ++ List.replicate j X, a6, c6, by simp, by simp; omega, by simp; omega, by simp; omega, Lib.hid ⟨HX.out, by simpa using HI.out, fun x hx => by
                                  rcases List.mem_append.1 hx with h | h
                                  · exact HT.out.2 x h
                                  · rw [List.eq_of_mem_replicate h]; exact hXb⟩⟩
                  · by_cases h17 : s = 17
                    · subst h17
                      have hrep : repS row ((17 : Nat) : Int) = .ok (0, 3, 3) := by unfold repS; rw [if_neg (by omega), if_pos (by omega)]
                      have hcall2 := fun W (hr : Rdr 47 W g l p1) => hr
                      cases ht : takeS l p1 3 with
                      | error er =>
                        have hcall := takeR_bad (by decide) HS2R.out.rdr ht
                        have hs := HS4.out
                        rw [HE.out.1, lst_short hlt HE.out.2.1 hrep ht] at hs
                        have HT := Lib.hid hs
                        clear hs ht hcall2
                        go_wp2_with fail
                        refine hcall.mono ?_
                        rintro e w8 ⟨rfl, hne, hr8, ho8⟩
                        have hd : (er != 0) = true := by simp [hne]
                        have HF := Lib.hid (And.intro hne (only_trans HQ.out.2.1 (foot_only (HS2R.out.only ho8 hr8))))
                        clear hcall hr8 ho8 hne
                        go_wp2_with fail
                        go_ret3
                        exact TolR.bad HT.out HF.out.1 HF.out.2
                      | ok y =>
                        obtain ⟨k, p2⟩ := y
                        obtain ⟨hkv, hp2, hp28⟩ := takeS_val ht
                        rw [← hp2] at hp28
                        have hkb := tk_bd l p1 3
                        rw [← hkv] at hkb
                        have hkb2 : k < 128 := by have := hkb.2; rw [show (2 : Int) ^ 3 = 8 by decide] at this; omega
                        obtain ⟨M, hM⟩ := Int.eq_ofNat_of_zero_le (show (0 : Int) ≤ k + 3 by omega)
                        have hM1 : 3 ≤ M := by omega
                        have hM2 : M < 140 := by omega
                        have hcall := takeR_ok (by decide) HS2R.out.rdr ht
                        have hs := lst_rep (n := A + 257 + (C + 1)) (f := f) hlt HE.out.2.1 hrep ht (M := M) (by omega)
                        have HT := Lib.hid (And.intro (HE.out.1.trans hs) HE.out.2.2.2)
                        clear hs ht hkv hcall2 hkb hp2
                        go_wp2_with fail
                        refine hcall.mono ?_
                        rintro e w8 ⟨rfl, hr8, ho8⟩
                        have HS8 := Lib.hid (HS2R.out.only ho8 hr8)
                        clear hcall hr8 ho8
                        go_wp2_with fail
                        have hM' : (M : Int) - ((0 : Nat) : Int) = (M : Int) := by simp
                        go_loopw [15, 21] (fun vv nv wq => ∃ (j : Nat) (a : Option Addr) (c : Nat), j ≤ M ∧ nv = .int .i64 ((M : Int) - (j : Int)) ∧ vv = .slice a (row.length + j) c ∧ Hid (RS 3 .i64 w6 w6.heap.size g (.slice none 0 0) l wq p2 (.slice a (row.length + j) c) (row ++ List.replicate j 0))) (fun _ nv _ => (intOf nv).toNat)
                        case atStart => exact ⟨0, a, c, Nat.zero_le _, by rw [← hM]; simp, rfl, by simpa using HS8⟩
                        case round =>
                          obtain ⟨j, a6, c6, hj, rfl, rfl, HI⟩ := hrel
                          by_cases hjl : j < M
                          · have hown := HI.out.own.is.2
                            have hszi := HI.out.size
                            have hll : (row ++ List.replicate j 0).length = row.length + j := by simp
                            have hn0 : decide ((0 : Int) < (M : Int) - (j : Int)) = true := by simp; omega
                            have HLL := Lib.hid hll
                            clear hll hM'
                            go_wp2_with (at_builtin; refine wpList_appG 51 3 (.int .i64 0) 8 Tryz.underlying51 int_info rfl rfl _ _ rfl w6.heap.size (.slice a6 (row.length + j) c6) (row.length + j) ((row ++ List.replicate j 0).map (Value.int .i64)) rfl (hown.alloc _) (some ⟨wr.heap.size, 0, none⟩) 1 1 [.int .i64 0] rfl rfl (src_one wr _ _) (by intro u hu; simp at hu; subst hu; rfl) (by simp) (by simp only [maxLen]; omega) (by omega) (by simp; omega) ?_; intro v9 w9 o9 g9 l9; obtain ⟨a9, c9, rfl⟩ := own_shape o9)
                            have hR9 := (HI.out.below ((Below.refl _ _).alloc (Nat.le_refl _) (.cells #[.int .i64 0] 3))).grown (x := [0]) (by rw [List.map_append]; exact o9) (by rw [List.length_append, HLL.out]; rfl) g9 l9
                            rw [List.append_assoc, ← List.replicate_succ'] at hR9
                            have H9 := Lib.hid hR9
                            clear o9 g9 l9 hR9 hown
                            case roundEnd => exact ⟨⟨j + 1, a9, c9, by omega, by go_num, by rw [Nat.add_assoc], H9⟩, by simp [intOf]; omega⟩
                          · have hj' : j = M := by omega
                            subst hj'
                            have hn0 : decide ((0 : Int) < (j : Int) - (j : Int)) = false := by simp
                            by_cases hlong : ((A + 257 + (C + 1) : Nat) : Int) - row.length < j
                            · have hs := HS4.out
                              rw [HT.out.1, if_pos hlong] at hs
                              have HX := Lib.hid hs
                              have hd2 : decide ((A : Int) + 257 + ((C : Int) + 1) < (row.length : Int) + (j : Int)) = true := by simp; omega
                              clear hs hM' hlong
                              go_wp2_with fail
                              go_ret3
                              exact TolR.bad HX.out (by decide) (only_trans HQ.out.2.1 (foot_only HI.out))
                            · have hs := HT.out.1
                              rw [if_neg hlong] at hs
                              have HX := Lib.hid hs
                              have hd2 : decide ((A : Int) + 257 + ((C : Int) + 1) < (row.length : Int) + (j : Int)) = false := by simp; omega
                              clear hs hM'
                              go_wp2_with fail
                              go_roundg (A + 257 + (C + 1) - (row.length + j))
                              case measure => omega
                              case rel =>
                                exact ⟨p2, f, row ++ List.replicate j 0, a6, c6, by simp, by simp; omega, by simp; omega, by simp; omega, Lib.hid ⟨HX.out, by simpa using HI.out, fun x hx => by
                                  rcases List.mem_append.1 hx with h | h
                                  · exact HT.out.2 x h
                                  · rw [List.eq_of_mem_replicate h]; exact ⟨by decide, by decide⟩⟩⟩
                    · obtain rfl : s = 18 := by omega
                      have hrep : repS row ((18 : Nat) : Int) = .ok (0, 11, 7) := by unfold repS; rw [if_neg (by omega), if_neg (by omega), if_pos (by omega)]
                      have hcall2 := fun W (hr : Rdr 47 W g l p1) => hr
                      cases ht : takeS l p1 7 with
                      | error er =>
                        have hcall := takeR_bad (by decide) HS2R.out.rdr ht
                        have hs := HS4.out
                        rw [HE.out.1, lst_short hlt HE.out.2.1 hrep ht] at hs
                        have HT := Lib.hid hs
                        clear hs ht hcall2
                        go_wp2_with fail
                        refine hcall.mono ?_
                        rintro e w8 ⟨rfl, hne, hr8, ho8⟩
                        have hd : (er != 0) = true := by simp [hne]
                        have HF := Lib.hid (And.intro hne (only_trans HQ.out.2.1 (foot_only (HS2R.out.only ho8 hr8))))
                        clear hcall hr8 ho8 hne
                        go_wp2_with fail
                        go_ret3
                        exact TolR.bad HT.out HF.out.1 HF.out.2
                      | ok y =>
                        obtain ⟨k, p2⟩ := y
                        obtain ⟨hkv, hp2, hp28⟩ := takeS_val ht
                        rw [← hp2] at hp28
                        have hkb := tk_bd l p1 7
                        rw [← hkv] at hkb
                        have hkb2 : k < 128 := by have := hkb.2; rw [show (2 : Int) ^ 7 = 128 by decide] at this; omega
                        obtain ⟨M, hM⟩ := Int.eq_ofNat_of_zero_le (show (0 : Int) ≤ k + 11 by omega)
                        have hM1 : 11 ≤ M := by omega
                        have hM2 : M < 140 := by omega
                        have hcall := takeR_ok (by decide) HS2R.out.rdr ht
                        have hs := lst_rep (n := A + 257 + (C + 1)) (f := f) hlt HE.out.2.1 hrep ht (M := M) (by omega)
                        have HT := Lib.hid (And.intro (HE.out.1.trans hs) HE.out.2.2.2)
                        clear hs ht hkv hcall2 hkb hp2
                        go_wp2_with fail
                        refine hcall.mono ?_
                        rintro e w8 ⟨rfl, hr8, ho8⟩
                        have HS8 := Lib.hid (HS2R.out.only ho8 hr8)
                        clear hcall hr8 ho8
                        go_wp2_with fail
                        have hM' : (M : Int) - ((0 : Nat) : Int) = (M : Int) := by simp
                        go_loopw [15, 21] (fun vv nv wq => ∃ (j : Nat) (a : Option Addr) (c : Nat), j ≤ M ∧ nv = .int .i64 ((M : Int) - (j : Int)) ∧ vv = .slice a (row.length + j) c ∧ Hid (RS 3 .i64 w6 w6.heap.size g (.slice none 0 0) l wq p2 (.slice a (row.length + j) c) (row ++ List.replicate j 0))) (fun _ nv _ => (intOf nv).toNat)
                        case atStart => exact ⟨0, a, c, Nat.zero_le _, by rw [← hM]; simp, rfl, by simpa using HS8⟩
                        case round =>
                          obtain ⟨j, a6, c6, hj, rfl, rfl, HI⟩ := hrel
                          by_cases hjl : j < M
                          · have hown := HI.out.own.is.2
                            have hszi := HI.out.size
                            have hll : (row ++ List.replicate j 0).length = row.length + j := by simp
                            have hn0 : decide ((0 : Int) < (M : Int) - (j : Int)) = true := by simp; omega
                            have HLL := Lib.hid hll
                            clear hll hM'
                            go_wp2_with (at_builtin; refine wpList_appG 51 3 (.int .i64 0) 8 Tryz.underlying51 int_info rfl rfl _ _ rfl w6.heap.size (.slice a6 (row.length + j) c6) (row.length + j) ((row ++ List.replicate j 0).map (Value.int .i64)) rfl (hown.alloc _) (some ⟨wr.heap.size, 0, none⟩) 1 1 [.int .i64 0] rfl rfl (src_one wr _ _) (by intro u hu; simp at hu; subst hu; rfl) (by simp) (by simp only [maxLen]; omega) (by omega) (by simp; omega) ?_; intro v9 w9 o9 g9 l9; obtain ⟨a9, c9, rfl⟩ := own_shape o9)
                            have hR9 := (HI.out.below ((Below.refl _ _).alloc (Nat.le_refl _) (.cells #[.int .i64 0] 3))).grown (x := [0]) (by rw [List.map_append]; exact o9) (by rw [List.length_append, HLL.out]; rfl) g9 l9
                            rw [List.append_assoc, ← List.replicate_succ'] at hR9
                            have H9 := Lib.hid hR9
                            clear o9 g9 l9 hR9 hown
                            case roundEnd => exact ⟨⟨j + 1, a9, c9, by omega, by go_num, by rw [Nat.add_assoc], H9⟩, by simp [intOf]; omega⟩
                          · have hj' : j = M := by omega
                            subst hj'
                            have hn0 : decide ((0 : Int) < (j : Int) - (j : Int)) = false := by simp
                            by_cases hlong : ((A + 257 + (C + 1) : Nat) : Int) - row.length < j
                            · have hs := HS4.out
                              rw [HT.out.1, if_pos hlong] at hs
                              have HX := Lib.hid hs
                              have hd2 : decide ((A : Int) + 257 + ((C : Int) + 1) < (row.length : Int) + (j : Int)) = true := by simp; omega
                              clear hs hM' hlong
                              go_wp2_with fail
                              go_ret3
                              exact TolR.bad HX.out (by decide) (only_trans HQ.out.2.1 (foot_only HI.out))
                            · have hs := HT.out.1
                              rw [if_neg hlong] at hs
                              have HX := Lib.hid hs
                              have hd2 : decide ((A : Int) + 257 + ((C : Int) + 1) < (row.length : Int) + (j : Int)) = false := by simp; omega
                              clear hs hM'
                              go_wp2_with fail
                              go_roundg (A + 257 + (C + 1) - (row.length + j))
                              case measure => omega
                              case rel =>
                                exact ⟨p2, f, row ++ List.replicate j 0, a6, c6, by simp, by simp; omega, by simp; omega, by simp; omega, Lib.hid ⟨HX.out, by simpa using HI.out, fun x hx => by
                                  rcases List.mem_append.1 hx with h | h
                                  · exact HT.out.2 x h
                                  · rw [List.eq_of_mem_replicate h]; exact ⟨by decide, by decide⟩⟩⟩
            · have hrl : row.length = A + 257 + (C + 1) := by omega
              have e2 : RL = .ok (p', row) := by rw [e1, lensS, if_neg hlt]
              have hs := HS4.out
              rw [e2] at hs
              simp only at hs
              have hown0 := hS.own.is.2
              obtain ⟨gq, rfl⟩ : ∃ gq, a = some ⟨gq, 0, none⟩ := by
                rcases hown0.2 with ⟨e, hn⟩ | ⟨gq, cap, cur, e, _⟩
                · omega
                · injection e with e1 e2 e3
                  exact ⟨gq, e1⟩
              have hcap := own_cap hown0
              have hcell : wr.cell? ⟨gq, 256, none⟩ = some (.int .i64 (row.getD 256 0)) := by
                rw [hown0.cellAt 256 (by omega), List.getElem?_map, List.getD_eq_getElem?_getD, List.getElem?_eq_getElem (by omega)]; rfl
              have hri := row_ints hown0 rfl hrow (A + 257)
              have hlt' : decide ((row.length : Int) < (A : Int) + 257 + ((C : Int) + 1)) = false := by simp; omega
              obtain ⟨X, hX⟩ : ∃ X, row.getD 256 0 = X := ⟨_, rfl⟩
              rw [hX] at hs hcell
              have hx256 : (256 : Int) < (row.length : Int) := by omega
              have HE := Lib.hid (And.intro hs (And.intro hS (And.intro hri hrl)))
              obtain ⟨r1, r1'⟩ := cutI_h gq row.length c (A + 257) (by omega) hcap.1 (by omega)
              obtain ⟨r2, r2'⟩ := cutI_l gq row.length c (A + 257) (by omega) hcap.1 (by omega)
              rw [show ((A + 257 : Nat) : Int) = (A : Int) + 257 by omega] at r1 r2 r1' r2'
              have e3 : row.length - (A + 257) = C + 1 := by omega
              rw [e3] at r2 r2'
              clear hX hs hS hri hrl e1 e2 hcdr hown0 hrow H HR HRL e3
              by_cases hX0 : X = 0
              · subst hX0
                have hs := HE.out.1
                rw [if_pos rfl] at hs
                have HX := Lib.hid hs
                clear hs
                go_wp2_with fail
                go_ret3
                exact TolR.bad HX.out (by decide) (only_trans HQ.out.2.1 (foot_only HE.out.2.1))
              · have hs := HE.out.1
                rw [if_neg hX0] at hs
                have hX1 : (X == 0) = false := by simp [hX0]
                have HX := Lib.hid hs
                clear hs
                go_wp2_with fail
                go_quiet (fail)
                go_wp2_with fail
                go_ret3
                refine ⟨?_, .inl ⟨p', row, A + 257, C + 1, some ⟨gq, 0, none⟩, c, some ⟨gq, A + 257, none⟩, c - (A + 257), HX.out, rfl, ?_, HE.out.2.2.2, by omega, by omega, ?_, ?_⟩⟩
                · exact only_drewN (only_trans HQ.out.2.1 (foot_only HE.out.2.1)) _
                · exact HE.out.2.1.rdr
                · exact HE.out.2.2.1.1
                · exact HE.out.2.2.1.2
        · have hs := HS3.out
          rw [if_neg he] at hs
          have hd : (errN (someS l p3 (D + 4)) false != 0) = true := by simp [he]
          have HS4 := Lib.hid (And.intro hs he)
          clear hs HS3 hcd he
          generalize errN (someS l p3 (D + 4)) false = er at *
          go_wp2_with (refine code_st rfl rfl w5.heap.size rfl rfl h32 zero_size hone (heap_alloc_new w5 _) ?_)
          have hset := setRow_heap (w5.alloc (.cells zeroCode 59)) w5.heap.size _ cs _ _ (heap_alloc_new w5 (.cells zeroCode 59))
          have hoth : ∀ k, k < w5.heap.size → ((w5.alloc (.cells zeroCode 59)).setRow w5.heap.size cs).heap[k]? = w5.heap[k]? := fun k hk => (setRow_other _ _ _ _ (by omega)).trans (Below.heap_alloc w5 _ k hk)
          have hb6 : Below w5.heap.size w5 ((w5.alloc (.cells zeroCode 59)).setRow w5.heap.size cs) := low_setRow ((Below.refl w5.heap.size w5).alloc (Nat.le_refl _) _) (Nat.le_refl _) cs
          have hsz6 : ((w5.alloc (.cells zeroCode 59)).setRow w5.heap.size cs).heap.size = w5.heap.size + 1 := by rw [size_setRow]; simp
          generalize ((w5.alloc (.cells zeroCode 59)).setRow w5.heap.size cs) = w6 at *
          have hbr6 := below_next hb5 (Nat.le_refl _) hb6
          have hr6 := rdr_low' HZ.out.1 hbr6 (by omega)
          have ho6 := only_trans HZ.out.2 (below_only hbr6)
          have HF := Lib.hid ho6
          clear hset hoth hb6 hbr6 hr6 ho6 hb5
          go_wp2_with fail
          go_ret3
          exact TolR.bad HS4.out.1 HS4.out.2 HF.out
end Go.Proofs.YthfhafnffeijpaaGreatDoor
