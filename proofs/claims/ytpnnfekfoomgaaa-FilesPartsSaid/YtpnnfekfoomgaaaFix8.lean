/- The calls whose answers the document fixes, of files. No condition. -/
import Derived.Test.YtpnnfekfoomgaaaFm
set_option linter.unusedVariables false
set_option maxRecDepth 100000
namespace Go.Proofs.Ytpnnfekfoomgaaa
open Go.RowKit Go.Maps Go.ChangeMaps Go.WideShapes Go.ChangeAt Go.WideMaps

theorem FS.cong {w : World} {g : Nat} {rv fv : Option Nat} {n reads : Nat} {kl : Lit} {v? : Option Value} {fs fs' : Int → Bool} (h : FS w g rv fv n reads kl v? fs) (he : ∀ j, fs' j = fs j) : FS w g rv fv n reads kl v? fs' := by
  refine ⟨h.blk, h.rows, ?_⟩
  have h3 := h.fails
  cases fv with
  | none => exact fun i => (he i).trans (h3 i)
  | some b => exact ⟨h3.1, h3.2.1, h3.2.2.same he⟩
theorem lit_bs (w : World) (t : TypeId) (l : List Int) (h : Bytes l) : Bs (w.alloc (.cells (l.map (Value.int .u8)).toArray t)) (w.alloc (.cells (l.map (Value.int .u8)).toArray t)).heap.size (some ⟨w.heap.size, 0, none⟩) l :=
  ⟨h, fun hn => ⟨w.heap.size, 0, rfl, by simp, fun i hi => by
    rw [blk_cell (heap_alloc_new w _), Nat.zero_add, List.getElem?_toArray, List.getElem?_map, List.getD_eq_getElem?_getD, List.getElem?_eq_getElem hi]; rfl⟩⟩
theorem bytes_of' {l : List Int} (h : (l.all fun n => decide (0 ≤ n) && decide (n ≤ 255)) = true) : Bytes l := fun n hn => by
  have := List.all_eq_true.1 h n hn
  simpa using this
theorem name_a : nameB ⟨#[97]⟩ = true := by kernel_rfl
theorem key_a : keyOf Try.prog 9 (.string ⟨#[97]⟩) = some (.string [97]) := keyOf_string_mk Try.underlying9 (by decide)
theorem readE_ok {w : World} {l : List Int} {e : Ending} {w' : World} (h : ReadE w false l e w') : ∃ v, e = .returned (.tuple #[v, .int .i64 0]) ∧ Fil w' w.heap.size v l := h
theorem readE_bad {w : World} {l : List Int} {e : Ending} {w' : World} (h : ReadE w true l e w') : e = .returned (.tuple #[.slice none 0 0, .int .i64 20]) := h
/-- files with one file of three bytes -/
structure Three (w0 w : World) (g : Nat) (rv fv : Option Nat) (n reads : Nat) (v : Value) (fs : Int → Bool) : Prop where
  fs : FS w g rv fv n reads (.string [97]) (some v) fs
  fil : Fil w w0.heap.size v [1, 2, 3]
  off : ∀ q, v.ownBlock = some q → ¬ FF g fv q
  low : Below w0.heap.size w0 w
  up : w0.heap.size ≤ g
  upf : ∀ b, fv = some b → w0.heap.size ≤ b
theorem Three.turn {w0 w w' : World} {g : Nat} {rv fv : Option Nat} {n n' reads reads' : Nat} {v : Value} {fs fs' : Int → Bool} (h : Three w0 w g rv fv n reads v fs) (hf : FS w' g rv fv n' reads' (.string [97]) (some v) fs') (ho : Foot (FF g fv) w w') : Three w0 w' g rv fv n' reads' v fs' :=
  ⟨hf, h.fil.foot ho h.off, h.off, h.low.trans (ho.below (fun i hi hff => by
    rcases hff with e | e
    · have := h.up; omega
    · have := h.upf i e; omega) h.low.size), h.up, h.upf⟩

set_option maxHeartbeats 8000000 in
theorem fixed8 (w : World) : Calls Try.prog 6 #[] w fun e w' => e = .returned (.bool true) ∧ Below w.heap.size w w' := by
  have hnew := filesNew w (.string [97])
  go_enter Try.func6, Try.ntmps6
  go_wp2_with fail
  refine hnew.mono ?_
  rintro e w1 ⟨rfl, hb1, hs1, hS1⟩
  obtain ⟨g, hg⟩ : ∃ g, w.heap.size = g := ⟨_, rfl⟩
  rw [hg] at hS1 ⊢
  have hb2 := (Below.refl w1.heap.size w1).alloc (Nat.le_refl _) (.cells #[.int .u8 1, .int .u8 2, .int .u8 3] 5)
  have hput := filesPut (hS1.keep hb2) ⟨#[97]⟩ name_a key_a (by trivial) (by decide) (some ⟨w1.heap.size, 0, none⟩) 3 3 [1, 2, 3] rfl (by decide) (lit_bs w1 5 [1, 2, 3] (bytes_of' rfl)) (by intro _ x e; injection e with e; subst e; simp; omega)
  have H1 := Lib.hid (below_next hb1 (Nat.le_refl _) hb2)
  have hgl : g < w1.heap.size := by omega
  clear hnew hb1 hs1 hS1 hb2
  go_wp2_with fail
  refine hput.mono ?_
  rintro e w3 ⟨rfl, rv, a3, c3, hS3, hF3, hn3, ho3⟩
  clear hput
  have hz2 : (w1.alloc (.cells #[.int .u8 1, .int .u8 2, .int .u8 3] 5)).heap.size = w1.heap.size + 1 := by simp
  rw [hz2] at ho3
  have hs31 := hF3.size
  rw [hz2] at hs31
  have hw1 : w.heap.size ≤ w1.heap.size := by omega
  have hnf : ∀ i, i < w.heap.size → ¬ FF g none i := fun i hi hff => by
    rcases hff with e1 | e1
    · omega
    · cases e1
  have T3 : Three w w3 g rv none 1 0 (.slice a3 3 c3) (fun _ => false) := by
    refine ⟨hS3, ⟨a3, c3, rfl, own_base ho3 (by omega), bytes_of' rfl⟩, fun q e hff => ?_, H1.out.trans (hF3.below hnf (by rw [hz2]; omega)), by omega, fun b e => ?_⟩
    · have := (ho3.lt q e).1
      rcases hff with e1 | e1
      · omega
      · cases e1
    · cases e
  have hr1 := filesRead T3.fs (by decide) ⟨#[97]⟩ key_a [1, 2, 3] T3.fil T3.off (by decide) 1 2 (by decide)
  have H3 := Lib.hid T3
  clear hS3 hF3 hn3 ho3 T3 H1 hz2 hnf
  go_wp2_with fail
  refine hr1.mono ?_
  rintro e w4 ⟨hE, hS, hF⟩
  obtain ⟨v1, rfl, hv1⟩ := readE_ok hE
  obtain ⟨a4, c4, rfl, ho4, _⟩ := hv1
  have T4 := (H3.out.turn hS hF)
  have T4' : Three w w4 g rv none 1 1 (.slice a3 3 c3) (fun _ => false) := ⟨T4.fs.cong (fun j => by simp), T4.fil, T4.off, T4.low, T4.up, T4.upf⟩
  have hs43 := hF.size
  have ho4' : w4.ownsRow w3.heap.size 5 1 (.slice a4 2 c4) 2 ([2, 3].map (Value.int .u8)) := ho4
  have hr2 := filesReadShort T4'.fs ⟨#[97]⟩ key_a [1, 2, 3] T4'.fil (by decide) 2 2 (by decide) (by decide) (by decide)
  have H4 := Lib.hid (And.intro T4' ho4')
  clear hr1 hE hS hF ho4 T4 T4' ho4' H3
  go_wp2_with fail
  refine hr2.mono ?_
  rintro e w' ⟨rfl, hw'⟩
  rw [hw']
  clear hw' w' hr2
  have hrd := filesReads H4.out.1.fs
  go_wp2_with fail
  refine hrd.mono ?_
  rintro e w' ⟨rfl, hw'⟩
  rw [hw']
  clear hw' w' hrd
  have hfl := filesFail H4.out.1.fs (by decide) (by decide) 2 (by decide)
  go_wp2_with fail
  refine hfl.mono ?_
  rintro e w5 ⟨rfl, fv, hS5, hF5, hn5⟩
  have hs54 := hF5.size
  have T5 : Three w w5 g rv fv 2 1 (.slice a3 3 c3) (fun j => decide (j = 3)) := by
    have hfil := H4.out.1.fil.foot hF5 H4.out.1.off
    refine ⟨hS5.cong (fun j => by simp), hfil, fun q e hff => ?_, H4.out.1.low.trans (hF5.below (fun i hi hff => ?_) H4.out.1.low.size), H4.out.1.up, fun b e => ?_⟩
    · have hq := (H4.out.1.fil.lt q e).2
      rcases hff with e1 | e1
      · exact H4.out.1.off q e (.inl e1)
      · rcases hn5 with h | ⟨b, h, hb⟩
        · rw [h] at e1; cases e1
        · rw [h] at e1; injection e1 with e1; omega
    · rcases hff with e1 | e1
      · have := H4.out.1.up; omega
      · cases e1
    · rcases hn5 with h | ⟨b', h, hb⟩
      · rw [h] at e; cases e
      · rw [h] at e; injection e with e; have := H4.out.1.low.size; omega
  have ho5 := own_foot H4.out.2 hF5 (fun q e hff => by
    have := (H4.out.2.lt q e).1
    rcases hff with e1 | e1
    · omega
    · cases e1)
  have hoff5 : ∀ q, (Value.slice a4 2 c4).ownBlock = some q → ¬ FF g fv q := fun q e hff => by
    have h1 := (H4.out.2.lt q e)
    rcases hff with e1 | e1
    · omega
    · rcases hn5 with h | ⟨b, h, hb⟩
      · rw [h] at e1; cases e1
      · rw [h] at e1; injection e1 with e1; omega
  have hr5 := filesRead T5.fs (by decide) ⟨#[97]⟩ key_a [1, 2, 3] T5.fil T5.off (by decide) 0 0 (by decide)
  have H5 := Lib.hid (And.intro T5 (And.intro ho5 hoff5))
  clear hfl hS5 hF5 hn5 T5 ho5 hoff5 H4
  go_wp2_with fail
  refine hr5.mono ?_
  rintro e w6 ⟨hE, hS, hF⟩
  obtain ⟨v6, rfl, hv6⟩ := readE_ok hE
  have T6 := (H5.out.1.turn hS hF)
  have hr6 := filesRead T6.fs (by decide) ⟨#[97]⟩ key_a [1, 2, 3] T6.fil T6.off (by decide) 0 0 (by decide)
  have H6 := Lib.hid (And.intro T6 (own_foot H5.out.2.1 hF H5.out.2.2))
  clear hr5 hE hS hF hv6 T6
  go_wp2_with fail
  refine hr6.mono ?_
  rintro e w7 ⟨hE, hS, hF⟩
  have he := readE_bad hE
  subst he
  have T7 := (H6.out.1.turn hS hF)
  have hr7 := filesRead T7.fs (by decide) ⟨#[97]⟩ key_a [1, 2, 3] T7.fil T7.off (by decide) 0 0 (by decide)
  have H7 := Lib.hid (And.intro T7 (own_foot H6.out.2 hF H5.out.2.2))
  clear hr6 hE hS hF T7 H6
  go_wp2_with fail
  refine hr7.mono ?_
  rintro e w8 ⟨hE, hS, hF⟩
  obtain ⟨v8, rfl, hv8⟩ := readE_ok hE
  have T8 := (H7.out.1.turn hS hF)
  have ho8 := own_foot H7.out.2 hF H5.out.2.2
  obtain ⟨gq, rfl⟩ : ∃ gq, a4 = some ⟨gq, 0, none⟩ := by
    rcases ho8.2 with ⟨e, hn⟩ | ⟨gq, cap, cur, e, _⟩
    · omega
    · injection e with e1 e2 e3
      exact ⟨gq, e1⟩
  have hcell : w8.cell? ⟨gq, 0, none⟩ = some (.int .u8 2) := by
    have := own_byte ho8 (l := [2, 3]) rfl (show 0 < 2 by decide)
    exact this
  have H8 := Lib.hid T8.low
  clear hr7 hE hS hF hv8 T8 H7 H5 ho8
  go_wp2_with fail
  go_ret
  exact ⟨rfl, H8.out⟩
end Go.Proofs.Ytpnnfekfoomgaaa
