/- The calls whose answers the document fixes for layer 5 answer so: contract of samovarlaw05.fixed. No condition. -/
import Derived.Test.YtokechaflhgmiaaPrW
import Derived.Test.YtokechaflhgmiaaNewB
set_option linter.unusedVariables false
namespace Go.Proofs.Ytokechaflhgmiaa
open Go.RowKit

theorem PC.below {w w' : World} {F : Nat → Prop} {g B : Nat} {ns : List Nat} (h : PC w F g ns) (hF : ∀ b, F b → b < B) (hb : Below B w w') : PC w' F g ns := h.keep fun b hb' => hb.block b (hF b hb')
theorem lit_ints (w : World) (t : TypeId) (l : List Int) (h : ∀ n ∈ l, (Lit.int .i64 n).wf = true) : Ints .i64 (w.alloc (.cells (l.map (Value.int .i64)).toArray t)) (w.alloc (.cells (l.map (Value.int .i64)).toArray t)).heap.size (some ⟨w.heap.size, 0, none⟩) l :=
  ⟨h, fun hn => ⟨w.heap.size, 0, rfl, by simp, fun i hi => by
    rw [blk_cell (heap_alloc_new w _), Nat.zero_add, List.getElem?_toArray, List.getElem?_map, List.getD_eq_getElem?_getD, List.getElem?_eq_getElem hi]; rfl⟩⟩
theorem lit_bytes (w : World) (t : TypeId) (l : List Int) (h : Bytes l) : Bs (w.alloc (.cells (l.map (Value.int .u8)).toArray t)) (w.alloc (.cells (l.map (Value.int .u8)).toArray t)).heap.size (some ⟨w.heap.size, 0, none⟩) l :=
  ⟨h, fun hn => ⟨w.heap.size, 0, rfl, by simp, fun i hi => by
    rw [blk_cell (heap_alloc_new w _), Nat.zero_add, List.getElem?_toArray, List.getElem?_map, List.getD_eq_getElem?_getD, List.getElem?_eq_getElem hi]; rfl⟩⟩
def fa : List Int := [2, 1, 3, 3]
def fb : List Int := [1, 1, 1]
def fc : List Int := [0, 1]
theorem fa_err : errN fa false = 0 := by decide +kernel
theorem fb_err : errN fb false = 5 := by decide +kernel
theorem fc_err : errN fc true = 0 := by decide +kernel
theorem fa_word : wordOf (nsOf fa) 2 = (6, 3) := by decide +kernel
theorem fa_next : nxt (nsOf fa) [3] 0 = (2, 0, 3) := by decide +kernel
theorem fc_next : nxt (nsOf fc) [1] 0 = (0, 6, 1) := by decide +kernel
theorem newOk {w : World} {q : List Int} {lone : Bool} {e : Ending} {w' : World} (h : Newly w q lone e w') (h0 : errN q lone = 0) : Below w.heap.size w w' ∧ ∃ g, e = .returned (.tuple #[.pointer (some ⟨g, 0, none⟩), .int .i64 0]) ∧ PC w' (fun b => w.heap.size ≤ b ∧ b < w'.heap.size) g (nsOf q) := by
  rcases h.2 with ⟨h1, _⟩ | ⟨_, h2⟩
  · exact absurd h0 h1
  · exact ⟨h.1, h2⟩
theorem newBad {w : World} {q : List Int} {lone : Bool} {e : Ending} {w' : World} {n : Int} (h : Newly w q lone e w') (h0 : errN q lone = n) (hn : n ≠ 0) : Below w.heap.size w w' ∧ e = .returned (.tuple #[.pointer none, .int .i64 n]) := by
  rcases h.2 with ⟨h1, h2⟩ | ⟨h1, _⟩
  · exact ⟨h.1, by rw [h2, h0]⟩
  · exact absurd (h0.symm.trans h1) hn
set_option maxHeartbeats 2000000 in
theorem fixed5 (w : World) : Calls Try.prog 8 #[] w fun e w' => e = .returned (.bool true) ∧ Below w.heap.size w w' := by
  go_enter Try.func8, Try.ntmps8
  go_wp2_with fail
  refine (new_is (some ⟨w.heap.size, 0, none⟩) 4 4 fa rfl (by decide) (lit_ints w 3 fa (by decide)) false).mono ?_
  intro e w1 hnew
  obtain ⟨hb1, g1, rfl, hp1⟩ := newOk hnew fa_err
  have hs1 := hb1.size
  have hw1 : Below w.heap.size w w1 := ((Below.refl w.heap.size w).alloc (Nat.le_refl _) _).trans (hb1.mono (by simp))
  have hp1 := hp1.more fun b hb => hb.2
  clear hnew hb1 hs1
  go_wp2_with fail
  have hq1 := word_is hp1 (by decide) 2 (by decide)
  rw [fa_word] at hq1
  refine hq1.mono ?_
  rintro e w2 ⟨rfl, hb2⟩
  have hp2 := hp1.below (fun b hb => hb) hb2
  have hs2 := hb2.size
  have hw2 := below_next hw1 (Nat.le_refl _) hb2
  clear hq1 hp1 hb2 hw1
  go_wp2_with fail
  refine (bitNew (some ⟨w2.heap.size, 0, none⟩) 1 1 [3] rfl (by decide) _ (lit_bytes w2 5 [3] (by simp [Bytes]))).mono ?_
  rintro e w3 ⟨gr, a3, c3, rfl, hg3, hh3, ho3, hl3, hb3⟩
  have hb3' : Below w2.heap.size w2 w3 := ((Below.refl w2.heap.size w2).alloc (Nat.le_refl _) _).trans (hb3.mono (by simp))
  have hp3 := hp2.below (fun b hb => Nat.lt_of_lt_of_le hb hs2) hb3'
  have hr3 := rdr_of_row (T := 71) (l := [3]) (p := 0) hh3 ho3 (by simp [Bytes]) (by decide) hl3 (by decide)
  have hw3 := below_next hw2 (Nat.le_refl _) hb3'
  have hgr3 : w2.heap.size < gr := by simp at hg3; omega
  have hlt3 := blk_lt hh3
  have hsw2 := hw2.size
  clear hh3 ho3 hl3 hg3 hb3 hb3' hp2 hw2
  go_wp2_with fail
  have hq3 := next_is (fun b hb => ⟨by omega, by omega⟩) hp3 hr3
  rw [fa_next] at hq3
  refine hq3.mono ?_
  rintro e w4 ⟨rfl, _, ho4⟩
  have hw4 := low_only hw3 ho4 (by omega) (Nat.le_refl _)
  clear hq3 hr3 hp3 ho4 hw3
  go_wp2_with fail
  refine (new_is (some ⟨w4.heap.size, 0, none⟩) 3 3 fb rfl (by decide) (lit_ints w4 3 fb (by decide)) false).mono ?_
  intro e w5 hnew
  obtain ⟨hb5, rfl⟩ := newBad hnew fb_err (by decide)
  have hw5 := below_next hw4 (Nat.le_refl _) (((Below.refl w4.heap.size w4).alloc (Nat.le_refl _) _).trans (hb5.mono (by simp)))
  clear hnew hb5 hw4 hgr3 hlt3 hsw2 hs2
  go_wp2_with fail
  refine (new_is (some ⟨w5.heap.size, 0, none⟩) 2 2 fc rfl (by decide) (lit_ints w5 3 fc (by decide)) true).mono ?_
  intro e w6 hnew
  obtain ⟨hb6, g6, rfl, hp6⟩ := newOk hnew fc_err
  have hw6 := below_next hw5 (Nat.le_refl _) (((Below.refl w5.heap.size w5).alloc (Nat.le_refl _) _).trans (hb6.mono (by simp)))
  have hp6 := hp6.more fun b hb => hb.2
  clear hnew hb6 hw5
  go_wp2_with fail
  refine (bitNew (some ⟨w6.heap.size, 0, none⟩) 1 1 [1] rfl (by decide) _ (lit_bytes w6 5 [1] (by simp [Bytes]))).mono ?_
  rintro e w7 ⟨gr7, a7, c7, rfl, hg7, hh7, ho7, hl7, hb7⟩
  have hb7' : Below w6.heap.size w6 w7 := ((Below.refl w6.heap.size w6).alloc (Nat.le_refl _) _).trans (hb7.mono (by simp))
  have hp7 := hp6.below (fun b hb => hb) hb7'
  have hr7 := rdr_of_row (T := 71) (l := [1]) (p := 0) hh7 ho7 (by simp [Bytes]) (by decide) hl7 (by decide)
  have hw7 := below_next hw6 (Nat.le_refl _) hb7'
  have hgr7 : w6.heap.size < gr7 := by simp at hg7; omega
  have hlt7 := blk_lt hh7
  have hsw6 := hw6.size
  clear hh7 ho7 hl7 hg7 hb7 hb7' hp6 hw6
  go_wp2_with fail
  have hq7 := next_is (fun b hb => ⟨by omega, by omega⟩) hp7 hr7
  rw [fc_next] at hq7
  refine hq7.mono ?_
  rintro e w8 ⟨rfl, _, ho8⟩
  have hw8 := low_only hw7 ho8 (by omega) (Nat.le_refl _)
  clear hq7 hr7 hp7 ho8 hw7
  go_wp2_with fail
  go_ret
  exact ⟨rfl, hw8⟩
end Go.Proofs.Ytokechaflhgmiaa
