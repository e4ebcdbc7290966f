/- The calls whose answers the document fixes: what they unpack to. No condition. -/
import Derived.Test.YtpnnfekfoomgaaaDoorLm
import Derived.Laws.BytesArg
set_option linter.unusedVariables false
set_option maxRecDepth 100000
namespace Go.Proofs.YtpnnfekfoomgaaaDoor
open Go.RowKit

theorem inf_b2 : inflS [1, 2, 0, 253, 255, 97, 98] 2 = .ok ([97, 98], 7) := by rfl
theorem inf_b1 : inflS [1, 2, 0, 253, 255, 97, 98] 1 = .error 8 := by rfl
theorem inf_7 : inflS [7] 9 = .error 3 := by rfl
theorem inf_3 : inflS [3, 0] 0 = .ok ([], 2) := by kernel_rfl
theorem inf_a : inflS [75, 4, 0] 9 = .ok ([97], 3) := by kernel_rfl
theorem bytes_of {l : List Int} (h : (l.all fun n => decide (0 ≤ n) && decide (n ≤ 255)) = true) : Bytes l := fun n hn => by
  have := List.all_eq_true.1 h n hn
  simpa using this
theorem conv_row {w : World} {base n c : Nat} {a : Option Addr} {l : List Int} (h : w.ownsRow base 5 1 (.slice a n c) n (l.map (Value.int .u8))) (hl : l.length = n) (hn : 0 < n) : (convert 22 9 (.slice a n c)).run Tryd.prog w = .ok (.string (strOfNums l)) w := by
  rcases h.2 with ⟨_, h0⟩ | ⟨g, cap, cells, e, _⟩
  · omega
  · injection e with e1 e2 e3
    subst e1
    exact run_convert_bytes_arg (P := Tryd.prog) w 22 5 Tryd.underlying22 Tryd.underlying5 g 0 n c l hl (fun i hi => by rw [Nat.zero_add]; exact own_byte h hl hi) 9 Tryd.underlying9
theorem lit_bytes' (w : World) (t : TypeId) (l : List Int) (h : Bytes l) : Bs (w.alloc (.cells (l.map (Value.int .u8)).toArray t)) (w.alloc (.cells (l.map (Value.int .u8)).toArray t)).heap.size (some ⟨w.heap.size, 0, none⟩) l :=
  ⟨h, fun hn => ⟨w.heap.size, 0, rfl, by simp, fun i hi => by
    rw [blk_cell (heap_alloc_new w _), Nat.zero_add, List.getElem?_toArray, List.getElem?_map, List.getD_eq_getElem?_getD, List.getElem?_eq_getElem hi]; rfl⟩⟩
theorem Ord.below {w w' : World} (h : Ord w) (hb : Below w.heap.size w w') : Ord w' := by
  obtain ⟨fr, h⟩ := h
  exact ⟨fr, (hb.block 0 (blk_lt h)).trans h⟩
theorem alls_ok {w w' : World} {s : Except Int (List Int × Nat)} {e : Ending} (h : Alls w s e w') {out : List Int} {used : Nat} (hs : s = .ok (out, used)) : Below w.heap.size w w' ∧ ∃ a c, e = .returned (.tuple #[.slice a out.length c, .int .i64 (used : Nat), .int .i64 0]) ∧ Bytes out ∧ out.length ≤ 32768 ∧ w'.ownsRow w.heap.size 5 1 (.slice a out.length c) out.length (out.map (Value.int .u8)) := by
  obtain ⟨hb, ⟨out', used', a, c, h1, h2, h3, h4, h5⟩ | ⟨er, h1, _, _⟩⟩ := h
  · rw [hs] at h1; injection h1 with h1; injection h1 with h6 h7; subst h6 h7; exact ⟨hb, a, c, h2, h3, h4, h5⟩
  · rw [hs] at h1; cases h1
theorem alls_bad {w w' : World} {s : Except Int (List Int × Nat)} {e : Ending} (h : Alls w s e w') {er : Int} (hs : s = .error er) : Below w.heap.size w w' ∧ er ≠ 0 ∧ e = .returned (.tuple #[.slice none 0 0, .int .i64 0, .int .i64 er]) := by
  obtain ⟨hb, ⟨out', used', a, c, h1, h2, h3, h4, h5⟩ | ⟨er', h1, h2, h3⟩⟩ := h
  · rw [hs] at h1; cases h1
  · rw [hs] at h1; injection h1 with h1; subst h1; exact ⟨hb, h2, h3⟩
theorem str_ab : strOfNums [97, 98] = ⟨#[97, 98]⟩ := by rfl
theorem str_a : strOfNums [97] = ⟨#[97]⟩ := by rfl
set_option maxHeartbeats 8000000 in
theorem fixed6 (w : World) (hord : Ord w) : Calls Tryd.prog 11 #[] w fun e w' => e = .returned (.bool true) ∧ Below w.heap.size w w' := by
  have hb1 := (Below.refl w.heap.size w).alloc (Nat.le_refl _) (.cells #[.int .u8 1, .int .u8 2, .int .u8 0, .int .u8 253, .int .u8 255, .int .u8 97, .int .u8 98] 5)
  have hbs1 := lit_bytes' w 5 [1, 2, 0, 253, 255, 97, 98] (bytes_of rfl)
  have hc1 := all_is (some ⟨w.heap.size, 0, none⟩) 7 7 [1, 2, 0, 253, 255, 97, 98] rfl (by decide) hbs1 2 (by decide) (hord.below hb1)
  have H1 := Lib.hid (And.intro hb1 (And.intro hbs1 hord))
  clear hb1 hbs1 hord
  go_enter Tryd.func11, Tryd.ntmps11
  go_wp2_with fail
  refine hc1.mono ?_
  intro e w2 h2
  obtain ⟨hb2, ax, cx, rfl, _, _, hox⟩ := alls_ok h2 inf_b2
  clear h2 hc1
  have hbw2 := below_next H1.out.1 (Nat.le_refl _) hb2
  have hbs2 : Bs w2 w2.heap.size (some ⟨w.heap.size, 0, none⟩) [1, 2, 0, 253, 255, 97, 98] := (H1.out.2.1.below hb2).more hb2.size
  have hc2 := all_is (some ⟨w.heap.size, 0, none⟩) 7 7 [1, 2, 0, 253, 255, 97, 98] rfl (by decide) hbs2 1 (by decide) (H1.out.2.2.below hbw2)
  have H2 := Lib.hid (And.intro hbw2 hox)
  clear hbw2 hbs2 hox hb2
  go_wp2_with fail
  refine hc2.mono ?_
  intro e w3 h3
  obtain ⟨hb3, _, rfl⟩ := alls_bad h3 inf_b1
  clear h3 hc2
  have hbw3 := below_next H2.out.1 (Nat.le_refl _) hb3
  have hox3 := own_below H2.out.2 hb3
  have hb4 := (Below.refl w3.heap.size w3).alloc (Nat.le_refl _) (.cells #[.int .u8 3, .int .u8 0] 5)
  have hc3 := all_is (some ⟨w3.heap.size, 0, none⟩) 2 2 [3, 0] rfl (by decide) (lit_bytes' w3 5 [3, 0] (bytes_of rfl)) 0 (by decide) ((H1.out.2.2.below hbw3).below hb4)
  have H3 := Lib.hid (And.intro hbw3 (And.intro hox3 hb4))
  clear hbw3 hox3 hb4 hb3 H2
  go_wp2_with fail
  refine hc3.mono ?_
  intro e w5 h5
  obtain ⟨hb5, ay, cy, rfl, _, _, _⟩ := alls_ok h5 inf_3
  clear h5 hc3
  have hb35 := below_next H3.out.2.2 (Nat.le_refl _) hb5
  have hbw5 := below_next H3.out.1 (Nat.le_refl _) hb35
  have hox5 := own_below H3.out.2.1 hb35
  have hb6 := (Below.refl w5.heap.size w5).alloc (Nat.le_refl _) (.cells #[.int .u8 75, .int .u8 4, .int .u8 0] 5)
  have hc4 := all_is (some ⟨w5.heap.size, 0, none⟩) 3 3 [75, 4, 0] rfl (by decide) (lit_bytes' w5 5 [75, 4, 0] (bytes_of rfl)) 9 (by decide) ((H1.out.2.2.below hbw5).below hb6)
  have H5 := Lib.hid (And.intro hbw5 (And.intro hox5 hb6))
  clear hbw5 hox5 hb6 hb5 hb35 H3
  go_wp2_with fail
  refine hc4.mono ?_
  intro e w7 h7
  obtain ⟨hb7, az, cz, rfl, _, _, hoz⟩ := alls_ok h7 inf_a
  clear h7 hc4
  have hb57 := below_next H5.out.2.2 (Nat.le_refl _) hb7
  have hbw7 := below_next H5.out.1 (Nat.le_refl _) hb57
  have hox7 := own_below H5.out.2.1 hb57
  have hb8 := (Below.refl w7.heap.size w7).alloc (Nat.le_refl _) (.cells #[.int .u8 7] 5)
  have hc5 := all_is (some ⟨w7.heap.size, 0, none⟩) 1 1 [7] rfl (by decide) (lit_bytes' w7 5 [7] (bytes_of rfl)) 9 (by decide) ((H1.out.2.2.below hbw7).below hb8)
  have H7 := Lib.hid (And.intro hbw7 (And.intro hox7 (And.intro hoz hb8)))
  clear hbw7 hox7 hoz hb8 hb7 hb57 H5
  go_wp2_with fail
  refine hc5.mono ?_
  intro e w9 h9
  obtain ⟨hb9, _, rfl⟩ := alls_bad h9 inf_7
  clear h9 hc5
  have hb79 := below_next H7.out.2.2.2 (Nat.le_refl _) hb9
  have hbw9 := below_next H7.out.1 (Nat.le_refl _) hb79
  have hox9 := own_below H7.out.2.1 hb79
  have hoz9 := own_below H7.out.2.2.1 hb79
  have hv1 : (convert 22 9 (.slice ax 2 cx)).run Tryd.prog w9 = .ok (.string ⟨#[97, 98]⟩) w9 := by
    have := conv_row hox9 rfl (by decide)
    rw [str_ab] at this
    exact this
  have hv2 : (convert 22 9 (.slice az 1 cz)).run Tryd.prog w9 = .ok (.string ⟨#[97]⟩) w9 := by
    have := conv_row hoz9 rfl (by decide)
    rw [str_a] at this
    exact this
  have H9 := Lib.hid hbw9
  clear hox9 hoz9 hbw9 hb79 hb9 H7 H1
  go_wp2_with fail
  go_ret
  exact ⟨rfl, H9.out⟩
end Go.Proofs.YtpnnfekfoomgaaaDoor
