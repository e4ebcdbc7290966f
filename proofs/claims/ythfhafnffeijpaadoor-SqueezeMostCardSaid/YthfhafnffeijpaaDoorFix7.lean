/- The calls of layer 7 whose answers the document fixes. Condition: the order of the lengths lies where the program's own text lays it. -/
import Derived.Test.YthfhafnffeijpaaDoorLl
import Derived.Test.YthfhafnffeijpaaDoorSy
set_option linter.unusedVariables false
set_option maxRecDepth 100000
namespace Go.Proofs.YthfhafnffeijpaaDoor
open Go.RowKit

theorem run_make_bytes (n : Nat) (hn : n ≤ 100000) (W : World) : (Instr.makeSlice 22 (.int .i64 n) (.int .i64 n)).run Tryd.prog W = .ok (.slice (some ⟨W.heap.size, 0, none⟩) n n) (W.alloc (.cells ((List.replicate n (0 : Int)).map (Value.int .u8)).toArray 5)) := by
  have h := run_make_row' (P := Tryd.prog) 22 5 (.int .u8 0) 1 Tryd.underlying22 u8_info rfl .i64 .i64 n (by omega) (by omega) W
  have e : madeCells #[.int .u8 0] n = ((List.replicate n (0 : Int)).map (Value.int .u8)).toArray := by
    apply Array.ext
    · rw [size_madeCells]; simp
    · intro i hi _
      have hi' : i < n := by rw [size_madeCells] at hi; simpa using hi
      simp [madeCells, Nat.mod_one]
  rw [e] at h
  exact h
/-- what All answers, no more than may be -/
theorem allq_ok {w w' : World} {l : List Int} {e : Ending} (h : AllQ w l e w') (h32 : l.length ≤ 32768) : Below w.heap.size w w' ∧ ∃ a c, e = .returned (.tuple #[.slice a (pk (bitsS l)).length c, .int .i64 0]) ∧ w'.ownsRow w.heap.size 5 1 (.slice a (pk (bitsS l)).length c) (pk (bitsS l)).length ((pk (bitsS l)).map (Value.int .u8)) := by
  obtain ⟨hb, ⟨h1, _⟩ | ⟨_, a, c, h2, h3⟩⟩ := h
  · omega
  · exact ⟨hb, a, c, h2, h3⟩
theorem bytes_rep (x : Int) (hx : 0 ≤ x ∧ x ≤ 255) (n : Nat) : Bytes (List.replicate n x) := fun y hy => by rw [List.eq_of_mem_replicate hy]; exact hx
theorem own_cell {w : World} {base g n c : Nat} {l : List Int} (h : w.ownsRow base 5 1 (.slice (some ⟨g, 0, none⟩) n c) n (l.map (Value.int .u8))) (hl : l.length = n) {i : Nat} (hi : i < n) : w.cell? ⟨g, i, none⟩ = some (.int .u8 (l.getD i 0)) := by
  rw [own_byte h hl hi, List.getD_eq_getElem?_getD, List.getElem?_eq_getElem (by omega)]
set_option maxHeartbeats 8000000 in
theorem fixed7 (w : World) (hord : Ord w) : Calls Tryd.prog 14 #[] w fun e w' => e = .returned (.bool true) ∧ Below w.heap.size w w' := by
  have hq1 := sqAll w none 0 0 [] rfl (Nat.le_refl _) (by decide) (Bs.nil_ _ _ _)
  have HO := Lib.hid hord
  have hmk : ∀ W, (Instr.makeSlice 22 (.int .i64 258) (.int .i64 258)).run Tryd.prog W = .ok (.slice (some ⟨W.heap.size, 0, none⟩) 258 258) (W.alloc (.cells ((List.replicate 258 (0 : Int)).map (Value.int .u8)).toArray 5)) := fun W => run_make_bytes 258 (by decide) W
  clear hord
  go_enter Tryd.func14, Tryd.ntmps14
  go_wp2_with fail
  refine hq1.mono ?_
  intro e w1 h1
  obtain ⟨hb1, a, c, rfl, _⟩ := allq_ok h1 (by decide)
  have hl1 := (bits_most (l := []) (fun x h => by cases h) (by decide)).1
  obtain ⟨NA, hNA⟩ : ∃ NA, (pk (bitsS [])).length = NA := ⟨_, rfl⟩
  rw [hNA] at hl1 ⊢
  have hNA2 : NA ≤ 2 := by simpa using hl1
  have H1 := Lib.hid hb1
  have hq2 := sqAll (w1.alloc (.cells ((List.replicate 258 (0 : Int)).map (Value.int .u8)).toArray 5)) (some ⟨w1.heap.size, 0, none⟩) 258 258 (List.replicate 258 0) List.length_replicate (Nat.le_refl _) (by decide) (lit_bytes' w1 5 (List.replicate 258 0) (bytes_rep 0 (by decide) 258))
  have hal := (Below.refl w1.heap.size w1).alloc (Nat.le_refl _) (.cells ((List.replicate 258 (0 : Int)).map (Value.int .u8)).toArray 5)
  have H2 := Lib.hid (below_next H1.out (Nat.le_refl _) hal)
  clear hq1 h1 hb1 hl1 hNA hal
  go_wp2_with fail
  refine hq2.mono ?_
  intro e w3 h3
  obtain ⟨hb3, b, cb, rfl, ho3⟩ := allq_ok h3 (by rw [List.length_replicate]; decide)
  have hl3 := bits_row 0 (by decide) 258 (by decide)
  have hin := squeeze_back (bytes_rep 0 (by decide) 258) (by rw [List.length_replicate]; decide)
  rw [List.length_replicate] at hin
  have hbs3 := Bs.of_own ho3 (pk_bytes _)
  generalize pk (bitsS (List.replicate 258 0)) = B at *
  obtain ⟨NB, hNB⟩ : ∃ NB, B.length = NB := ⟨_, rfl⟩
  rw [hNB] at hl3 hin ⊢
  have hNB2 : NB ≤ 12 := by simpa using hl3
  have hw3 := below_next H2.out (Nat.le_refl _) hb3
  have hc3 := all_is (w := w3) b NB cb B hNB (by omega) hbs3 258 (by decide) (HO.out.below hw3)
  have H3 := Lib.hid (And.intro hw3 hin)
  clear hq2 h3 hb3 hl3 hw3 ho3 hbs3 hin hmk
  go_wp2_with fail
  refine hc3.mono ?_
  intro e w4 h4
  obtain ⟨hb4, x, cx, rfl, hBx, _, hox⟩ := alls_ok h4 H3.out.2
  rw [List.length_replicate] at hox ⊢
  have hw4 := below_next H3.out.1 (Nat.le_refl _) hb4
  obtain ⟨bx, capx, e1, _, _⟩ := hox.form (by decide)
  obtain rfl : x = some ⟨bx, 0, none⟩ := by injection e1
  have cx257 := own_cell hox List.length_replicate (i := 257) (by decide)
  rw [rep_getD 0 (by decide)] at cx257
  have H4 := Lib.hid hw4
  clear h4 hb4 hw4 hBx hox e1 hc3
  have t1 : decide ((NA : Int) ≤ 2) = true := by simp; omega
  have t2 : decide ((NB : Int) ≤ 12) = true := by simp; omega
  have t3 : ((NB : Int) == (NB : Int)) = true := by simp
  go_wp2_with fail
  go_ret
  exact ⟨rfl, H4.out⟩
end Go.Proofs.YthfhafnffeijpaaDoor
