/- The calls of layer 10 whose answers the document fixes. Condition: the order of the lengths lies where the program's own text lays it. -/
import Derived.Test.YtdcpibglbanchaaDoorDn
import Derived.Test.YtdcpibglbanchaaDoorEn
set_option linter.unusedVariables false
set_option maxRecDepth 100000
namespace Go.Proofs.YtdcpibglbanchaaDoor
open Go.RowKit Go.Maps Go.ChangeMaps

theorem unp97 (w : World) (hord : Ord w) (nm : ByteArray) (me pk sz sm at_ hd : Int) : Calls Tryd.prog 8 #[recV nm me pk sz sm at_ hd, .slice (some ⟨w.heap.size, 0, none⟩) 1 1] (w.alloc (.cells #[.int .u8 97] 5 (1, 2))) (Unp w (unpackS me pk sz sm [97])) := by
  have hb1 := (Below.refl w.heap.size w).alloc (Nat.le_refl _) (.cells #[.int .u8 97] 5 (1, 2))
  have hs : (w.alloc (.cells #[.int .u8 97] 5 (1, 2))).heap.size = w.heap.size + 1 := by simp
  have bs1 : Bs (w.alloc (.cells #[.int .u8 97] 5 (1, 2))) (w.alloc (.cells #[.int .u8 97] 5 (1, 2))).heap.size (some ⟨w.heap.size, 0, none⟩) [97] := by
    rw [hs]; simpa using bs_lit w 5 [97] (1, 2) (by simp [Bytes])
  refine (unpack_is _ (some ⟨w.heap.size, 0, none⟩) 1 1 [97] rfl (by decide) bs1 nm me pk sz sm at_ hd (hord.below hb1)).mono ?_
  rintro e w' ⟨hb, h⟩
  refine ⟨below_next hb1 (Nat.le_refl _) hb, ?_⟩
  rcases h with ⟨b, a, c, h1, h2, h3, h4, h5⟩ | h
  · exact .inl ⟨b, a, c, h1, h2, h3, h4, own_base h5 (by rw [hs]; omega)⟩
  · exact .inr h
theorem unp_ok {w w' : World} {s : Except Int (List Int)} {e : Ending} (h : Unp w s e w') {b : List Int} (hs : s = .ok b) : Below w.heap.size w w' ∧ ∃ a c, e = .returned (.tuple #[.slice a b.length c, .int .i64 0]) ∧ Bytes b ∧ b.length ≤ 32768 ∧ w'.ownsRow w.heap.size 5 1 (.slice a b.length c) b.length (b.map (Value.int .u8)) := by
  obtain ⟨hb, ⟨b', a, c, h1, h2, h3, h4, h5⟩ | ⟨er, h1, _, _⟩⟩ := h
  · rw [hs] at h1; injection h1 with h1; subst h1; exact ⟨hb, a, c, h2, h3, h4, h5⟩
  · rw [hs] at h1; cases h1
theorem unp_bad {w w' : World} {s : Except Int (List Int)} {e : Ending} (h : Unp w s e w') {er : Int} (hs : s = .error er) : Below w.heap.size w w' ∧ er ≠ 0 ∧ e = .returned (.tuple #[.slice none 0 0, .int .i64 er]) := by
  obtain ⟨hb, ⟨b', a, c, h1, h2, h3, h4, h5⟩ | ⟨er', h1, h2, h3⟩⟩ := h
  · rw [hs] at h1; cases h1
  · rw [hs] at h1; injection h1 with h1; subst h1; exact ⟨hb, h2, h3⟩
theorem u_1 : unpackS 0 1 1 3904355907 [97] = .ok [97] := by simp [unpackS, plainS, sumS, fx_a]
theorem u_2 : unpackS 0 1 2 3904355907 [97] = .error 18 := by simp [unpackS, plainS, sumS]
theorem u_3 : unpackS 0 1 1 0 [97] = .error 19 := by simp [unpackS, plainS, sumS, fx_a]
theorem u_4 : unpackS 0 1 40000 0 [97] = .error 17 := by simp [unpackS]
set_option maxHeartbeats 8000000 in
theorem fixed10 (w : World) (hord : Ord w) : Calls Tryd.prog 4 #[] w fun e w' => e = .returned (.bool true) ∧ Below w.heap.size w w' := by
  have kc := fun (w : World) (C : Array Value) (n c : Nat) => Lib.run_convert_bytes_const (P := Tryd.prog) w 22 5 C n c Tryd.underlying22 Tryd.underlying5
  have hc1 := unp97 w hord ByteArray.empty 0 1 1 3904355907 0 0
  have HO := Lib.hid hord
  clear hord
  go_enter Tryd.func4, Tryd.ntmps4
  go_wp2_with fail
  refine hc1.mono ?_
  intro e w1 h1
  obtain ⟨hb1, a1, c1, rfl, _, _, ho1⟩ := unp_ok h1 u_1
  have hc2 := unp97 w1 (HO.out.below hb1) ByteArray.empty 0 1 2 3904355907 0 0
  have H1 := Lib.hid (And.intro hb1 ho1)
  clear h1 hc1 hb1 ho1
  go_wp2_with fail
  refine hc2.mono ?_
  intro e w2 h2
  obtain ⟨hb2, _, rfl⟩ := unp_bad h2 u_2
  have hw2 := below_next H1.out.1 (Nat.le_refl _) hb2
  have hc3 := unp97 w2 (HO.out.below hw2) ByteArray.empty 0 1 1 0 0 0
  have H2 := Lib.hid (And.intro hw2 (own_below H1.out.2 hb2))
  clear h2 hc2 hb2 hw2
  go_wp2_with fail
  refine hc3.mono ?_
  intro e w3 h3
  obtain ⟨hb3, _, rfl⟩ := unp_bad h3 u_3
  have hw3 := below_next H2.out.1 (Nat.le_refl _) hb3
  have hc4 := unp97 w3 (HO.out.below hw3) ByteArray.empty 0 1 40000 0 0 0
  have H3 := Lib.hid (And.intro hw3 (own_below H2.out.2 hb3))
  clear h3 hc3 hb3 hw3
  go_wp2_with fail
  refine hc4.mono ?_
  intro e w4 h4
  obtain ⟨hb4, _, rfl⟩ := unp_bad h4 u_4
  have hw4 := below_next H3.out.1 (Nat.le_refl _) hb4
  have hc5 := findNil w4 ⟨#[97]⟩
  have H4 := Lib.hid (And.intro hw4 (own_below H3.out.2 hb4))
  clear h4 hc4 hb4 hw4 kc
  go_wp2_with fail
  refine hc5.mono ?_
  rintro e w5 ⟨rfl, hb5⟩
  have hw5 := below_next H4.out.1 (Nat.le_refl _) hb5
  have hoz := own_below H4.out.2 hb5
  have hv1 : (convert 22 9 (.slice a1 1 c1)).run Tryd.prog w5 = .ok (.string ⟨#[97]⟩) w5 := by
    have := conv_row hoz rfl (by decide)
    rw [str_a] at this
    exact this
  have H5 := Lib.hid hw5
  clear hc5 hb5 hw5 hoz
  go_wp2_with fail
  go_ret
  exact ⟨rfl, H5.out⟩
end Go.Proofs.YtdcpibglbanchaaDoor
