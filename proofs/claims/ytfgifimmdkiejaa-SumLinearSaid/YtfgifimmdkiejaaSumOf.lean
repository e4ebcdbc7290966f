/- The sum of parts: contract of sum.Of; and the calls whose answers the document fixes for layer 3. Condition: the bytes are bytes. -/
import Derived.Test.YtfgifimmdkiejaaTab
import Derived.Lib.SlBytesConst
set_option linter.unusedVariables false
namespace Go.Proofs.Ytfgifimmdkiejaa
open Go.RowKit

/-- the slice that begins at a holds slices of bytes, all below B -/
def Parts (w : World) (B : Nat) (a : Option Addr) (ps : List (List Int)) : Prop :=
  (∀ p ∈ ps, p.length ≤ 140737488355328) ∧ (0 < ps.length → ∃ b off, a = some ⟨b, off, none⟩ ∧ b < B ∧ ∀ i, i < ps.length → ∃ ai ci, w.cell? ⟨b, off + i, none⟩ = some (.slice ai (ps.getD i []).length ci) ∧ Bs w B ai (ps.getD i []))
theorem Parts.below {w w' : World} {B : Nat} {a : Option Addr} {ps : List (List Int)} (h : Parts w B a ps) (hb : Below B w w') : Parts w' B a ps :=
  ⟨h.1, fun hn => by
    obtain ⟨b, off, e, hlt, hc⟩ := h.2 hn
    refine ⟨b, off, e, hlt, fun i hi => ?_⟩
    obtain ⟨ai, ci, h1, h2⟩ := hc i hi
    exact ⟨ai, ci, (hb.cell (p := ⟨b, _, none⟩) hlt).trans h1, h2.below hb⟩⟩
theorem Parts.at_ {w : World} {B : Nat} {a : Option Addr} {ps : List (List Int)} (h : Parts w B a ps) {i : Nat} (hi : i < ps.length) : ∃ b off ai ci, a = some ⟨b, off, none⟩ ∧ b < B ∧ w.cell? ⟨b, off + i, none⟩ = some (.slice ai (ps.getD i []).length ci) ∧ Bs w B ai (ps.getD i []) ∧ (ps.getD i []).length ≤ 140737488355328 := by
  obtain ⟨b, off, e, hlt, hc⟩ := h.2 (by omega)
  obtain ⟨ai, ci, h1, h2⟩ := hc i hi
  refine ⟨b, off, ai, ci, e, hlt, h1, h2, h.1 _ ?_⟩
  rw [List.getD_eq_getElem?_getD, List.getElem?_eq_getElem hi]; exact List.getElem_mem hi
theorem Parts.nil_ (w : World) (B : Nat) (a : Option Addr) : Parts w B a [] := ⟨fun p hp => by (cases hp), fun h => absurd h (by simp)⟩
theorem take_succL (l : List (List Int)) (k : Nat) (h : k < l.length) : (l.take (k + 1)).flatten = (l.take k).flatten ++ l.getD k [] := by
  rw [List.take_succ_eq_append_getElem h, List.getD_eq_getElem?_getD, List.getElem?_eq_getElem h, List.flatten_append]; simp [-List.take_append_getElem]

set_option maxHeartbeats 1000000 in
theorem sumOfCall (a : Option Addr) (n c : Nat) (ps : List (List Int)) (hn : ps.length = n) (hm : n ≤ 140737488355328) (w : World) (hp : Parts w w.heap.size a ps) :
    Calls Try.prog 16 #[.slice a n c] w fun e w' => e = .returned (.int .i64 (sumOf 0 ps.flatten)) ∧ Below w.heap.size w w' := by
  subst hn
  go_enter Try.func16, Try.ntmps16
  go_wp2_with fail
  refine (sumNew _).mono ?_
  rintro e w1 ⟨g, rfl, hg, ht, hbel⟩
  have hp1 := hp.below hbel
  have HT := Lib.hid ht; clear ht hp
  go_wp2_with fail
  go_loop [4, 6, 10] (fun s _ i => ∃ k : Nat, k ≤ ps.length ∧ i = .int .i64 k ∧ s = .int .i64 (sumOf 0 (ps.take k).flatten)) (fun _ _ i => ps.length - (intOf i).toNat)
  case atStart => exact ⟨0, Nat.zero_le _, rfl, by simp [sumOf, crc, start]; decide⟩
  case round =>
    obtain ⟨k, hk, rfl, rfl⟩ := hrel
    by_cases hlt : k < ps.length
    · obtain ⟨b, off, ai, ci, rfl, hbl, hc, hbs, hl⟩ := hp1.at_ hlt
      have hs : sumOf 0 (ps.take (k + 1)).flatten = sumOf (sumOf 0 (ps.take k).flatten) (ps.getD k []) := by rw [take_succL ps k hlt, sumOf_app]
      have HS := Lib.hid hs; clear hs
      generalize ps.getD k [] = p at *
      generalize sumOf 0 (ps.take k).flatten = s at *
      go_wp2_with fail
      refine (sumAdd g s ai _ ci p rfl hl _ _ HT.out hbs).mono ?_
      rintro e w' ⟨rfl, rfl⟩
      go_wp2_with fail
      go_round
      case rel => exact ⟨k + 1, by omega, by go_num, by rw [HS.out]⟩
      case measure => simp [intOf]; omega
    · obtain rfl : k = ps.length := by omega
      go_wp2_with fail
      go_ret
      exact ⟨by simp, hbel⟩

/-- a literal of one part -/
theorem parts_one {w : World} {a : Option Addr} {n c : Nat} {l : List Int} {t : TypeId} (hb : Bs w w.heap.size a l) (hn : l.length = n) (hm : n ≤ 140737488355328) :
    Parts (w.alloc (.cells #[.slice a n c] t)) (w.heap.size + 1) (some ⟨w.heap.size, 0, none⟩) [l] := by
  subst hn
  refine ⟨fun p hp => by simp at hp; subst hp; exact hm, fun _ => ⟨w.heap.size, 0, rfl, by omega, fun i hi => ?_⟩⟩
  have hi0 : i = 0 := by simpa using hi
  subst hi0
  refine ⟨a, c, ?_, (hb.alloc (Nat.le_refl _) _).more (by omega)⟩
  rw [blk_cell (heap_alloc_new w _)]; rfl
theorem sumOne {w : World} {a : Option Addr} {n c : Nat} {l : List Int} {t : TypeId} {b : Nat} (hbk : b = w.heap.size) (hb : Bs w w.heap.size a l) (hn : l.length = n) (hm : n ≤ 140737488355328) :
    Calls Try.prog 16 #[.slice (some ⟨b, 0, none⟩) 1 1] (w.alloc (.cells #[.slice a n c] t)) fun e w' => e = .returned (.int .i64 (sumOf 0 l)) ∧ Below w.heap.size w w' := by
  subst hbk
  have hp := parts_one (t := t) (c := c) hb hn hm
  have := sumOfCall (some ⟨w.heap.size, 0, none⟩) 1 1 [l] rfl (by decide) (w.alloc (.cells #[.slice a n c] t)) (by simpa using hp)
  refine this.mono fun e w' ⟨h1, h2⟩ => ⟨by simpa using h1, ((Below.refl _ _).alloc (Nat.le_refl _) _).trans (h2.mono (by simp))⟩
theorem sumNone (w : World) : Calls Try.prog 16 #[.slice none 0 0] w fun e w' => e = .returned (.int .i64 0) ∧ Below w.heap.size w w' :=
  (sumOfCall none 0 0 [] rfl (by decide) w (Parts.nil_ _ _ _)).mono fun e w' ⟨h1, h2⟩ => ⟨by rw [h1]; exact ret1 (by decide), h2⟩

def digits : List Int := [49, 50, 51, 52, 53, 54, 55, 56, 57]
theorem fx_digits : sumOf 0 digits = 3421780262 := by decide +kernel
theorem fx_a : sumOf 0 [97] = 3904355907 := by decide +kernel
theorem bs_lit (w : World) (t : TypeId) (l : List Int) (z : Nat × Nat) (hl : Bytes l) : Bs (w.alloc (.cells (l.map (Value.int .u8)).toArray t z)) (w.heap.size + 1) (some ⟨w.heap.size, 0, none⟩) l := by
  refine ⟨hl, fun hn => ⟨w.heap.size, 0, rfl, by omega, fun i hi => ?_⟩⟩
  have h := heap_alloc_new w (.cells (l.map (Value.int .u8)).toArray t z)
  rw [cell_of_row _ _ _ _ _ _ h]
  simp [hi]
set_option maxHeartbeats 1000000 in
theorem sumFixed (w : World) : Calls Try.prog 12 #[] w fun e w' => e = .returned (.bool true) ∧ Below w.heap.size w w' := by
  have kc := fun (w : World) (C : Array Value) (n c : Nat) => Lib.run_convert_bytes_const (P := Try.prog) w 22 5 C n c Try.underlying22 Try.underlying5
  go_enter Try.func12, Try.ntmps12
  go_wp2_with fail
  refine (sumNew _).mono ?_
  rintro e w1 ⟨g, rfl, hg, ht, hb1⟩
  have HT := Lib.hid ht; clear ht
  go_wp2_with fail
  have h1 := sumOne (a := some ⟨w1.heap.size, 0, none⟩) (c := 9) (t := 22) (b := w1.heap.size + 1) (w := w1.alloc (.cells #[.int .u8 49, .int .u8 50, .int .u8 51, .int .u8 52, .int .u8 53, .int .u8 54, .int .u8 55, .int .u8 56, .int .u8 57] 5 (9, 10))) (by simp) (by simpa [digits] using bs_lit w1 5 digits (9, 10) (by simp [digits, Bytes])) (show digits.length = 9 by rfl) (by decide)
  rw [fx_digits] at h1
  refine h1.mono ?_
  rintro e w2 ⟨rfl, hb2⟩
  go_wp2_with fail
  refine (sumNone _).mono ?_
  rintro e w3 ⟨rfl, hb3⟩
  go_wp2_with fail
  have h4 := sumOne (a := some ⟨w3.heap.size, 0, none⟩) (c := 1) (t := 22) (b := w3.heap.size + 1) (w := w3.alloc (.cells #[.int .u8 97] 5 (1, 2))) (by simp) (by simpa using bs_lit w3 5 [97] (1, 2) (by simp [Bytes])) (show [97].length = 1 by rfl) (by decide)
  rw [fx_a] at h4
  refine h4.mono ?_
  rintro e w4 ⟨rfl, hb4⟩
  go_wp2_with fail
  have c1 := below_next ((Below.refl w1.heap.size w1).alloc (Nat.le_refl _) (.cells #[.int .u8 49, .int .u8 50, .int .u8 51, .int .u8 52, .int .u8 53, .int .u8 54, .int .u8 55, .int .u8 56, .int .u8 57] 5 (9, 10))) (Nat.le_refl _) hb2
  have c2 := below_next (below_next c1 (Nat.le_refl _) hb3) (Nat.le_refl _) ((Below.refl w3.heap.size w3).alloc (Nat.le_refl _) (.cells #[.int .u8 97] 5 (1, 2)))
  have c3 := below_next (below_next c2 (Nat.le_refl _) hb4) (Nat.le_refl _) ((Below.refl w4.heap.size w4).alloc (Nat.le_refl _) (.cells #[.int .u8 97] 5 (1, 2)))
  have h5 := sumAdd g 0 (some ⟨w4.heap.size, 0, none⟩) 1 1 [97] rfl (by decide) (w4.alloc (.cells #[.int .u8 97] 5 (1, 2))) (w4.heap.size + 1) (HT.out.below c3) (by simpa using bs_lit w4 5 [97] (1, 2) (by simp [Bytes]))
  rw [fx_a] at h5
  refine h5.mono ?_
  rintro e w5 ⟨rfl, rfl⟩
  clear HT
  go_wp2_with fail
  go_ret
  exact ⟨rfl, below_next hb1 (Nat.le_refl _) c3⟩
end Go.Proofs.Ytfgifimmdkiejaa
