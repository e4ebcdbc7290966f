/- The walk of the law SqueezeRows: it returns true and turns nothing that was there. Condition: the order of the lengths lies where the program's own text lays it. -/
import Derived.Test.YthfhafnffeijpaaDoorFix7
set_option linter.unusedVariables false
set_option maxRecDepth 100000
namespace Go.Proofs.YthfhafnffeijpaaDoor
open Go.RowKit

theorem row_is (w : World) (n : Nat) (hn : n ≤ 40000) : Calls Tryd.prog 20 #[.int .i64 n] w fun e w' => e = .returned (.int .i64 (8 + n / 64 : Nat)) ∧ w' = w := by
  go_enter Tryd.func20, Tryd.ntmps20
  go_wp2_with fail
  go_ret
  exact ⟨by congr 2, rfl⟩
/-- n bytes of which the first k are written -/
def filled (x : Int) (n k : Nat) : List Int := List.replicate k x ++ List.replicate (n - k) 0
theorem filled_len (x : Int) {n k : Nat} (h : k ≤ n) : (filled x n k).length = n := by unfold filled; simp; omega
theorem filled_set (x : Int) {n k : Nat} (h : k < n) : ((filled x n k).map (Value.int .u8)).toArray.set! k (.int .u8 x) = ((filled x n (k + 1)).map (Value.int .u8)).toArray := by
  unfold filled
  obtain ⟨m, hm⟩ : ∃ m, n - k = m + 1 := ⟨n - k - 1, by omega⟩
  rw [hm, show n - (k + 1) = m by omega, List.replicate_succ, List.replicate_succ']
  apply Array.ext'
  simp
set_option maxHeartbeats 8000000 in
theorem squeezerows_walk (w : World) (x : Int) (hx : 0 ≤ x ∧ x ≤ 255) (u : Int) (hu : 0 ≤ u ∧ u ≤ 65535) (hord : Ord w) :
    Calls Tryd.prog 5 #[.int .u8 x, .int .u16 u] w fun e w' => e = .returned (.bool true) ∧ Below w.heap.size w w' := by
  have hfx := fixed7 w hord
  have H0 := Lib.hid (And.intro hord hx)
  clear hord hx
  obtain ⟨N, hN⟩ : ∃ N : Nat, u % 32769 = N := Int.eq_ofNat_of_zero_le (by omega)
  have hN2 : N ≤ 32768 := by omega
  have hmk := fun W => run_make_bytes N (by omega) W
  go_enter Tryd.func5, Tryd.ntmps5
  go_wp2_with fail
  refine hfx.mono ?_
  rintro e w1 ⟨rfl, hb1⟩
  have H1 := Lib.hid hb1
  clear hfx hb1
  go_wp2_with fail
  clear hmk
  have hal := (Below.refl w1.heap.size w1).alloc (Nat.le_refl _) (.cells (Array.replicate N (Value.int .u8 0)) 5)
  have hnew := heap_alloc_new w1 (.cells (Array.replicate N (Value.int .u8 0)) 5)
  have H2 : Hid ((w1.alloc (.cells (Array.replicate N (Value.int .u8 0)) 5)).heap[w1.heap.size]? = some (.cells ((filled x N 0).map (Value.int .u8)).toArray 5 (0, 0)) ∧ Below w.heap.size w (w1.alloc (.cells (Array.replicate N (Value.int .u8 0)) 5))) := Lib.hid ⟨by rw [hnew]; simp [filled], below_next H1.out (Nat.le_refl _) hal⟩
  clear hal hnew
  generalize (w1.alloc (.cells (Array.replicate N (Value.int .u8 0)) 5)) = w2 at *
  obtain ⟨g, hg⟩ : ∃ g, w1.heap.size = g := ⟨_, rfl⟩
  have hgw : w.heap.size ≤ g := by rw [← hg]; exact H1.out.size
  rw [hg] at H2 ⊢
  clear hg
  go_loopw [20] (fun i wr => ∃ k : Nat, k ≤ N ∧ i = .int .i64 k ∧ Hid (wr.heap[g]? = some (.cells ((filled x N k).map (Value.int .u8)).toArray 5 (0, 0)) ∧ Below w.heap.size w wr)) (fun i _ => N - (intOf i).toNat)
  case atStart => exact ⟨0, Nat.zero_le _, rfl, H2⟩
  case round =>
    clear H2
    obtain ⟨k, hk, rfl, HQ⟩ := hrel
    by_cases hlt : k < N
    · obtain ⟨hblk, hbel⟩ := HQ.out
      have hcell : wr.cell? ⟨g, k, none⟩ = some (.int .u8 ((filled x N k).getD k 0)) := by
        rw [blk_cell hblk, List.getElem?_toArray, List.getElem?_map, List.getD_eq_getElem?_getD, List.getElem?_eq_getElem (by rw [filled_len x hk]; exact hlt)]; rfl
      have hfree := blk_free hblk k
      have hset := blk_set hblk k (.int .u8 x)
      rw [← Array.set!_eq_setIfInBounds, filled_set x hlt] at hset
      have HS : Hid ((wr.setCell ⟨g, k, none⟩ (.int .u8 x)).heap[g]? = some (.cells ((filled x N (k + 1)).map (Value.int .u8)).toArray 5 (0, 0)) ∧ Below w.heap.size w (wr.setCell ⟨g, k, none⟩ (.int .u8 x))) := Lib.hid ⟨hset, Below.setCell hbel hgw _⟩
      clear hblk hbel hset HQ
      generalize (filled x N k).getD k 0 = y0 at *
      go_wp2_with fail
      go_roundw
      case rel => exact ⟨k + 1, by omega, by go_num, HS⟩
      case measure => simp [intOf]; omega
    · obtain rfl : N = k := by omega
      obtain ⟨hblk, hbel⟩ := HQ.out
      have hfl : filled x N N = List.replicate N x := by unfold filled; simp
      rw [hfl] at hblk
      have hB := bytes_rep x H0.out.2 N
      have bsr : Bs wr wr.heap.size (some ⟨g, 0, none⟩) (List.replicate N x) := ⟨hB, fun _ => ⟨g, 0, rfl, blk_lt hblk, fun i hi => by
        rw [blk_cell hblk, Nat.zero_add, List.getElem?_toArray, List.getElem?_map, List.getD_eq_getElem?_getD, List.getElem?_eq_getElem hi]; rfl⟩⟩
      have hq := sqAll wr (some ⟨g, 0, none⟩) N N (List.replicate N x) List.length_replicate (Nat.le_refl _) (by omega) bsr
      have HW := Lib.hid (And.intro hbel (And.intro bsr hB))
      clear hblk hbel hfl bsr HQ hB
      go_wp2_with fail
      refine hq.mono ?_
      intro e w3 h3
      obtain ⟨hb3, b, cb, rfl, ho3⟩ := allq_ok h3 (by rw [List.length_replicate]; exact hN2)
      have hin := squeeze_back HW.out.2.2 (by rw [List.length_replicate]; exact hN2)
      rw [List.length_replicate] at hin
      have hm1 := bits_row x H0.out.2 N hN2
      have bs3 := Bs.of_own ho3 (pk_bytes _)
      generalize pk (bitsS (List.replicate N x)) = B at *
      obtain ⟨NB, hNB⟩ : ∃ NB, B.length = NB := ⟨_, rfl⟩
      rw [hNB] at hin hm1 ⊢
      have hw3 := below_next HW.out.1 (Nat.le_refl _) hb3
      have hc4 := all_is (w := w3) b NB cb B hNB (by omega) bs3 N (by omega) (H0.out.1.below hw3)
      have H3 := Lib.hid (And.intro hw3 (And.intro ((HW.out.2.1.below hb3).more hb3.size) hin))
      clear hq h3 hb3 ho3 hin bs3 hw3 HW
      go_wp2_with fail
      refine hc4.mono ?_
      intro e w4 h4
      obtain ⟨hb4, y, cy, rfl, hBy, _, hoy⟩ := alls_ok h4 H3.out.2.2
      rw [List.length_replicate] at hoy ⊢
      have hw4 := below_next H3.out.1 (Nat.le_refl _) hb4
      have hs1 := same_trueR (w := w4) (a := y) (a' := some ⟨g, 0, none⟩) (n := N) (c := cy) (n' := N) (c' := N) (l := List.replicate N x) List.length_replicate List.length_replicate (by rw [List.length_replicate]; unfold maxLen; omega) (Bs.of_own (by rw [List.length_replicate]; exact hoy) hBy) (H3.out.2.1.below hb4)
      have hro := row_is w4 N (by omega)
      obtain ⟨R, hR⟩ : ∃ R, 8 + N / 64 = R := ⟨_, rfl⟩
      rw [hR] at hro hm1
      have t1 : decide (NB ≤ R) = true := by simp; omega
      have t3 : ((NB : Int) == (NB : Int)) = true := by simp
      have H4 := Lib.hid hw4
      clear hc4 h4 hb4 hw4 hBy hoy hR hm1 hNB
      go_wp2_with fail
      refine hro.mono ?_
      rintro e w5 ⟨rfl, rfl⟩
      clear hro
      go_wp2_with fail
      refine hs1.mono ?_
      rintro e w6 ⟨rfl, d, rfl⟩
      clear hs1
      go_wp2_with fail
      go_ret
      exact ⟨rfl, low_drewN H4.out _⟩
end Go.Proofs.YthfhafnffeijpaaDoor
