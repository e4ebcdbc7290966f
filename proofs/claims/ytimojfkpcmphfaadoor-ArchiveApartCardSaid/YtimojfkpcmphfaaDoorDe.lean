/- Directory where no entries are, and where the end is wrong. Condition: the bytes are bytes. -/
import Derived.Test.YtimojfkpcmphfaaDoorDc
set_option linter.unusedVariables false
set_option maxRecDepth 100000
namespace Go.Proofs.YtimojfkpcmphfaaDoor
open Go.RowKit Go.Maps Go.ChangeMaps

section
variable {w : World} {g : Nat} {x0 x1 x2 x3 x4 x5 x6 : Value}
theorem centralZ (h : w.heap[g]? = some (.cells #[x0, x1, .int .i64 0, .int .i64 0, .int .i64 0, x5, x6] 46 (0, 0))) :
    Calls Tryd.prog 18 #[.pointer (some ⟨g, 0, none⟩)] w fun e w' => e = .returned (.int .i64 0) ∧ w' = w := by
  have c2 : w.cell? ⟨g, 2, none⟩ = some (.int .i64 0) := by rw [blk_cell h]; rfl
  have c3 : w.cell? ⟨g, 3, none⟩ = some (.int .i64 0) := by rw [blk_cell h]; rfl
  have c4 : w.cell? ⟨g, 4, none⟩ = some (.int .i64 0) := by rw [blk_cell h]; rfl
  clear h
  go_enter Tryd.func18, Tryd.ntmps18
  go_wp2_with fail
  go_loopw [3, 14] (fun v i wr => v = .int .i64 0 ∧ i = .int .i64 0 ∧ wr = w) (fun _ _ _ => 0)
  case atStart => exact ⟨rfl, rfl, rfl⟩
  case round =>
    obtain ⟨rfl, rfl, rfl⟩ := hrel
    go_wp2_with fail
    go_ret
    exact ⟨rfl, rfl⟩
theorem localsZ (h : w.heap[g]? = some (.cells #[x0, x1, x2, x3, x4, x5, .slice none 0 0] 46 (0, 0))) :
    Calls Tryd.prog 19 #[.pointer (some ⟨g, 0, none⟩)] w fun e w' => e = .returned (.int .i64 0) ∧ w' = w := by
  have c6 : w.cell? ⟨g, 6, none⟩ = some (.slice none 0 0) := by rw [blk_cell h]; rfl
  clear h
  go_enter Tryd.func19, Tryd.ntmps19
  go_wp2_with fail
  go_loopw [9] (fun i wr => i = .int .i64 0 ∧ wr = w) (fun _ _ => 0)
  case atStart => exact ⟨rfl, rfl⟩
  case round =>
    obtain ⟨rfl, rfl⟩ := hrel
    go_wp2_with fail
    go_ret
    exact ⟨rfl, rfl⟩
theorem overlapZ (h : w.heap[g]? = some (.cells #[x0, x1, x2, x3, x4, x5, .slice none 0 0] 46 (0, 0))) :
    Calls Tryd.prog 20 #[.pointer (some ⟨g, 0, none⟩)] w fun e w' => e = .returned (.bool false) ∧ w' = w := by
  have c6 : w.cell? ⟨g, 6, none⟩ = some (.slice none 0 0) := by rw [blk_cell h]; rfl
  clear h
  go_enter Tryd.func20, Tryd.ntmps20
  go_wp2_with fail
  go_loopw [12] (fun i wr => i = .int .i64 0 ∧ wr = w) (fun _ _ => 0)
  case atStart => exact ⟨rfl, rfl⟩
  case round =>
    obtain ⟨rfl, rfl⟩ := hrel
    go_wp2_with fail
    go_ret
    exact ⟨rfl, rfl⟩
theorem recordsZ (h : w.heap[g]? = some (.cells #[x0, x1, x2, x3, x4, x5, .slice none 0 0] 46 (0, 0))) :
    Calls Tryd.prog 21 #[.pointer (some ⟨g, 0, none⟩)] w fun e w' => e = .returned (.slice none 0 0) ∧ Below w.heap.size w w' := by
  have c6 : w.cell? ⟨g, 6, none⟩ = some (.slice none 0 0) := by rw [blk_cell h]; rfl
  clear h
  go_enter Tryd.func21, Tryd.ntmps21
  go_wp2_with fail
  go_loopw [3, 11] (fun v i wr => v = .slice none 0 0 ∧ i = .int .i64 0 ∧ wr = w) (fun _ _ _ => 0)
  case atStart => exact ⟨rfl, rfl, rfl⟩
  case round =>
    obtain ⟨rfl, rfl, rfl⟩ := hrel
    go_wp2_with fail
    go_ret
    exact ⟨rfl, Below.refl _ _⟩
end
def dirW (w w1 : World) (b : Option Addr) (n c : Nat) : World := (w1.alloc (Obj.map #[] 0)).alloc (.cells #[.slice b n c, .map (some w.heap.size), .int .i64 0, .int .i64 0, .int .i64 0, .map (some w1.heap.size), .slice none 0 0] 46)
theorem dir_end {w w1 : World} {b : Option Addr} {c k : Nat} {l : List Int} (hc : l.length ≤ c) (hm : l.length ≤ 65536) (hb : Bs w w.heap.size b l) (hmp : Mp4 w1 w.heap.size k (sigF true true true)) (hb1 : Below w.heap.size w w1) :
    Calls Tryd.prog 17 #[.pointer (some ⟨w1.heap.size + 1, 0, none⟩)] (dirW w w1 b l.length c) fun e w' => Below w.heap.size w w' ∧ ((∃ er, endS l = .error er ∧ er ≠ 0 ∧ e = .returned (.int .i64 er)) ∨ (∃ fr tt ct, endS l = .ok (fr, (tt : Nat), ct) ∧ e = .returned (.int .i64 0) ∧ w'.heap[w1.heap.size + 1]? = some (.cells #[.slice b l.length c, .map (some w.heap.size), .int .i64 fr, .int .i64 tt, .int .i64 ct, .map (some w1.heap.size), .slice none 0 0] 46 (0, 0)))) := by
  have hnew := heap_alloc_new (w1.alloc (Obj.map #[] 0)) (.cells #[.slice b l.length c, .map (some w.heap.size), .int .i64 0, .int .i64 0, .int .i64 0, .map (some w1.heap.size), .slice none 0 0] 46)
  rw [show (w1.alloc (Obj.map #[] 0)).heap.size = w1.heap.size + 1 by simp] at hnew
  have hbl : Below w1.heap.size w1 (dirW w w1 b l.length c) := ((Below.refl w1.heap.size w1).alloc (Nat.le_refl _) (Obj.map #[] 0)).alloc (by simp) (.cells #[.slice b l.length c, .map (some w.heap.size), .int .i64 0, .int .i64 0, .int .i64 0, .map (some w1.heap.size), .slice none 0 0] 46)
  have hsz := hb1.size
  have hs2 : (dirW w w1 b l.length c).heap.size = w1.heap.size + 2 := by unfold dirW; simp
  have hlow := below_next hb1 (Nat.le_refl _) hbl
  have hm2 : Mp4 (dirW w w1 b l.length c) w.heap.size k (sigF true true true) := hmp.blk (hbl.block _ hmp.lt)
  refine (lkEnd hnew hm2 hc hm (hb.below hlow) (by omega)).mono ?_
  rintro e w' ⟨ho, h⟩
  exact ⟨low_only hlow ho (by omega) (Nat.le_refl _), h⟩
set_option maxHeartbeats 2000000 in
theorem dirErr (w : World) (b : Option Addr) (c : Nat) (l : List Int) (hc : l.length ≤ c) (hm : l.length ≤ 65536) (hb : Bs w w.heap.size b l) (er : Int) (he : endS l = .error er) : Calls Tryd.prog 8 #[.slice b l.length c] w fun e w' => e = .returned (.tuple #[.slice none 0 0, .int .i64 er]) ∧ Below w.heap.size w w' := by
  have hmm := @run_makeMap Tryd.prog
  have hsg := sigs_is w
  have hlen : decide ((l.length : Int) > 65536) = false := by simp; omega
  have HB := Lib.hid hb
  clear hb
  go_enter Tryd.func8, Tryd.ntmps8
  go_wp2_with fail
  refine hsg.mono ?_
  rintro e w1 ⟨k, rfl, hmp, hb1⟩
  have hen := dir_end hc hm HB.out hmp hb1
  clear hsg hmp hb1
  unfold dirW at hen
  go_wp2_with fail
  refine hen.mono ?_
  rintro e w2 ⟨hb2, ⟨er', h1, h2, rfl⟩ | ⟨fr, tt, ct, h1, _, _⟩⟩
  · rw [he] at h1
    injection h1 with h1
    subst h1
    have t1 : (er != 0) = true := by simp [h2]
    have H2 := Lib.hid hb2
    clear hen hb2
    go_wp2_with fail
    go_ret2
    exact ⟨rfl, H2.out⟩
  · rw [he] at h1; cases h1
set_option maxHeartbeats 2000000 in
theorem dirZero (w : World) (b : Option Addr) (c : Nat) (l : List Int) (hc : l.length ≤ c) (hm : l.length ≤ 65536) (hb : Bs w w.heap.size b l) (he : endS l = .ok (0, 0, 0)) : Calls Tryd.prog 8 #[.slice b l.length c] w fun e w' => e = .returned (.tuple #[.slice none 0 0, .int .i64 0]) ∧ Below w.heap.size w w' := by
  have hmm := @run_makeMap Tryd.prog
  have hsg := sigs_is w
  have hlen : decide ((l.length : Int) > 65536) = false := by simp; omega
  have HB := Lib.hid hb
  clear hb
  go_enter Tryd.func8, Tryd.ntmps8
  go_wp2_with fail
  refine hsg.mono ?_
  rintro e w1 ⟨k, rfl, hmp, hb1⟩
  have hen := dir_end hc hm HB.out hmp hb1
  have hsz := Lib.hid hb1.size
  clear hsg hmp hb1
  unfold dirW at hen
  go_wp2_with fail
  refine hen.mono ?_
  rintro e w2 ⟨hb2, ⟨er', h1, _, _⟩ | ⟨fr, tt, ct, h1, rfl, hh⟩⟩
  · rw [he] at h1; cases h1
  · rw [he] at h1
    injection h1 with h1
    injection h1 with h3 h4
    injection h4 with h4 h5
    subst h3 h4 h5
    have hce := centralZ hh
    have hlo := localsZ hh
    have hov := overlapZ hh
    have hre := recordsZ hh
    have H2 := Lib.hid hb2
    clear hen hb2 hh
    go_wp2_with fail
    refine hce.mono ?_
    rintro e w3 ⟨rfl, rfl⟩
    clear hce
    go_wp2_with fail
    refine hlo.mono ?_
    rintro e w4 ⟨rfl, rfl⟩
    clear hlo
    go_wp2_with fail
    refine hov.mono ?_
    rintro e w5 ⟨rfl, rfl⟩
    clear hov
    go_wp2_with fail
    refine hre.mono ?_
    rintro e w6 ⟨rfl, hb6⟩
    have H6 := Lib.hid (below_next H2.out (Nat.le_refl _) hb6)
    clear hre hb6
    go_wp2_with fail
    go_ret2
    exact ⟨rfl, H6.out⟩
end Go.Proofs.YtimojfkpcmphfaaDoor
