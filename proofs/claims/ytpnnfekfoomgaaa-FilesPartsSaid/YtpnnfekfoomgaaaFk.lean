/- Files in memory: contract of Fail. No condition but what the words say. -/
import Derived.Test.YtpnnfekfoomgaaaFj
set_option linter.unusedVariables false
set_option maxRecDepth 100000
namespace Go.Proofs.Ytpnnfekfoomgaaa
open Go.RowKit Go.Maps Go.ChangeMaps

theorem eqlUn (w : World) : (binOp .eql 45 (.map none) (.map none)).run Try.prog w = .ok (.bool true) w := by kernel_rfl
theorem eqlUs (bm : Nat) (w : World) : (binOp .eql 45 (.map (some bm)) (.map none)).run Try.prog w = .ok (.bool false) w := by kernel_rfl
theorem eqlSn (w : World) : (binOp .eql 44 (.map none) (.map none)).run Try.prog w = .ok (.bool true) w := by kernel_rfl
theorem eqlSs (bm : Nat) (w : World) : (binOp .eql 44 (.map (some bm)) (.map none)).run Try.prog w = .ok (.bool false) w := by kernel_rfl
def Newer (w : World) (o o' : Option Nat) : Prop := o' = o ∨ ∃ b, o' = some b ∧ w.heap.size ≤ b
theorem filesFailBad (g : Nat) (k : Int) (hk : k < 1 ∨ 65536 < k) (w : World) : Calls Try.prog 12 #[.pointer (some ⟨g, 0, none⟩), .int .i64 k] w fun e w' => e = .returned (.int .i64 1) ∧ w' = w := by
  by_cases h1 : k < 1
  · go_enter Try.func12, Try.ntmps12
    go_wp2_with fail
    go_ret
    exact ⟨rfl, rfl⟩
  · have hd : decide (k > 65536) = true := by simp; omega
    go_enter Try.func12, Try.ntmps12
    go_wp2_with fail
    go_ret
    exact ⟨rfl, rfl⟩
theorem filesFailNil (k : Int) (w : World) : Calls Try.prog 12 #[.pointer none, .int .i64 k] w fun e w' => e = .returned (.int .i64 1) ∧ w' = w := by
  go_enter Try.func12, Try.ntmps12
  go_wp2_with fail
  go_ret
  exact ⟨rfl, rfl⟩
set_option maxHeartbeats 4000000 in
theorem filesFail {w : World} {g : Nat} {rv fv : Option Nat} {n reads : Nat} {kl : Lit} {v? : Option Value} {fs : Int → Bool} (h : FS w g rv fv n reads kl v? fs) (hr : reads ≤ 1000000) (hn : n < 1000000) (k : Nat) (hk : 1 ≤ k ∧ k ≤ 65536) :
    Calls Try.prog 12 #[.pointer (some ⟨g, 0, none⟩), .int .i64 k] w fun e w' => e = .returned (.int .i64 0) ∧ ∃ fv', FS w' g rv fv' (n + 1) reads kl v? (fun j => decide (j = ((reads + k : Nat) : Int)) || fs j) ∧ Foot (FF g fv) w w' ∧ Newer w fv fv' := by
  have c1 : w.cell? ⟨g, 1, none⟩ = some (.int .i64 reads) := blk_cell h.blk 1
  have c2 : w.cell? ⟨g, 2, none⟩ = some (.map fv) := blk_cell h.blk 2
  have f2 := blk_free h.blk 2
  have hd1 : ¬ k < 1 := by omega
  have hd2 : decide ((k : Int) > 65536) = false := by simp; omega
  have hg := blk_lt h.blk
  have hmax : n < maxLen := by unfold maxLen; omega
  cases fv with
  | some b =>
    have hf := h.fails
    obtain ⟨w2, hup, hu2, hg2⟩ := hf.2.2.put hmax (i := (reads : Int) + (k : Int)) (by omega) (W := w.drew) rfl
    have HR : Hid (FS w2 g rv (some b) (n + 1) reads kl v? (fun j => decide (j = ((reads + k : Nat) : Int)) || fs j) ∧ Foot (FF g (some b)) w w2) := Lib.hid ⟨h.turn ((hg2.block g hg (by intro e; injection e with e; exact hf.1 e.symm)).trans h.blk) (fun q hq hne hqb => hg2.block q hq (by intro e; exact hqb e.symm)) (by omega) (by rw [show ((reads + k : Nat) : Int) = (reads : Int) + (k : Int) by omega]; exact hu2), (((Foot.refl _ _).drewN 1).grown hg2 (fun q e => .inl (.inr e)))⟩
    have q1 := eqlUs b
    have hwr : IntKind.i64.wrap ((reads : Int) + (k : Int)) = (reads : Int) + (k : Int) := IntWalk.i64_in _ (by omega)
    clear h hf hu2 hg2
    go_enter Try.func12, Try.ntmps12
    go_wp2_with fail
    go_region_law (fail)
    all_goals (go_wp2_with fail; go_ret; exact ⟨rfl, _, HR.out.1, HR.out.2, .inl rfl⟩)
  | none =>
    have hmm := @run_makeMap Try.prog
    obtain ⟨w1, hw1⟩ : ∃ w1, (w.setCell ⟨g, 2, none⟩ (.map (some w.heap.size))).alloc (.map #[] 0) = w1 := ⟨_, rfl⟩
    have hs0 : (w.setCell ⟨g, 2, none⟩ (.map (some w.heap.size))).heap.size = w.heap.size := by simp [World.setCell]
    have hks : ∀ i, i < w.heap.size → i ≠ g → w1.heap[i]? = w.heap[i]? := fun i hi hne => by rw [← hw1, Below.heap_alloc _ _ _ (by omega)]; exact Below.heap_setCell _ ⟨g, 2, none⟩ _ i hne
    have hset : w1.heap[g]? = some (.cells #[.map rv, .int .i64 reads, .map (some w.heap.size)] 47 (0, 0)) := by rw [← hw1, Below.heap_alloc _ _ _ (by omega)]; exact blk_set h.blk 2 _
    have hft : Foot (FF g none) w w1 := by rw [← hw1]; exact ((Foot.refl _ _).set (.inl (.inl rfl))).alloc _
    have hsz : w1.heap.size = w.heap.size + 1 := by rw [← hw1]; simp [World.setCell]
    have hum : UM w1 w.heap.size 0 (fun _ => false) := by
      have := UM.made (w.setCell ⟨g, 2, none⟩ (.map (some w.heap.size)))
      rw [hs0, hw1] at this
      exact this
    have hu0 : UM w1 w.heap.size n fs := by
      obtain ⟨D, hd, hx⟩ := hum
      exact ⟨D, hd.mono (Nat.zero_le _), fun i => by rw [hx, h.fails i]⟩
    obtain ⟨w2, hup, hu2, hg2⟩ := hu0.put hmax (i := (reads : Int) + (k : Int)) (by omega) (W := w1.drew) rfl
    have k1 : w1.cell? ⟨g, 1, none⟩ = some (.int .i64 reads) := blk_cell hset 1
    have k2 : w1.cell? ⟨g, 2, none⟩ = some (.map (some w.heap.size)) := blk_cell hset 2
    have hb2 : w2.heap[g]? = some (.cells #[.map rv, .int .i64 reads, .map (some w.heap.size)] 47 (0, 0)) := (hg2.block g (by show g < w1.heap.size; omega) (by intro e; injection e with e; omega)).trans hset
    have hrows : rowsOf w2 g (n + 1) kl v? rv := by
      have h2 := h.rows
      cases rv with
      | none => exact h2
      | some b =>
        have hlt := h2.2.lt
        obtain ⟨D, hd, hx⟩ := h2.2.keep (w' := w2) ((hg2.block b (by show b < w1.heap.size; omega) (by intro e; injection e with e; omega)).trans (hks b hlt h2.1))
        exact ⟨h2.1, D, hd.mono (by omega), hx⟩
    have hrn : rv ≠ some w.heap.size := by
      intro e
      subst e
      have := h.rows.2.lt
      omega
    have HR : Hid (FS w2 g rv (some w.heap.size) (n + 1) reads kl v? (fun j => decide (j = ((reads + k : Nat) : Int)) || fs j) ∧ Foot (FF g none) w w2) := Lib.hid ⟨⟨hb2, hrows, by omega, hrn, by rw [show ((reads + k : Nat) : Int) = (reads : Int) + (k : Int) by omega]; exact hu2⟩, ((hft.drewN 1).grown hg2 (fun q e => .inr (by injection e with e; omega)))⟩
    have HW := Lib.hid hw1
    clear h hks hs0 hset hft hum hu0 hu2 hg2 hb2 hrows hrn hw1
    have q1 := eqlUn
    have hwr : IntKind.i64.wrap ((reads : Int) + (k : Int)) = (reads : Int) + (k : Int) := IntWalk.i64_in _ (by omega)
    go_enter Try.func12, Try.ntmps12
    go_wp2_with fail
    rw [HW.out]
    clear c1 c2 f2 HW hmm
    go_region_law (fail)
    all_goals (go_wp2_with fail; go_ret; exact ⟨rfl, _, HR.out.1, HR.out.2, .inr ⟨_, rfl, Nat.le_refl _⟩⟩)
end Go.Proofs.Ytpnnfekfoomgaaa
