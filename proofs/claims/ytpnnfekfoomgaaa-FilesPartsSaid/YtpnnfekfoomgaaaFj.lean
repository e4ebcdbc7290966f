/- Files in memory: contracts of isName, count and Fail. No condition but what the words say. -/
import Derived.Test.YtpnnfekfoomgaaaFi
import Derived.Test.YtpnnfekfoomgaaaBitK
set_option linter.unusedVariables false
set_option maxRecDepth 100000
namespace Go.Proofs.Ytpnnfekfoomgaaa
open Go.RowKit Go.Maps Go.ChangeMaps

theorem strIndexByte (s : ByteArray) (c : Int) (w : World) : Calls Try.prog 21 #[.string s, .int .u8 c] w fun e w' => e = .returned (.int .i64 (Lib.indexByte s.data.toList c.toNat.toUInt8)) ∧ w' = w := by
  have h : Calls Try.prog 25 #[.string s, .int .u8 c] w fun e w' => e = .returned (.int .i64 (Lib.indexByte s.data.toList c.toNat.toUInt8)) ∧ w' = w := by
    go_enter Try.func25, Try.ntmps25
    go_wp2_with fail
    rw [run_callFunc_extern Try.func29 (by kernel_rfl) (by kernel_rfl) (by kernel_rfl) (e := Extern.BytealgIndexByte.indexByte) (by kernel_rfl), Lib.run_indexByteString]
    simp only [Result.andThen]
    rw [Oper.upon_value]
    go_wp2_with fail
    go_ret
    exact ⟨rfl, rfl⟩
  go_enter Try.func21, Try.ntmps21
  go_wp2_with fail
  refine h.mono ?_
  rintro e w' ⟨rfl, rfl⟩
  go_wp2_with fail
  go_ret
  exact ⟨rfl, rfl⟩
/-- may a file have this name? -/
def nameB (s : ByteArray) : Bool := !s.toList.isEmpty && decide (s.size ≤ 64) && decide (Lib.indexByte s.data.toList 0 < 0)
theorem filesIsName (s : ByteArray) (w : World) : Calls Try.prog 16 #[.string s] w fun e w' => e = .returned (.bool (nameB s)) ∧ w' = w := by
  have hi := strIndexByte s 0 w
  rw [show (0 : Int).toNat.toUInt8 = 0 from rfl] at hi
  unfold nameB
  obtain ⟨N, hN⟩ : ∃ N : Nat, s.size = N := ⟨_, rfl⟩
  obtain ⟨I, hI⟩ : ∃ I : Int, Lib.indexByte s.data.toList 0 = I := ⟨_, rfl⟩
  rw [hI] at hi ⊢
  clear hI
  cases he : s.toList.isEmpty with
  | true =>
    go_enter Try.func16, Try.ntmps16
    go_wp2_with fail
    go_ret
    exact ⟨by simp, rfl⟩
  | false =>
    by_cases hl : s.size ≤ 64
    · by_cases hp : I < 0
      · go_enter Try.func16, Try.ntmps16
        go_wp2_with fail
        refine hi.mono ?_
        rintro e w' ⟨rfl, rfl⟩
        go_wp2_with fail
        go_ret
        exact ⟨by simp [hp]; omega, rfl⟩
      · go_enter Try.func16, Try.ntmps16
        go_wp2_with fail
        refine hi.mono ?_
        rintro e w' ⟨rfl, rfl⟩
        go_wp2_with fail
        go_ret
        exact ⟨by simp; omega, rfl⟩
    · go_enter Try.func16, Try.ntmps16
      go_wp2_with fail
      go_ret
      exact ⟨by simp; omega, rfl⟩
def UF (w : World) (n : Nat) (fs : Int → Bool) : Option Nat → Prop
  | none => ∀ i, fs i = false
  | some b => UM w b n fs
def FF (g : Nat) (fv : Option Nat) (i : Nat) : Prop := i = g ∨ fv = some i
theorem UM.same {w : World} {b n : Nat} {fs fs' : Int → Bool} (h : UM w b n fs) (he : ∀ j, fs' j = fs j) : UM w b n fs' := by
  obtain ⟨D, h, hf⟩ := h
  exact ⟨D, h, fun i => by rw [hf, he]⟩
theorem FS.turn {w W : World} {g : Nat} {rv fv : Option Nat} {n n' reads reads' : Nat} {kl : Lit} {v? : Option Value} {fs fs' : Int → Bool} (h : FS w g rv fv n reads kl v? fs) (hb : W.heap[g]? = some (.cells #[.map rv, .int .i64 reads', .map fv] 47 (0, 0)))
    (ho : ∀ b, b < w.heap.size → b ≠ g → fv ≠ some b → W.heap[b]? = w.heap[b]?) (hn : n ≤ n') (hf : UF W n' fs' fv) : FS W g rv fv n' reads' kl v? fs' := by
  refine ⟨hb, ?_, ?_⟩
  · have h2 := h.rows
    cases rv with
    | none => exact h2
    | some b =>
      refine ⟨h2.1, ?_⟩
      have h3 := h.fails
      have hk := h2.2.keep (ho b h2.2.lt h2.1 (by
        intro e
        subst e
        exact h3.2.1 rfl))
      obtain ⟨D, hd, hx⟩ := hk
      exact ⟨D, hd.mono hn, hx⟩
  · have h3 := h.fails
    cases fv with
    | none => exact hf
    | some b => exact ⟨h3.1, h3.2.1, hf⟩
set_option maxHeartbeats 4000000 in
theorem filesCount {w : World} {g : Nat} {rv fv : Option Nat} {n reads : Nat} {kl : Lit} {v? : Option Value} {fs : Int → Bool} (h : FS w g rv fv n reads kl v? fs) (hr : reads ≤ 1000000) :
    Calls Try.prog 18 #[.pointer (some ⟨g, 0, none⟩)] w fun e w' => e = .returned (.int .i64 (if fs (reads + 1) then 20 else 0)) ∧ FS w' g rv fv n (reads + 1) kl v? (fun j => !decide (j = reads + 1) && fs j) ∧ Foot (FF g fv) w w' := by
  have c1 : w.cell? ⟨g, 1, none⟩ = some (.int .i64 reads) := blk_cell h.blk 1
  have c2 : w.cell? ⟨g, 2, none⟩ = some (.map fv) := blk_cell h.blk 2
  have f1 := blk_free h.blk 1
  have hset := blk_set h.blk 1 (.int .i64 ((reads : Int) + 1))
  have hks : ∀ i, i ≠ g → (w.setCell ⟨g, 1, none⟩ (.int .i64 ((reads : Int) + 1))).heap[i]? = w.heap[i]? := fun i hi => Below.heap_setCell _ ⟨g, 1, none⟩ _ i hi
  have hft : Foot (FF g fv) w (w.setCell ⟨g, 1, none⟩ (.int .i64 ((reads : Int) + 1))) := (Foot.refl _ _).set (.inl (.inl rfl))
  obtain ⟨r, hrr⟩ : ∃ r, fs (reads + 1) = r := ⟨_, rfl⟩
  rw [hrr]
  have hlk : UF w n fs fv := by
    have hf := h.fails
    cases fv with
    | none => exact hf
    | some b => exact hf.2.2
  have H := Lib.hid (And.intro h (And.intro hset (And.intro hks (And.intro hft (And.intro hlk hrr)))))
  clear h hset hks hft hrr
  go_enter Try.func18, Try.ntmps18
  go_wp2_with fail
  generalize hw1 : w.setCell ⟨g, 1, none⟩ (.int .i64 ((reads : Int) + 1)) = w1 at *
  have hset := H.out.2.1
  have d1 : w1.cell? ⟨g, 1, none⟩ = some (.int .i64 ((reads : Int) + 1)) := blk_cell hset 1
  have d2 : w1.cell? ⟨g, 2, none⟩ = some (.map fv) := blk_cell hset 2
  have hbd : Below w1.heap.size w1 ((w1.alloc (.cells #[] 51)).drew) := low_drewN ((Below.refl w1.heap.size w1).alloc (Nat.le_refl _) _) 1
  have hg1 : g < w1.heap.size := blk_lt hset
  have e1 : ((w1.alloc (.cells #[] 51)).drew).cell? ⟨g, 1, none⟩ = some (.int .i64 ((reads : Int) + 1)) := (hbd.cell (p := ⟨g, 1, none⟩) hg1).trans d1
  have e2 : ((w1.alloc (.cells #[] 51)).drew).cell? ⟨g, 2, none⟩ = some (.map fv) := (hbd.cell (p := ⟨g, 2, none⟩) hg1).trans d2
  have hs2 : ((w1.alloc (.cells #[] 51)).drew).heap[g]? = some (.cells #[.map rv, .int .i64 ((reads + 1 : Nat) : Int), .map fv] 47 (0, 0)) := (hbd.block g hg1).trans (by rw [hset]; rfl)
  have hft2 : Foot (FF g fv) w ((w1.alloc (.cells #[] 51)).drew) := H.out.2.2.2.1.trans2 (Foot.of_below (F := fun _ => False) hbd) (fun i hi => hi.elim)
  have hsz1 : w1.heap.size = w.heap.size := by rw [← hw1]; simp [World.setCell]
  have hoth : ∀ b, b < w.heap.size → b ≠ g → ((w1.alloc (.cells #[] 51)).drew).heap[b]? = w.heap[b]? := fun b hb hne => (hbd.block b (by omega)).trans (H.out.2.2.1 b hne)
  have hrr := H.out.2.2.2.2.2
  cases fv with
  | none =>
    have hrf : r = false := by rw [← hrr]; exact hlk _
    subst hrf
    have l1 : (Instr.lookup 45 (.map none) (.int .i64 ((reads : Int) + 1)) true).run Try.prog w1.drew = .ok (.tuple #[.agg #[], .bool false]) w1.drew := Maps.look_nil true intK mapU (zeroU _) (keyOf_int_mk Try.underlying3 (i64wf (by omega)))
    have l2 : (Instr.lookup 45 (.map none) (.int .i64 ((reads : Int) + 1)) true).run Try.prog ((w1.alloc (.cells #[] 51)).drew) = .ok (.tuple #[.agg #[], .bool false]) ((w1.alloc (.cells #[] 51)).drew) := Maps.look_nil true intK mapU (zeroU _) (keyOf_int_mk Try.underlying3 (i64wf (by omega)))
    have HR : Hid (FS ((w1.alloc (.cells #[] 51)).drew) g rv none n (reads + 1) kl v? (fun j => !decide (j = reads + 1) && fs j) ∧ Foot (FF g none) w ((w1.alloc (.cells #[] 51)).drew)) :=
      Lib.hid ⟨H.out.1.turn hs2 (fun b hb hne _ => hoth b hb hne) (Nat.le_refl _) (fun i => by rw [H.out.1.fails i]; simp), hft2⟩
    clear c1 c2 f1 hbd hset H hlk hs2 hft2 hoth hrr hw1
    go_region_law (fail)
    all_goals (go_wp2_with fail; go_ret; exact ⟨rfl, HR.out⟩)
  | some b =>
    have hu : UM w b n fs := hlk
    have hbg : b ≠ g := H.out.1.fails.1
    have hub : w1.heap[b]? = w.heap[b]? := H.out.2.2.1 b hbg
    have l1 := hu.look (i := (reads : Int) + 1) (by omega) (W := w1.drew) hub
    have l2 := hu.look (i := (reads : Int) + 1) (by omega) (W := (w1.alloc (.cells #[] 51)).drew) (hoth b hu.lt hbg)
    rw [hrr] at l1 l2
    have hu2 := hu.keep (hoth b hu.lt hbg)
    have HR := Lib.hid (And.intro H.out.1 (And.intro hs2 (And.intro hft2 (And.intro hoth (And.intro hu2 (And.intro hbg hrr))))))
    clear c1 c2 f1 hbd hset H hlk hs2 hft2 hoth hu hub hu2 hrr hw1 hbg
    cases r with
    | false =>
      go_region_law (fail)
      all_goals (go_wp2_with fail; go_ret; refine ⟨rfl, HR.out.1.turn HR.out.2.1 (fun q hb hne _ => HR.out.2.2.2.1 q hb hne) (Nat.le_refl _) ?_, HR.out.2.2.1⟩; exact UM.same HR.out.2.2.2.2.1 (by intro j; by_cases hj : j = (reads : Int) + 1; { subst hj; simp [HR.out.2.2.2.2.2.2] }; { simp [hj] }))
    | true =>
      go_region_law (fail)
      all_goals (
        go_wp2_with fail
        generalize hw2 : (w1.alloc (.cells #[] 51)).drew = w2 at *
        have k1 : w2.cell? ⟨g, 1, none⟩ = some (.int .i64 ((reads : Int) + 1)) := e1
        have k2 : w2.cell? ⟨g, 2, none⟩ = some (.map (some b)) := e2
        obtain ⟨w3, hdel, hu3, hg3⟩ := HR.out.2.2.2.2.1.del (i := (reads : Int) + 1) (by omega) 0 (W := w2.drew) rfl
        have hw3s : w2.heap.size ≤ w3.heap.size := hg3.size
        have HD : Hid (FS w3 g rv (some b) n (reads + 1) kl v? (fun j => !decide (j = reads + 1) && fs j) ∧ Foot (FF g (some b)) w w3) := Lib.hid ⟨HR.out.1.turn ((hg3.block g (blk_lt HR.out.2.1) (by intro e; injection e with e; exact HR.out.2.2.2.2.2.1 e.symm)).trans HR.out.2.1) (fun q hq hne hqb => (hg3.block q (Nat.lt_of_lt_of_le hq HR.out.2.2.1.size) (by intro e; exact hqb e.symm)).trans (HR.out.2.2.2.1 q hq hne)) (Nat.le_refl _) hu3, ((HR.out.2.2.1.drewN 1).grown hg3 (fun k e => .inl (.inr e)))⟩
        clear e1 e2 d1 d2 l1 l2 hu3 hg3 hw2 hw3s
        go_region_law (fail)
        all_goals (go_wp2_with fail; go_ret; exact ⟨rfl, HD.out⟩))
end Go.Proofs.Ytpnnfekfoomgaaa
