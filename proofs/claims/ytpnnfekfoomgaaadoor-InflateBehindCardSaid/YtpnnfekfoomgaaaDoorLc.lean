/- The code of lengths: contract of lengthCode. Condition: the order of the lengths lies where the program's own text lays it. -/
import Derived.Test.YtpnnfekfoomgaaaDoorLe
import Derived.Test.YtpnnfekfoomgaaaDoorPrN
set_option linter.unusedVariables false
set_option maxRecDepth 100000
namespace Go.Proofs.YtpnnfekfoomgaaaDoor
open Go.RowKit

/-- the package's row of places lies in block 0 -/
def Ord (w : World) : Prop := ∃ fr : TypeId × Nat × Nat, w.heap[0]? = some (.cells (arrN 19 fun i => ((tellO.getD i 0 : Nat) : Int)) fr.1 fr.2)
theorem Ord.only {w w' : World} {gr : Nat} (h : Ord w) (ho : Only gr w w') (hg : gr ≠ 0) : Ord w' := by
  obtain ⟨fr, h⟩ := h
  exact ⟨fr, (ho.block 0 (blk_lt h) (by intro e; injection e with e; exact hg e.symm)).trans h⟩
theorem tell_lt : ∀ k, k < 19 → tellO.getD k 0 < 19 ∧ tellO.idxOf (tellO.getD k 0) = k := by decide
theorem tell_inj : ∀ j, j < 19 → ∀ k, k < 19 → tellO.idxOf j = k → j = tellO.getD k 0 := by decide
/-- the lengths that are told with the first k places -/
def placed (l : List Int) (p k j : Nat) : Int := if tellO.idxOf j < k then tk l (p + 3 * tellO.idxOf j) 3 else 0
theorem placed_set (l : List Int) (p k : Nat) (hk : k < 19) : (arrN 19 fun j => if j = tellO.getD k 0 then tk l (p + 3 * k) 3 else placed l p k j) = arrN 19 (placed l p (k + 1)) := arrN_congr fun j hj => by
  unfold placed
  by_cases e : j = tellO.getD k 0
  · subst e
    rw [if_pos rfl, (tell_lt k hk).2, if_pos (by omega)]
  · rw [if_neg e]
    have hne : tellO.idxOf j ≠ k := fun h => e (tell_inj j hj k hk h)
    by_cases h1 : tellO.idxOf j < k
    · rw [if_pos h1, if_pos (by omega)]
    · rw [if_neg h1, if_neg (by omega)]
theorem takesS_rep (l : List Int) : ∀ (n p : Nat), p ≤ 8 * l.length → takesS l p (List.replicate n 3) = if p + 3 * n ≤ 8 * l.length then .ok ((List.range n).map fun i => tk l (p + 3 * i) 3, p + 3 * n) else .error 2
  | 0, p, hp => by rw [if_pos (by omega)]; rfl
  | n + 1, p, hp => by
    rw [List.replicate_succ, takesS]
    by_cases h3 : p + 3 ≤ 8 * l.length
    · rw [takeS_ok h3]
      simp only
      rw [takesS_rep l n (p + 3) h3]
      by_cases h : p + 3 * (n + 1) ≤ 8 * l.length
      · rw [if_pos h, if_pos (by omega)]
        simp only
        rw [List.range_succ_eq_map, List.map_cons, List.map_map, show p + 3 + 3 * n = p + 3 * (n + 1) by omega]
        congr 3
        apply List.map_congr_left
        intro i _
        show tk l (p + 3 + 3 * i) 3 = tk l (p + 3 * (i + 1)) 3
        congr 1; omega
      · rw [if_neg h, if_neg (by omega)]
    · rw [takeS_bad h3, if_neg (by omega)]
/-- the code of lengths, and the place behind -/
def lcS (l : List Int) (p n : Nat) : Except Int (List Nat × Nat) := if p + 3 * n ≤ 8 * l.length then (if errN (someS l p n) false = 0 then .ok (nsOf (someS l p n), p + 3 * n) else .error (errN (someS l p n) false)) else .error 2
theorem someS_placed (l : List Int) (p n : Nat) : someS l p n = (List.range 19).map (placed l p n) := rfl
theorem someS_ints {w : World} {B : Nat} {l : List Int} {p n : Nat} (h : w.heap[B]? = some (.cells (arrN 19 (placed l p n)) 3 (0, 0))) : Ints .i64 w w.heap.size (some ⟨B, 0, none⟩) (someS l p n) := by
  rw [someS_placed]
  refine ⟨fun x hx => ?_, fun hp => ⟨B, 0, rfl, blk_lt h, fun i hi => ?_⟩⟩
  · obtain ⟨j, _, rfl⟩ := List.mem_map.1 hx
    have hb : 0 ≤ placed l p n j ∧ placed l p n j < 8 := by
      unfold placed
      split
      · have := tk_bd l (p + 3 * tellO.idxOf j) 3
        rwa [show (2 : Int) ^ 3 = 8 by decide] at this
      · omega
    simp [Lit.wf, IntKind.min, IntKind.max, IntKind.signed, IntKind.bits]; omega
  · rw [List.length_map, List.length_range] at hi
    rw [blk_cell h, Nat.zero_add, arrN_get _ _ hi, List.getD_eq_getElem?_getD, List.getElem?_map, List.getElem?_range hi]; rfl
section
variable {w : World} {gu gr : Nat} {l : List Int} {limit : Nat} {fl fd : Option Addr} {p : Nat} {out : List Int} {o : Option Addr × Nat}
/-- what lengthCode answers -/
def Lcd (w : World) (gu gr : Nat) (l : List Int) (limit : Nat) (fl fd : Option Addr) (out : List Int) (o : Option Addr × Nat) (s : Except Int (List Nat × Nat)) (e : Ending) (w' : World) : Prop :=
  Only gr w w' ∧ ((∃ ns p' g, s = .ok (ns, p') ∧ e = .returned (.tuple #[.pointer (some ⟨g, 0, none⟩), .int .i64 0]) ∧ Un w' gu gr l limit fl fd p' out o ∧ PC w' (fun b => w.heap.size ≤ b ∧ b < w'.heap.size) g ns) ∨ (∃ er, s = .error er ∧ er ≠ 0 ∧ e = .returned (.tuple #[.pointer none, .int .i64 er])))
set_option maxHeartbeats 4000000 in
theorem unLengthCode (n : Nat) (hn : n ≤ 19) (hord : Ord w) (h : Un w gu gr l limit fl fd p out o) (hg0 : gr ≠ 0) :
    Calls Tryd.prog 60 #[.pointer (some ⟨gu, 0, none⟩), .int .i64 n] w (Lcd w gu gr l limit fl fd out o (lcS l p n)) := by
  have hp := h.rdr.choose_spec.choose_spec.2.2.2.2.1
  have hgu := blk_lt h.blk
  have hgr := h.under
  have hb1 := (Below.refl w.heap.size w).alloc (Nat.le_refl _) (.cells #[.int .i64 3] 3)
  have hnew := heap_alloc_new w (.cells #[.int .i64 3] 3)
  have hsz : (w.alloc (.cells #[.int .i64 3] 3)).heap.size = w.heap.size + 1 := by simp
  have hrp := repeat_is 3 n (by omega) w.heap.size (w.alloc (.cells #[.int .i64 3] 3)) (by rw [hsz]; omega) (by rw [blk_cell hnew]; rfl) 1
  have HB := Lib.hid (And.intro hb1 (And.intro hsz (And.intro h hord)))
  have HW := Lib.hid h
  clear hb1 hnew hsz h hord
  go_enter Tryd.func60, Tryd.ntmps60
  go_wp2_with fail
  refine hrp.mono ?_
  rintro e w2 ⟨rfl, hblk, hb2⟩
  obtain ⟨hb1, hsz, h, hord⟩ := HB.out
  rw [hsz] at hblk hb2
  have hB2 : Below w.heap.size w w2 := below_next hb1 (Nat.le_refl _) (by rw [hsz]; exact hb2)
  have hU2 := h.below hB2
  have hints : Ints .i64 w2 w2.heap.size (some ⟨w.heap.size + 1, 0, none⟩) ((List.replicate n 3).map Int.ofNat) := by
    refine ⟨fun x hx => ?_, fun _ => ⟨_, 0, rfl, blk_lt hblk, fun i hi => ?_⟩⟩
    · rw [List.map_replicate] at hx; rw [List.eq_of_mem_replicate hx]; rfl
    · rw [List.length_map, List.length_replicate] at hi
      rw [blk_cell hblk, Nat.zero_add, arrN_get _ _ hi, List.getD_eq_getElem?_getD, List.map_replicate, List.getElem?_replicate, if_pos hi]; rfl
  have htake := unTake (ws := List.replicate n 3) (a := some ⟨w.heap.size + 1, 0, none⟩) (n := n) (c := n) hU2 List.length_replicate (by omega) (by intro x hx; rw [List.eq_of_mem_replicate hx]; decide) hints (by intro b off e; injection e with e; injection e with e; omega)
  have HT := Lib.hid (And.intro hB2 hord)
  clear hb1 hsz h hord hblk hb2 hU2 hints HB hrp
  go_wp2_with fail
  refine htake.mono ?_
  rintro e w3 ⟨ho, ⟨vs, p', hv, hvl, rfl, hblk, hU⟩ | ⟨er, hv, hne, rfl⟩⟩
  · rw [takesS_rep _ _ _ hp] at hv
    have hfit : p + 3 * n ≤ 8 * l.length := by
      rcases Nat.lt_or_ge (8 * l.length) (p + 3 * n) with h | h
      · rw [if_neg (by omega)] at hv; cases hv
      · exact h
    rw [if_pos hfit] at hv
    injection hv with hv
    injection hv with hv1 hv2
    subst hv2
    have hls : lcS l p n = if errN (someS l p n) false = 0 then .ok (nsOf (someS l p n), p + 3 * n) else .error (errN (someS l p n) false) := if_pos hfit
    have hO3 : Only gr w w3 := only_trans (below_only HT.out.1) ho
    rw [List.length_replicate] at hblk
    have hvi : ∀ i, i < n → vs.getD i 0 = tk l (p + 3 * i) 3 := fun i hi => by
      rw [← hv1, List.getD_eq_getElem?_getD, List.getElem?_map, List.getElem?_range hi]; rfl
    have hmk : ∀ W, (Instr.makeSlice 57 (.int .i64 19) (.int .i64 19)).run Tryd.prog W = .ok (.slice (some ⟨W.heap.size, 0, none⟩) 19 19) (W.alloc (.cells (arrN 19 fun _ => 0) 3)) := fun W => run_make_ints 19 (by decide) W
    have hnew := heap_alloc_new w3 (.cells (arrN 19 fun _ => 0) 3)
    have hb4 := (Below.refl w3.heap.size w3).alloc (Nat.le_refl _) (.cells (arrN 19 fun _ => 0) 3)
    have hU4 := hU.below hb4
    have hO4 := only_trans hO3 (below_only hb4)
    have hb4' : (w3.alloc (.cells (arrN 19 fun _ => 0) 3)).heap[w2.heap.size]? = some (.cells (arrN n fun i => vs.getD i 0) 3 (0, 0)) := (Below.heap_alloc _ _ _ (blk_lt hblk)).trans hblk
    have h32 : w2.heap.size < w3.heap.size := blk_lt hblk
    have hw2 : w.heap.size ≤ w2.heap.size := HT.out.1.size
    have HQ := Lib.hid (And.intro hls (And.intro hU4 (And.intro hO4 (And.intro hnew (And.intro hb4' (And.intro hvi HT.out.2))))))
    clear htake hv1 hvl hblk hU ho hls hO3 hvi hnew hb4 hU4 hO4 hb4' HT
    go_wp2_with fail
    clear hmk
    generalize (w3.alloc (.cells (arrN 19 fun _ => 0) 3)) = w4 at *
    obtain ⟨B, hB⟩ : ∃ B, w3.heap.size = B := ⟨_, rfl⟩
    obtain ⟨N2, hN2⟩ : ∃ N, w2.heap.size = N := ⟨_, rfl⟩
    rw [hB] at HQ h32
    rw [hN2] at HQ h32 hw2
    rw [hB, hN2]
    clear hB hN2
    go_loopw [25] (fun i wr => ∃ k : Nat, k ≤ n ∧ i = .int .i64 k ∧ Hid (Only gr w wr ∧ Un wr gu gr l limit fl fd (p + 3 * n) out o ∧ wr.heap[B]? = some (.cells (arrN 19 (placed l p k)) 3 (0, 0)) ∧ wr.heap[N2]? = some (.cells (arrN n fun i => vs.getD i 0) 3 (0, 0)))) (fun i _ => n - (intOf i).toNat)
    case atStart => exact ⟨0, Nat.zero_le _, rfl, Lib.hid ⟨HQ.out.2.2.1, HQ.out.2.1, HQ.out.2.2.2.1, HQ.out.2.2.2.2.1⟩⟩
    case round =>
      obtain ⟨k, hk, rfl, H⟩ := hrel
      obtain ⟨r1, r2, r3, r4⟩ := H.out
      by_cases hlt : k < n
      · have hk19 : k < 19 := by omega
        obtain ⟨fr, hor⟩ := HQ.out.2.2.2.2.2.2.only r1 hg0
        obtain ⟨t1, t2⟩ := tell_lt k hk19
        have d1 : wr.cell? ⟨N2, k, none⟩ = some (.int .i64 (tk l (p + 3 * k) 3)) := by rw [blk_cell r4, arrN_get _ _ hlt, HQ.out.2.2.2.2.2.1 k hlt]
        have d2 : wr.cell? ⟨0, k, none⟩ = some (.int .i64 ((tellO.getD k 0 : Nat) : Int)) := by
          have : wr.cell? ⟨0, k, none⟩ = (arrN 19 fun i => ((tellO.getD i 0 : Nat) : Int))[k]? := by simp [World.cell?, hor]
          rw [this, arrN_get _ _ hk19]
        have d3 : wr.cell? ⟨B, tellO.getD k 0, none⟩ = some (.int .i64 (placed l p k (tellO.getD k 0))) := by rw [blk_cell r3, arrN_get _ _ t1]
        have d4 := blk_free r3 (tellO.getD k 0)
        have hset := blk_set r3 (tellO.getD k 0) (.int .i64 (tk l (p + 3 * k) 3))
        rw [arrN_set, placed_set l p k hk19] at hset
        obtain ⟨O, hO⟩ : ∃ O, tellO.getD k 0 = O := ⟨_, rfl⟩
        obtain ⟨x, hx⟩ : ∃ x, tk l (p + 3 * k) 3 = x := ⟨_, rfl⟩
        obtain ⟨y, hy⟩ : ∃ y, placed l p k O = y := ⟨_, rfl⟩
        rw [hO] at d2 d3 d4 hset t1
        rw [hx] at d1 hset
        rw [hy] at d3
        have hog : Only gr w (wr.setCell ⟨B, O, none⟩ (.int .i64 x)) := ⟨r1.os, r1.tape, r1.output, by simpa [World.setCell] using r1.size, fun i hi hne => (Below.heap_setCell _ ⟨B, O, none⟩ _ i (by show i ≠ B; omega)).trans (r1.block i hi hne)⟩
        have hks : ∀ i, i ≠ B → (wr.setCell ⟨B, O, none⟩ (.int .i64 x)).heap[i]? = wr.heap[i]? := fun i hi => Below.heap_setCell _ ⟨B, O, none⟩ _ i hi
        have hun : Un (wr.setCell ⟨B, O, none⟩ (.int .i64 x)) gu gr l limit fl fd (p + 3 * n) out o := un_low (B := w.heap.size) r2 hgu (fun i hi => (HW.out.row.lt i hi).2) fun i hi => hks i (by omega)
        have HE := Lib.hid (And.intro hog (And.intro hun (And.intro hset ((hks N2 (by omega)).trans r4))))
        have hO0 : (0 : Int) ≤ (O : Int) := by omega
        have hO1 : (O : Int) < 19 := by omega
        clear r1 r2 r3 r4 hor t2 hset hO hx hy hog hks hun H
        go_wp2_with fail
        exact ⟨⟨k + 1, by omega, by go_num, HE⟩, by simp [intOf]; omega⟩
      · obtain rfl : k = n := by omega
        have hnw := new_is (w := wr) (some ⟨B, 0, none⟩) 19 19 (someS l p k) (by rw [someS_placed]; simp) (by decide) (someS_ints r3) false
        have HE := Lib.hid (And.intro HQ.out.1 (And.intro r1 r2))
        clear r1 r2 r3 r4 H HQ
        go_wp2_with fail
        refine hnw.mono ?_
        rintro e w5 ⟨hb5, ⟨hne, rfl⟩ | ⟨h0, g, rfl, hpc⟩⟩
        · have hs := HE.out.1
          rw [if_neg hne] at hs
          have HF := Lib.hid (And.intro hs (And.intro hne (only_trans HE.out.2.1 (below_only hb5))))
          clear hs hne hb5 HE hnw
          go_wp2_with fail
          go_ret2
          exact ⟨HF.out.2.2, .inr ⟨_, HF.out.1, HF.out.2.1, rfl⟩⟩
        · have hs := HE.out.1
          rw [if_pos h0] at hs
          have hsz5 : w.heap.size ≤ wr.heap.size := HE.out.2.1.size
          have HF := Lib.hid (And.intro hs (And.intro (HE.out.2.2.below hb5) (And.intro (only_trans HE.out.2.1 (below_only hb5)) (hpc.more (F' := fun b => w.heap.size ≤ b ∧ b < w5.heap.size) fun b hb => ⟨Nat.le_trans hsz5 hb.1, hb.2⟩))))
          clear hs hb5 HE hnw hpc h0
          go_wp2_with fail
          go_ret2
          exact ⟨HF.out.2.2.1, .inl ⟨_, _, g, HF.out.1, rfl, HF.out.2.1, HF.out.2.2.2⟩⟩
  · rw [takesS_rep _ _ _ hp] at hv
    have hs : lcS l p n = .error er := by
      unfold lcS
      rcases Nat.lt_or_ge (8 * l.length) (p + 3 * n) with h | h
      · rw [if_neg (by omega)] at hv ⊢; injection hv with hv; rw [hv]
      · rw [if_pos h] at hv; cases hv
    have hd : (er != 0) = true := by simp [hne]
    have HF := Lib.hid (And.intro hs (And.intro hne (only_trans (below_only HT.out.1) ho)))
    clear htake hv hs hne ho HT
    go_wp2_with fail
    go_ret2
    exact ⟨HF.out.2.2, .inr ⟨er, HF.out.1, HF.out.2.1, rfl⟩⟩
end
end Go.Proofs.YtpnnfekfoomgaaaDoor
