/- The code of lengths: contract of lengthCode. Condition: the order of the lengths lies where the program's own text lays it. A block that tells its codes: contract of told. Condition: the order of the lengths lies where the program's own text lays it. -/
import Derived.Test.YtdcpibglbanchaaDoorIc
import Derived.Test.YtdcpibglbanchaaDoorPr
set_option linter.unusedVariables false
set_option maxRecDepth 100000
namespace Go.Proofs.YtdcpibglbanchaaDoor
open Go.RowKit

/-- the package's row of places lies in block 0 -/
def Ord (w : World) : Prop := ∃ fr : TypeId × Nat × Nat, w.heap[0]? = some (.cells (arrN 19 fun i => ((tellO.getD i 0 : Nat) : Int)) fr.1 fr.2)
theorem Ord.only {w w' : World} {gr : Nat} (h : Ord w) (ho : Only gr w w') (hg : gr ≠ 0) : Ord w' := by
  obtain ⟨fr, h⟩ := h
  exact ⟨fr, (ho.block 0 (blk_lt h) (by intro e; injection e with e; exact hg e.symm)).trans h⟩
theorem tell_lt : ∀ k, k < 19 → tellO.getD k 0 < 19 ∧ tellO.idxOf (tellO.getD k 0) = k := by decide
theorem tell_inj : ∀ j, j < 19 → ∀ k, k < 19 → tellO.idxOf j = k → j = tellO.getD k 0 := by decide
/-- the lengths that are told with the first k places -/
def placed (l : List Int) (p k j : Nat) : Int := if tellO.idxOf j < k then tk l (p + 3 * tellO.idxOf j) 3 else 0
theorem placed_set (l : List Int) (p k : Nat) (hk : k < 19) : (arrN 19 fun j => if j = tellO.getD k 0 then tk l (p + 3 * k) 3 else placed l p k j) = arrN 19 (placed l p (k + 1)) := arrN_congr fun j hj => by
  unfold placed
  by_cases e : j = tellO.getD k 0
  · subst e
    rw [if_pos rfl, (tell_lt k hk).2, if_pos (by omega)]
  · rw [if_neg e]
    have hne : tellO.idxOf j ≠ k := fun h => e (tell_inj j hj k hk h)
    by_cases h1 : tellO.idxOf j < k
    · rw [if_pos h1, if_pos (by omega)]
    · rw [if_neg h1, if_neg (by omega)]
theorem takesS_rep (l : List Int) : ∀ (n p : Nat), p ≤ 8 * l.length → takesS l p (List.replicate n 3) = if p + 3 * n ≤ 8 * l.length then .ok ((List.range n).map fun i => tk l (p + 3 * i) 3, p + 3 * n) else .error 2
  | 0, p, hp => by rw [if_pos (by omega)]; rfl
  | n + 1, p, hp => by
    rw [List.replicate_succ, takesS]
    by_cases h3 : p + 3 ≤ 8 * l.length
    · rw [takeS_ok h3]
      simp only
      rw [takesS_rep l n (p + 3) h3]
      by_cases h : p + 3 * (n + 1) ≤ 8 * l.length
      · rw [if_pos h, if_pos (by omega)]
        simp only
        rw [List.range_succ_eq_map, List.map_cons, List.map_map, show p + 3 + 3 * n = p + 3 * (n + 1) by omega]
        congr 3
        apply List.map_congr_left
        intro i _
        show tk l (p + 3 + 3 * i) 3 = tk l (p + 3 * (i + 1)) 3
        congr 1; omega
      · rw [if_neg h, if_neg (by omega)]
    · rw [takeS_bad h3, if_neg (by omega)]
/-- the code of lengths, and the place behind -/
def lcS (l : List Int) (p n : Nat) : Except Int (List Nat × Nat) := if p + 3 * n ≤ 8 * l.length then (if errN (someS l p n) false = 0 then .ok (nsOf (someS l p n), p + 3 * n) else .error (errN (someS l p n) false)) else .error 2
theorem someS_placed (l : List Int) (p n : Nat) : someS l p n = (List.range 19).map (placed l p n) := rfl
theorem someS_ints {w : World} {B : Nat} {l : List Int} {p n : Nat} (h : w.heap[B]? = some (.cells (arrN 19 (placed l p n)) 3 (0, 0))) : Ints .i64 w w.heap.size (some ⟨B, 0, none⟩) (someS l p n) := by
  rw [someS_placed]
  refine ⟨fun x hx => ?_, fun hp => ⟨B, 0, rfl, blk_lt h, fun i hi => ?_⟩⟩
  · obtain ⟨j, _, rfl⟩ := List.mem_map.1 hx
    have hb : 0 ≤ placed l p n j ∧ placed l p n j < 8 := by
      unfold placed
      split
      · have := tk_bd l (p + 3 * tellO.idxOf j) 3
        rwa [show (2 : Int) ^ 3 = 8 by decide] at this
      · omega
    simp [Lit.wf, IntKind.min, IntKind.max, IntKind.signed, IntKind.bits]; omega
  · rw [List.length_map, List.length_range] at hi
    rw [blk_cell h, Nat.zero_add, arrN_get _ _ hi, List.getD_eq_getElem?_getD, List.getElem?_map, List.getElem?_range hi]; rfl
section
variable {w : World} {gu gr : Nat} {l : List Int} {limit : Nat} {fl fd : Option Addr} {p : Nat} {out : List Int} {o : Option Addr × Nat}
/-- what lengthCode answers -/
def Lcd (w : World) (gu gr : Nat) (l : List Int) (limit : Nat) (fl fd : Option Addr) (out : List Int) (o : Option Addr × Nat) (s : Except Int (List Nat × Nat)) (e : Ending) (w' : World) : Prop :=
  Only gr w w' ∧ ((∃ ns p' g, s = .ok (ns, p') ∧ e = .returned (.tuple #[.pointer (some ⟨g, 0, none⟩), .int .i64 0]) ∧ Un w' gu gr l limit fl fd p' out o ∧ PC w' (fun b => w.heap.size ≤ b ∧ b < w'.heap.size) g ns) ∨ (∃ er, s = .error er ∧ er ≠ 0 ∧ e = .returned (.tuple #[.pointer none, .int .i64 er])))
set_option maxHeartbeats 4000000 in
theorem unLengthCode (n : Nat) (hn : n ≤ 19) (hord : Ord w) (h : Un w gu gr l limit fl fd p out o) (hg0 : gr ≠ 0) :
    Calls Tryd.prog 53 #[.pointer (some ⟨gu, 0, none⟩), .int .i64 n] w (Lcd w gu gr l limit fl fd out o (lcS l p n)) := by
  have hp := h.rdr.choose_spec.choose_spec.2.2.2.2.1
  have hgu := blk_lt h.blk
  have hgr := h.under
  have hb1 := (Below.refl w.heap.size w).alloc (Nat.le_refl _) (.cells #[.int .i64 3] 3)
  have hnew := heap_alloc_new w (.cells #[.int .i64 3] 3)
  have hsz : (w.alloc (.cells #[.int .i64 3] 3)).heap.size = w.heap.size + 1 := by simp
  have hrp := repeat_is 3 n (by omega) w.heap.size (w.alloc (.cells #[.int .i64 3] 3)) (by rw [hsz]; omega) (by rw [blk_cell hnew]; rfl) 1
  have HB := Lib.hid (And.intro hb1 (And.intro hsz (And.intro h hord)))
  have HW := Lib.hid h
  clear hb1 hnew hsz h hord
  go_enter Tryd.func53, Tryd.ntmps53
  go_wp2_with fail
  refine hrp.mono ?_
  rintro e w2 ⟨rfl, hblk, hb2⟩
  obtain ⟨hb1, hsz, h, hord⟩ := HB.out
  rw [hsz] at hblk hb2
  have hB2 : Below w.heap.size w w2 := below_next hb1 (Nat.le_refl _) (by rw [hsz]; exact hb2)
  have hU2 := h.below hB2
  have hints : Ints .i64 w2 w2.heap.size (some ⟨w.heap.size + 1, 0, none⟩) ((List.replicate n 3).map Int.ofNat) := by
    refine ⟨fun x hx => ?_, fun _ => ⟨_, 0, rfl, blk_lt hblk, fun i hi => ?_⟩⟩
    · rw [List.map_replicate] at hx; rw [List.eq_of_mem_replicate hx]; rfl
    · rw [List.length_map, List.length_replicate] at hi
      rw [blk_cell hblk, Nat.zero_add, arrN_get _ _ hi, List.getD_eq_getElem?_getD, List.map_replicate, List.getElem?_replicate, if_pos hi]; rfl
  have htake := unTake (ws := List.replicate n 3) (a := some ⟨w.heap.size + 1, 0, none⟩) (n := n) (c := n) hU2 List.length_replicate (by omega) (by intro x hx; rw [List.eq_of_mem_replicate hx]; decide) hints (by intro b off e; injection e with e; injection e with e; omega)
  have HT := Lib.hid (And.intro hB2 hord)
  clear hb1 hsz h hord hblk hb2 hU2 hints HB hrp
  go_wp2_with fail
  refine htake.mono ?_
  rintro e w3 ⟨ho, ⟨vs, p', hv, hvl, rfl, hblk, hU⟩ | ⟨er, hv, hne, rfl⟩⟩
  · rw [takesS_rep _ _ _ hp] at hv
    have hfit : p + 3 * n ≤ 8 * l.length := by
      rcases Nat.lt_or_ge (8 * l.length) (p + 3 * n) with h | h
      · rw [if_neg (by omega)] at hv; cases hv
      · exact h
    rw [if_pos hfit] at hv
    injection hv with hv
    injection hv with hv1 hv2
    subst hv2
    have hls : lcS l p n = if errN (someS l p n) false = 0 then .ok (nsOf (someS l p n), p + 3 * n) else .error (errN (someS l p n) false) := if_pos hfit
    have hO3 : Only gr w w3 := only_trans (below_only HT.out.1) ho
    rw [List.length_replicate] at hblk
    have hvi : ∀ i, i < n → vs.getD i 0 = tk l (p + 3 * i) 3 := fun i hi => by
      rw [← hv1, List.getD_eq_getElem?_getD, List.getElem?_map, List.getElem?_range hi]; rfl
    have hmk : ∀ W, (Instr.makeSlice 95 (.int .i64 19) (.int .i64 19)).run Tryd.prog W = .ok (.slice (some ⟨W.heap.size, 0, none⟩) 19 19) (W.alloc (.cells (arrN 19 fun _ => 0) 3)) := fun W => run_make_ints 19 (by decide) W
    have hnew := heap_alloc_new w3 (.cells (arrN 19 fun _ => 0) 3)
    have hb4 := (Below.refl w3.heap.size w3).alloc (Nat.le_refl _) (.cells (arrN 19 fun _ => 0) 3)
    have hU4 := hU.below hb4
    have hO4 := only_trans hO3 (below_only hb4)
    have hb4' : (w3.alloc (.cells (arrN 19 fun _ => 0) 3)).heap[w2.heap.size]? = some (.cells (arrN n fun i => vs.getD i 0) 3 (0, 0)) := (Below.heap_alloc _ _ _ (blk_lt hblk)).trans hblk
    have h32 : w2.heap.size < w3.heap.size := blk_lt hblk
    have hw2 : w.heap.size ≤ w2.heap.size := HT.out.1.size
    have HQ := Lib.hid (And.intro hls (And.intro hU4 (And.intro hO4 (And.intro hnew (And.intro hb4' (And.intro hvi HT.out.2))))))
    clear htake hv1 hvl hblk hU ho hls hO3 hvi hnew hb4 hU4 hO4 hb4' HT
    go_wp2_with fail
    clear hmk
    generalize (w3.alloc (.cells (arrN 19 fun _ => 0) 3)) = w4 at *
    obtain ⟨B, hB⟩ : ∃ B, w3.heap.size = B := ⟨_, rfl⟩
    obtain ⟨N2, hN2⟩ : ∃ N, w2.heap.size = N := ⟨_, rfl⟩
    rw [hB] at HQ h32
    rw [hN2] at HQ h32 hw2
    rw [hB, hN2]
    clear hB hN2
    go_loopw [25] (fun i wr => ∃ k : Nat, k ≤ n ∧ i = .int .i64 k ∧ Hid (Only gr w wr ∧ Un wr gu gr l limit fl fd (p + 3 * n) out o ∧ wr.heap[B]? = some (.cells (arrN 19 (placed l p k)) 3 (0, 0)) ∧ wr.heap[N2]? = some (.cells (arrN n fun i => vs.getD i 0) 3 (0, 0)))) (fun i _ => n - (intOf i).toNat)
    case atStart => exact ⟨0, Nat.zero_le _, rfl, Lib.hid ⟨HQ.out.2.2.1, HQ.out.2.1, HQ.out.2.2.2.1, HQ.out.2.2.2.2.1⟩⟩
    case round =>
      obtain ⟨k, hk, rfl, H⟩ := hrel
      obtain ⟨r1, r2, r3, r4⟩ := H.out
      by_cases hlt : k < n
      · have hk19 : k < 19 := by omega
        obtain ⟨fr, hor⟩ := HQ.out.2.2.2.2.2.2.only r1 hg0
        obtain ⟨t1, t2⟩ := tell_lt k hk19
        have d1 : wr.cell? ⟨N2, k, none⟩ = some (.int .i64 (tk l (p + 3 * k) 3)) := by rw [blk_cell r4, arrN_get _ _ hlt, HQ.out.2.2.2.2.2.1 k hlt]
        have d2 : wr.cell? ⟨0, k, none⟩ = some (.int .i64 ((tellO.getD k 0 : Nat) : Int)) := by
          have : wr.cell? ⟨0, k, none⟩ = (arrN 19 fun i => ((tellO.getD i 0 : Nat) : Int))[k]? := by simp [World.cell?, hor]
          rw [this, arrN_get _ _ hk19]
        have d3 : wr.cell? ⟨B, tellO.getD k 0, none⟩ = some (.int .i64 (placed l p k (tellO.getD k 0))) := by rw [blk_cell r3, arrN_get _ _ t1]
        have d4 := blk_free r3 (tellO.getD k 0)
        have hset := blk_set r3 (tellO.getD k 0) (.int .i64 (tk l (p + 3 * k) 3))
        rw [arrN_set, placed_set l p k hk19] at hset
        obtain ⟨O, hO⟩ : ∃ O, tellO.getD k 0 = O := ⟨_, rfl⟩
        obtain ⟨x, hx⟩ : ∃ x, tk l (p + 3 * k) 3 = x := ⟨_, rfl⟩
        obtain ⟨y, hy⟩ : ∃ y, placed l p k O = y := ⟨_, rfl⟩
        rw [hO] at d2 d3 d4 hset t1
        rw [hx] at d1 hset
        rw [hy] at d3
        have hog : Only gr w (wr.setCell ⟨B, O, none⟩ (.int .i64 x)) := ⟨r1.os, r1.tape, r1.output, by simpa [World.setCell] using r1.size, fun i hi hne => (Below.heap_setCell _ ⟨B, O, none⟩ _ i (by show i ≠ B; omega)).trans (r1.block i hi hne)⟩
        have hks : ∀ i, i ≠ B → (wr.setCell ⟨B, O, none⟩ (.int .i64 x)).heap[i]? = wr.heap[i]? := fun i hi => Below.heap_setCell _ ⟨B, O, none⟩ _ i hi
        have hun : Un (wr.setCell ⟨B, O, none⟩ (.int .i64 x)) gu gr l limit fl fd (p + 3 * n) out o := un_low (B := w.heap.size) r2 hgu (fun i hi => (HW.out.row.lt i hi).2) fun i hi => hks i (by omega)
        have HE := Lib.hid (And.intro hog (And.intro hun (And.intro hset ((hks N2 (by omega)).trans r4))))
        have hO0 : (0 : Int) ≤ (O : Int) := by omega
        have hO1 : (O : Int) < 19 := by omega
        clear r1 r2 r3 r4 hor t2 hset hO hx hy hog hks hun H
        go_wp2_with fail
        exact ⟨⟨k + 1, by omega, by go_num, HE⟩, by simp [intOf]; omega⟩
      · obtain rfl : k = n := by omega
        have hnw := new_is (w := wr) (some ⟨B, 0, none⟩) 19 19 (someS l p k) (by rw [someS_placed]; simp) (by decide) (someS_ints r3) false
        have HE := Lib.hid (And.intro HQ.out.1 (And.intro r1 r2))
        clear r1 r2 r3 r4 H HQ
        go_wp2_with fail
        refine hnw.mono ?_
        rintro e w5 ⟨hb5, ⟨hne, rfl⟩ | ⟨h0, g, rfl, hpc⟩⟩
        · have hs := HE.out.1
          rw [if_neg hne] at hs
          have HF := Lib.hid (And.intro hs (And.intro hne (only_trans HE.out.2.1 (below_only hb5))))
          clear hs hne hb5 HE hnw
          go_wp2_with fail
          go_ret2
          exact ⟨HF.out.2.2, .inr ⟨_, HF.out.1, HF.out.2.1, rfl⟩⟩
        · have hs := HE.out.1
          rw [if_pos h0] at hs
          have hsz5 : w.heap.size ≤ wr.heap.size := HE.out.2.1.size
          have HF := Lib.hid (And.intro hs (And.intro (HE.out.2.2.below hb5) (And.intro (only_trans HE.out.2.1 (below_only hb5)) (hpc.more (F' := fun b => w.heap.size ≤ b ∧ b < w5.heap.size) fun b hb => ⟨Nat.le_trans hsz5 hb.1, hb.2⟩))))
          clear hs hb5 HE hnw hpc h0
          go_wp2_with fail
          go_ret2
          exact ⟨HF.out.2.2.1, .inl ⟨_, _, g, HF.out.1, rfl, HF.out.2.1, HF.out.2.2.2⟩⟩
  · rw [takesS_rep _ _ _ hp] at hv
    have hs : lcS l p n = .error er := by
      unfold lcS
      rcases Nat.lt_or_ge (8 * l.length) (p + 3 * n) with h | h
      · rw [if_neg (by omega)] at hv ⊢; injection hv with hv; rw [hv]
      · rw [if_pos h] at hv; cases hv
    have hd : (er != 0) = true := by simp [hne]
    have HF := Lib.hid (And.intro hs (And.intro hne (only_trans (below_only HT.out.1) ho)))
    clear htake hv hs hne ho HT
    go_wp2_with fail
    go_ret2
    exact ⟨HF.out.2.2, .inr ⟨er, HF.out.1, HF.out.2.1, rfl⟩⟩
end
end Go.Proofs.YtdcpibglbanchaaDoor

set_option linter.unusedVariables false
set_option maxRecDepth 100000
namespace Go.Proofs.YtdcpibglbanchaaDoor
open Go.RowKit

/-- a block that tells its codes, with its symbols -/
def toldB (l : List Int) (limit p : Nat) (out : List Int) : Except Int (Nat × List Int) := match toldS l p with
  | .error e => .error e
  | .ok (p3, nl, nd) => symsS nl nd l limit (8 * l.length + 1 - p3) p3 out
theorem takesS_three {l : List Int} {q n0 n1 n2 : Nat} {vs : List Int} {p' : Nat} (h : takesS l q [n0, n1, n2] = .ok (vs, p')) : vs = [tk l q n0, tk l (q + n0) n1, tk l (q + n0 + n1) n2] ∧ p' = q + n0 + n1 + n2 ∧ q + n0 + n1 + n2 ≤ 8 * l.length := by
  unfold takesS at h
  cases h1 : takeS l q n0 with
  | error e => rw [h1] at h; cases h
  | ok x =>
    obtain ⟨v, p1⟩ := x
    obtain ⟨rfl, rfl, _⟩ := takeS_val h1
    rw [h1] at h
    simp only at h
    cases h2 : takesS l (q + n0) [n1, n2] with
    | error e => rw [h2] at h; cases h
    | ok y =>
      obtain ⟨v2, p2⟩ := y
      obtain ⟨rfl, rfl, h3, _, _⟩ := takesS_two h2
      rw [h2] at h
      simp only at h
      injection h with h
      injection h with h4 h5
      exact ⟨h4.symm, h5.symm, h3⟩
theorem toldS_bad {l : List Int} {p : Nat} {er : Int} (h : takesS l p [5, 5, 4] = .error er) : toldS l p = .error er := by
  unfold toldS
  unfold takesS takesS takesS takesS at h
  cases h1 : takeS l p 5 with
  | error e => rw [h1] at h; simp only at h; injection h with h; subst h; rfl
  | ok x =>
    obtain ⟨v, p1⟩ := x
    rw [h1] at h
    simp only at h
    simp only [bind, Except.bind]
    cases h2 : takeS l p1 5 with
    | error e => rw [h2] at h; simp only at h; injection h with h; subst h; rfl
    | ok y =>
      obtain ⟨v2, p2⟩ := y
      rw [h2] at h
      simp only at h
      simp only
      cases h3 : takeS l p2 4 with
      | error e => rw [h3] at h; simp only at h; injection h with h; subst h; rfl
      | ok z => obtain ⟨v3, p3⟩ := z; rw [h3] at h; simp only at h; cases h
/-- what follows the three counts -/
def toldC (l : List Int) (p3 A C D : Nat) : Except Int (Nat × List Nat × List Nat) :=
  if 286 < A + 257 ∨ 30 < C + 1 then .error 5 else match lcS l p3 (D + 4) with
  | .error e => .error e
  | .ok (ns, p4) => match lensS ns l (A + 257 + (C + 1)) (A + 257 + (C + 1) + 1) p4 [] with
    | .error e => .error e
    | .ok (p5, row) => if row.getD 256 0 = 0 then .error 5 else match codeS (row.take (A + 257)) false with
      | .error e => .error e
      | .ok nl => match codeS (row.drop (A + 257)) true with
        | .error e => .error e
        | .ok nd => .ok (p5, nl, nd)
theorem toldS_is {l : List Int} {p A C D : Nat} {vs : List Int} {p' : Nat} (h : takesS l p [5, 5, 4] = .ok (vs, p')) (hA : tk l p 5 = A) (hC : tk l (p + 5) 5 = C) (hD : tk l (p + 5 + 5) 4 = D) : toldS l p = toldC l (p + 5 + 5 + 4) A C D := by
  obtain ⟨_, _, hp⟩ := takesS_three h
  unfold toldS toldC
  rw [takeS_ok (by omega)]
  simp only [bind, Except.bind]
  rw [takeS_ok (by omega)]
  simp only
  rw [takeS_ok (by omega)]
  simp only
  rw [hA, hC, hD]
  simp only [Int.toNat_natCast]
  by_cases hb : 286 < A + 257 ∨ 30 < C + 1
  · rw [if_pos hb, if_pos (by omega)]
  · rw [if_neg hb, if_neg (by omega)]
    unfold lcS
    by_cases hf : p + 5 + 5 + 4 + 3 * (D + 4) ≤ 8 * l.length
    · rw [takeS_ok hf, if_pos hf]
      simp only
      unfold codeS
      by_cases he : errN (someS l (p + 5 + 5 + 4) (D + 4)) false = 0
      · rw [if_pos he, if_pos he]
        simp only
        cases lensS (nsOf (someS l (p + 5 + 5 + 4) (D + 4))) l (A + 257 + (C + 1)) (A + 257 + (C + 1) + 1) (p + 5 + 5 + 4 + 3 * (D + 4)) [] with
        | error e => rfl
        | ok x =>
          obtain ⟨p5, row⟩ := x
          simp only
          split
          · rfl
          · generalize (if errN (List.take (A + 257) row) false = 0 then (Except.ok (nsOf (List.take (A + 257) row)) : Except Int (List Nat)) else Except.error (errN (List.take (A + 257) row) false)) = X
            generalize (if errN (List.drop (A + 257) row) true = 0 then (Except.ok (nsOf (List.drop (A + 257) row)) : Except Int (List Nat)) else Except.error (errN (List.drop (A + 257) row) true)) = Y
            cases X with
            | error e => rfl
            | ok nl => cases Y <;> rfl
      · rw [if_neg he, if_neg he]
    · rw [takeS_bad hf, if_neg hf]
section
variable {w : World} {gu gr : Nat} {l : List Int} {limit : Nat} {fl fd : Option Addr} {p : Nat} {out : List Int} {o : Option Addr × Nat}
theorem lcS_len {l : List Int} {p n p' : Nat} {ns : List Nat} (h : lcS l p n = .ok (ns, p')) : ns.length = 19 := by
  unfold lcS at h
  split at h
  · split at h
    · injection h with h
      injection h with h _
      rw [← h]
      simp [nsOf, someS]
    · cases h
  · cases h
theorem own_get' {w : World} {base g n c : Nat} {t : TypeId} {l : List Int} (h : w.ownsRow base t 1 (.slice (some ⟨g, 0, none⟩) n c) n (l.map (Value.int .i64))) {k : Nat} (hl : l.length = n) (hk : k < n) :
    w.cell? ⟨g, k, none⟩ = some (.int .i64 (l.getD k 0)) := by
  rw [h.cellAt k (by omega), List.getElem?_map, List.getD_eq_getElem?_getD, List.getElem?_eq_getElem (by omega)]; rfl
theorem ints_take {k : IntKind} {w : World} {B : Nat} {a : Option Addr} {l : List Int} (h : Ints k w B a l) (m : Nat) : Ints k w B a (l.take m) := by
  refine ⟨fun x hx => h.1 x (List.mem_of_mem_take hx), fun hp => ?_⟩
  rw [List.length_take] at hp
  obtain ⟨b, off, e, hlt, hc⟩ := h.2 (by omega)
  refine ⟨b, off, e, hlt, fun i hi => ?_⟩
  rw [List.length_take] at hi
  rw [hc i (by omega), List.getD_eq_getElem?_getD, List.getD_eq_getElem?_getD, List.getElem?_take, if_pos (by omega)]
theorem ints_drop {k : IntKind} {w : World} {B b off : Nat} {l : List Int} (h : Ints k w B (some ⟨b, off, none⟩) l) (m : Nat) : Ints k w B (some ⟨b, off + m, none⟩) (l.drop m) := by
  refine ⟨fun x hx => h.1 x (List.mem_of_mem_drop hx), fun hp => ?_⟩
  rw [List.length_drop] at hp
  obtain ⟨b', off', e, hlt, hc⟩ := h.2 (by omega)
  injection e with e
  injection e with e1 e2
  subst e1 e2
  refine ⟨b, off + m, rfl, hlt, fun i hi => ?_⟩
  rw [List.length_drop] at hi
  rw [Nat.add_assoc, hc (m + i) (by omega), List.getD_eq_getElem?_getD, List.getD_eq_getElem?_getD, List.getElem?_drop]
theorem ints_low {k : IntKind} {w w' : World} {B : Nat} {a : Option Addr} {l : List Int} (h : Ints k w B a l) (hs : ∀ i, i < B → w'.heap[i]? = w.heap[i]?) : Ints k w' B a l := by
  refine ⟨h.1, fun hp => ?_⟩
  obtain ⟨b, off, e, hlt, hc⟩ := h.2 hp
  exact ⟨b, off, e, hlt, fun i hi => (cell_keep' (hs b hlt)).trans (hc i hi)⟩
theorem toldB_bad {er : Int} (h : toldS l p = .error er) : toldB l limit p out = .error er := by unfold toldB; rw [h]
set_option maxHeartbeats 8000000 in
theorem unTold (hord : Ord w) (h : Un w gu gr l limit fl fd p out o) (hg0 : gr ≠ 0) :
    Calls Tryd.prog 38 #[.pointer (some ⟨gu, 0, none⟩)] w (Lays w gu gr l limit fl fd out o (toldB l limit p out)) := by
  have hgu := blk_lt h.blk
  have hgr := h.under
  have hb1 := (Below.refl w.heap.size w).alloc (Nat.le_refl _) (.cells #[.int .i64 5, .int .i64 5, .int .i64 4] 3)
  have hU1 := h.below hb1
  have hints := lit_ints' w 3 [5, 5, 4] (by decide)
  have htake := unTake (ws := [5, 5, 4]) (a := some ⟨w.heap.size, 0, none⟩) (n := 3) (c := 3) hU1 rfl (by decide) (by decide) hints (by intro b off e; injection e with e; injection e with e; omega)
  have hsz : (w.alloc (.cells #[.int .i64 5, .int .i64 5, .int .i64 4] 3)).heap.size = w.heap.size + 1 := by simp
  have HW := Lib.hid (And.intro h (And.intro hord (And.intro (below_only (g := gr) hb1) hsz)))
  clear hb1 hU1 hints hsz h hord
  go_enter Tryd.func38, Tryd.ntmps38
  go_wp2_with fail
  refine htake.mono ?_
  rintro e w2 ⟨ho2, ⟨vs, p2, hv, hvl, rfl, hblk, hU⟩ | ⟨er, hv, hne, rfl⟩⟩
  · obtain ⟨hvs, hp2, hpl⟩ := takesS_three hv
    subst hvs hp2
    have hb0 := tk_bd l p 5
    have hb1 := tk_bd l (p + 5) 5
    have hb2 := tk_bd l (p + 5 + 5) 4
    rw [show (2 : Int) ^ 5 = 32 by decide] at hb0 hb1
    rw [show (2 : Int) ^ 4 = 16 by decide] at hb2
    have hblk' : w2.heap[w.heap.size + 1]? = some (.cells (arrN 3 fun i => [tk l p 5, tk l (p + 5) 5, tk l (p + 5 + 5) 4].getD i 0) 3 (0, 0)) := by rw [HW.out.2.2.2] at hblk; exact hblk
    have k0 : w2.cell? ⟨w.heap.size + 1, 0, none⟩ = some (.int .i64 (tk l p 5)) := by rw [blk_cell hblk', arrN_get _ _ (by decide)]; rfl
    have k1 : w2.cell? ⟨w.heap.size + 1, 1, none⟩ = some (.int .i64 (tk l (p + 5) 5)) := by rw [blk_cell hblk', arrN_get _ _ (by decide)]; rfl
    have k2 : w2.cell? ⟨w.heap.size + 1, 2, none⟩ = some (.int .i64 (tk l (p + 5 + 5) 4)) := by rw [blk_cell hblk', arrN_get _ _ (by decide)]; rfl
    obtain ⟨A, hA⟩ := Int.eq_ofNat_of_zero_le hb0.1
    obtain ⟨C, hC⟩ := Int.eq_ofNat_of_zero_le hb1.1
    obtain ⟨D, hD⟩ := Int.eq_ofNat_of_zero_le hb2.1
    have hts := toldS_is hv hA hC hD
    rw [hA] at k0 hb0
    rw [hC] at k1 hb1
    rw [hD] at k2 hb2
    have HS := Lib.hid (And.intro hts (And.intro hU (only_trans HW.out.2.2.1 ho2)))
    clear htake hts hv hvl hblk hblk' hU ho2 hA hC hD
    go_wp2_with fail
    go_quiet (fail)
    by_cases hbad : 286 < A + 257 ∨ 30 < C + 1
    · have hs := HS.out.1
      unfold toldC at hs
      rw [if_pos hbad] at hs
      have HR := Lib.hid (And.intro (toldB_bad (limit := limit) (out := out) hs) (only_trans HS.out.2.2 (only_drewN (only_refl gr w2) nq)))
      clear hs HS k0 k1 k2
      by_cases h1 : 286 < A + 257
      · have hd : decide ((A : Int) + 257 > 286) = true := by simp; omega
        go_wp2_with fail
        go_ret
        exact ⟨out, o, stp_only HR.out.2, .inr ⟨5, HR.out.1, by decide, rfl⟩⟩
      · have hd : decide ((A : Int) + 257 > 286) = false := by simp; omega
        have hd2 : decide ((C : Int) + 1 > 30) = true := by simp; omega
        go_wp2_with fail
        go_ret
        exact ⟨out, o, stp_only HR.out.2, .inr ⟨5, HR.out.1, by decide, rfl⟩⟩
    · have hd : decide ((A : Int) + 257 > 286) = false := by simp; omega
      have hd2 : decide ((C : Int) + 1 > 30) = false := by simp; omega
      have hs := HS.out.1
      unfold toldC at hs
      rw [if_neg hbad] at hs
      have hO3 := only_trans HS.out.2.2 (only_drewN (only_refl gr w2) nq)
      have hU3 := HS.out.2.1.below (low_drewN (Below.refl _ _) nq)
      have hlc := unLengthCode (D + 4) (by omega) (HW.out.2.1.only hO3 hg0) hU3 hg0
      have hDD : (D : Int) + 4 = ((D + 4 : Nat) : Int) := by omega
      rw [← hDD] at hlc
      have HT := Lib.hid (And.intro hs hO3)
      clear hs hO3 hU3 hDD HS
      go_wp2_with fail
      refine hlc.mono ?_
      rintro e w4 ⟨ho4, ⟨ns, p4, g, hlv, rfl, hU4, hpc⟩ | ⟨er, hlv, hne, rfl⟩⟩
      · have hs := HT.out.1
        rw [hlv] at hs
        have hO4 := only_trans HT.out.2 ho4
        have hns : ns.length = 19 := lcS_len hlv
        have hA4 : Aside w4 gu gr out o (fun b => (w2.drewN nq).heap.size ≤ b ∧ b < w4.heap.size) := fun b hb => by
          refine ⟨hb.2, fun hq => ?_⟩
          have := HT.out.2.size
          rcases hq with q | q | q
          · omega
          · omega
          · have := (HW.out.1.row.lt b q).2; omega
        obtain ⟨N, hN⟩ : ∃ N, A + 257 + (C + 1) = N := ⟨_, rfl⟩
        have hNN : (A : Int) + 257 + ((C : Int) + 1) = (N : Int) := by omega
        rw [hN] at hs
        have hln := unLengths (n := N) hA4 hpc hns (by omega) hU4
        have HX := Lib.hid (And.intro hs hO4)
        have HNb : Hid (N ≤ 316 ∧ A + 257 < N ∧ N = A + 257 + (C + 1)) := Lib.hid (by omega)
        clear hN
        clear hs hO4 hA4 hlv hU4 hpc hlc HT hns ho4
        go_wp2_with fail
        refine hln.mono ?_
        rintro e w5 ⟨ho5, ⟨row, p5, ra, rc, hrv, hrl, hrb, rfl, hU5, hown⟩ | ⟨er, hrv, hne, rfl⟩⟩
        · obtain ⟨hN1, hN2, hN3⟩ := HNb.out
          clear hNN
          have hs := HX.out.1
          rw [hrv] at hs
          simp only at hs
          have hO5 := only_trans HX.out.2 ho5
          have hcap := own_cap hown
          have hsz4 := HX.out.2.size
          rcases hown.2 with ⟨e, h0⟩ | ⟨rb, cap, cells, e, hbg, hg, _⟩
          · omega
          · injection e with e1 e2 e3
            subst e1
            have hrow : w5.cell? ⟨rb, 256, none⟩ = some (.int .i64 (row.getD 256 0)) := own_get' hown hrl (by omega)
            have hrblt := blk_lt hg
            have HY := Lib.hid (And.intro hs (And.intro hO5 (And.intro hU5 (And.intro hown (And.intro hrl hrb)))))
            have hi256 : (256 : Int) < (N : Int) := by omega
            clear hs hO5 hU5 hown hrv hrl hrb hln HX ho5 hg k0 k1 k2 e3
            by_cases hz : row.getD 256 0 = 0
            · have ht : (row.getD 256 0 == 0) = true := by rw [hz]; rfl
              have hs := HY.out.1
              rw [if_pos hz] at hs
              have HR := Lib.hid (And.intro (toldB_bad (limit := limit) (out := out) hs) HY.out.2.1)
              clear hs HY
              rw [hz] at hrow ht
              clear hz
              go_wp2_with fail
              go_ret
              exact ⟨out, o, stp_only HR.out.2, .inr ⟨5, HR.out.1, by decide, rfl⟩⟩
            · have ht : (row.getD 256 0 == 0) = false := beq_eq_false_iff_ne.2 hz
              have hs := HY.out.1
              rw [if_neg hz] at hs
              have HZ := Lib.hid (And.intro hs HY.out.2)
              clear hs HY hz
              obtain ⟨z, hz⟩ : ∃ z, row.getD 256 0 = z := ⟨_, rfl⟩
              rw [hz] at hrow ht
              clear hz
              go_wp2_with fail
              have hrints := ints_row HZ.out.2.2.2.1 HZ.out.2.2.2.2.1 (fun x hx => by
                have := HZ.out.2.2.2.2.2 x hx
                simp [Lit.wf, IntKind.min, IntKind.max, IntKind.signed, IntKind.bits]; omega)
              have hb6 := (Below.refl w5.heap.size w5).alloc (Nat.le_refl _) (.cells #[.pointer none, .pointer none] 76)
              have hnew := heap_alloc_new w5 (.cells #[.pointer none, .pointer none] 76)
              have hsz6 : (w5.alloc (.cells #[.pointer none, .pointer none] 76)).heap.size = w5.heap.size + 1 := by simp
              have hi6 := (hrints.below hb6).more hb6.size
              have hnw := new_is (some ⟨rb, 0, none⟩) (A + 257) rc (row.take (A + 257)) (by rw [List.length_take, HZ.out.2.2.2.2.1]; omega) (by omega) (ints_take hi6 (A + 257)) false
              have HP := Lib.hid (And.intro hb6 (And.intro hnew (And.intro hsz6 hi6)))
              have hcs : ¬ rc = A + 257 := by omega
              have HRI := Lib.hid hrints
              clear hrints hb6 hnew hsz6 hi6 hrow
              refine hnw.mono ?_
              rintro e w7 ⟨hb7, hres⟩
              clear hnw
              obtain ⟨hb6, hnew, hsz6, hi6⟩ := HP.out
              have hpb : w7.heap[w5.heap.size]? = some (.cells #[.pointer none, .pointer none] 76 (0, 0)) := (hb7.block _ (by rw [hsz6]; omega)).trans hnew
              have q1 : w7.cell? ⟨w5.heap.size, 0, none⟩ = some (.pointer none) := blk_cell hpb 0
              have q2 := blk_free hpb 0
              have hb57 : Below w5.heap.size w5 w7 := below_next hb6 (Nat.le_refl _) hb7
              have hO7 := only_trans HZ.out.2.1 (below_only (g := gr) hb57)
              have hPB : w.heap.size ≤ w5.heap.size := HZ.out.2.1.size
              rcases hres with ⟨hne, rfl⟩ | ⟨h0, g1, rfl, hpc1⟩
              · have hs := HZ.out.1
                unfold codeS at hs
                rw [if_neg hne] at hs
                have hO8 : Only gr w (w7.setCell ⟨w5.heap.size, 0, none⟩ (.pointer none)) := ⟨hO7.os, hO7.tape, hO7.output, by simpa [World.setCell] using hO7.size, fun i hi hn => (Below.heap_setCell _ ⟨w5.heap.size, 0, none⟩ _ i (by show i ≠ w5.heap.size; omega)).trans (hO7.block i hi hn)⟩
                have hd4 : (errN (List.take (A + 257) row) false != 0) = true := by simp [hne]
                have HR := Lib.hid (And.intro (toldB_bad (limit := limit) (out := out) hs) (And.intro hne hO8))
                clear hs hne hO8 hO7 hb57 hpb hb7 hb6 hnew hsz6 hi6 HP HZ
                generalize errN (List.take (A + 257) row) false = er at *
                go_wp2_with fail
                go_ret
                exact ⟨out, o, stp_only HR.out.2.2, .inr ⟨er, HR.out.1, HR.out.2.1, rfl⟩⟩
              · have hs := HZ.out.1
                unfold codeS at hs
                rw [if_pos h0] at hs
                simp only at hs
                have hset := blk_set hpb 0 (.pointer (some ⟨g1, 0, none⟩))
                have HK := Lib.hid (And.intro hs (And.intro hset (And.intro hpc1 (And.intro hb57 (And.intro hb7 HZ.out.2)))))
                clear hs hset hpc1 hpb hb6 hO7 hb57 hb7 hnew HZ h0
                go_wp2_with fail
                obtain ⟨hs, hset, hpc1, hb57, hb7, hO5, hU5, hown, hrl, hrb⟩ := HK.out
                obtain ⟨PB, hPBe⟩ : ∃ PB, w5.heap.size = PB := ⟨_, rfl⟩
                have hri := HRI.out
                rw [hPBe] at hset hb57 hri hPB hrblt hsz6 ⊢
                rw [hsz6] at hpc1 hb7
                have hPBE := Lib.hid hPBe
                obtain ⟨w8, hw8⟩ : ∃ w8, w8 = w7.setCell ⟨PB, 0, none⟩ (.pointer (some ⟨g1, 0, none⟩)) := ⟨_, rfl⟩
                have hl8 : ∀ i, i ≠ PB → w8.heap[i]? = w7.heap[i]? := fun i hi => by rw [hw8]; exact Below.heap_setCell _ ⟨PB, 0, none⟩ _ i hi
                have hz8 : w8.heap.size = w7.heap.size := by rw [hw8]; simp [World.setCell]
                have ho8 : w8.os = w7.os ∧ w8.tape = w7.tape ∧ w8.output = w7.output := by rw [hw8]; exact ⟨rfl, rfl, rfl⟩
                rw [← hw8] at hset ⊢
                clear hw8 hPBe
                have h57 : PB + 1 ≤ w7.heap.size := by have := hb7.size; rw [hsz6] at this; exact this
                have hlow8 : ∀ i, i < PB → w8.heap[i]? = w5.heap[i]? := fun i hi => (hl8 i (by omega)).trans (hb57.block i hi)
                have hri8 := (ints_low hri hlow8).more (show PB ≤ w8.heap.size by omega)
                have hdr := ints_drop hri8 (A + 257)
                rw [Nat.zero_add] at hdr
                have hnw2 := new_is (some ⟨rb, A + 257, none⟩) (C + 1) (rc - (A + 257)) (row.drop (A + 257)) (by rw [List.length_drop, hrl]; omega) (by omega) hdr true
                have hpc8 : PC w8 (fun b => PB + 1 ≤ b ∧ b < w7.heap.size) g1 (nsOf (row.take (A + 257))) := hpc1.keep fun b hb => hl8 b (by omega)
                have hO8 : Only gr w w8 := ⟨ho8.1.trans (hb57.os.trans hO5.os), ho8.2.1.trans (hb57.tape.trans hO5.tape), ho8.2.2.trans (hb57.output.trans hO5.output), by omega, fun i hi hn => (hlow8 i (by omega)).trans (hO5.block i hi hn)⟩
                have HM := Lib.hid (And.intro hs (And.intro hset (And.intro hpc8 (And.intro hO8 (And.intro hlow8 hU5)))))
                have HRL := Lib.hid hrl
                clear hs hset hpc1 hb57 hb7 hO5 hU5 hown hrl hrb hri hri8 hdr hl8 ho8 hpc8 hO8 hlow8 HK HRI HP hi6 hsz6 q1 q2
                refine hnw2.mono ?_
                rintro e w9 ⟨hb9, hres⟩
                clear hnw2
                obtain ⟨hs, hset, hpc8, hO8, hlow8, hU5⟩ := HM.out
                have hp9 : w9.heap[PB]? = some (.cells (#[.pointer none, .pointer none].set! 0 (.pointer (some ⟨g1, 0, none⟩))) 76 (0, 0)) := (hb9.block PB (by omega)).trans hset
                have r1 : w9.cell? ⟨PB, 1, none⟩ = some (.pointer none) := blk_cell hp9 1
                have r2 := blk_free hp9 1
                have r0 : w9.cell? ⟨PB, 0, none⟩ = some (.pointer (some ⟨g1, 0, none⟩)) := blk_cell hp9 0
                have hO9 := only_trans hO8 (below_only (g := gr) hb9)
                have hz9 := hb9.size
                rcases hres with ⟨hne, rfl⟩ | ⟨h0, g2, rfl, hpc2⟩
                · rw [if_neg hne] at hs
                  have hO10 : Only gr w (w9.setCell ⟨PB, 1, none⟩ (.pointer none)) := ⟨hO9.os, hO9.tape, hO9.output, by simpa [World.setCell] using hO9.size, fun i hi hn => (Below.heap_setCell _ ⟨PB, 1, none⟩ _ i (by show i ≠ PB; omega)).trans (hO9.block i hi hn)⟩
                  have hd5 : (errN (List.drop (A + 257) row) true != 0) = true := by simp [hne]
                  have HR := Lib.hid (And.intro (toldB_bad (limit := limit) (out := out) hs) (And.intro hne hO10))
                  clear hs hne hO10 hO9 hO8 hpc8 hlow8 hU5 hset hp9 hb9 HM
                  generalize errN (List.drop (A + 257) row) true = er at *
                  go_wp2_with fail
                  go_ret
                  exact ⟨out, o, stp_only HR.out.2.2, .inr ⟨er, HR.out.1, HR.out.2.1, rfl⟩⟩
                · rw [if_pos h0] at hs
                  simp only at hs
                  have hset10 := blk_set hp9 1 (.pointer (some ⟨g2, 0, none⟩))
                  obtain ⟨w10, hw10⟩ : ∃ w10, w10 = w9.setCell ⟨PB, 1, none⟩ (.pointer (some ⟨g2, 0, none⟩)) := ⟨_, rfl⟩
                  have hl10 : ∀ i, i ≠ PB → w10.heap[i]? = w9.heap[i]? := fun i hi => by rw [hw10]; exact Below.heap_setCell _ ⟨PB, 1, none⟩ _ i hi
                  have hz10 : w10.heap.size = w9.heap.size := by rw [hw10]; simp [World.setCell]
                  have ho10 : w10.os = w9.os ∧ w10.tape = w9.tape ∧ w10.output = w9.output := by rw [hw10]; exact ⟨rfl, rfl, rfl⟩
                  have hO10 : Only gr w w10 := ⟨ho10.1.trans hO9.os, ho10.2.1.trans hO9.tape, ho10.2.2.trans hO9.output, by have := hO9.size; omega, fun i hi hn => (hl10 i (by omega)).trans (hO9.block i hi hn)⟩
                  have hU10 : Un w10 gu gr l limit fl fd p5 out o := un_low (B := w.heap.size) hU5 hgu (fun i hi => (HW.out.1.row.lt i hi).2) fun i hi => (hl10 i (by omega)).trans ((hb9.block i (by omega)).trans (hlow8 i (by omega)))
                  have hpcA : PC w10 (fun b => PB + 1 ≤ b ∧ b < w10.heap.size) g1 (nsOf (row.take (A + 257))) := (hpc8.keep fun b hb => (hl10 b (by omega)).trans (hb9.block b (by omega))).more fun b hb => ⟨hb.1, by omega⟩
                  have hpcB : PC w10 (fun b => PB + 1 ≤ b ∧ b < w10.heap.size) g2 (nsOf (row.drop (A + 257))) := (hpc2.keep fun b hb => hl10 b (by omega)).more fun b hb => ⟨by omega, by omega⟩
                  have hAs : Aside w10 gu gr out o (fun b => PB + 1 ≤ b ∧ b < w10.heap.size) := fun b hb => ⟨hb.2, fun hq => by
                    rcases hq with q | q | q
                    · omega
                    · omega
                    · have := (HW.out.1.row.lt b q).2; omega⟩
                  have hsy := unSymbols hAs hpcA hpcB (by simp [nsOf]; omega) (by simp [nsOf, HRL.out]; omega) hU10
                  rw [← hw10] at hset10
                  have s0 : w10.cell? ⟨PB, 0, none⟩ = some (.pointer (some ⟨g1, 0, none⟩)) := blk_cell hset10 0
                  have s1 : w10.cell? ⟨PB, 1, none⟩ = some (.pointer (some ⟨g2, 0, none⟩)) := blk_cell hset10 1
                  rw [hw10] at hO10
                  have HV := Lib.hid (And.intro hs hO10)
                  rw [hw10] at hsy s0 s1
                  clear hs hset10 hO10 hU10 hpcA hpcB hAs hl10 hz10 ho10 hO9 hO8 hpc8 hlow8 hU5 hset hp9 hb9 HM h0 hpc2 hw10
                  go_wp2_with fail
                  refine hsy.mono ?_
                  rintro e w11 ⟨out', o', hst, hend⟩
                  have hB : toldB l limit p out = symsS (nsOf (row.take (A + 257))) (nsOf (row.drop (A + 257))) l limit (8 * l.length + 1 - p5) p5 out := by unfold toldB; rw [HV.out.1]
                  have hst2 : Stp gu gr w out o w11 out' o' := (stp_only HV.out.2).trans hst
                  rcases hend with ⟨p', he, rfl, hU11⟩ | ⟨er, he, hne, rfl⟩
                  · rw [he] at hB
                    have HR := Lib.hid (And.intro hB (And.intro hst2 hU11))
                    clear hB hst2 hU11 hst hsy HV he
                    go_wp2_with fail
                    go_ret
                    exact ⟨out', o', HR.out.2.1, .inl ⟨p', HR.out.1, rfl, HR.out.2.2⟩⟩
                  · rw [he] at hB
                    have HR := Lib.hid (And.intro hB (And.intro hst2 hne))
                    clear hB hst2 hst hsy HV he hne
                    go_wp2_with fail
                    go_ret
                    exact ⟨out', o', HR.out.2.1, .inr ⟨er, HR.out.1, HR.out.2.2, rfl⟩⟩
        · have hs := HX.out.1
          rw [hrv] at hs
          have HR := Lib.hid (And.intro (toldB_bad (limit := limit) (out := out) hs) (And.intro hne (only_trans HX.out.2 ho5)))
          have hd3 : (er != 0) = true := by simp [hne]
          clear hs hne ho5 hrv HX hln
          go_wp2_with fail
          go_ret
          exact ⟨out, o, stp_only HR.out.2.2, .inr ⟨er, HR.out.1, HR.out.2.1, rfl⟩⟩
      · have hs := HT.out.1
        rw [hlv] at hs
        have HR := Lib.hid (And.intro (toldB_bad (limit := limit) (out := out) hs) (And.intro hne (only_trans HT.out.2 ho4)))
        have hd3 : (er != 0) = true := by simp [hne]
        clear hs hne ho4 hlv HT hlc
        go_wp2_with fail
        go_ret
        exact ⟨out, o, stp_only HR.out.2.2, .inr ⟨er, HR.out.1, HR.out.2.1, rfl⟩⟩
  · have hs := toldB_bad (limit := limit) (out := out) (toldS_bad hv)
    have HR := Lib.hid (And.intro hs (And.intro hne (only_trans HW.out.2.2.1 ho2)))
    have hd : (er != 0) = true := by simp [hne]
    clear htake HW hs hv hne ho2
    go_wp2_with fail
    go_ret
    exact ⟨out, o, stp_only HR.out.2.2, .inr ⟨er, HR.out.1, HR.out.2.1, rfl⟩⟩
end
end Go.Proofs.YtdcpibglbanchaaDoor
