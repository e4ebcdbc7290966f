/- What an unpacker takes and lays: contracts of room, take, literal and spread. No condition but what the words say. -/
import Derived.Test.YtpnnfekfoomgaaaDoorUn
set_option linter.unusedVariables false
set_option maxRecDepth 100000
namespace Go.Proofs.YtpnnfekfoomgaaaDoor
open Go.RowKit

section
variable {w : World} {gu gr : Nat} {l : List Int} {limit : Nat} {fl fd : Option Addr} {p : Nat} {out : List Int} {o : Option Addr × Nat}
theorem unRoom (h : Un w gu gr l limit fl fd p out o) :
    Calls Tryd.prog 55 #[.pointer (some ⟨gu, 0, none⟩)] w fun e w' => e = .returned (.int .i64 ((limit : Int) - out.length)) ∧ ∃ n, w' = w.drewN n := by
  have c1 : w.cell? ⟨gu, 1, none⟩ = some (outV out o) := blk_cell h.blk 1
  have c2 : w.cell? ⟨gu, 2, none⟩ = some (.int .i64 limit) := blk_cell h.blk 2
  have hs := h.small
  have hl := h.lim
  clear h
  obtain ⟨ao, co⟩ := o
  go_enter Tryd.func55, Tryd.ntmps55
  go_wp2_with fail
  go_quiet (fail)
  go_wp2_with fail
  go_ret
  exact ⟨rfl, _, rfl⟩
/-- some numbers, one behind the other -/
def takesS (l : List Int) : Nat → List Nat → Except Int (List Int × Nat)
  | p, [] => .ok ([], p)
  | p, n :: ns => match takeS l p n with
    | .error e => .error e
    | .ok (v, p1) => match takesS l p1 ns with
      | .error e => .error e
      | .ok (vs, p2) => .ok (v :: vs, p2)
theorem takeS_ok {l : List Int} {p n : Nat} (h : p + n ≤ 8 * l.length) : takeS l p n = .ok (tk l p n, p + n) := if_pos h
theorem takeS_bad {l : List Int} {p n : Nat} (h : ¬ p + n ≤ 8 * l.length) : takeS l p n = .error 2 := if_neg h
/-- the reader's Take, in the words of takeS -/
theorem bitTakeS {w : World} {g : Nat} {l : List Int} {p : Nat} (n : Nat) (hn : n ≤ 16) (h : Rdr 81 w g l p) :
    Calls Tryd.prog 53 #[.pointer (some ⟨g, 0, none⟩), .int .i64 n] w fun e w' => Only g w w' ∧ ((∃ v p', takeS l p n = .ok (v, p') ∧ e = .returned (.tuple #[.int .i64 v, .int .i64 0]) ∧ Rdr 81 w' g l p') ∨ (takeS l p n = .error 2 ∧ e = .returned (.tuple #[.int .i64 0, .int .i64 2]))) := by
  have hc := bitTake (n : Int) (by omega) h
  by_cases hp : p + n ≤ 8 * l.length
  · obtain ⟨e1, e2, e3⟩ := t_ok (l := l) (p := p) (m := n) hn hp
    rw [e1, e2, e3] at hc
    exact hc.mono fun e w' ⟨h1, h2, h3⟩ => ⟨h3, .inl ⟨_, _, takeS_ok hp, h1, h2⟩⟩
  · obtain ⟨e1, e2, e3⟩ := t_short (l := l) (p := p) (n := (n : Int)) (by omega) (by omega)
    rw [e1, e2, e3] at hc
    exact hc.mono fun e w' ⟨h1, h2, h3⟩ => ⟨h3, .inr ⟨takeS_bad hp, h1⟩⟩
theorem takesS_app (l : List Int) : ∀ (xs : List Nat) (p : Nat) (ys : List Nat), takesS l p (xs ++ ys) = match takesS l p xs with
    | .error e => .error e
    | .ok (vs, q) => match takesS l q ys with
      | .error e => .error e
      | .ok (us, q') => .ok (vs ++ us, q')
  | [], p, ys => by
    simp only [List.nil_append, takesS]
    cases takesS l p ys with
    | error e => rfl
    | ok x => rfl
  | x :: xs, p, ys => by
    simp only [List.cons_append, takesS]
    cases takeS l p x with
    | error e => rfl
    | ok x =>
      obtain ⟨v, p1⟩ := x
      simp only
      rw [takesS_app l xs p1 ys]
      cases takesS l p1 xs with
      | error e => rfl
      | ok x =>
        obtain ⟨vs, q⟩ := x
        simp only
        cases takesS l q ys with
        | error e => rfl
        | ok x => rfl
theorem takesS_one (l : List Int) (p n : Nat) : takesS l p [n] = match takeS l p n with
    | .error e => .error e
    | .ok (v, q) => .ok ([v], q) := by
  simp only [takesS]
theorem take_nat {ws : List Nat} {k : Nat} (hk : k < ws.length) : ws.take (k + 1) = ws.take k ++ [ws.getD k 0] := by
  rw [List.take_succ_eq_append_getElem hk, List.getD_eq_getElem?_getD, List.getElem?_eq_getElem hk]; rfl
/-- what take answers -/
def Taken (w : World) (gu gr : Nat) (l : List Int) (limit : Nat) (fl fd : Option Addr) (p : Nat) (out : List Int) (o : Option Addr × Nat) (ws : List Nat) (e : Ending) (w' : World) : Prop :=
  Only gr w w' ∧ ((∃ vs p', takesS l p ws = .ok (vs, p') ∧ vs.length = ws.length ∧ e = .returned (.tuple #[.slice (some ⟨w.heap.size, 0, none⟩) ws.length ws.length, .int .i64 0]) ∧ w'.heap[w.heap.size]? = some (.cells (arrN ws.length fun i => vs.getD i 0) 3 (0, 0)) ∧ Un w' gu gr l limit fl fd p' out o) ∨ (∃ er, takesS l p ws = .error er ∧ er ≠ 0 ∧ e = .returned (.tuple #[.slice none 0 0, .int .i64 er])))
theorem run_make_ints (n : Nat) (hn : n ≤ 400) (W : World) : (Instr.makeSlice 57 (.int .i64 n) (.int .i64 n)).run Tryd.prog W = .ok (.slice (some ⟨W.heap.size, 0, none⟩) n n) (W.alloc (.cells (arrN n fun _ => 0) 3)) := by
  have h := run_make_row' (P := Tryd.prog) 57 3 (.int .i64 0) 8 Tryd.underlying57 int_info rfl .i64 .i64 n (by omega) (by omega) W
  have e : madeCells #[.int .i64 0] n = arrN n fun _ => 0 := by
    apply arrN_ext
    · exact size_madeCells _ _
    · intro i hi
      simp [madeCells, hi, Nat.mod_one]
  rw [e] at h
  exact h
set_option maxHeartbeats 2000000 in
theorem unTake {a : Option Addr} {n c : Nat} {ws : List Nat} (h : Un w gu gr l limit fl fd p out o) (hn : ws.length = n) (hm : n ≤ 400) (hws : ∀ x ∈ ws, x ≤ 16) (hb : Ints .i64 w w.heap.size a (ws.map Int.ofNat)) (hne : ∀ b off, a = some ⟨b, off, none⟩ → b ≠ gr) :
    Calls Tryd.prog 34 #[.pointer (some ⟨gu, 0, none⟩), .slice a n c] w (Taken w gu gr l limit fl fd p out o ws) := by
  subst hn
  have hmk := run_make_ints ws.length hm
  have hgu := blk_lt h.blk
  have hgr := h.under
  have h1 := h.below (w' := w.alloc (.cells (arrN ws.length fun _ => 0) 3)) ((Below.refl _ _).alloc (Nat.le_refl _) _)
  have hnew := heap_alloc_new w (.cells (arrN ws.length fun _ => 0) 3)
  have hon : Only gr w (w.alloc (.cells (arrN ws.length fun _ => 0) 3)) := only_alloc (only_refl _ _) _
  have H0 := Lib.hid (And.intro h1 (And.intro hnew hon))
  have HU := Lib.hid h
  clear h1 hnew hon h
  go_enter Tryd.func34, Tryd.ntmps34
  go_wp2_with fail
  clear hmk
  generalize (w.alloc (.cells (arrN ws.length fun _ => 0) 3)) = w1 at *
  go_loopw [16] (fun i wr => ∃ (k : Nat) (vs : List Int) (q : Nat), k ≤ ws.length ∧ i = .int .i64 k ∧ Hid (takesS l p (ws.take k) = .ok (vs, q) ∧ vs.length = k ∧ Un wr gu gr l limit fl fd q out o ∧ wr.heap[w.heap.size]? = some (.cells (arrN ws.length fun i => vs.getD i 0) 3 (0, 0)) ∧ Only gr w wr)) (fun i _ => ws.length - (intOf i).toNat)
  case atStart => exact ⟨0, [], p, Nat.zero_le _, rfl, Lib.hid ⟨rfl, rfl, H0.out.1, H0.out.2.1, H0.out.2.2⟩⟩
  case round =>
    clear H0
    obtain ⟨k, vs, q, hk, rfl, H⟩ := hrel
    by_cases hlt : k < ws.length
    · obtain ⟨b, off, rfl, hbl, hc, _⟩ := hb.at_ (i := k) (by simpa using hlt)
      have hbg := hne b off rfl
      have hc' := (cell_keep (H.out.2.2.2.2.block b hbl (by intro e; injection e with e; exact hbg e)) _).trans hc
      have hx : (ws.map Int.ofNat).getD k 0 = ((ws.getD k 0 : Nat) : Int) := by simp [List.getD_eq_getElem?_getD, hlt]
      rw [hx] at hc'
      have hx16 : ws.getD k 0 ≤ 16 := by rw [List.getD_eq_getElem?_getD, List.getElem?_eq_getElem hlt]; exact hws _ (List.getElem_mem hlt)
      have hsn := takesS_app l (ws.take k) p [ws.getD k 0]
      rw [← take_nat hlt, H.out.1] at hsn
      simp only at hsn
      rw [takesS_one] at hsn
      have hall := takesS_app l (ws.take (k + 1)) p (ws.drop (k + 1))
      rw [List.take_append_drop] at hall
      have hcall := bitTakeS (ws.getD k 0) hx16 H.out.2.2.1.rdr
      have c0 : wr.cell? ⟨gu, 0, none⟩ = some (.pointer (some ⟨gr, 0, none⟩)) := blk_cell H.out.2.2.1.blk 0
      have HSN := Lib.hid (And.intro hsn hall)
      clear hx hc hsn hall
      generalize ws.getD k 0 = x at *
      go_wp2_with fail
      refine hcall.mono ?_
      rintro e w2 ⟨ho, ⟨v, q', hv, rfl, hr⟩ | ⟨hv, rfl⟩⟩
      · have hU2 := H.out.2.2.1.only hr ho
        have hblk2 := (ho.block w.heap.size (blk_lt (w := wr) H.out.2.2.2.1) (by intro e; injection e with e; omega)).trans H.out.2.2.2.1
        have hc1 : w2.cell? ⟨w.heap.size, k, none⟩ = some (.int .i64 (vs.getD k 0)) := by rw [blk_cell hblk2]; exact arrN_get _ _ hlt
        have hf1 := blk_free hblk2 k
        have hset := blk_set hblk2 k (.int .i64 v)
        rw [arrN_set] at hset
        have he : (arrN ws.length fun j => if j = k then v else vs.getD j 0) = arrN ws.length fun j => (vs ++ [v]).getD j 0 := arrN_congr fun j hj => by
          have hl := H.out.2.1
          by_cases e : j = k
          · subst e; rw [if_pos rfl, List.getD_eq_getElem?_getD, List.getElem?_append_right (by omega), hl]; simp
          · rw [if_neg e, List.getD_eq_getElem?_getD, List.getD_eq_getElem?_getD]
            by_cases h2 : j < vs.length
            · rw [List.getElem?_append_left h2]
            · rw [List.getElem?_eq_none (by omega), List.getElem?_eq_none (by simp; omega)]
        rw [he] at hset
        have hs := HSN.out.1
        rw [hv] at hs
        have hog : Only gr w (w2.setCell ⟨w.heap.size, k, none⟩ (.int .i64 v)) := by
          have h1 := only_trans H.out.2.2.2.2 ho
          exact ⟨h1.os, h1.tape, h1.output, by simpa [World.setCell] using h1.size, fun i hi hne => (Below.heap_setCell _ ⟨w.heap.size, k, none⟩ _ i (by show i ≠ w.heap.size; omega)).trans (h1.block i hi hne)⟩
        have hU3 : Un (w2.setCell ⟨w.heap.size, k, none⟩ (.int .i64 v)) gu gr l limit fl fd q' out o := by
          have hks : ∀ i, i ≠ w.heap.size → (w2.setCell ⟨w.heap.size, k, none⟩ (.int .i64 v)).heap[i]? = w2.heap[i]? := fun i hi => Below.heap_setCell _ ⟨w.heap.size, k, none⟩ _ i hi
          obtain ⟨ar, cr, q1, q2, q3, q4, q5, q6⟩ := hU2.rdr
          exact ⟨(hks gu (by omega)).trans hU2.blk, ⟨ar, cr, (hks gr (by omega)).trans q1, q2, q3, q4.keep fun y hy => cell_keep' (hks _ (by omega)), q5, q6⟩, own_keep' hU2.row fun i hi => hks i (by have := (HU.out.row.lt i hi).2; omega), hU2.bytes, hU2.under, hU2.small, hU2.lim⟩
        have H3 := Lib.hid (And.intro hs (And.intro hU3 (And.intro hset hog)))
        have hl := H.out.2.1
        have HL := Lib.hid hl
        clear hU2 hblk2 hset he hs hog hU3 hr ho H hcall HSN hv hl
        generalize vs.getD k 0 = y0 at hc1
        go_wp2_with fail
        exact ⟨⟨k + 1, vs ++ [v], q', by omega, by go_num, Lib.hid ⟨H3.out.1, by rw [List.length_append, HL.out]; rfl, H3.out.2.1, H3.out.2.2.1, H3.out.2.2.2⟩⟩, by simp [intOf]; omega⟩
      · have hs := HSN.out.1
        rw [hv] at hs
        have ha := HSN.out.2
        rw [hs] at ha
        have HA := Lib.hid (And.intro ha (only_trans H.out.2.2.2.2 ho))
        clear hs ha H hcall HSN hv ho
        go_wp2_with fail
        go_ret2
        exact ⟨HA.out.2, .inr ⟨2, HA.out.1, by decide, rfl⟩⟩
    · obtain rfl : k = ws.length := by omega
      have hs := H.out.1
      rw [List.take_length] at hs
      have HS := Lib.hid hs
      clear hs
      go_wp2_with fail
      go_ret2
      exact ⟨H.out.2.2.2.2, .inl ⟨vs, q, HS.out, H.out.2.1, rfl, H.out.2.2.2.1, H.out.2.2.1⟩⟩
end
end Go.Proofs.YtpnnfekfoomgaaaDoor
