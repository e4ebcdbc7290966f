/- What an unpacker takes and lays: contracts of room, take, literal and spread. No condition but what the words say. What an unpacker reckons of lengths and distances, and lays: contracts of literal, spread, length, distance. No condition but what the words say. What lengths and distances are: contracts of spread, length and distance. No condition but what the words say. What lengths and distances are: contracts of length and distance, and of a code's Next in the words of nxS. No condition but what the words say. -/
import Derived.Test.YtdcpibglbanchaaDoorUn
set_option linter.unusedVariables false
set_option maxRecDepth 100000
namespace Go.Proofs.YtdcpibglbanchaaDoor
open Go.RowKit

section
variable {w : World} {gu gr : Nat} {l : List Int} {limit : Nat} {fl fd : Option Addr} {p : Nat} {out : List Int} {o : Option Addr × Nat}
theorem unRoom (h : Un w gu gr l limit fl fd p out o) :
    Calls Tryd.prog 45 #[.pointer (some ⟨gu, 0, none⟩)] w fun e w' => e = .returned (.int .i64 ((limit : Int) - out.length)) ∧ ∃ n, w' = w.drewN n := by
  have c1 : w.cell? ⟨gu, 1, none⟩ = some (outV out o) := blk_cell h.blk 1
  have c2 : w.cell? ⟨gu, 2, none⟩ = some (.int .i64 limit) := blk_cell h.blk 2
  have hs := h.small
  have hl := h.lim
  clear h
  obtain ⟨ao, co⟩ := o
  go_enter Tryd.func45, Tryd.ntmps45
  go_wp2_with fail
  go_quiet (fail)
  go_wp2_with fail
  go_ret
  exact ⟨rfl, _, rfl⟩
/-- some numbers, one behind the other -/
def takesS (l : List Int) : Nat → List Nat → Except Int (List Int × Nat)
  | p, [] => .ok ([], p)
  | p, n :: ns => match takeS l p n with
    | .error e => .error e
    | .ok (v, p1) => match takesS l p1 ns with
      | .error e => .error e
      | .ok (vs, p2) => .ok (v :: vs, p2)
theorem takeS_ok {l : List Int} {p n : Nat} (h : p + n ≤ 8 * l.length) : takeS l p n = .ok (tk l p n, p + n) := if_pos h
theorem takeS_bad {l : List Int} {p n : Nat} (h : ¬ p + n ≤ 8 * l.length) : takeS l p n = .error 2 := if_neg h
/-- the reader's Take, in the words of takeS -/
theorem bitTakeS {w : World} {g : Nat} {l : List Int} {p : Nat} (n : Nat) (hn : n ≤ 16) (h : Rdr 94 w g l p) :
    Calls Tryd.prog 43 #[.pointer (some ⟨g, 0, none⟩), .int .i64 n] w fun e w' => Only g w w' ∧ ((∃ v p', takeS l p n = .ok (v, p') ∧ e = .returned (.tuple #[.int .i64 v, .int .i64 0]) ∧ Rdr 94 w' g l p') ∨ (takeS l p n = .error 2 ∧ e = .returned (.tuple #[.int .i64 0, .int .i64 2]))) := by
  have hc := bitTake (n : Int) (by omega) h
  by_cases hp : p + n ≤ 8 * l.length
  · obtain ⟨e1, e2, e3⟩ := t_ok (l := l) (p := p) (m := n) hn hp
    rw [e1, e2, e3] at hc
    exact hc.mono fun e w' ⟨h1, h2, h3⟩ => ⟨h3, .inl ⟨_, _, takeS_ok hp, h1, h2⟩⟩
  · obtain ⟨e1, e2, e3⟩ := t_short (l := l) (p := p) (n := (n : Int)) (by omega) (by omega)
    rw [e1, e2, e3] at hc
    exact hc.mono fun e w' ⟨h1, h2, h3⟩ => ⟨h3, .inr ⟨takeS_bad hp, h1⟩⟩
theorem takesS_app (l : List Int) : ∀ (xs : List Nat) (p : Nat) (ys : List Nat), takesS l p (xs ++ ys) = match takesS l p xs with
    | .error e => .error e
    | .ok (vs, q) => match takesS l q ys with
      | .error e => .error e
      | .ok (us, q') => .ok (vs ++ us, q')
  | [], p, ys => by
    simp only [List.nil_append, takesS]
    cases takesS l p ys with
    | error e => rfl
    | ok x => rfl
  | x :: xs, p, ys => by
    simp only [List.cons_append, takesS]
    cases takeS l p x with
    | error e => rfl
    | ok x =>
      obtain ⟨v, p1⟩ := x
      simp only
      rw [takesS_app l xs p1 ys]
      cases takesS l p1 xs with
      | error e => rfl
      | ok x =>
        obtain ⟨vs, q⟩ := x
        simp only
        cases takesS l q ys with
        | error e => rfl
        | ok x => rfl
theorem takesS_one (l : List Int) (p n : Nat) : takesS l p [n] = match takeS l p n with
    | .error e => .error e
    | .ok (v, q) => .ok ([v], q) := by
  simp only [takesS]
theorem take_nat {ws : List Nat} {k : Nat} (hk : k < ws.length) : ws.take (k + 1) = ws.take k ++ [ws.getD k 0] := by
  rw [List.take_succ_eq_append_getElem hk, List.getD_eq_getElem?_getD, List.getElem?_eq_getElem hk]; rfl
/-- what take answers -/
def Taken (w : World) (gu gr : Nat) (l : List Int) (limit : Nat) (fl fd : Option Addr) (p : Nat) (out : List Int) (o : Option Addr × Nat) (ws : List Nat) (e : Ending) (w' : World) : Prop :=
  Only gr w w' ∧ ((∃ vs p', takesS l p ws = .ok (vs, p') ∧ vs.length = ws.length ∧ e = .returned (.tuple #[.slice (some ⟨w.heap.size, 0, none⟩) ws.length ws.length, .int .i64 0]) ∧ w'.heap[w.heap.size]? = some (.cells (arrN ws.length fun i => vs.getD i 0) 3 (0, 0)) ∧ Un w' gu gr l limit fl fd p' out o) ∨ (∃ er, takesS l p ws = .error er ∧ er ≠ 0 ∧ e = .returned (.tuple #[.slice none 0 0, .int .i64 er])))
theorem run_make_ints (n : Nat) (hn : n ≤ 400) (W : World) : (Instr.makeSlice 95 (.int .i64 n) (.int .i64 n)).run Tryd.prog W = .ok (.slice (some ⟨W.heap.size, 0, none⟩) n n) (W.alloc (.cells (arrN n fun _ => 0) 3)) := by
  have h := run_make_row' (P := Tryd.prog) 95 3 (.int .i64 0) 8 Tryd.underlying95 int_info rfl .i64 .i64 n (by omega) (by omega) W
  have e : madeCells #[.int .i64 0] n = arrN n fun _ => 0 := by
    apply arrN_ext
    · exact size_madeCells _ _
    · intro i hi
      simp [madeCells, hi, Nat.mod_one]
  rw [e] at h
  exact h
set_option maxHeartbeats 2000000 in
theorem unTake {a : Option Addr} {n c : Nat} {ws : List Nat} (h : Un w gu gr l limit fl fd p out o) (hn : ws.length = n) (hm : n ≤ 400) (hws : ∀ x ∈ ws, x ≤ 16) (hb : Ints .i64 w w.heap.size a (ws.map Int.ofNat)) (hne : ∀ b off, a = some ⟨b, off, none⟩ → b ≠ gr) :
    Calls Tryd.prog 34 #[.pointer (some ⟨gu, 0, none⟩), .slice a n c] w (Taken w gu gr l limit fl fd p out o ws) := by
  subst hn
  have hmk := run_make_ints ws.length hm
  have hgu := blk_lt h.blk
  have hgr := h.under
  have h1 := h.below (w' := w.alloc (.cells (arrN ws.length fun _ => 0) 3)) ((Below.refl _ _).alloc (Nat.le_refl _) _)
  have hnew := heap_alloc_new w (.cells (arrN ws.length fun _ => 0) 3)
  have hon : Only gr w (w.alloc (.cells (arrN ws.length fun _ => 0) 3)) := only_alloc (only_refl _ _) _
  have H0 := Lib.hid (And.intro h1 (And.intro hnew hon))
  have HU := Lib.hid h
  clear h1 hnew hon h
  go_enter Tryd.func34, Tryd.ntmps34
  go_wp2_with fail
  clear hmk
  generalize (w.alloc (.cells (arrN ws.length fun _ => 0) 3)) = w1 at *
  go_loopw [16] (fun i wr => ∃ (k : Nat) (vs : List Int) (q : Nat), k ≤ ws.length ∧ i = .int .i64 k ∧ Hid (takesS l p (ws.take k) = .ok (vs, q) ∧ vs.length = k ∧ Un wr gu gr l limit fl fd q out o ∧ wr.heap[w.heap.size]? = some (.cells (arrN ws.length fun i => vs.getD i 0) 3 (0, 0)) ∧ Only gr w wr)) (fun i _ => ws.length - (intOf i).toNat)
  case atStart => exact ⟨0, [], p, Nat.zero_le _, rfl, Lib.hid ⟨rfl, rfl, H0.out.1, H0.out.2.1, H0.out.2.2⟩⟩
  case round =>
    clear H0
    obtain ⟨k, vs, q, hk, rfl, H⟩ := hrel
    by_cases hlt : k < ws.length
    · obtain ⟨b, off, rfl, hbl, hc, _⟩ := hb.at_ (i := k) (by simpa using hlt)
      have hbg := hne b off rfl
      have hc' := (cell_keep (H.out.2.2.2.2.block b hbl (by intro e; injection e with e; exact hbg e)) _).trans hc
      have hx : (ws.map Int.ofNat).getD k 0 = ((ws.getD k 0 : Nat) : Int) := by simp [List.getD_eq_getElem?_getD, hlt]
      rw [hx] at hc'
      have hx16 : ws.getD k 0 ≤ 16 := by rw [List.getD_eq_getElem?_getD, List.getElem?_eq_getElem hlt]; exact hws _ (List.getElem_mem hlt)
      have hsn := takesS_app l (ws.take k) p [ws.getD k 0]
      rw [← take_nat hlt, H.out.1] at hsn
      simp only at hsn
      rw [takesS_one] at hsn
      have hall := takesS_app l (ws.take (k + 1)) p (ws.drop (k + 1))
      rw [List.take_append_drop] at hall
      have hcall := bitTakeS (ws.getD k 0) hx16 H.out.2.2.1.rdr
      have c0 : wr.cell? ⟨gu, 0, none⟩ = some (.pointer (some ⟨gr, 0, none⟩)) := blk_cell H.out.2.2.1.blk 0
      have HSN := Lib.hid (And.intro hsn hall)
      clear hx hc hsn hall
      generalize ws.getD k 0 = x at *
      go_wp2_with fail
      refine hcall.mono ?_
      rintro e w2 ⟨ho, ⟨v, q', hv, rfl, hr⟩ | ⟨hv, rfl⟩⟩
      · have hU2 := H.out.2.2.1.only hr ho
        have hblk2 := (ho.block w.heap.size (blk_lt (w := wr) H.out.2.2.2.1) (by intro e; injection e with e; omega)).trans H.out.2.2.2.1
        have hc1 : w2.cell? ⟨w.heap.size, k, none⟩ = some (.int .i64 (vs.getD k 0)) := by rw [blk_cell hblk2]; exact arrN_get _ _ hlt
        have hf1 := blk_free hblk2 k
        have hset := blk_set hblk2 k (.int .i64 v)
        rw [arrN_set] at hset
        have he : (arrN ws.length fun j => if j = k then v else vs.getD j 0) = arrN ws.length fun j => (vs ++ [v]).getD j 0 := arrN_congr fun j hj => by
          have hl := H.out.2.1
          by_cases e : j = k
          · subst e; rw [if_pos rfl, List.getD_eq_getElem?_getD, List.getElem?_append_right (by omega), hl]; simp
          · rw [if_neg e, List.getD_eq_getElem?_getD, List.getD_eq_getElem?_getD]
            by_cases h2 : j < vs.length
            · rw [List.getElem?_append_left h2]
            · rw [List.getElem?_eq_none (by omega), List.getElem?_eq_none (by simp; omega)]
        rw [he] at hset
        have hs := HSN.out.1
        rw [hv] at hs
        have hog : Only gr w (w2.setCell ⟨w.heap.size, k, none⟩ (.int .i64 v)) := by
          have h1 := only_trans H.out.2.2.2.2 ho
          exact ⟨h1.os, h1.tape, h1.output, by simpa [World.setCell] using h1.size, fun i hi hne => (Below.heap_setCell _ ⟨w.heap.size, k, none⟩ _ i (by show i ≠ w.heap.size; omega)).trans (h1.block i hi hne)⟩
        have hU3 : Un (w2.setCell ⟨w.heap.size, k, none⟩ (.int .i64 v)) gu gr l limit fl fd q' out o := by
          have hks : ∀ i, i ≠ w.heap.size → (w2.setCell ⟨w.heap.size, k, none⟩ (.int .i64 v)).heap[i]? = w2.heap[i]? := fun i hi => Below.heap_setCell _ ⟨w.heap.size, k, none⟩ _ i hi
          obtain ⟨ar, cr, q1, q2, q3, q4, q5, q6⟩ := hU2.rdr
          exact ⟨(hks gu (by omega)).trans hU2.blk, ⟨ar, cr, (hks gr (by omega)).trans q1, q2, q3, q4.keep fun y hy => cell_keep' (hks _ (by omega)), q5, q6⟩, own_keep' hU2.row fun i hi => hks i (by have := (HU.out.row.lt i hi).2; omega), hU2.bytes, hU2.under, hU2.small, hU2.lim⟩
        have H3 := Lib.hid (And.intro hs (And.intro hU3 (And.intro hset hog)))
        have hl := H.out.2.1
        have HL := Lib.hid hl
        clear hU2 hblk2 hset he hs hog hU3 hr ho H hcall HSN hv hl
        generalize vs.getD k 0 = y0 at hc1
        go_wp2_with fail
        exact ⟨⟨k + 1, vs ++ [v], q', by omega, by go_num, Lib.hid ⟨H3.out.1, by rw [List.length_append, HL.out]; rfl, H3.out.2.1, H3.out.2.2.1, H3.out.2.2.2⟩⟩, by simp [intOf]; omega⟩
      · have hs := HSN.out.1
        rw [hv] at hs
        have ha := HSN.out.2
        rw [hs] at ha
        have HA := Lib.hid (And.intro ha (only_trans H.out.2.2.2.2 ho))
        clear hs ha H hcall HSN hv ho
        go_wp2_with fail
        go_ret2
        exact ⟨HA.out.2, .inr ⟨2, HA.out.1, by decide, rfl⟩⟩
    · obtain rfl : k = ws.length := by omega
      have hs := H.out.1
      rw [List.take_length] at hs
      have HS := Lib.hid hs
      clear hs
      go_wp2_with fail
      go_ret2
      exact ⟨H.out.2.2.2.2, .inl ⟨vs, q, HS.out, H.out.2.1, rfl, H.out.2.2.2.1, H.out.2.2.1⟩⟩
end
end Go.Proofs.YtdcpibglbanchaaDoor

set_option linter.unusedVariables false
set_option maxRecDepth 100000
namespace Go.Proofs.YtdcpibglbanchaaDoor
open Go.RowKit

theorem and_mask64 (x : Int) (n : Nat) (hn : n ≤ 16) : bits .and .i64 x (2 ^ n - 1) = x % 2 ^ n := by
  have h1 := ofInt_toNat 64 x
  have hm := pow_mono2 (show n ≤ 16 by omega)
  have hp := pow_pos2 n
  have e16 : (2 : Int) ^ 16 = 65536 := by decide
  have h2 : (BitVec.ofInt 64 ((2 : Int) ^ n - 1)).toNat = 2 ^ n - 1 := by
    have := ofInt_toNat 64 ((2 : Int) ^ n - 1)
    have e1 := pow_cast n
    omega
  have hd : (2 : Int) ^ n ∣ 18446744073709551616 := ⟨2 ^ (64 - n), by rw [← Int.pow_add, show n + (64 - n) = 64 by omega]; rfl⟩
  have e : (((BitVec.ofInt 64 x).toNat % 2 ^ n : Nat) : Int) = x % 2 ^ n := by
    rw [Int.natCast_emod, h1, ← pow_cast]
    exact Int.emod_emod_of_dvd x hd
  have hlt := Int.emod_lt_of_pos x hp
  have hge := Int.emod_nonneg x (b := (2 : Int) ^ n) (by omega)
  rw [and64_is, BitVec.toNat_and, h2, Nat.and_two_pow_sub_one_eq_mod, e, wrap64_eq, wrap64_in _ (by omega)]

section
variable {w : World} {gu gr : Nat} {l : List Int} {limit : Nat} {fl fd : Option Addr} {p : Nat} {out : List Int} {o : Option Addr × Nat}
/-- behind an append to what is unpacked -/
theorem unAppend {w1 w2 : World} (h : Un w gu gr l limit fl fd p out o) (hb : Below w.heap.size w w1) {m : List Int} {o' : Option Addr × Nat} (hm : Bytes m) (hs : (out ++ m).length ≤ limit) (hg : w1.grownBy w2 (outV out o).ownBlock) (hown : w2.ownsRow (gu + 1) 5 1 (outV (out ++ m) o') (out ++ m).length ((out ++ m).map (Value.int .u8)))
    (hl : (outV (out ++ m) o').ownBlock = (outV out o).ownBlock ∨ (outV (out ++ m) o').ownBlock = some w1.heap.size) :
    Un (w2.setCell ⟨gu, 1, none⟩ (outV (out ++ m) o')) gu gr l limit fl fd p (out ++ m) o' ∧ Stp gu gr w out o (w2.setCell ⟨gu, 1, none⟩ (outV (out ++ m) o')) (out ++ m) o' := by
  have h1 := h.below hb
  have hgu := blk_lt h1.blk
  have hun := h.under
  have hkeep : ∀ i, i < w1.heap.size → (outV out o).ownBlock ≠ some i → w2.heap[i]? = w1.heap[i]? := fun i hi hn => hg.block i hi fun e => hn e.symm
  have hu2 : w2.heap[gu]? = w1.heap[gu]? := hkeep gu hgu fun e => by have := (h.row.lt gu e).1; omega
  have hlow : ∀ i, i < gu → w2.heap[i]? = w1.heap[i]? := fun i hi => hkeep i (by omega) fun e => by have := (h.row.lt i e).1; omega
  have hset : ∀ i, i ≠ gu → (w2.setCell ⟨gu, 1, none⟩ (outV (out ++ m) o')).heap[i]? = w2.heap[i]? := fun i hi => Below.heap_setCell _ ⟨gu, 1, none⟩ _ i hi
  have hsz : (w2.setCell ⟨gu, 1, none⟩ (outV (out ++ m) o')).heap.size = w2.heap.size := by simp [World.setCell]
  refine ⟨⟨blk_set (hu2.trans h1.blk) 1 _, ?_, own_keep' hown fun i hi => hset i (by have := (hown.lt i hi).1; omega), h.bytes.app hm, hun, hs, h.lim⟩, ⟨⟨hg.os.trans hb.os, hg.tape.trans hb.tape, hg.output.trans hb.output, by rw [hsz]; exact Nat.le_trans hb.size hg.size, fun i hi hn => ?_⟩, fun i hi => ?_⟩⟩
  · obtain ⟨ar, cr, q1, q2, q3, q4, q5, q6⟩ := h1.rdr
    exact ⟨ar, cr, ((hset gr (by omega)).trans (hlow gr hun)).trans q1, q2, q3, q4.keep fun y hy => cell_keep' ((hset _ (by omega)).trans (hlow _ (by omega))), q5, q6⟩
  · exact (hset i fun e => hn (.inl e)).trans ((hkeep i (Nat.lt_of_lt_of_le hi hb.size) fun e => hn (.inr (.inr e))).trans (hb.block i hi))
  · rcases hl with q | q
    · rw [q] at hi; exact .inl hi
    · rw [q] at hi; injection hi with hi; exact .inr (by rw [← hi]; exact hb.size)
theorem unLiteral (x : Int) (hx : 0 ≤ x ∧ x ≤ 255) (h : Un w gu gr l limit fl fd p out o) :
    Calls Tryd.prog 48 #[.pointer (some ⟨gu, 0, none⟩), .int .u8 x] w fun e w' => (limit ≤ out.length ∧ e = .returned (.int .i64 8) ∧ Stp gu gr w out o w' out o) ∨ (out.length < limit ∧ e = .returned (.int .i64 0) ∧ ∃ o', Un w' gu gr l limit fl fd p (out ++ [x]) o' ∧ Stp gu gr w out o w' (out ++ [x]) o') := by
  have hroom := unRoom h
  have hs := h.small
  have hl := h.lim
  by_cases hf : limit ≤ out.length
  · obtain rfl : limit = out.length := by omega
    have hz : ((out.length : Int) - out.length) = 0 := by omega
    rw [hz] at hroom
    go_enter Tryd.func48, Tryd.ntmps48
    go_wp2_with fail
    refine hroom.mono ?_
    rintro e w1 ⟨rfl, m, rfl⟩
    have HS : Hid (Stp gu gr w out o (w.drewN m) out o) := Lib.hid ⟨(Foot.refl _ _).drewN m, fun i hi => .inl hi⟩
    clear hz hroom h
    go_wp2_with fail
    go_ret
    exact .inl ⟨Nat.le_refl _, rfl, HS.out⟩
  · have hd : (((limit : Int) - out.length) == 0) = false := by simp; omega
    go_enter Tryd.func48, Tryd.ntmps48
    go_wp2_with fail
    refine hroom.mono ?_
    rintro e w1 ⟨rfl, m, rfl⟩
    have c1 : (w.drewN m).cell? ⟨gu, 1, none⟩ = some (outV out o) := blk_cell h.blk 1
    have hown : ((w.drewN m).alloc (.cells #[.int .u8 x] 5)).ownsRow (gu + 1) 5 1 (outV out o) out.length (out.map (Value.int .u8)) := (show (w.drewN m).ownsRow (gu + 1) 5 1 (outV out o) out.length (out.map (Value.int .u8)) from h.row).alloc _
    have hgu := blk_lt h.blk
    have hbo : Bs ((w.drewN m).alloc (.cells #[.int .u8 x] 5)) ((w.drewN m).alloc (.cells #[.int .u8 x] 5)).heap.size (some ⟨(w.drewN m).heap.size, 0, none⟩) [x] := ⟨Bytes.one hx, fun hn => ⟨(w.drewN m).heap.size, 0, rfl, by simp, fun i hi => by
      obtain rfl : i = 0 := by simpa using hi
      rw [blk_cell (heap_alloc_new _ _)]; rfl⟩⟩
    have hB0 : Below w.heap.size w ((w.drewN m).alloc (.cells #[.int .u8 x] 5)) := (low_drewN (Below.refl w.heap.size w) m).alloc (Nat.le_refl _) _
    have HB0 := Lib.hid hB0
    clear hroom hB0
    obtain ⟨ao, co⟩ := o
    go_wp2_with (at_builtin; refine wpList_app2 rfl _ _ rfl (gu + 1) (.slice ao out.length co) out.length out rfl hown _ (some ⟨(w.drewN m).heap.size, 0, none⟩) 1 1 [x] rfl rfl hbo (by simp) (by omega) (by simp; omega) ?_; intro v2 w2 hown2 hg2 hl2; obtain ⟨a2, c2, rfl⟩ := own_shape hown2; have hf2 : w2.frozen? ⟨gu, 1, none⟩ = false := blk_free ((hg2.block gu (by simp; omega) (fun e => by have := (h.row.lt gu e.symm).1; omega)).trans (HB0.out.block gu hgu |>.trans h.blk)) 1; have hcu2 : w2.cell? ⟨gu, 1, none⟩ = some (.slice ao out.length co) := blk_cell ((hg2.block gu (by simp; omega) (fun e => by have := (h.row.lt gu e.symm).1; omega)).trans (HB0.out.block gu hgu |>.trans h.blk)) 1)
    have hfin := unAppend (m := [x]) (o' := (a2, c2)) h HB0.out (Bytes.one hx) (by simp; omega) hg2 (by simpa [outV] using hown2) (by simpa [outV] using hl2)
    have HF := Lib.hid hfin
    clear hfin hown2 hg2 hl2 hown hbo h c1
    go_wp2_with fail
    go_ret
    exact .inr ⟨by omega, rfl, (a2, c2), by simpa [outV] using HF.out.1, by simpa [outV] using HF.out.2⟩
end
end Go.Proofs.YtdcpibglbanchaaDoor

set_option linter.unusedVariables false
set_option maxRecDepth 100000
namespace Go.Proofs.YtdcpibglbanchaaDoor
open Go.RowKit

theorem pow_small {N : Nat} (h : N ≤ 15) : ∃ P : Nat, (2 : Int) ^ N = (P : Int) ∧ 2 ^ N = P ∧ 1 ≤ P ∧ P ≤ 32768 := by
  have h15 := Nat.pow_le_pow_right (n := 2) (by decide) h
  rw [(by decide : 2 ^ 15 = 32768)] at h15
  exact ⟨2 ^ N, pow_cast N, rfl, Nat.two_pow_pos _, h15⟩
section
variable {w : World} {gu gr : Nat} {l : List Int} {limit : Nat} {fl fd : Option Addr} {p : Nat} {out : List Int} {o : Option Addr × Nat}
/-- what a call of the reader alone leaves -/
def Red (w : World) (gu gr : Nat) (l : List Int) (limit : Nat) (fl fd : Option Addr) (out : List Int) (o : Option Addr × Nat) (s : Except Int (Int × Nat)) (k : Int) (e : Ending) (w' : World) : Prop :=
  Only gr w w' ∧ ((∃ v p', s = .ok (v, p') ∧ e = .returned (.tuple #[.int .i64 (k + v), .int .i64 0]) ∧ Un w' gu gr l limit fl fd p' out o) ∨ (∃ er y, s = .error er ∧ er ≠ 0 ∧ e = .returned (.tuple #[.int .i64 y, .int .i64 er])))
theorem takeS_val {l : List Int} {p n p' : Nat} {v : Int} (h : takeS l p n = .ok (v, p')) : v = tk l p n ∧ p' = p + n ∧ p + n ≤ 8 * l.length := by
  unfold takeS at h
  split at h
  · rename_i hp
    injection h with h
    injection h with h1 h2
    exact ⟨h1.symm, h2.symm, hp⟩
  · cases h
theorem tk_zero (l : List Int) (p : Nat) : tk l p 0 = 0 := rfl
set_option maxHeartbeats 1000000 in
theorem spread2_is (s : Nat) (hs : s ≤ 27) (h : Un w gu gr l limit fl fd p out o) :
    Calls Tryd.prog 77 #[.pointer (some ⟨gu, 0, none⟩), .int .i64 s, .int .i64 2] w (Red w gu gr l limit fl fd out o (takeS l p (s / 4 - 1)) ((if s < 4 then s else (4 + s % 4) * 2 ^ (s / 4 - 1) : Nat) : Int)) := by
  have hp := h.rdr.choose_spec.choose_spec.2.2.2.2.1
  have hand := and_mask64 (s : Int) 2 (by decide)
  have c0 : w.cell? ⟨gu, 0, none⟩ = some (.pointer (some ⟨gr, 0, none⟩)) := blk_cell h.blk 0
  obtain ⟨G, hG⟩ : ∃ G, s / 4 = G := ⟨_, rfl⟩
  obtain ⟨K, hK⟩ : ∃ K, s % 4 = K := ⟨_, rfl⟩
  have hd1 : (s : Int) / 4 = (G : Int) := by omega
  have hm1 : bits .and .i64 (s : Int) 3 = (K : Int) := by
    rw [show (2 : Int) ^ 2 - 1 = 3 by decide] at hand
    rw [hand, show (2 : Int) ^ 2 = 4 by decide]; omega
  have hG14 : G ≤ 14 := by omega
  have hK4 : K < 4 := by omega
  rw [hG, hK]
  have HU := Lib.hid h
  by_cases h4 : s < 4
  · obtain rfl : G = 0 := by omega
    rw [if_pos h4, show 0 - 1 = 0 from rfl, takeS_ok (by omega), tk_zero]
    clear hand hG hK hG14 h
    go_enter Tryd.func77, Tryd.ntmps77
    go_wp2_with fail
    go_quiet (fail)
    go_wp2_with fail
    go_ret2
    exact ⟨only_drewN (only_refl _ _) _, .inl ⟨0, p, by simp, by simp, (HU.out.below (low_drewN (Below.refl _ _) _))⟩⟩
  · have j0 : ((G : Int) == 0) = false := by simp; omega
    obtain ⟨m, rfl⟩ : ∃ m, G = m + 1 := ⟨G - 1, by omega⟩
    have hm : ((m + 1 : Nat) : Int) - 1 = (m : Int) := by omega
    have hcall := fun d => bitTakeS (w := w.drewN d) m (by omega) HU.out.rdr
    have hor1 := or_i64 1 K 2 (by omega) (by omega)
    rw [show ((2 ^ 2 * 1 : Nat) : Int) = 4 from rfl, show ((2 ^ 2 * 1 + K : Nat) : Int) = ((4 + K : Nat) : Int) from rfl] at hor1
    rw [if_neg h4, Nat.add_sub_cancel]
    clear hand hG hK h
    go_enter Tryd.func77, Tryd.ntmps77
    go_wp2_with fail
    go_quiet (fail)
    go_wp2_with fail
    refine (hcall _).mono ?_
    obtain ⟨P, p1, p2, p3, p4⟩ := pow_small (show m ≤ 15 by omega)
    rintro e w2 ⟨ho, ⟨v, p', hv, rfl, hr⟩ | ⟨hv, rfl⟩⟩
    · obtain ⟨hv1, _, _⟩ := takeS_val hv
      have hb := tk_bd l p m
      rw [← hv1, p1] at hb
      obtain ⟨V, rfl⟩ := Int.eq_ofNat_of_zero_le hb.1
      have hor2 := or_i64 (4 + K) V m (by rw [p2]; omega) (by rw [p2]; have := Nat.mul_le_mul p4 (show 4 + K ≤ 8 by omega); omega)
      rw [p2] at hor2
      have hle := Nat.mul_le_mul p4 (show 4 + K ≤ 8 by omega)
      have hcm : (4 + (K : Int)) * (P : Int) = ((P * (4 + K) : Nat) : Int) := by rw [Int.natCast_mul, Int.mul_comm]; rfl
      have H2 := Lib.hid (And.intro hv (And.intro ((HU.out.below (low_drewN (Below.refl _ _) _)).only hr ho) (only_trans (only_drewN (only_refl gr w) _) ho)))
      have HV : Hid (bits .or .i64 (wrap64 ((4 + (K : Int)) * (P : Int))) (V : Int) = (((4 + K) * 2 ^ m : Nat) : Int) + V) := Lib.hid (by
        rw [hcm, wrap64_in _ (by omega), hor2, p2, Nat.mul_comm (4 + K) P]; omega)
      clear hcall hb hv hv1 hr ho p2 hor2 hcm
      go_wp2_with fail
      go_ret2
      exact ⟨H2.out.2.2, .inl ⟨_, p', H2.out.1, by rw [HV.out]; rfl, H2.out.2.1⟩⟩
    · have H2 := Lib.hid (And.intro hv (only_trans (only_drewN (only_refl gr w) _) ho))
      clear hcall hv ho p2
      go_wp2_with fail
      go_ret2
      exact ⟨H2.out.2, .inr ⟨2, _, H2.out.1, by decide, rfl⟩⟩
set_option maxHeartbeats 1000000 in
theorem spread1_is (s : Nat) (hs : s ≤ 29) (h : Un w gu gr l limit fl fd p out o) :
    Calls Tryd.prog 77 #[.pointer (some ⟨gu, 0, none⟩), .int .i64 s, .int .i64 1] w (Red w gu gr l limit fl fd out o (takeS l p (s / 2 - 1)) ((if s < 2 then s else (2 + s % 2) * 2 ^ (s / 2 - 1) : Nat) : Int)) := by
  have hp := h.rdr.choose_spec.choose_spec.2.2.2.2.1
  have hand := and_mask64 (s : Int) 1 (by decide)
  have c0 : w.cell? ⟨gu, 0, none⟩ = some (.pointer (some ⟨gr, 0, none⟩)) := blk_cell h.blk 0
  obtain ⟨G, hG⟩ : ∃ G, s / 2 = G := ⟨_, rfl⟩
  obtain ⟨K, hK⟩ : ∃ K, s % 2 = K := ⟨_, rfl⟩
  have hd1 : (s : Int) / 2 = (G : Int) := by omega
  have hm1 : bits .and .i64 (s : Int) 1 = (K : Int) := by
    rw [show (2 : Int) ^ 1 - 1 = 1 by decide] at hand
    rw [hand, show (2 : Int) ^ 1 = 2 by decide]; omega
  have hG14 : G ≤ 14 := by omega
  have hK4 : K < 2 := by omega
  rw [hG, hK]
  have HU := Lib.hid h
  by_cases h4 : s < 2
  · obtain rfl : G = 0 := by omega
    rw [if_pos h4, show 0 - 1 = 0 from rfl, takeS_ok (by omega), tk_zero]
    clear hand hG hK hG14 h
    go_enter Tryd.func77, Tryd.ntmps77
    go_wp2_with fail
    go_quiet (fail)
    go_wp2_with fail
    go_ret2
    exact ⟨only_drewN (only_refl _ _) _, .inl ⟨0, p, by simp, by simp, (HU.out.below (low_drewN (Below.refl _ _) _))⟩⟩
  · have j0 : ((G : Int) == 0) = false := by simp; omega
    obtain ⟨m, rfl⟩ : ∃ m, G = m + 1 := ⟨G - 1, by omega⟩
    have hm : ((m + 1 : Nat) : Int) - 1 = (m : Int) := by omega
    have hcall := fun d => bitTakeS (w := w.drewN d) m (by omega) HU.out.rdr
    have hor1 := or_i64 1 K 1 (by omega) (by omega)
    rw [show ((2 ^ 1 * 1 : Nat) : Int) = 2 from rfl, show ((2 ^ 1 * 1 + K : Nat) : Int) = ((2 + K : Nat) : Int) from rfl] at hor1
    rw [if_neg h4, Nat.add_sub_cancel]
    clear hand hG hK h
    go_enter Tryd.func77, Tryd.ntmps77
    go_wp2_with fail
    go_quiet (fail)
    go_wp2_with fail
    refine (hcall _).mono ?_
    obtain ⟨P, p1, p2, p3, p4⟩ := pow_small (show m ≤ 15 by omega)
    rintro e w2 ⟨ho, ⟨v, p', hv, rfl, hr⟩ | ⟨hv, rfl⟩⟩
    · obtain ⟨hv1, _, _⟩ := takeS_val hv
      have hb := tk_bd l p m
      rw [← hv1, p1] at hb
      obtain ⟨V, rfl⟩ := Int.eq_ofNat_of_zero_le hb.1
      have hor2 := or_i64 (2 + K) V m (by rw [p2]; omega) (by rw [p2]; have := Nat.mul_le_mul p4 (show 2 + K ≤ 4 by omega); omega)
      rw [p2] at hor2
      have hle := Nat.mul_le_mul p4 (show 2 + K ≤ 4 by omega)
      have hcm : (2 + (K : Int)) * (P : Int) = ((P * (2 + K) : Nat) : Int) := by rw [Int.natCast_mul, Int.mul_comm]; rfl
      have H2 := Lib.hid (And.intro hv (And.intro ((HU.out.below (low_drewN (Below.refl _ _) _)).only hr ho) (only_trans (only_drewN (only_refl gr w) _) ho)))
      have HV : Hid (bits .or .i64 (wrap64 ((2 + (K : Int)) * (P : Int))) (V : Int) = (((2 + K) * 2 ^ m : Nat) : Int) + V) := Lib.hid (by
        rw [hcm, wrap64_in _ (by omega), hor2, p2, Nat.mul_comm (2 + K) P]; omega)
      clear hcall hb hv hv1 hr ho p2 hor2 hcm
      go_wp2_with fail
      go_ret2
      exact ⟨H2.out.2.2, .inl ⟨_, p', H2.out.1, by rw [HV.out]; rfl, H2.out.2.1⟩⟩
    · have H2 := Lib.hid (And.intro hv (only_trans (only_drewN (only_refl gr w) _) ho))
      clear hcall hv ho p2
      go_wp2_with fail
      go_ret2
      exact ⟨H2.out.2, .inr ⟨2, _, H2.out.1, by decide, rfl⟩⟩
end
end Go.Proofs.YtdcpibglbanchaaDoor

set_option linter.unusedVariables false
set_option maxRecDepth 100000
namespace Go.Proofs.YtdcpibglbanchaaDoor
open Go.RowKit

theorem spreadL : ∀ j, j ≤ 27 → leastL j = 3 + (if j < 4 then j else (4 + j % 4) * 2 ^ (j / 4 - 1)) ∧ moreL j = j / 4 - 1 := by decide
theorem spreadD : ∀ j, j ≤ 29 → leastD j = 1 + (if j < 2 then j else (2 + j % 2) * 2 ^ (j / 2 - 1)) ∧ moreD j = j / 2 - 1 := by decide
theorem nxS_ok {ns : List Nat} {l : List Int} {p : Nat} {v : Int} {p' : Nat} (hp : p ≤ 8 * l.length) (h : nxS ns l p = .ok (v, p')) : (∃ s : Nat, s < ns.length ∧ v = s) ∧ p < p' ∧ p' ≤ 8 * l.length := by
  unfold nxS at h
  split at h
  · rename_i h0
    injection h with h
    injection h with h1 h2
    obtain ⟨_, b2, _, b4⟩ := nxR_bd ns l p (plong ns 15) 0 (by omega)
    obtain ⟨b5, s, b6, b7, _⟩ := b4 h0
    subst h1 h2
    exact ⟨⟨s, b6, b7⟩, b5, b2⟩
  · cases h
theorem nxS_bad {ns : List Nat} {l : List Int} {p : Nat} {er : Int} (h : nxS ns l p = .error er) : er ≠ 0 := by
  unfold nxS at h
  split at h
  · cases h
  · rename_i h0
    injection h with h
    rw [← h]; exact h0
section
variable {w : World} {gu gr : Nat} {l : List Int} {limit : Nat} {fl fd : Option Addr} {p : Nat} {out : List Int} {o : Option Addr × Nat}
/-- what a call of the reader alone answers: a number, or an error -/
def Got (w : World) (gu gr : Nat) (l : List Int) (limit : Nat) (fl fd : Option Addr) (out : List Int) (o : Option Addr × Nat) (s : Except Int (Int × Nat)) (e : Ending) (w' : World) : Prop :=
  Only gr w w' ∧ ((∃ v p', s = .ok (v, p') ∧ e = .returned (.tuple #[.int .i64 v, .int .i64 0]) ∧ Un w' gu gr l limit fl fd p' out o) ∨ (∃ er y, s = .error er ∧ er ≠ 0 ∧ e = .returned (.tuple #[.int .i64 y, .int .i64 er])))
theorem unNext {F : Nat → Prop} {g : Nat} {ns : List Nat} (hF : Aside w gu gr out o F) (hc : PC w F g ns) (h : Un w gu gr l limit fl fd p out o) :
    Calls Tryd.prog 47 #[.pointer (some ⟨g, 0, none⟩), .pointer (some ⟨gr, 0, none⟩)] w (Got w gu gr l limit fl fd out o (nxS ns l p)) := by
  refine (next_is (fun b hb => ⟨(hF b hb).1, fun e => (hF b hb).2 (.inr (.inl e))⟩) hc h.rdr).mono ?_
  rintro e w' ⟨rfl, hr, ho⟩
  refine ⟨ho, ?_⟩
  by_cases h0 : (nxt ns l p).2.1 = 0
  · exact .inl ⟨(nxt ns l p).1, (nxt ns l p).2.2, if_pos h0, by rw [h0], h.only hr ho⟩
  · exact .inr ⟨(nxt ns l p).2.1, (nxt ns l p).1, if_neg h0, h0, rfl⟩
theorem lenS_mid {l : List Int} {p j : Nat} (hj : j ≤ 27) : lenS l p ((j + 257 : Nat) : Int) = match takeS l p (j / 4 - 1) with
    | .error e => .error e
    | .ok (v, p1) => .ok (3 + ((if j < 4 then j else (4 + j % 4) * 2 ^ (j / 4 - 1) : Nat) : Int) + v, p1) := by
  obtain ⟨h1, h2⟩ := spreadL j hj
  unfold lenS
  rw [if_neg (by omega), if_neg (by omega), show (((j + 257 : Nat) : Int) - 257).toNat = j by omega, h2, h1]
  cases takeS l p (j / 4 - 1) with
  | error e => rfl
  | ok x => simp only [Int.natCast_add]; rfl
set_option maxHeartbeats 1000000 in
theorem unLength (j : Nat) (hj : j ≤ 100) (h : Un w gu gr l limit fl fd p out o) :
    Calls Tryd.prog 61 #[.pointer (some ⟨gu, 0, none⟩), .int .i64 ((j + 257 : Nat) : Int)] w (Got w gu gr l limit fl fd out o (lenS l p ((j + 257 : Nat) : Int))) := by
  have hjj : ((j + 257 : Nat) : Int) - 257 = (j : Int) := by omega
  by_cases h28 : 28 < j
  · have hd : decide (((j + 257 : Nat) : Int) > 285) = true := by simp; omega
    have hs : lenS l p ((j + 257 : Nat) : Int) = .error 6 := by unfold lenS; rw [if_pos (by omega)]
    rw [hs]
    clear hs h
    go_enter Tryd.func61, Tryd.ntmps61
    go_wp2_with fail
    go_ret2
    exact ⟨only_refl _ _, .inr ⟨6, 0, rfl, by decide, rfl⟩⟩
  · by_cases he : j = 28
    · subst he
      have hs : lenS l p ((28 + 257 : Nat) : Int) = .ok (258, p) := rfl
      rw [hs]
      have HU := Lib.hid h
      clear hs h hjj
      go_enter Tryd.func61, Tryd.ntmps61
      go_wp2_with fail
      go_ret2
      exact ⟨only_refl _ _, .inl ⟨258, p, rfl, rfl, HU.out⟩⟩
    · have hd : decide (((j + 257 : Nat) : Int) > 285) = false := by simp; omega
      have hd2 : (((j + 257 : Nat) : Int) == 285) = false := by simp; omega
      have hcall := spread2_is j (by omega) h
      have hs := lenS_mid (l := l) (p := p) (show j ≤ 27 by omega)
      obtain ⟨hq1, hq2⟩ := spreadL j (by omega)
      obtain ⟨hb1, hb2⟩ := lenL_bd j (by omega)
      obtain ⟨K, hK⟩ : ∃ K, (if j < 4 then j else (4 + j % 4) * 2 ^ (j / 4 - 1)) = K := ⟨_, rfl⟩
      rw [hK] at hcall hs hq1
      rw [hq2] at hb2
      have hK3 : K ≤ 300 := by omega
      have HS := Lib.hid hs
      clear hs h hK hq1 hq2 hb1
      go_enter Tryd.func61, Tryd.ntmps61
      go_wp2_with fail
      refine hcall.mono ?_
      rintro e w2 ⟨ho, ⟨v, p', hv, rfl, hr⟩ | ⟨er, y, hv, hne, rfl⟩⟩
      · obtain ⟨hv1, _, _⟩ := takeS_val hv
        have hb := tk_bd l p (j / 4 - 1)
        rw [← hv1] at hb
        have hpw := pow_mono2 hb2
        rw [show (2 : Int) ^ 5 = 32 by decide] at hpw
        have hs := HS.out
        rw [hv] at hs
        have HX := Lib.hid (And.intro hs (And.intro hr ho))
        have hb0 : 0 ≤ v ∧ v < 32 := by omega
        have HV : Hid ((K : Int) + v + 3 = 3 + (K : Int) + v) := Lib.hid (by omega)
        clear hcall hv hs HS hr ho hv1 hb hpw hb2
        go_wp2_with fail
        go_ret2
        exact ⟨HX.out.2.2, .inl ⟨_, p', HX.out.1, by rw [← HV.out]; rfl, HX.out.2.1⟩⟩
      · have hs := HS.out
        rw [hv] at hs
        have HX := Lib.hid (And.intro hs (And.intro hne ho))
        clear hcall hv hne ho hs HS
        go_wp2_with fail
        go_ret2
        exact ⟨HX.out.2.2, .inr ⟨er, _, HX.out.1, HX.out.2.1, rfl⟩⟩
theorem disS_is {ns : List Nat} {l : List Int} {p j p1 : Nat} (h : nxS ns l p = .ok ((j : Int), p1)) (hj : j ≤ 29) : disS ns l p = match takeS l p1 (j / 2 - 1) with
    | .error e => .error e
    | .ok (v, p2) => .ok (1 + ((if j < 2 then j else (2 + j % 2) * 2 ^ (j / 2 - 1) : Nat) : Int) + v, p2) := by
  obtain ⟨h1, h2⟩ := spreadD j hj
  unfold disS
  rw [h]
  simp only [bind, Except.bind]
  rw [if_neg (by omega), show ((j : Int)).toNat = j by omega, h2, h1]
  cases takeS l p1 (j / 2 - 1) with
  | error e => rfl
  | ok x => simp only [Int.natCast_add]; rfl
set_option maxHeartbeats 1000000 in
theorem unDistance {F : Nat → Prop} {g : Nat} {ns : List Nat} (hF : Aside w gu gr out o F) (hc : PC w F g ns) (hn : ns.length ≤ 300) (h : Un w gu gr l limit fl fd p out o) :
    Calls Tryd.prog 62 #[.pointer (some ⟨gu, 0, none⟩), .pointer (some ⟨g, 0, none⟩)] w (Got w gu gr l limit fl fd out o (disS ns l p)) := by
  have hp := h.rdr.choose_spec.choose_spec.2.2.2.2.1
  have c0 : w.cell? ⟨gu, 0, none⟩ = some (.pointer (some ⟨gr, 0, none⟩)) := blk_cell h.blk 0
  have hcall := unNext hF hc h
  go_enter Tryd.func62, Tryd.ntmps62
  go_wp2_with fail
  refine hcall.mono ?_
  rintro e w2 ⟨ho, ⟨v, p', hv, rfl, hr⟩ | ⟨er, y, hv, hne, rfl⟩⟩
  · obtain ⟨⟨j, hj, rfl⟩, _, hp'⟩ := nxS_ok hp hv
    by_cases h29 : 29 < j
    · have hd : decide ((j : Int) > 29) = true := by simp; omega
      have hs : disS ns l p = .error 6 := by unfold disS; rw [hv]; simp only [bind, Except.bind]; rw [if_pos (by omega)]
      have HX := Lib.hid (And.intro hs ho)
      clear hcall hv hs ho hr h hc hF c0
      go_wp2_with fail
      go_ret2
      exact ⟨HX.out.2, .inr ⟨6, 0, HX.out.1, by decide, rfl⟩⟩
    · have hd : decide ((j : Int) > 29) = false := by simp; omega
      have hcall2 := spread1_is j (by omega) hr
      have hs := disS_is hv (show j ≤ 29 by omega)
      obtain ⟨hq1, hq2⟩ := spreadD j (by omega)
      obtain ⟨hb1, hb2⟩ := lenD_bd j (by omega)
      obtain ⟨K, hK⟩ : ∃ K, (if j < 2 then j else (2 + j % 2) * 2 ^ (j / 2 - 1)) = K := ⟨_, rfl⟩
      rw [hK] at hcall2 hs hq1
      rw [hq2] at hb2
      have hK3 : K ≤ 32768 := by omega
      have HS := Lib.hid (And.intro hs ho)
      clear hs h hK hq1 hq2 hb1 hcall hv hr hc hF c0 ho
      go_wp2_with fail
      refine hcall2.mono ?_
      rintro e w3 ⟨ho, ⟨v, p3, hv, rfl, hr⟩ | ⟨er, y, hv, hne, rfl⟩⟩
      · obtain ⟨hv1, _, _⟩ := takeS_val hv
        have hb := tk_bd l p' (j / 2 - 1)
        rw [← hv1] at hb
        have hpw := pow_mono2 hb2
        rw [show (2 : Int) ^ 13 = 8192 by decide] at hpw
        have hs := HS.out.1
        rw [hv] at hs
        have HX := Lib.hid (And.intro hs (And.intro hr (only_trans HS.out.2 ho)))
        have hb0 : 0 ≤ v ∧ v < 8192 := by omega
        have HV : Hid ((K : Int) + v + 1 = 1 + (K : Int) + v) := Lib.hid (by omega)
        clear hcall2 hv hs HS hr ho hv1 hb hpw hb2
        go_wp2_with fail
        go_ret2
        exact ⟨HX.out.2.2, .inl ⟨_, p3, HX.out.1, by rw [← HV.out]; rfl, HX.out.2.1⟩⟩
      · have hs := HS.out.1
        rw [hv] at hs
        have HX := Lib.hid (And.intro hs (And.intro hne (only_trans HS.out.2 ho)))
        clear hcall2 hv hne ho hs HS
        go_wp2_with fail
        go_ret2
        exact ⟨HX.out.2.2, .inr ⟨er, _, HX.out.1, HX.out.2.1, rfl⟩⟩
  · have hs : disS ns l p = .error er := by unfold disS; rw [hv]; rfl
    have HX := Lib.hid (And.intro hs (And.intro hne ho))
    have hd : (er != 0) = true := by simp [hne]
    clear hcall hv hne ho hs h hc hF c0
    go_wp2_with fail
    go_ret2
    exact ⟨HX.out.2.2, .inr ⟨er, 0, HX.out.1, HX.out.2.1, rfl⟩⟩
end
end Go.Proofs.YtdcpibglbanchaaDoor
