/- All of what bytes unpack to: contract of All. Condition: the order of the lengths lies where the program's own text lays it. With a greater limit the answer is the same, unless the lesser one was passed: pure lemmas on symsS, storedS, toldB, blockS, blocksS. No condition; no program is named. Helpers of walks: literals of bytes, what All answers. No condition. -/
import Derived.Test.YtdcpibglbanchaaDoorIe
import Derived.Test.YtdcpibglbanchaaDoorSame
import Derived.Laws.BytesArg
set_option linter.unusedVariables false
set_option maxRecDepth 100000
namespace Go.Proofs.YtdcpibglbanchaaDoor
open Go.RowKit

theorem symS_le {nl nd : List Nat} {l : List Int} {limit p p' : Nat} {out : List Int} {r : Option (List Int)} (hp : p ≤ 8 * l.length) (h : symS nl nd l limit p out = .ok (p', r)) : p < p' ∧ p' ≤ 8 * l.length := by
  cases hx : nxS nl l p with
  | error e => rw [symS_bad hx] at h; cases h
  | ok x =>
    obtain ⟨v, p1⟩ := x
    obtain ⟨⟨s, hs, rfl⟩, h1, h2⟩ := nxS_ok hp hx
    by_cases h256 : s = 256
    · subst h256; rw [symS_end hx] at h; injection h with h; injection h with h _; omega
    · by_cases hlt : s < 256
      · rw [symS_lit hx (by omega)] at h
        split at h
        · cases h
        · injection h with h; injection h with h _; omega
      · obtain ⟨j, rfl⟩ : ∃ j, s = j + 257 := ⟨s - 257, by omega⟩
        rw [symS_cop hx (by omega)] at h
        cases hc : copS nd l limit p1 out ((j + 257 : Nat) : Int) with
        | error e => rw [hc] at h; cases h
        | ok y =>
          obtain ⟨q, oo⟩ := y
          obtain ⟨h3, h4⟩ := copS_val h2 hc
          rw [hc] at h
          injection h with h; injection h with h _
          omega
theorem symsS_le {nl nd : List Nat} {l : List Int} {limit : Nat} : ∀ (f p : Nat) (out : List Int) {p' : Nat} {o : List Int}, p ≤ 8 * l.length → symsS nl nd l limit f p out = .ok (p', o) → p < p' ∧ p' ≤ 8 * l.length
  | 0, p, out, p', o, hp, h => by cases h
  | f + 1, p, out, p', o, hp, h => by
    rw [symsS] at h
    cases hs : symS nl nd l limit p out with
    | error e => rw [hs] at h; cases h
    | ok x =>
      obtain ⟨q, r⟩ := x
      obtain ⟨h1, h2⟩ := symS_le hp hs
      rw [hs] at h
      cases r with
      | none => injection h with h; injection h with h _; omega
      | some oo =>
        have := symsS_le f q oo h2 h
        omega
theorem lensS_le {ns : List Nat} {l : List Int} {n : Nat} (hns : ns.length ≤ 19) : ∀ (f p : Nat) (row : List Int) {p' : Nat} {r : List Int}, p ≤ 8 * l.length → (∀ x ∈ row, 0 ≤ x ∧ x ≤ 18) → lensS ns l n f p row = .ok (p', r) → p ≤ p' ∧ p' ≤ 8 * l.length
  | 0, p, row, p', r, hp, hr, h => by cases h
  | f + 1, p, row, p', r, hp, hr, h => by
    rw [lensS] at h
    split at h
    · rw [lenStep_is] at h
      cases hx : nxS ns l p with
      | error e => rw [hx] at h; cases h
      | ok x =>
        obtain ⟨v, p1⟩ := x
        obtain ⟨⟨s, hs, rfl⟩, h1, h2⟩ := nxS_ok hp hx
        rw [hx] at h
        simp only at h
        cases ht : repT l p1 row (s : Int) with
        | error e => rw [ht] at h; cases h
        | ok y =>
          obtain ⟨v, t, p2⟩ := y
          obtain ⟨_, hv, h3, h4⟩ := repT_val (by omega) hr ht
          rw [ht] at h
          simp only at h
          by_cases hl : (n : Int) - row.length < t
          · rw [if_pos hl] at h; cases h
          · rw [if_neg hl] at h
            simp only at h
            have := lensS_le hns f p2 _ h4 (fun x hx => by
              rcases List.mem_append.1 hx with hx | hx
              · exact hr x hx
              · rw [List.eq_of_mem_replicate hx]; exact hv) h
            omega
    · injection h with h; injection h with h _; omega
theorem toldS_le {l : List Int} {p p' : Nat} {nl nd : List Nat} (hp : p ≤ 8 * l.length) (h : toldS l p = .ok (p', nl, nd)) : p ≤ p' ∧ p' ≤ 8 * l.length := by
  cases ht : takesS l p [5, 5, 4] with
  | error e => rw [toldS_bad ht] at h; cases h
  | ok x =>
    obtain ⟨vs, q⟩ := x
    obtain ⟨_, _, hpl⟩ := takesS_three ht
    obtain ⟨A, hA⟩ := Int.eq_ofNat_of_zero_le (tk_bd l p 5).1
    obtain ⟨C, hC⟩ := Int.eq_ofNat_of_zero_le (tk_bd l (p + 5) 5).1
    obtain ⟨D, hD⟩ := Int.eq_ofNat_of_zero_le (tk_bd l (p + 5 + 5) 4).1
    rw [toldS_is ht hA hC hD] at h
    unfold toldC at h
    split at h
    · cases h
    · cases hl : lcS l (p + 5 + 5 + 4) (D + 4) with
      | error e => rw [hl] at h; cases h
      | ok y =>
        obtain ⟨ns, p4⟩ := y
        have hlen := lcS_len hl
        have hp4 : p4 = p + 5 + 5 + 4 + 3 * (D + 4) ∧ p4 ≤ 8 * l.length := by
          unfold lcS at hl
          split at hl
          · split at hl
            · injection hl with hl; injection hl with _ hl; omega
            · cases hl
          · cases hl
        rw [hl] at h
        simp only at h
        cases hr : lensS ns l (A + 257 + (C + 1)) (A + 257 + (C + 1) + 1) p4 [] with
        | error e => rw [hr] at h; cases h
        | ok z =>
          obtain ⟨p5, row⟩ := z
          have h5 := lensS_le (by omega) _ p4 [] hp4.2 (fun x hx => by cases hx) hr
          rw [hr] at h
          simp only at h
          split at h
          · cases h
          · cases h1 : codeS (row.take (A + 257)) false with
            | error e => rw [h1] at h; cases h
            | ok n1 =>
              rw [h1] at h
              simp only at h
              cases h2 : codeS (row.drop (A + 257)) true with
              | error e => rw [h2] at h; cases h
              | ok n2 => rw [h2] at h; injection h with h; injection h with h _; omega
theorem blockS_le {l : List Int} {limit p p' : Nat} {out o : List Int} {last : Bool} (hp : p ≤ 8 * l.length) (h : blockS l limit p out = .ok (last, p', o)) : p < p' := by
  cases ht : takesS l p [1, 2] with
  | error e => rw [blockS_bad ht] at h; cases h
  | ok x =>
    obtain ⟨vs, q⟩ := x
    obtain ⟨_, _, hpl, _, _⟩ := takesS_two ht
    rw [blockS_ok ht] at h
    unfold blockC at h
    by_cases k0 : tk l (p + 1) 2 = 0
    · rw [if_pos k0] at h
      cases hs : storedS l limit ((p + 1 + 2 + 7) / 8) out with
      | error e => rw [hs] at h; cases h
      | ok y =>
        obtain ⟨p3, oo⟩ := y
        rw [hs] at h
        injection h with h; injection h with _ h; injection h with h _
        cases ht2 : takesS l (8 * ((p + 1 + 2 + 7) / 8)) [16, 16] with
        | error e => rw [storedS_bad ht2] at hs; cases hs
        | ok z =>
          obtain ⟨vs2, q2⟩ := z
          rw [storedS_ok ht2] at hs
          split at hs
          · cases hs
          · split at hs
            · cases hs
            · split at hs
              · cases hs
              · injection hs with hs; injection hs with hs _; omega
    · rw [if_neg k0] at h
      by_cases k1 : tk l (p + 1) 2 = 1
      · rw [if_pos k1] at h
        cases hs : symsS (nsOf fixL) (nsOf fixD) l limit (8 * l.length + 1 - (p + 1 + 2)) (p + 1 + 2) out with
        | error e => rw [hs] at h; cases h
        | ok y =>
          obtain ⟨p3, oo⟩ := y
          rw [hs] at h
          injection h with h; injection h with _ h; injection h with h _
          have := symsS_le _ _ _ (by omega) hs
          omega
      · rw [if_neg k1] at h
        by_cases k2 : tk l (p + 1) 2 = 2
        · rw [if_pos k2] at h
          cases hs : toldB l limit (p + 1 + 2) out with
          | error e => rw [hs] at h; cases h
          | ok y =>
            obtain ⟨p3, oo⟩ := y
            rw [hs] at h
            injection h with h; injection h with _ h; injection h with h _
            unfold toldB at hs
            cases htt : toldS l (p + 1 + 2) with
            | error e => rw [htt] at hs; cases hs
            | ok z =>
              obtain ⟨q3, nl, nd⟩ := z
              obtain ⟨h3, h4⟩ := toldS_le (by omega) htt
              rw [htt] at hs
              simp only at hs
              have := symsS_le _ _ _ h4 hs
              omega
        · rw [if_neg k2] at h; cases h
theorem bitAtQ {w : World} {g : Nat} {l : List Int} {p : Nat} (h : Rdr 94 w g l p) :
    Calls Tryd.prog 30 #[.pointer (some ⟨g, 0, none⟩)] w fun e w' => e = .returned (.int .i64 p) ∧ w' = w := by
  obtain ⟨a, c, hh, _, _, _, _⟩ := h
  have h2 : w.cell? ⟨g, 1, none⟩ = some (.int .i64 p) := blk_cell hh 1
  clear hh
  go_enter Tryd.func30, Tryd.ntmps30
  go_wp2
  go_ret
  exact ⟨rfl, rfl⟩
/-- what All answers -/
def Alls (w : World) (s : Except Int (List Int × Nat)) (e : Ending) (w' : World) : Prop :=
  Below w.heap.size w w' ∧ ((∃ out used a c, s = .ok (out, used) ∧ e = .returned (.tuple #[.slice a out.length c, .int .i64 (used : Nat), .int .i64 0]) ∧ Bytes out ∧ out.length ≤ 32768 ∧ w'.ownsRow w.heap.size 5 1 (.slice a out.length c) out.length (out.map (Value.int .u8))) ∨ (∃ er, s = .error er ∧ er ≠ 0 ∧ e = .returned (.tuple #[.slice none 0 0, .int .i64 0, .int .i64 er])))
theorem all_below {w w2 w' : World} {gu gr : Nat} {out : List Int} {o : Option Addr × Nat} (hb : Below w.heap.size w w2) (hs : Stp gu gr w2 [] (none, 0) w' out o) (h1 : w.heap.size ≤ gr) (h2 : w.heap.size ≤ gu) : Below w.heap.size w w' :=
  ⟨hs.foot.os.trans hb.os, hs.foot.tape.trans hb.tape, hs.foot.output.trans hb.output, Nat.le_trans hb.size hs.foot.size, fun i hi => (hs.foot.block i (Nat.lt_of_lt_of_le hi hb.size) (fun q => by
    rcases q with q | q | q
    · omega
    · omega
    · cases q)).trans (hb.block i hi)⟩
set_option maxHeartbeats 8000000 in
theorem all_is {w : World} (a : Option Addr) (n c : Nat) (l : List Int) (hn : l.length = n) (hm : n ≤ 140737488355328) (hb : Bs w w.heap.size a l) (limit : Int) (hl : -9223372036854775808 ≤ limit ∧ limit ≤ 9223372036854775807) (hord : Ord w) :
    Calls Tryd.prog 22 #[.slice a n c, .int .i64 limit] w (Alls w (inflS l limit)) := by
  by_cases hbad : limit < 0 ∨ 32768 < limit
  · have hs : inflS l limit = .error 1 := if_pos hbad
    rw [hs]
    clear hs hb hord
    by_cases h0 : limit < 0
    · have hd : decide (limit < 0) = true := by simp [h0]
      go_enter Tryd.func22, Tryd.ntmps22
      go_wp2_with fail
      go_ret3
      exact ⟨Below.refl _ _, .inr ⟨1, rfl, by decide, rfl⟩⟩
    · have hd : decide (limit < 0) = false := by simp; omega
      have hd2 : decide (limit > 32768) = true := by simp; omega
      go_enter Tryd.func22, Tryd.ntmps22
      go_wp2_with fail
      go_ret3
      exact ⟨Below.refl _ _, .inr ⟨1, rfl, by decide, rfl⟩⟩
  · have hd : decide (limit < 0) = false := by simp; omega
    have hd2 : decide (limit > 32768) = false := by simp; omega
    obtain ⟨lm, rfl⟩ := Int.eq_ofNat_of_zero_le (show 0 ≤ limit by omega)
    have hs : inflS l (lm : Int) = blocksS l lm (8 * l.length + 1) 0 [] := by unfold inflS; rw [if_neg hbad]; rfl
    obtain ⟨R0, hR0⟩ : ∃ R0, R0 = blocksS l lm (8 * l.length + 1) 0 [] := ⟨_, rfl⟩
    rw [← hR0] at hs
    have hnew := bitNew a n c l hn hm w hb
    have hlB : Bytes l := hb.1
    have HS := Lib.hid (And.intro hs (And.intro hord hlB))
    have HR0 := Lib.hid hR0
    clear hs hb hord hl hlB hR0
    go_enter Tryd.func22, Tryd.ntmps22
    go_wp2_with fail
    refine hnew.mono ?_
    rintro e w1 ⟨gr, ar, cr, rfl, hgr, hblk, hown, hlt, hbel⟩
    have hrd := rdr_of_row (p := 0) hblk hown HS.out.2.2 (by omega) hlt (by omega)
    have hgr1 := blk_lt hblk
    have hb2 := (Below.refl w1.heap.size w1).alloc (Nat.le_refl _) (.cells #[.pointer (some ⟨gr, 0, none⟩), .slice none 0 0, .int .i64 (lm : Int), .pointer none, .pointer none] 78)
    have hnw := heap_alloc_new w1 (.cells #[.pointer (some ⟨gr, 0, none⟩), .slice none 0 0, .int .i64 (lm : Int), .pointer none, .pointer none] 78)
    have hord1 : 0 < w.heap.size := by obtain ⟨fr, h⟩ := HS.out.2.1; exact blk_lt h
    have hord2 : Ord (w1.alloc (.cells #[.pointer (some ⟨gr, 0, none⟩), .slice none 0 0, .int .i64 (lm : Int), .pointer none, .pointer none] 78)) := by
      obtain ⟨fr, h⟩ := HS.out.2.1
      exact ⟨fr, (hb2.block 0 (by have := hbel.size; omega)).trans ((hbel.block 0 hord1).trans h)⟩
    have hU : Un (w1.alloc (.cells #[.pointer (some ⟨gr, 0, none⟩), .slice none 0 0, .int .i64 (lm : Int), .pointer none, .pointer none] 78)) w1.heap.size gr l lm none none 0 [] (none, 0) := by
      obtain ⟨a, c, z1, z2, z3, z4, z5, z6⟩ := hrd
      exact ⟨hnw, ⟨a, c, (hb2.block gr hgr1).trans z1, z2, z3, z4.keep fun q hq => cell_keep' (hb2.block _ (by omega)), z5, z6⟩, World.ownsRow_nil _ _ _ _, Bytes.nil, hgr1, Nat.zero_le _, by omega⟩
    have hbw : Below w.heap.size w (w1.alloc (.cells #[.pointer (some ⟨gr, 0, none⟩), .slice none 0 0, .int .i64 (lm : Int), .pointer none, .pointer none] 78)) := below_next hbel (Nat.le_refl _) hb2
    have HU := Lib.hid (And.intro hU (And.intro hbw hord2))
    have hw1 := hbel.size
    clear hrd hblk hown hlt hbel hb2 hnw hU hbw hord2 hnew
    go_wp2_with fail
    generalize (w1.alloc (.cells #[.pointer (some ⟨gr, 0, none⟩), .slice none 0 0, .int .i64 (lm : Int), .pointer none, .pointer none] 78)) = w2 at *
    obtain ⟨gu, hgu⟩ : ∃ gu, w1.heap.size = gu := ⟨_, rfl⟩
    rw [hgu] at HU hgr1 hw1 ⊢
    clear hgu
    have hgr0 : gr ≠ 0 := by omega
    go_loopg [8] (8 * l.length + 1) (fun K lv wr => ∃ (last : Bool) (p f : Nat) (out : List Int) (o : Option Addr × Nat) (fl fd : Option Addr) (F : Nat → Prop), lv = .bool last ∧ 8 * l.length + 1 ≤ p + f ∧ 8 * l.length + 1 ≤ p + K ∧ Hid (R0 = (if last then .ok (out, (p + 7) / 8) else blocksS l lm f p out) ∧ Un wr gu gr l lm fl fd p out o ∧ Stp gu gr w2 [] (none, 0) wr out o ∧ Aside wr gu gr out o F ∧ Fxd wr F fl fd))
    case atStart => exact ⟨false, 0, 8 * l.length + 1, [], (none, 0), none, none, fun _ => False, rfl, by omega, by omega, Lib.hid ⟨HR0.out, HU.out.1, Stp.refl _ _ _ _ _, fun b hb => hb.elim, .inl ⟨rfl, rfl⟩⟩⟩
    case round =>
      obtain ⟨last, p, f, out, o, fl, fd, F, rfl, hf, hK, H⟩ := hrel
      obtain ⟨e1, hU, hS, hA, hX⟩ := H.out
      have hp := hU.rdr.choose_spec.choose_spec.2.2.2.2.1
      cases last with
      | true =>
        rw [if_pos rfl] at e1
        have hat := fun d => bitAtQ (w := wr.drewN d) hU.rdr
        have c1 : wr.cell? ⟨gu, 1, none⟩ = some (outV out o) := blk_cell hU.blk 1
        have c0 : wr.cell? ⟨gu, 0, none⟩ = some (.pointer (some ⟨gr, 0, none⟩)) := blk_cell hU.blk 0
        have hl8 : l.length ≤ 140737488355328 := by omega
        have hq1 : ((p : Int) + 7) / 8 = (((p + 7) / 8 : Nat) : Int) := by omega
        have hbe := all_below HU.out.2.1 hS hgr (by omega)
        have HE := Lib.hid (And.intro e1 (And.intro hU (And.intro hbe hS)))
        clear e1 hU hS hA hX H
        obtain ⟨ao, co⟩ := o
        go_wp2_with fail
        go_quiet ((go_at_call 30; exact Calls.quiet_of_same (hat _)))
        go_wp2_with fail
        go_ret3
        obtain ⟨e1, hU, hbe, hS⟩ := HE.out
        refine ⟨low_drewN hbe nq, .inl ⟨out, (p + 7) / 8, ao, co, by rw [HS.out.1]; exact e1, ret3' rfl (by rw [← hq1]; rfl) rfl, hU.bytes, Nat.le_trans hU.small hU.lim, ?_⟩⟩
        exact own_base hU.row (by omega)
      | false =>
        rw [if_neg (by decide)] at e1
        obtain ⟨f, rfl⟩ : ∃ f', f = f' + 1 := ⟨f - 1, by omega⟩
        rw [blocksS] at e1
        have hordr : Ord wr := by
          obtain ⟨fr, h⟩ := HU.out.2.2
          exact ⟨fr, (hS.foot.block 0 (blk_lt h) (fun q => by
            rcases q with q | q | q
            · omega
            · omega
            · cases q)).trans h⟩
        have hcall := unBlock hordr hgr0 hA hX hU
        have HE := Lib.hid (And.intro e1 hS)
        clear e1 hU hS hA hX hordr H
        go_wp2_with fail
        refine hcall.mono ?_
        rintro e w3 ⟨out', o', hst, ⟨last, p', fl', fd', F', hbs, rfl, hU', hA', hX'⟩ | ⟨er, b, hbs, hne, rfl⟩⟩
        · have hpp := blockS_le hp hbs
          have hs := HE.out.1
          rw [hbs] at hs
          have HR := Lib.hid (And.intro hs (And.intro hU' (And.intro (HE.out.2.trans hst) (And.intro hA' hX'))))
          clear hs hbs hU' hst hA' hX' HE hcall
          go_wp2_with fail
          go_roundg (8 * l.length + 1 - p')
          case measure => omega
          case rel =>
            refine ⟨last, p', f, out', o', fl', fd', F', rfl, by omega, by omega, Lib.hid ⟨?_, HR.out.2⟩⟩
            rw [HR.out.1]
            cases last <;> rfl
        · have hs := HE.out.1
          rw [hbs] at hs
          have hd5 : (er != 0) = true := by simp [hne]
          have HR := Lib.hid (And.intro hs (And.intro hne (HE.out.2.trans hst)))
          clear hs hbs hne hst HE hcall
          go_wp2_with fail
          go_ret3
          refine ⟨?_, .inr ⟨er, by rw [HS.out.1]; exact HR.out.1, HR.out.2.1, rfl⟩⟩
          exact all_below HU.out.2.1 HR.out.2.2 hgr (by omega)
end Go.Proofs.YtdcpibglbanchaaDoor

set_option linter.unusedVariables false
set_option maxRecDepth 100000
namespace Go.Proofs.YtdcpibglbanchaaDoor
open Go.RowKit

theorem copS_is (nd : List Nat) (l : List Int) (limit p1 : Nat) (out : List Int) (s : Int) : copS nd l limit p1 out s = match lenS l p1 s with
    | .error e => .error e
    | .ok (n, p2) => match disS nd l p2 with
      | .error e => .error e
      | .ok (far, p3) => if (out.length : Int) < far then .error 7 else if (limit : Int) - out.length < n then .error 8 else .ok (p3, copyN out far.toNat n.toNat) := by
  unfold copS
  cases lenS l p1 s with
  | error e => rfl
  | ok x =>
    obtain ⟨n, p2⟩ := x
    simp only [bind, Except.bind]
    cases disS nd l p2 with
    | error e => rfl
    | ok y => rfl
/-- the lesser limit's answer is the greater's, or the lesser was passed -/
def Lim (s : Nat) (x y : Except Int (Nat × List Int)) : Prop := x = y ∨ (x = .error 8 ∧ ∀ p o, y = .ok (p, o) → s < o.length)
theorem copS_lim {nd : List Nat} {l : List Int} {s g p1 : Nat} (hs : s ≤ g) (out : List Int) (sym : Int) : Lim s (copS nd l s p1 out sym) (copS nd l g p1 out sym) := by
  rw [copS_is, copS_is]
  cases lenS l p1 sym with
  | error e => exact .inl rfl
  | ok x =>
    obtain ⟨n, p2⟩ := x
    simp only
    cases disS nd l p2 with
    | error e => exact .inl rfl
    | ok y =>
      obtain ⟨far, p3⟩ := y
      simp only
      by_cases h7 : (out.length : Int) < far
      · rw [if_pos h7, if_pos h7]; exact .inl rfl
      · rw [if_neg h7, if_neg h7]
        by_cases h8 : (s : Int) - out.length < n
        · rw [if_pos h8]
          refine .inr ⟨rfl, fun p o h => ?_⟩
          split at h
          · cases h
          · injection h with h
            injection h with _ h
            rw [← h, copyN_len]
            omega
        · rw [if_neg h8, if_neg (by omega)]; exact .inl rfl
theorem copS_small {nd : List Nat} {l : List Int} {s p1 p' : Nat} {out o : List Int} {sym : Int} (hout : out.length ≤ s) (h : copS nd l s p1 out sym = .ok (p', o)) : o.length ≤ s ∧ out.length ≤ o.length := by
  rw [copS_is] at h
  cases hl : lenS l p1 sym with
  | error e => rw [hl] at h; cases h
  | ok x =>
    obtain ⟨n, p2⟩ := x
    rw [hl] at h
    simp only at h
    cases hd : disS nd l p2 with
    | error e => rw [hd] at h; cases h
    | ok y =>
      obtain ⟨far, p3⟩ := y
      rw [hd] at h
      simp only at h
      split at h
      · cases h
      · split at h
        · cases h
        · injection h with h
          injection h with _ h
          rw [← h, copyN_len]
          omega
/-- the same for one symbol -/
theorem symS_lim {nl nd : List Nat} {l : List Int} {s g p : Nat} (hp : p ≤ 8 * l.length) (hs : s ≤ g) (out : List Int) : symS nl nd l s p out = symS nl nd l g p out ∨ (symS nl nd l s p out = .error 8 ∧ ∀ p' r, symS nl nd l g p out = .ok (p', r) → ∃ o, r = some o ∧ s < o.length) := by
  cases hx : nxS nl l p with
  | error e => rw [symS_bad hx, symS_bad hx]; exact .inl rfl
  | ok x =>
    obtain ⟨v, p1⟩ := x
    obtain ⟨⟨t, ht, rfl⟩, h1, h2⟩ := nxS_ok hp hx
    by_cases h256 : t = 256
    · subst h256; rw [symS_end hx, symS_end hx]; exact .inl rfl
    · by_cases hlt : t < 256
      · rw [symS_lit hx (by omega), symS_lit hx (by omega)]
        by_cases hf : s ≤ out.length
        · rw [if_pos hf]
          refine .inr ⟨rfl, fun p' r h => ?_⟩
          split at h
          · cases h
          · injection h with h
            injection h with _ h
            exact ⟨_, h.symm, by simp; omega⟩
        · rw [if_neg hf, if_neg (by omega)]; exact .inl rfl
      · rw [symS_cop hx (by omega), symS_cop hx (by omega)]
        rcases copS_lim (nd := nd) (l := l) (p1 := p1) hs out (t : Int) with h | ⟨h, h'⟩
        · rw [h]; exact .inl rfl
        · rw [h]
          refine .inr ⟨rfl, fun p' r hr => ?_⟩
          cases hc : copS nd l g p1 out (t : Int) with
          | error e => rw [hc] at hr; cases hr
          | ok y =>
            obtain ⟨q, o⟩ := y
            rw [hc] at hr
            injection hr with hr
            injection hr with _ hr
            exact ⟨o, hr.symm, h' q o hc⟩
theorem symS_small {nl nd : List Nat} {l : List Int} {s p p' : Nat} {out o : List Int} (hp : p ≤ 8 * l.length) (hout : out.length ≤ s) (h : symS nl nd l s p out = .ok (p', some o)) : o.length ≤ s ∧ out.length ≤ o.length := by
  cases hx : nxS nl l p with
  | error e => rw [symS_bad hx] at h; cases h
  | ok x =>
    obtain ⟨v, p1⟩ := x
    obtain ⟨⟨t, ht, rfl⟩, h1, h2⟩ := nxS_ok hp hx
    by_cases h256 : t = 256
    · subst h256; rw [symS_end hx] at h; cases h
    · by_cases hlt : t < 256
      · rw [symS_lit hx (by omega)] at h
        split at h
        · cases h
        · injection h with h
          injection h with _ h
          injection h with h
          rw [← h, List.length_append]
          simp
          omega
      · rw [symS_cop hx (by omega)] at h
        cases hc : copS nd l s p1 out (t : Int) with
        | error e => rw [hc] at h; cases h
        | ok y =>
          obtain ⟨q, oo⟩ := y
          rw [hc] at h
          injection h with h
          injection h with _ h
          injection h with h
          subst h
          exact copS_small hout hc
theorem symsS_small {nl nd : List Nat} {l : List Int} {s : Nat} : ∀ (f p : Nat) (out : List Int) {p' : Nat} {o : List Int}, p ≤ 8 * l.length → out.length ≤ s → symsS nl nd l s f p out = .ok (p', o) → o.length ≤ s ∧ out.length ≤ o.length
  | 0, p, out, p', o, hp, hout, h => by cases h
  | f + 1, p, out, p', o, hp, hout, h => by
    rw [symsS] at h
    cases hs : symS nl nd l s p out with
    | error e => rw [hs] at h; cases h
    | ok x =>
      obtain ⟨q, r⟩ := x
      obtain ⟨h1, h2⟩ := symS_le hp hs
      rw [hs] at h
      cases r with
      | none => injection h with h; injection h with _ h; rw [← h]; exact ⟨hout, Nat.le_refl _⟩
      | some oo =>
        obtain ⟨h3, h4⟩ := symS_small hp hout hs
        obtain ⟨h5, h6⟩ := symsS_small f q oo h2 h3 h
        exact ⟨h5, Nat.le_trans h4 h6⟩
theorem symsS_lim {nl nd : List Nat} {l : List Int} {s g : Nat} (hs : s ≤ g) : ∀ (f p : Nat) (out : List Int), p ≤ 8 * l.length → out.length ≤ s → Lim s (symsS nl nd l s f p out) (symsS nl nd l g f p out)
  | 0, p, out, hp, hout => .inl rfl
  | f + 1, p, out, hp, hout => by
    rw [symsS, symsS]
    rcases symS_lim (nl := nl) (nd := nd) hp hs out with h | ⟨h, h'⟩
    · rw [← h]
      cases hx : symS nl nd l s p out with
      | error e => exact .inl rfl
      | ok x =>
        obtain ⟨q, r⟩ := x
        obtain ⟨h1, h2⟩ := symS_le hp hx
        cases r with
        | none => exact .inl rfl
        | some oo =>
          obtain ⟨h3, h4⟩ := symS_small hp hout hx
          exact symsS_lim hs f q oo h2 h3
    · rw [h]
      refine .inr ⟨rfl, fun p' o hy => ?_⟩
      cases hx : symS nl nd l g p out with
      | error e => rw [hx] at hy; cases hy
      | ok x =>
        obtain ⟨q, r⟩ := x
        obtain ⟨o1, rfl, h5⟩ := h' q r hx
        obtain ⟨h1, h2⟩ := symS_le hp hx
        obtain ⟨h3, h4⟩ := symS_small hp (by omega) hx
        rw [hx] at hy
        obtain ⟨_, h6⟩ := symsS_small f q o1 h2 h3 hy
        omega
theorem storedS_is (l : List Int) (limit q : Nat) (out : List Int) : storedS l limit q out = match takesS l (8 * q) [16, 16] with
    | .error e => .error e
    | .ok _ => if tk l (8 * q) 16 + tk l (8 * q + 16) 16 ≠ 65535 then .error 4
      else if (limit : Int) - out.length < tk l (8 * q) 16 then .error 8
      else if l.length < q + 4 + (tk l (8 * q) 16).toNat then .error 2
      else .ok (8 * (q + 4 + (tk l (8 * q) 16).toNat), out ++ cutOf l (q + 4) (q + 4 + (tk l (8 * q) 16).toNat)) := by
  cases h : takesS l (8 * q) [16, 16] with
  | error e => exact storedS_bad h
  | ok x => obtain ⟨vs, p'⟩ := x; exact storedS_ok h
theorem storedS_small {l : List Int} {s q p' : Nat} {out o : List Int} (hout : out.length ≤ s) (h : storedS l s q out = .ok (p', o)) : o.length ≤ s ∧ out.length ≤ o.length ∧ p' ≤ 8 * l.length := by
  rw [storedS_is] at h
  have hb := tk_bd l (8 * q) 16
  split at h
  · cases h
  · split at h
    · cases h
    · split at h
      · cases h
      · split at h
        · cases h
        · injection h with h
          injection h with h1 h
          rw [← h, ← h1, List.length_append, cutOf_len (by omega)]
          omega
theorem storedS_lim {l : List Int} {s g q : Nat} (hs : s ≤ g) (out : List Int) (hout : out.length ≤ s) : Lim s (storedS l s q out) (storedS l g q out) := by
  rw [storedS_is, storedS_is]
  have hb := tk_bd l (8 * q) 16
  cases takesS l (8 * q) [16, 16] with
  | error e => exact .inl rfl
  | ok x =>
    simp only
    by_cases h4 : tk l (8 * q) 16 + tk l (8 * q + 16) 16 ≠ 65535
    · rw [if_pos h4, if_pos h4]; exact .inl rfl
    · rw [if_neg h4, if_neg h4]
      by_cases h8 : (s : Int) - out.length < tk l (8 * q) 16
      · rw [if_pos h8]
        refine .inr ⟨rfl, fun p o h => ?_⟩
        split at h
        · cases h
        · split at h
          · cases h
          · injection h with h
            injection h with h1 h
            rw [← h, List.length_append, cutOf_len (by omega)]
            omega
      · rw [if_neg h8, if_neg (show ¬ ((g : Int) - out.length < tk l (8 * q) 16) by omega)]; exact .inl rfl
theorem toldB_small {l : List Int} {s p p' : Nat} {out o : List Int} (hp : p ≤ 8 * l.length) (hout : out.length ≤ s) (h : toldB l s p out = .ok (p', o)) : o.length ≤ s ∧ out.length ≤ o.length ∧ p' ≤ 8 * l.length := by
  unfold toldB at h
  cases ht : toldS l p with
  | error e => rw [ht] at h; cases h
  | ok x =>
    obtain ⟨p3, nl, nd⟩ := x
    obtain ⟨h1, h2⟩ := toldS_le hp ht
    rw [ht] at h
    simp only at h
    obtain ⟨h3, h4⟩ := symsS_small _ _ _ h2 hout h
    exact ⟨h3, h4, (symsS_le _ _ _ h2 h).2⟩
theorem toldB_lim {l : List Int} {s g p : Nat} (hp : p ≤ 8 * l.length) (hs : s ≤ g) (out : List Int) (hout : out.length ≤ s) : Lim s (toldB l s p out) (toldB l g p out) := by
  unfold toldB
  cases ht : toldS l p with
  | error e => exact .inl rfl
  | ok x =>
    obtain ⟨p3, nl, nd⟩ := x
    exact symsS_lim hs _ _ _ (toldS_le hp ht).2 hout
/-- the part of a block behind its head -/
def kindS (l : List Int) (limit p : Nat) (out : List Int) (kind : Int) : Except Int (Nat × List Int) := if kind = 0 then storedS l limit ((p + 7) / 8) out else if kind = 1 then symsS (nsOf fixL) (nsOf fixD) l limit (8 * l.length + 1 - p) p out else if kind = 2 then toldB l limit p out else .error 3
theorem kindS_small {l : List Int} {s p p' : Nat} {out o : List Int} {kind : Int} (hp : p ≤ 8 * l.length) (hout : out.length ≤ s) (h : kindS l s p out kind = .ok (p', o)) : o.length ≤ s ∧ out.length ≤ o.length ∧ p' ≤ 8 * l.length := by
  unfold kindS at h
  split at h
  · exact storedS_small hout h
  · split at h
    · obtain ⟨h3, h4⟩ := symsS_small _ _ _ hp hout h
      exact ⟨h3, h4, (symsS_le _ _ _ hp h).2⟩
    · split at h
      · exact toldB_small hp hout h
      · cases h
theorem kindS_lim {l : List Int} {s g p : Nat} (hp : p ≤ 8 * l.length) (hs : s ≤ g) (out : List Int) (hout : out.length ≤ s) (kind : Int) : Lim s (kindS l s p out kind) (kindS l g p out kind) := by
  unfold kindS
  split
  · exact storedS_lim hs out hout
  · split
    · exact symsS_lim hs _ _ _ hp hout
    · split
      · exact toldB_lim hp hs out hout
      · exact .inl rfl
theorem blockS_is (l : List Int) (limit p : Nat) (out : List Int) : blockS l limit p out = match takesS l p [1, 2] with
    | .error e => .error e
    | .ok _ => match kindS l limit (p + 1 + 2) out (tk l (p + 1) 2) with
      | .error e => .error e
      | .ok (p3, o) => .ok (tk l p 1 == 1, p3, o) := by
  cases h : takesS l p [1, 2] with
  | error e => exact blockS_bad h
  | ok x => obtain ⟨vs, p'⟩ := x; rw [blockS_ok h]; rfl
theorem blockS_small {l : List Int} {s p p' : Nat} {out o : List Int} {b : Bool} (hout : out.length ≤ s) (h : blockS l s p out = .ok (b, p', o)) : o.length ≤ s ∧ out.length ≤ o.length ∧ p' ≤ 8 * l.length := by
  rw [blockS_is] at h
  cases ht : takesS l p [1, 2] with
  | error e => rw [ht] at h; cases h
  | ok x =>
    obtain ⟨vs, q⟩ := x
    obtain ⟨_, _, hpl, _, _⟩ := takesS_two ht
    rw [ht] at h
    simp only at h
    cases hk : kindS l s (p + 1 + 2) out (tk l (p + 1) 2) with
    | error e => rw [hk] at h; cases h
    | ok y =>
      obtain ⟨p3, oo⟩ := y
      rw [hk] at h
      injection h with h
      injection h with _ h
      injection h with h1 h2
      subst h1 h2
      exact kindS_small hpl hout hk
theorem blockS_lim {l : List Int} {s g p : Nat} (hs : s ≤ g) (out : List Int) (hout : out.length ≤ s) : blockS l s p out = blockS l g p out ∨ (blockS l s p out = .error 8 ∧ ∀ b p' o, blockS l g p out = .ok (b, p', o) → s < o.length) := by
  rw [blockS_is, blockS_is]
  cases ht : takesS l p [1, 2] with
  | error e => exact .inl rfl
  | ok x =>
    obtain ⟨vs, q⟩ := x
    obtain ⟨_, _, hpl, _, _⟩ := takesS_two ht
    simp only
    rcases kindS_lim hpl hs out hout (tk l (p + 1) 2) with h | ⟨h, h'⟩
    · rw [h]; exact .inl rfl
    · rw [h]
      refine .inr ⟨rfl, fun b p' o hy => ?_⟩
      cases hk : kindS l g (p + 1 + 2) out (tk l (p + 1) 2) with
      | error e => rw [hk] at hy; cases hy
      | ok y =>
        obtain ⟨p3, oo⟩ := y
        rw [hk] at hy
        injection hy with hy
        injection hy with _ hy
        injection hy with _ hy
        subst hy
        exact h' p3 oo hk
theorem blocksS_small {l : List Int} {s : Nat} : ∀ (f p : Nat) (out : List Int) {o : List Int} {n : Nat}, out.length ≤ s → blocksS l s f p out = .ok (o, n) → o.length ≤ s ∧ out.length ≤ o.length
  | 0, p, out, o, n, hout, h => by cases h
  | f + 1, p, out, o, n, hout, h => by
    rw [blocksS] at h
    cases hb : blockS l s p out with
    | error e => rw [hb] at h; cases h
    | ok x =>
      obtain ⟨b, q, oo⟩ := x
      obtain ⟨h1, h2, _⟩ := blockS_small hout hb
      rw [hb] at h
      cases b with
      | true => injection h with h; injection h with h _; rw [← h]; exact ⟨h1, h2⟩
      | false =>
        obtain ⟨h3, h4⟩ := blocksS_small f q oo h1 h
        exact ⟨h3, Nat.le_trans h2 h4⟩
theorem blocksS_lim {l : List Int} {s g : Nat} (hs : s ≤ g) : ∀ (f p : Nat) (out : List Int), out.length ≤ s → blocksS l s f p out = blocksS l g f p out ∨ (blocksS l s f p out = .error 8 ∧ ∀ o n, blocksS l g f p out = .ok (o, n) → s < o.length)
  | 0, p, out, hout => .inl rfl
  | f + 1, p, out, hout => by
    rw [blocksS, blocksS]
    rcases blockS_lim (l := l) (p := p) hs out hout with h | ⟨h, h'⟩
    · rw [← h]
      cases hb : blockS l s p out with
      | error e => exact .inl rfl
      | ok x =>
        obtain ⟨b, q, oo⟩ := x
        obtain ⟨h1, h2, _⟩ := blockS_small hout hb
        cases b with
        | true => exact .inl rfl
        | false => exact blocksS_lim hs f q oo h1
    · rw [h]
      refine .inr ⟨rfl, fun o n hy => ?_⟩
      cases hb : blockS l g p out with
      | error e => rw [hb] at hy; cases hy
      | ok x =>
        obtain ⟨b, q, oo⟩ := x
        have h3 := h' b q oo hb
        obtain ⟨h1, h2, _⟩ := blockS_small (s := g) (by omega) hb
        rw [hb] at hy
        cases b with
        | true => injection hy with hy; injection hy with hy _; rw [← hy]; exact h3
        | false =>
          obtain ⟨_, h4⟩ := blocksS_small f q oo h1 hy
          omega
/-- with a greater limit the answer is the same, unless the lesser one was passed -/
theorem inflS_lim (l : List Int) {s g : Nat} (hs : s ≤ g) (hg : g ≤ 32768) : inflS l s = inflS l g ∨ (inflS l s = .error 8 ∧ ∀ o n, inflS l g = .ok (o, n) → s < o.length) := by
  unfold inflS
  rw [if_neg (by omega), if_neg (by omega), Int.toNat_natCast, Int.toNat_natCast]
  exact blocksS_lim hs _ _ _ (Nat.zero_le _)
theorem inflS_small (l : List Int) {s : Nat} (hs : s ≤ 32768) {o : List Int} {n : Nat} (h : inflS l s = .ok (o, n)) : o.length ≤ s := by
  unfold inflS at h
  rw [if_neg (by omega), Int.toNat_natCast] at h
  exact (blocksS_small _ _ _ (Nat.zero_le _) h).1
end Go.Proofs.YtdcpibglbanchaaDoor

set_option linter.unusedVariables false
set_option maxRecDepth 100000
namespace Go.Proofs.YtdcpibglbanchaaDoor
open Go.RowKit

theorem bytes_of {l : List Int} (h : (l.all fun n => decide (0 ≤ n) && decide (n ≤ 255)) = true) : Bytes l := fun n hn => by
  have := List.all_eq_true.1 h n hn
  simpa using this
theorem conv_row {w : World} {base n c : Nat} {a : Option Addr} {l : List Int} (h : w.ownsRow base 5 1 (.slice a n c) n (l.map (Value.int .u8))) (hl : l.length = n) (hn : 0 < n) : (convert 22 9 (.slice a n c)).run Tryd.prog w = .ok (.string (strOfNums l)) w := by
  rcases h.2 with ⟨_, h0⟩ | ⟨g, cap, cells, e, _⟩
  · omega
  · injection e with e1 e2 e3
    subst e1
    exact run_convert_bytes_arg (P := Tryd.prog) w 22 5 Tryd.underlying22 Tryd.underlying5 g 0 n c l hl (fun i hi => by rw [Nat.zero_add]; exact own_byte h hl hi) 9 Tryd.underlying9
theorem lit_bytes' (w : World) (t : TypeId) (l : List Int) (h : Bytes l) : Bs (w.alloc (.cells (l.map (Value.int .u8)).toArray t)) (w.alloc (.cells (l.map (Value.int .u8)).toArray t)).heap.size (some ⟨w.heap.size, 0, none⟩) l :=
  ⟨h, fun hn => ⟨w.heap.size, 0, rfl, by simp, fun i hi => by
    rw [blk_cell (heap_alloc_new w _), Nat.zero_add, List.getElem?_toArray, List.getElem?_map, List.getD_eq_getElem?_getD, List.getElem?_eq_getElem hi]; rfl⟩⟩
theorem Ord.below {w w' : World} (h : Ord w) (hb : Below w.heap.size w w') : Ord w' := by
  obtain ⟨fr, h⟩ := h
  exact ⟨fr, (hb.block 0 (blk_lt h)).trans h⟩
theorem alls_ok {w w' : World} {s : Except Int (List Int × Nat)} {e : Ending} (h : Alls w s e w') {out : List Int} {used : Nat} (hs : s = .ok (out, used)) : Below w.heap.size w w' ∧ ∃ a c, e = .returned (.tuple #[.slice a out.length c, .int .i64 (used : Nat), .int .i64 0]) ∧ Bytes out ∧ out.length ≤ 32768 ∧ w'.ownsRow w.heap.size 5 1 (.slice a out.length c) out.length (out.map (Value.int .u8)) := by
  obtain ⟨hb, ⟨out', used', a, c, h1, h2, h3, h4, h5⟩ | ⟨er, h1, _, _⟩⟩ := h
  · rw [hs] at h1; injection h1 with h1; injection h1 with h6 h7; subst h6 h7; exact ⟨hb, a, c, h2, h3, h4, h5⟩
  · rw [hs] at h1; cases h1
theorem alls_bad {w w' : World} {s : Except Int (List Int × Nat)} {e : Ending} (h : Alls w s e w') {er : Int} (hs : s = .error er) : Below w.heap.size w w' ∧ er ≠ 0 ∧ e = .returned (.tuple #[.slice none 0 0, .int .i64 0, .int .i64 er]) := by
  obtain ⟨hb, ⟨out', used', a, c, h1, h2, h3, h4, h5⟩ | ⟨er', h1, h2, h3⟩⟩ := h
  · rw [hs] at h1; cases h1
  · rw [hs] at h1; injection h1 with h1; subst h1; exact ⟨hb, h2, h3⟩
theorem str_ab : strOfNums [97, 98] = ⟨#[97, 98]⟩ := by rfl
theorem str_a : strOfNums [97] = ⟨#[97]⟩ := by rfl
theorem same_trueR {a a' : Option Addr} {n c n' c' : Nat} {l : List Int} {w : World} {B B' : Nat} (hn : l.length = n) (hn' : l.length = n') (hm : l.length ≤ maxLen) (hb : Bs w B a l) (hb' : Bs w B' a' l) :
    Calls Tryd.prog 7 #[.slice a n c, .slice a' n' c'] w fun e w' => e = .returned (.bool true) ∧ ∃ d, w' = w.drewN d :=
  (refSame a a' n c n' c' l l hn hn' hm hm w B B' hb hb').mono fun e w' ⟨h1, h2⟩ => ⟨by rw [h1]; simp [eqB], h2⟩

end Go.Proofs.YtdcpibglbanchaaDoor
