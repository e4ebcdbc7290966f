/- All of what bytes unpack to: contract of All. Condition: the order of the lengths lies where the program's own text lays it. -/
import Derived.Test.YtpnnfekfoomgaaaDoorIe
set_option linter.unusedVariables false
set_option maxRecDepth 100000
namespace Go.Proofs.YtpnnfekfoomgaaaDoor
open Go.RowKit

theorem symS_le {nl nd : List Nat} {l : List Int} {limit p p' : Nat} {out : List Int} {r : Option (List Int)} (hp : p ≤ 8 * l.length) (h : symS nl nd l limit p out = .ok (p', r)) : p < p' ∧ p' ≤ 8 * l.length := by
  cases hx : nxS nl l p with
  | error e => rw [symS_bad hx] at h; cases h
  | ok x =>
    obtain ⟨v, p1⟩ := x
    obtain ⟨⟨s, hs, rfl⟩, h1, h2⟩ := nxS_ok hp hx
    by_cases h256 : s = 256
    · subst h256; rw [symS_end hx] at h; injection h with h; injection h with h _; omega
    · by_cases hlt : s < 256
      · rw [symS_lit hx (by omega)] at h
        split at h
        · cases h
        · injection h with h; injection h with h _; omega
      · obtain ⟨j, rfl⟩ : ∃ j, s = j + 257 := ⟨s - 257, by omega⟩
        rw [symS_cop hx (by omega)] at h
        cases hc : copS nd l limit p1 out ((j + 257 : Nat) : Int) with
        | error e => rw [hc] at h; cases h
        | ok y =>
          obtain ⟨q, oo⟩ := y
          obtain ⟨h3, h4⟩ := copS_val h2 hc
          rw [hc] at h
          injection h with h; injection h with h _
          omega
theorem symsS_le {nl nd : List Nat} {l : List Int} {limit : Nat} : ∀ (f p : Nat) (out : List Int) {p' : Nat} {o : List Int}, p ≤ 8 * l.length → symsS nl nd l limit f p out = .ok (p', o) → p < p' ∧ p' ≤ 8 * l.length
  | 0, p, out, p', o, hp, h => by cases h
  | f + 1, p, out, p', o, hp, h => by
    rw [symsS] at h
    cases hs : symS nl nd l limit p out with
    | error e => rw [hs] at h; cases h
    | ok x =>
      obtain ⟨q, r⟩ := x
      obtain ⟨h1, h2⟩ := symS_le hp hs
      rw [hs] at h
      cases r with
      | none => injection h with h; injection h with h _; omega
      | some oo =>
        have := symsS_le f q oo h2 h
        omega
theorem lensS_le {ns : List Nat} {l : List Int} {n : Nat} (hns : ns.length ≤ 19) : ∀ (f p : Nat) (row : List Int) {p' : Nat} {r : List Int}, p ≤ 8 * l.length → (∀ x ∈ row, 0 ≤ x ∧ x ≤ 18) → lensS ns l n f p row = .ok (p', r) → p ≤ p' ∧ p' ≤ 8 * l.length
  | 0, p, row, p', r, hp, hr, h => by cases h
  | f + 1, p, row, p', r, hp, hr, h => by
    rw [lensS] at h
    split at h
    · rw [lenStep_is] at h
      cases hx : nxS ns l p with
      | error e => rw [hx] at h; cases h
      | ok x =>
        obtain ⟨v, p1⟩ := x
        obtain ⟨⟨s, hs, rfl⟩, h1, h2⟩ := nxS_ok hp hx
        rw [hx] at h
        simp only at h
        cases ht : repT l p1 row (s : Int) with
        | error e => rw [ht] at h; cases h
        | ok y =>
          obtain ⟨v, t, p2⟩ := y
          obtain ⟨_, hv, h3, h4⟩ := repT_val (by omega) hr ht
          rw [ht] at h
          simp only at h
          by_cases hl : (n : Int) - row.length < t
          · rw [if_pos hl] at h; cases h
          · rw [if_neg hl] at h
            simp only at h
            have := lensS_le hns f p2 _ h4 (fun x hx => by
              rcases List.mem_append.1 hx with hx | hx
              · exact hr x hx
              · rw [List.eq_of_mem_replicate hx]; exact hv) h
            omega
    · injection h with h; injection h with h _; omega
theorem toldS_le {l : List Int} {p p' : Nat} {nl nd : List Nat} (hp : p ≤ 8 * l.length) (h : toldS l p = .ok (p', nl, nd)) : p ≤ p' ∧ p' ≤ 8 * l.length := by
  cases ht : takesS l p [5, 5, 4] with
  | error e => rw [toldS_bad ht] at h; cases h
  | ok x =>
    obtain ⟨vs, q⟩ := x
    obtain ⟨_, _, hpl⟩ := takesS_three ht
    obtain ⟨A, hA⟩ := Int.eq_ofNat_of_zero_le (tk_bd l p 5).1
    obtain ⟨C, hC⟩ := Int.eq_ofNat_of_zero_le (tk_bd l (p + 5) 5).1
    obtain ⟨D, hD⟩ := Int.eq_ofNat_of_zero_le (tk_bd l (p + 5 + 5) 4).1
    rw [toldS_is ht hA hC hD] at h
    unfold toldC at h
    split at h
    · cases h
    · cases hl : lcS l (p + 5 + 5 + 4) (D + 4) with
      | error e => rw [hl] at h; cases h
      | ok y =>
        obtain ⟨ns, p4⟩ := y
        have hlen := lcS_len hl
        have hp4 : p4 = p + 5 + 5 + 4 + 3 * (D + 4) ∧ p4 ≤ 8 * l.length := by
          unfold lcS at hl
          split at hl
          · split at hl
            · injection hl with hl; injection hl with _ hl; omega
            · cases hl
          · cases hl
        rw [hl] at h
        simp only at h
        cases hr : lensS ns l (A + 257 + (C + 1)) (A + 257 + (C + 1) + 1) p4 [] with
        | error e => rw [hr] at h; cases h
        | ok z =>
          obtain ⟨p5, row⟩ := z
          have h5 := lensS_le (by omega) _ p4 [] hp4.2 (fun x hx => by cases hx) hr
          rw [hr] at h
          simp only at h
          split at h
          · cases h
          · cases h1 : codeS (row.take (A + 257)) false with
            | error e => rw [h1] at h; cases h
            | ok n1 =>
              rw [h1] at h
              simp only at h
              cases h2 : codeS (row.drop (A + 257)) true with
              | error e => rw [h2] at h; cases h
              | ok n2 => rw [h2] at h; injection h with h; injection h with h _; omega
theorem blockS_le {l : List Int} {limit p p' : Nat} {out o : List Int} {last : Bool} (hp : p ≤ 8 * l.length) (h : blockS l limit p out = .ok (last, p', o)) : p < p' := by
  cases ht : takesS l p [1, 2] with
  | error e => rw [blockS_bad ht] at h; cases h
  | ok x =>
    obtain ⟨vs, q⟩ := x
    obtain ⟨_, _, hpl, _, _⟩ := takesS_two ht
    rw [blockS_ok ht] at h
    unfold blockC at h
    by_cases k0 : tk l (p + 1) 2 = 0
    · rw [if_pos k0] at h
      cases hs : storedS l limit ((p + 1 + 2 + 7) / 8) out with
      | error e => rw [hs] at h; cases h
      | ok y =>
        obtain ⟨p3, oo⟩ := y
        rw [hs] at h
        injection h with h; injection h with _ h; injection h with h _
        cases ht2 : takesS l (8 * ((p + 1 + 2 + 7) / 8)) [16, 16] with
        | error e => rw [storedS_bad ht2] at hs; cases hs
        | ok z =>
          obtain ⟨vs2, q2⟩ := z
          rw [storedS_ok ht2] at hs
          split at hs
          · cases hs
          · split at hs
            · cases hs
            · split at hs
              · cases hs
              · injection hs with hs; injection hs with hs _; omega
    · rw [if_neg k0] at h
      by_cases k1 : tk l (p + 1) 2 = 1
      · rw [if_pos k1] at h
        cases hs : symsS (nsOf fixL) (nsOf fixD) l limit (8 * l.length + 1 - (p + 1 + 2)) (p + 1 + 2) out with
        | error e => rw [hs] at h; cases h
        | ok y =>
          obtain ⟨p3, oo⟩ := y
          rw [hs] at h
          injection h with h; injection h with _ h; injection h with h _
          have := symsS_le _ _ _ (by omega) hs
          omega
      · rw [if_neg k1] at h
        by_cases k2 : tk l (p + 1) 2 = 2
        · rw [if_pos k2] at h
          cases hs : toldB l limit (p + 1 + 2) out with
          | error e => rw [hs] at h; cases h
          | ok y =>
            obtain ⟨p3, oo⟩ := y
            rw [hs] at h
            injection h with h; injection h with _ h; injection h with h _
            unfold toldB at hs
            cases htt : toldS l (p + 1 + 2) with
            | error e => rw [htt] at hs; cases hs
            | ok z =>
              obtain ⟨q3, nl, nd⟩ := z
              obtain ⟨h3, h4⟩ := toldS_le (by omega) htt
              rw [htt] at hs
              simp only at hs
              have := symsS_le _ _ _ h4 hs
              omega
        · rw [if_neg k2] at h; cases h
theorem bitAtQ {w : World} {g : Nat} {l : List Int} {p : Nat} (h : Rdr 81 w g l p) :
    Calls Tryd.prog 21 #[.pointer (some ⟨g, 0, none⟩)] w fun e w' => e = .returned (.int .i64 p) ∧ w' = w := by
  obtain ⟨a, c, hh, _, _, _, _⟩ := h
  have h2 : w.cell? ⟨g, 1, none⟩ = some (.int .i64 p) := blk_cell hh 1
  clear hh
  go_enter Tryd.func21, Tryd.ntmps21
  go_wp2
  go_ret
  exact ⟨rfl, rfl⟩
/-- what All answers -/
def Alls (w : World) (s : Except Int (List Int × Nat)) (e : Ending) (w' : World) : Prop :=
  Below w.heap.size w w' ∧ ((∃ out used a c, s = .ok (out, used) ∧ e = .returned (.tuple #[.slice a out.length c, .int .i64 (used : Nat), .int .i64 0]) ∧ Bytes out ∧ out.length ≤ 32768 ∧ w'.ownsRow w.heap.size 5 1 (.slice a out.length c) out.length (out.map (Value.int .u8))) ∨ (∃ er, s = .error er ∧ er ≠ 0 ∧ e = .returned (.tuple #[.slice none 0 0, .int .i64 0, .int .i64 er])))
theorem all_below {w w2 w' : World} {gu gr : Nat} {out : List Int} {o : Option Addr × Nat} (hb : Below w.heap.size w w2) (hs : Stp gu gr w2 [] (none, 0) w' out o) (h1 : w.heap.size ≤ gr) (h2 : w.heap.size ≤ gu) : Below w.heap.size w w' :=
  ⟨hs.foot.os.trans hb.os, hs.foot.tape.trans hb.tape, hs.foot.output.trans hb.output, Nat.le_trans hb.size hs.foot.size, fun i hi => (hs.foot.block i (Nat.lt_of_lt_of_le hi hb.size) (fun q => by
    rcases q with q | q | q
    · omega
    · omega
    · cases q)).trans (hb.block i hi)⟩
set_option maxHeartbeats 8000000 in
theorem all_is {w : World} (a : Option Addr) (n c : Nat) (l : List Int) (hn : l.length = n) (hm : n ≤ 140737488355328) (hb : Bs w w.heap.size a l) (limit : Int) (hl : -9223372036854775808 ≤ limit ∧ limit ≤ 9223372036854775807) (hord : Ord w) :
    Calls Tryd.prog 12 #[.slice a n c, .int .i64 limit] w (Alls w (inflS l limit)) := by
  by_cases hbad : limit < 0 ∨ 32768 < limit
  · have hs : inflS l limit = .error 1 := if_pos hbad
    rw [hs]
    clear hs hb hord
    by_cases h0 : limit < 0
    · have hd : decide (limit < 0) = true := by simp [h0]
      go_enter Tryd.func12, Tryd.ntmps12
      go_wp2_with fail
      go_ret3
      exact ⟨Below.refl _ _, .inr ⟨1, rfl, by decide, rfl⟩⟩
    · have hd : decide (limit < 0) = false := by simp; omega
      have hd2 : decide (limit > 32768) = true := by simp; omega
      go_enter Tryd.func12, Tryd.ntmps12
      go_wp2_with fail
      go_ret3
      exact ⟨Below.refl _ _, .inr ⟨1, rfl, by decide, rfl⟩⟩
  · have hd : decide (limit < 0) = false := by simp; omega
    have hd2 : decide (limit > 32768) = false := by simp; omega
    obtain ⟨lm, rfl⟩ := Int.eq_ofNat_of_zero_le (show 0 ≤ limit by omega)
    have hs : inflS l (lm : Int) = blocksS l lm (8 * l.length + 1) 0 [] := by unfold inflS; rw [if_neg hbad]; rfl
    obtain ⟨R0, hR0⟩ : ∃ R0, R0 = blocksS l lm (8 * l.length + 1) 0 [] := ⟨_, rfl⟩
    rw [← hR0] at hs
    have hnew := bitNew a n c l hn hm w hb
    have hlB : Bytes l := hb.1
    have HS := Lib.hid (And.intro hs (And.intro hord hlB))
    have HR0 := Lib.hid hR0
    clear hs hb hord hl hlB hR0
    go_enter Tryd.func12, Tryd.ntmps12
    go_wp2_with fail
    refine hnew.mono ?_
    rintro e w1 ⟨gr, ar, cr, rfl, hgr, hblk, hown, hlt, hbel⟩
    have hrd := rdr_of_row (p := 0) hblk hown HS.out.2.2 (by omega) hlt (by omega)
    have hgr1 := blk_lt hblk
    have hb2 := (Below.refl w1.heap.size w1).alloc (Nat.le_refl _) (.cells #[.pointer (some ⟨gr, 0, none⟩), .slice none 0 0, .int .i64 (lm : Int), .pointer none, .pointer none] 47)
    have hnw := heap_alloc_new w1 (.cells #[.pointer (some ⟨gr, 0, none⟩), .slice none 0 0, .int .i64 (lm : Int), .pointer none, .pointer none] 47)
    have hord1 : 0 < w.heap.size := by obtain ⟨fr, h⟩ := HS.out.2.1; exact blk_lt h
    have hord2 : Ord (w1.alloc (.cells #[.pointer (some ⟨gr, 0, none⟩), .slice none 0 0, .int .i64 (lm : Int), .pointer none, .pointer none] 47)) := by
      obtain ⟨fr, h⟩ := HS.out.2.1
      exact ⟨fr, (hb2.block 0 (by have := hbel.size; omega)).trans ((hbel.block 0 hord1).trans h)⟩
    have hU : Un (w1.alloc (.cells #[.pointer (some ⟨gr, 0, none⟩), .slice none 0 0, .int .i64 (lm : Int), .pointer none, .pointer none] 47)) w1.heap.size gr l lm none none 0 [] (none, 0) := by
      obtain ⟨a, c, z1, z2, z3, z4, z5, z6⟩ := hrd
      exact ⟨hnw, ⟨a, c, (hb2.block gr hgr1).trans z1, z2, z3, z4.keep fun q hq => cell_keep' (hb2.block _ (by omega)), z5, z6⟩, World.ownsRow_nil _ _ _ _, Bytes.nil, hgr1, Nat.zero_le _, by omega⟩
    have hbw : Below w.heap.size w (w1.alloc (.cells #[.pointer (some ⟨gr, 0, none⟩), .slice none 0 0, .int .i64 (lm : Int), .pointer none, .pointer none] 47)) := below_next hbel (Nat.le_refl _) hb2
    have HU := Lib.hid (And.intro hU (And.intro hbw hord2))
    have hw1 := hbel.size
    clear hrd hblk hown hlt hbel hb2 hnw hU hbw hord2 hnew
    go_wp2_with fail
    generalize (w1.alloc (.cells #[.pointer (some ⟨gr, 0, none⟩), .slice none 0 0, .int .i64 (lm : Int), .pointer none, .pointer none] 47)) = w2 at *
    obtain ⟨gu, hgu⟩ : ∃ gu, w1.heap.size = gu := ⟨_, rfl⟩
    rw [hgu] at HU hgr1 hw1 ⊢
    clear hgu
    have hgr0 : gr ≠ 0 := by omega
    go_loopg [8] (8 * l.length + 1) (fun K lv wr => ∃ (last : Bool) (p f : Nat) (out : List Int) (o : Option Addr × Nat) (fl fd : Option Addr) (F : Nat → Prop), lv = .bool last ∧ 8 * l.length + 1 ≤ p + f ∧ 8 * l.length + 1 ≤ p + K ∧ Hid (R0 = (if last then .ok (out, (p + 7) / 8) else blocksS l lm f p out) ∧ Un wr gu gr l lm fl fd p out o ∧ Stp gu gr w2 [] (none, 0) wr out o ∧ Aside wr gu gr out o F ∧ Fxd wr F fl fd))
    case atStart => exact ⟨false, 0, 8 * l.length + 1, [], (none, 0), none, none, fun _ => False, rfl, by omega, by omega, Lib.hid ⟨HR0.out, HU.out.1, Stp.refl _ _ _ _ _, fun b hb => hb.elim, .inl ⟨rfl, rfl⟩⟩⟩
    case round =>
      obtain ⟨last, p, f, out, o, fl, fd, F, rfl, hf, hK, H⟩ := hrel
      obtain ⟨e1, hU, hS, hA, hX⟩ := H.out
      have hp := hU.rdr.choose_spec.choose_spec.2.2.2.2.1
      cases last with
      | true =>
        rw [if_pos rfl] at e1
        have hat := fun d => bitAtQ (w := wr.drewN d) hU.rdr
        have c1 : wr.cell? ⟨gu, 1, none⟩ = some (outV out o) := blk_cell hU.blk 1
        have c0 : wr.cell? ⟨gu, 0, none⟩ = some (.pointer (some ⟨gr, 0, none⟩)) := blk_cell hU.blk 0
        have hl8 : l.length ≤ 140737488355328 := by omega
        have hq1 : ((p : Int) + 7) / 8 = (((p + 7) / 8 : Nat) : Int) := by omega
        have hbe := all_below HU.out.2.1 hS hgr (by omega)
        have HE := Lib.hid (And.intro e1 (And.intro hU (And.intro hbe hS)))
        clear e1 hU hS hA hX H
        obtain ⟨ao, co⟩ := o
        go_wp2_with fail
        go_quiet ((go_at_call 21; exact Calls.quiet_of_same (hat _)))
        go_wp2_with fail
        go_ret3
        obtain ⟨e1, hU, hbe, hS⟩ := HE.out
        refine ⟨low_drewN hbe nq, .inl ⟨out, (p + 7) / 8, ao, co, by rw [HS.out.1]; exact e1, ret3' rfl (by rw [← hq1]; rfl) rfl, hU.bytes, Nat.le_trans hU.small hU.lim, ?_⟩⟩
        exact own_base hU.row (by omega)
      | false =>
        rw [if_neg (by decide)] at e1
        obtain ⟨f, rfl⟩ : ∃ f', f = f' + 1 := ⟨f - 1, by omega⟩
        rw [blocksS] at e1
        have hordr : Ord wr := by
          obtain ⟨fr, h⟩ := HU.out.2.2
          exact ⟨fr, (hS.foot.block 0 (blk_lt h) (fun q => by
            rcases q with q | q | q
            · omega
            · omega
            · cases q)).trans h⟩
        have hcall := unBlock hordr hgr0 hA hX hU
        have HE := Lib.hid (And.intro e1 hS)
        clear e1 hU hS hA hX hordr H
        go_wp2_with fail
        refine hcall.mono ?_
        rintro e w3 ⟨out', o', hst, ⟨last, p', fl', fd', F', hbs, rfl, hU', hA', hX'⟩ | ⟨er, b, hbs, hne, rfl⟩⟩
        · have hpp := blockS_le hp hbs
          have hs := HE.out.1
          rw [hbs] at hs
          have HR := Lib.hid (And.intro hs (And.intro hU' (And.intro (HE.out.2.trans hst) (And.intro hA' hX'))))
          clear hs hbs hU' hst hA' hX' HE hcall
          go_wp2_with fail
          go_roundg (8 * l.length + 1 - p')
          case measure => omega
          case rel =>
            refine ⟨last, p', f, out', o', fl', fd', F', rfl, by omega, by omega, Lib.hid ⟨?_, HR.out.2⟩⟩
            rw [HR.out.1]
            cases last <;> rfl
        · have hs := HE.out.1
          rw [hbs] at hs
          have hd5 : (er != 0) = true := by simp [hne]
          have HR := Lib.hid (And.intro hs (And.intro hne (HE.out.2.trans hst)))
          clear hs hbs hne hst HE hcall
          go_wp2_with fail
          go_ret3
          refine ⟨?_, .inr ⟨er, by rw [HS.out.1]; exact HR.out.1, HR.out.2.1, rfl⟩⟩
          exact all_below HU.out.2.1 HR.out.2.2 hgr (by omega)
end Go.Proofs.YtpnnfekfoomgaaaDoor
