/- A block whose bytes stand as they are: contract of stored. No condition but what the words say. -/
import Derived.Test.YtpnnfekfoomgaaaDoorUf
set_option linter.unusedVariables false
set_option maxRecDepth 100000
namespace Go.Proofs.YtpnnfekfoomgaaaDoor
open Go.RowKit

theorem lit_ints' (w : World) (t : TypeId) (l : List Int) (h : ∀ n ∈ l, (Lit.int .i64 n).wf = true) : Ints .i64 (w.alloc (.cells (l.map (Value.int .i64)).toArray t)) (w.alloc (.cells (l.map (Value.int .i64)).toArray t)).heap.size (some ⟨w.heap.size, 0, none⟩) l :=
  ⟨h, fun hn => ⟨w.heap.size, 0, rfl, by simp, fun i hi => by
    rw [blk_cell (heap_alloc_new w _), Nat.zero_add, List.getElem?_toArray, List.getElem?_map, List.getD_eq_getElem?_getD, List.getElem?_eq_getElem hi]; rfl⟩⟩
theorem not16 (A : Nat) (h : A < 65536) : bits .xor .u16 (if IntKind.u16.signed = true then -1 else IntKind.u16.max) (A : Int) = ((65535 - A : Nat) : Int) := by
  show IntKind.u16.wrap ((BitVec.ofInt 16 65535 ^^^ BitVec.ofInt 16 (A : Int)).toNat : Int) = _
  rw [show BitVec.ofInt 16 65535 = BitVec.allOnes 16 by decide, BitVec.allOnes_xor, BitVec.toNat_not, BitVec.ofInt_natCast, BitVec.toNat_ofNat, Nat.mod_eq_of_lt (by omega), IntWalk.u16_in _ (by omega)]
theorem storedS_bad {l : List Int} {limit q : Nat} {out : List Int} {er : Int} (h : takesS l (8 * q) [16, 16] = .error er) : storedS l limit q out = .error er := by
  unfold storedS
  unfold takesS takesS takesS at h
  cases h1 : takeS l (8 * q) 16 with
  | error e => rw [h1] at h; simp only at h; injection h with h; subst h; rfl
  | ok x =>
    obtain ⟨v, p1⟩ := x
    rw [h1] at h
    simp only at h
    simp only [bind, Except.bind]
    cases h2 : takeS l p1 16 with
    | error e => rw [h2] at h; simp only at h; injection h with h; subst h; rfl
    | ok y => obtain ⟨v2, p2⟩ := y; rw [h2] at h; simp only at h; cases h
theorem takesS_two {l : List Int} {q n0 n1 : Nat} {vs : List Int} {p' : Nat} (h : takesS l q [n0, n1] = .ok (vs, p')) : vs = [tk l q n0, tk l (q + n0) n1] ∧ p' = q + n0 + n1 ∧ q + n0 + n1 ≤ 8 * l.length ∧ takeS l q n0 = .ok (tk l q n0, q + n0) ∧ takeS l (q + n0) n1 = .ok (tk l (q + n0) n1, q + n0 + n1) := by
  unfold takesS takesS takesS at h
  cases h1 : takeS l q n0 with
  | error e => rw [h1] at h; cases h
  | ok x =>
    obtain ⟨v, p1⟩ := x
    obtain ⟨rfl, rfl, _⟩ := takeS_val h1
    rw [h1] at h
    simp only at h
    cases h2 : takeS l (q + n0) n1 with
    | error e => rw [h2] at h; cases h
    | ok y =>
      obtain ⟨v2, p2⟩ := y
      obtain ⟨rfl, rfl, h3⟩ := takeS_val h2
      rw [h2] at h
      simp only at h
      injection h with h
      injection h with h4 h5
      exact ⟨h4.symm, h5.symm, h3, rfl, rfl⟩
theorem storedS_ok {l : List Int} {limit q : Nat} {out : List Int} {vs : List Int} {p' : Nat} (h : takesS l (8 * q) [16, 16] = .ok (vs, p')) : storedS l limit q out = if tk l (8 * q) 16 + tk l (8 * q + 16) 16 ≠ 65535 then .error 4
    else if (limit : Int) - out.length < tk l (8 * q) 16 then .error 8
    else if l.length < q + 4 + (tk l (8 * q) 16).toNat then .error 2
    else .ok (8 * (q + 4 + (tk l (8 * q) 16).toNat), out ++ cutOf l (q + 4) (q + 4 + (tk l (8 * q) 16).toNat)) := by
  obtain ⟨_, _, _, h1, h2⟩ := takesS_two h
  unfold storedS
  rw [h1]
  simp only [bind, Except.bind]
  rw [h2]
section
variable {w : World} {gu gr : Nat} {l : List Int} {limit : Nat} {fl fd : Option Addr} {p : Nat} {out : List Int} {o : Option Addr × Nat}
set_option maxHeartbeats 4000000 in
theorem unStored (h : Un w gu gr l limit fl fd p out o) :
    Calls Tryd.prog 35 #[.pointer (some ⟨gu, 0, none⟩)] w (Lays w gu gr l limit fl fd out o (storedS l limit ((p + 7) / 8) out)) := by
  have c0 : w.cell? ⟨gu, 0, none⟩ = some (.pointer (some ⟨gr, 0, none⟩)) := blk_cell h.blk 0
  have hal := bitAlign h.rdr
  have HU := Lib.hid h
  clear h
  unfold upT at hal
  generalize (p + 7) / 8 = q at *
  go_enter Tryd.func35, Tryd.ntmps35
  go_wp2_with fail
  refine hal.mono ?_
  rintro e w1 ⟨rfl, hr1, ho1⟩
  have hU1 := HU.out.only hr1 ho1
  have hS1 : Stp gu gr w out o w1 out o := stp_only ho1
  have hb1 := (Below.refl w1.heap.size w1).alloc (Nat.le_refl _) (.cells #[.int .i64 16, .int .i64 16] 3)
  have hU2 := hU1.below hb1
  have hS2 := hS1.trans (stp_below (gu := gu) (gr := gr) (out := out) (o := o) hb1)
  have hints := lit_ints' w1 3 [16, 16] (by decide)
  have hgr : gr < w1.heap.size := by have := blk_lt hU1.blk; have := hU1.under; omega
  have htake := unTake (ws := [16, 16]) (a := some ⟨w1.heap.size, 0, none⟩) (n := 2) (c := 2) hU2 rfl (by decide) (by decide) hints (by intro b off e; injection e with e; injection e with e; omega)
  have HS := Lib.hid hS2
  clear hal HU hr1 ho1 hU1 hS1 hb1 hU2 hS2 hints c0
  go_wp2_with fail
  refine htake.mono ?_
  rintro e w2 ⟨ho2, ⟨vs, p2, hv, hvl, rfl, hblk, hU⟩ | ⟨er, hv, hne, rfl⟩⟩
  · have hs := storedS_ok (limit := limit) (out := out) hv
    obtain ⟨hvs, hp2, hpl, _, _⟩ := takesS_two hv
    subst hvs hp2
    have hb0 := tk_bd l (8 * q) 16
    have hb1 := tk_bd l (8 * q + 16) 16
    rw [show (2 : Int) ^ 16 = 65536 by decide] at hb0 hb1
    have hsz : (w1.alloc (.cells #[.int .i64 16, .int .i64 16] 3)).heap.size = w1.heap.size + 1 := by simp
    have hblk' : w2.heap[w1.heap.size + 1]? = some (.cells (arrN 2 fun i => [tk l (8 * q) 16, tk l (8 * q + 16) 16].getD i 0) 3 (0, 0)) := by rw [hsz] at hblk; exact hblk
    have k0 : w2.cell? ⟨w1.heap.size + 1, 0, none⟩ = some (.int .i64 (tk l (8 * q) 16)) := by rw [blk_cell hblk', arrN_get _ _ (by decide)]; rfl
    have k1 : w2.cell? ⟨w1.heap.size + 1, 1, none⟩ = some (.int .i64 (tk l (8 * q + 16) 16)) := by rw [blk_cell hblk', arrN_get _ _ (by decide)]; rfl
    obtain ⟨A, hA⟩ := Int.eq_ofNat_of_zero_le hb0.1
    obtain ⟨C, hC⟩ := Int.eq_ofNat_of_zero_le hb1.1
    rw [hA] at k0 hs hb0
    rw [hC] at k1 hs hb1
    have HR := Lib.hid (And.intro hs (And.intro hU (HS.out.trans (stp_only ho2))))
    have hx16 := not16 A (by omega)
    have hA16 : IntKind.u16.wrap (A : Int) = A := IntWalk.u16_in _ (by omega)
    have hC16 : IntKind.u16.wrap (C : Int) = C := IntWalk.u16_in _ (by omega)
    clear htake HS hs hv hvl hblk hblk' hU ho2 hA hC
    go_wp2_with fail
    go_quiet (fail)
    by_cases hop : A + C = 65535
    · have ht : ((C : Int) != ((65535 - A : Nat) : Int)) = false := by simp; omega
      have hs1 := HR.out.1
      rw [if_neg (by omega), Int.toNat_natCast] at hs1
      have hU3 := HR.out.2.1.below (low_drewN (Below.refl _ _) nq)
      have hS3 := HR.out.2.2.trans (stp_below (gu := gu) (gr := gr) (out := out) (o := o) (low_drewN (Below.refl w2.heap.size w2) nq))
      have hroom := unRoom hU3
      have H3 := Lib.hid (And.intro hU3 hS3)
      have HS1 := Lib.hid hs1
      clear HR hU3 hS3 hs1 k0 k1
      generalize w2.drewN nq = w3 at *
      go_wp2_with fail
      refine hroom.mono ?_
      rintro e w4 ⟨rfl, m4, rfl⟩
      have hU4 := H3.out.1.below (low_drewN (Below.refl _ _) m4)
      have hS4 := H3.out.2.trans (stp_below (gu := gu) (gr := gr) (out := out) (o := o) (low_drewN (Below.refl w3.heap.size w3) m4))
      by_cases hlong : (limit : Int) - out.length < A
      · have hd : decide ((A : Int) > (limit : Int) - out.length) = true := by simp; omega
        have hs : storedS l limit q out = .error 8 := by rw [HS1.out, if_pos hlong]
        have HS := Lib.hid (And.intro hs hS4)
        clear hs HS1 H3 hU4 hS4 hroom
        go_wp2_with fail
        go_ret
        exact ⟨out, o, HS.out.2, .inr ⟨8, HS.out.1, by decide, rfl⟩⟩
      · have hd : decide ((A : Int) > (limit : Int) - out.length) = false := by simp; omega
        have hby := bitBytes (A : Int) (by omega) hU4.rdr
        have hs := HS1.out
        rw [if_neg hlong] at hs
        have hl := hU4.bytes
        have hlim := hU4.lim
        have hsm := hU4.small
        have hlb : Bytes l := hU4.rdr.choose_spec.choose_spec.2.2.2.1.1
        obtain ⟨er, m, pp, her, hm, hpp, hB, hmA, hmb⟩ : ∃ er m pp, errB l (8 * q + 16 + 16) A = er ∧ bytesB l (8 * q + 16 + 16) A = m ∧ posB l (8 * q + 16 + 16) A = pp ∧ ((er = 2 ∧ storedS l limit q out = .error 2) ∨ (er = 0 ∧ storedS l limit q out = .ok (pp, out ++ m))) ∧ m.length ≤ A ∧ Bytes m := by
          have e8 : (8 * q + 16 + 16 + 7) / 8 = q + 4 := by omega
          by_cases hsh : l.length < q + 4 + A
          · obtain ⟨h1, h2, h3⟩ := b_short (l := l) (p := 8 * q + 16 + 16) (n := (A : Int)) (by omega) (by omega)
            rw [if_pos hsh] at hs
            exact ⟨_, _, _, h1, h2, h3, .inl ⟨rfl, hs⟩, Nat.zero_le _, Bytes.nil⟩
          · obtain ⟨h1, h2, h3⟩ := b_ok (l := l) (p := 8 * q + 16 + 16) (m := A) (by omega)
            rw [if_neg hsh] at hs
            rw [e8] at h2 h3
            exact ⟨_, _, _, h1, h2, h3, .inr ⟨rfl, hs⟩, by rw [cutOf_len (by omega)]; omega, cutOf_bytes hlb _ _⟩
        rw [her, hm, hpp] at hby
        have c0 : (w3.drewN m4).cell? ⟨gu, 0, none⟩ = some (.pointer (some ⟨gr, 0, none⟩)) := blk_cell hU4.blk 0
        have HB := Lib.hid (And.intro hB (And.intro hmb (And.intro hU4 hS4)))
        have hml : out.length + m.length ≤ limit := by omega
        clear her hm hpp hs HS1 H3 hU4 hS4 hroom hB hmb hl hlb hmA
        generalize w3.drewN m4 = w5 at *
        go_wp2_with fail
        refine hby.mono ?_
        rintro e w6 ⟨⟨a, c, rfl, hlc, hn0, hbs, ho6⟩, hr6⟩
        have hU6 := HB.out.2.2.1.only hr6 ho6
        have hS6 := HB.out.2.2.2.trans (stp_only ho6)
        have c1 : w6.cell? ⟨gu, 1, none⟩ = some (outV out o) := blk_cell hU6.blk 1
        have hA0 : a = none → m.length = 0 ∧ c = 0 := fun h => by have := hn0 h; omega
        have HZ := Lib.hid (And.intro hU6 (And.intro hS6 (And.intro hbs hA0)))
        have hgu := blk_lt hU6.blk
        clear hby hU6 hS6 hbs ho6 hr6 hA0 hn0 c0
        obtain ⟨ao, co⟩ := o
        go_wp2_with (at_builtin; refine wpList_app2 rfl _ _ rfl (gu + 1) (.slice ao out.length co) out.length out rfl HZ.out.1.row _ a m.length c m rfl rfl HZ.out.2.2.1 HZ.out.2.2.2 (by omega) (by omega) ?_; intro v2 w7 hown2 hg2 hl2; obtain ⟨a2, c2, rfl⟩ := own_shape hown2; have hf2 : w7.frozen? ⟨gu, 1, none⟩ = false := blk_free ((hg2.block gu (by omega) (fun e => by have := (HZ.out.1.row.lt gu e.symm).1; omega)).trans HZ.out.1.blk) 1; have hcu2 : w7.cell? ⟨gu, 1, none⟩ = some (.slice ao out.length co) := blk_cell ((hg2.block gu (by omega) (fun e => by have := (HZ.out.1.row.lt gu e.symm).1; omega)).trans HZ.out.1.blk) 1)
        have hfin := unAppend (m := m) (o' := (a2, c2)) HZ.out.1 (Below.refl _ _) HB.out.2.1 (by rw [List.length_append]; omega) hg2 (by simpa [outV] using hown2) (by simpa [outV] using hl2)
        have HF := Lib.hid (And.intro hfin.1 (HZ.out.2.1.trans hfin.2))
        have HBB := Lib.hid HB.out.1
        clear hfin hown2 hg2 hl2 c1 HZ HB
        go_wp2_with fail
        go_ret
        refine ⟨out ++ m, (a2, c2), by simpa [outV] using HF.out.2, ?_⟩
        rcases HBB.out with ⟨rfl, hs⟩ | ⟨rfl, hs⟩
        · exact .inr ⟨2, hs, by decide, rfl⟩
        · exact .inl ⟨pp, hs, rfl, by simpa [outV] using HF.out.1⟩
    · have ht : ((C : Int) != ((65535 - A : Nat) : Int)) = true := by simp; omega
      have hs : storedS l limit q out = .error 4 := by rw [HR.out.1, if_pos (by omega)]
      have HS := Lib.hid (And.intro hs (HR.out.2.2.trans (stp_below (low_drewN (Below.refl _ _) nq))))
      clear hs HR
      go_wp2_with fail
      go_ret
      exact ⟨out, o, HS.out.2, .inr ⟨4, HS.out.1, by decide, rfl⟩⟩
  · have hs := storedS_bad (limit := limit) (out := out) hv
    have HR := Lib.hid (And.intro hs (And.intro hne (HS.out.trans (stp_only ho2))))
    have hd : (er != 0) = true := by simp [hne]
    clear htake HS hs hv hne ho2
    go_wp2_with fail
    go_ret
    exact ⟨out, o, HR.out.2.2, .inr ⟨er, HR.out.1, HR.out.2.1, rfl⟩⟩
end
end Go.Proofs.YtpnnfekfoomgaaaDoor
