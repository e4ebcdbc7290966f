/- What lengths and distances are: contracts of length and distance, and of a code's Next in the words of nxS. No condition but what the words say. -/
import Derived.Test.YtpnnfekfoomgaaaDoorUc
set_option linter.unusedVariables false
set_option maxRecDepth 100000
namespace Go.Proofs.YtpnnfekfoomgaaaDoor
open Go.RowKit

theorem spreadL : ∀ j, j ≤ 27 → leastL j = 3 + (if j < 4 then j else (4 + j % 4) * 2 ^ (j / 4 - 1)) ∧ moreL j = j / 4 - 1 := by decide
theorem spreadD : ∀ j, j ≤ 29 → leastD j = 1 + (if j < 2 then j else (2 + j % 2) * 2 ^ (j / 2 - 1)) ∧ moreD j = j / 2 - 1 := by decide
theorem nxS_ok {ns : List Nat} {l : List Int} {p : Nat} {v : Int} {p' : Nat} (hp : p ≤ 8 * l.length) (h : nxS ns l p = .ok (v, p')) : (∃ s : Nat, s < ns.length ∧ v = s) ∧ p < p' ∧ p' ≤ 8 * l.length := by
  unfold nxS at h
  split at h
  · rename_i h0
    injection h with h
    injection h with h1 h2
    obtain ⟨_, b2, _, b4⟩ := nxR_bd ns l p (plong ns 15) 0 (by omega)
    obtain ⟨b5, s, b6, b7, _⟩ := b4 h0
    subst h1 h2
    exact ⟨⟨s, b6, b7⟩, b5, b2⟩
  · cases h
theorem nxS_bad {ns : List Nat} {l : List Int} {p : Nat} {er : Int} (h : nxS ns l p = .error er) : er ≠ 0 := by
  unfold nxS at h
  split at h
  · cases h
  · rename_i h0
    injection h with h
    rw [← h]; exact h0
section
variable {w : World} {gu gr : Nat} {l : List Int} {limit : Nat} {fl fd : Option Addr} {p : Nat} {out : List Int} {o : Option Addr × Nat}
/-- what a call of the reader alone answers: a number, or an error -/
def Got (w : World) (gu gr : Nat) (l : List Int) (limit : Nat) (fl fd : Option Addr) (out : List Int) (o : Option Addr × Nat) (s : Except Int (Int × Nat)) (e : Ending) (w' : World) : Prop :=
  Only gr w w' ∧ ((∃ v p', s = .ok (v, p') ∧ e = .returned (.tuple #[.int .i64 v, .int .i64 0]) ∧ Un w' gu gr l limit fl fd p' out o) ∨ (∃ er y, s = .error er ∧ er ≠ 0 ∧ e = .returned (.tuple #[.int .i64 y, .int .i64 er])))
theorem unNext {F : Nat → Prop} {g : Nat} {ns : List Nat} (hF : Aside w gu gr out o F) (hc : PC w F g ns) (h : Un w gu gr l limit fl fd p out o) :
    Calls Tryd.prog 57 #[.pointer (some ⟨g, 0, none⟩), .pointer (some ⟨gr, 0, none⟩)] w (Got w gu gr l limit fl fd out o (nxS ns l p)) := by
  refine (next_is (fun b hb => ⟨(hF b hb).1, fun e => (hF b hb).2 (.inr (.inl e))⟩) hc h.rdr).mono ?_
  rintro e w' ⟨rfl, hr, ho⟩
  refine ⟨ho, ?_⟩
  by_cases h0 : (nxt ns l p).2.1 = 0
  · exact .inl ⟨(nxt ns l p).1, (nxt ns l p).2.2, if_pos h0, by rw [h0], h.only hr ho⟩
  · exact .inr ⟨(nxt ns l p).2.1, (nxt ns l p).1, if_neg h0, h0, rfl⟩
theorem lenS_mid {l : List Int} {p j : Nat} (hj : j ≤ 27) : lenS l p ((j + 257 : Nat) : Int) = match takeS l p (j / 4 - 1) with
    | .error e => .error e
    | .ok (v, p1) => .ok (3 + ((if j < 4 then j else (4 + j % 4) * 2 ^ (j / 4 - 1) : Nat) : Int) + v, p1) := by
  obtain ⟨h1, h2⟩ := spreadL j hj
  unfold lenS
  rw [if_neg (by omega), if_neg (by omega), show (((j + 257 : Nat) : Int) - 257).toNat = j by omega, h2, h1]
  cases takeS l p (j / 4 - 1) with
  | error e => rfl
  | ok x => simp only [Int.natCast_add]; rfl
set_option maxHeartbeats 1000000 in
theorem unLength (j : Nat) (hj : j ≤ 100) (h : Un w gu gr l limit fl fd p out o) :
    Calls Tryd.prog 72 #[.pointer (some ⟨gu, 0, none⟩), .int .i64 ((j + 257 : Nat) : Int)] w (Got w gu gr l limit fl fd out o (lenS l p ((j + 257 : Nat) : Int))) := by
  have hjj : ((j + 257 : Nat) : Int) - 257 = (j : Int) := by omega
  by_cases h28 : 28 < j
  · have hd : decide (((j + 257 : Nat) : Int) > 285) = true := by simp; omega
    have hs : lenS l p ((j + 257 : Nat) : Int) = .error 6 := by unfold lenS; rw [if_pos (by omega)]
    rw [hs]
    clear hs h
    go_enter Tryd.func72, Tryd.ntmps72
    go_wp2_with fail
    go_ret2
    exact ⟨only_refl _ _, .inr ⟨6, 0, rfl, by decide, rfl⟩⟩
  · by_cases he : j = 28
    · subst he
      have hs : lenS l p ((28 + 257 : Nat) : Int) = .ok (258, p) := rfl
      rw [hs]
      have HU := Lib.hid h
      clear hs h hjj
      go_enter Tryd.func72, Tryd.ntmps72
      go_wp2_with fail
      go_ret2
      exact ⟨only_refl _ _, .inl ⟨258, p, rfl, rfl, HU.out⟩⟩
    · have hd : decide (((j + 257 : Nat) : Int) > 285) = false := by simp; omega
      have hd2 : (((j + 257 : Nat) : Int) == 285) = false := by simp; omega
      have hcall := spread2_is j (by omega) h
      have hs := lenS_mid (l := l) (p := p) (show j ≤ 27 by omega)
      obtain ⟨hq1, hq2⟩ := spreadL j (by omega)
      obtain ⟨hb1, hb2⟩ := lenL_bd j (by omega)
      obtain ⟨K, hK⟩ : ∃ K, (if j < 4 then j else (4 + j % 4) * 2 ^ (j / 4 - 1)) = K := ⟨_, rfl⟩
      rw [hK] at hcall hs hq1
      rw [hq2] at hb2
      have hK3 : K ≤ 300 := by omega
      have HS := Lib.hid hs
      clear hs h hK hq1 hq2 hb1
      go_enter Tryd.func72, Tryd.ntmps72
      go_wp2_with fail
      refine hcall.mono ?_
      rintro e w2 ⟨ho, ⟨v, p', hv, rfl, hr⟩ | ⟨er, y, hv, hne, rfl⟩⟩
      · obtain ⟨hv1, _, _⟩ := takeS_val hv
        have hb := tk_bd l p (j / 4 - 1)
        rw [← hv1] at hb
        have hpw := pow_mono2 hb2
        rw [show (2 : Int) ^ 5 = 32 by decide] at hpw
        have hs := HS.out
        rw [hv] at hs
        have HX := Lib.hid (And.intro hs (And.intro hr ho))
        have hb0 : 0 ≤ v ∧ v < 32 := by omega
        have HV : Hid ((K : Int) + v + 3 = 3 + (K : Int) + v) := Lib.hid (by omega)
        clear hcall hv hs HS hr ho hv1 hb hpw hb2
        go_wp2_with fail
        go_ret2
        exact ⟨HX.out.2.2, .inl ⟨_, p', HX.out.1, by rw [← HV.out]; rfl, HX.out.2.1⟩⟩
      · have hs := HS.out
        rw [hv] at hs
        have HX := Lib.hid (And.intro hs (And.intro hne ho))
        clear hcall hv hne ho hs HS
        go_wp2_with fail
        go_ret2
        exact ⟨HX.out.2.2, .inr ⟨er, _, HX.out.1, HX.out.2.1, rfl⟩⟩
theorem disS_is {ns : List Nat} {l : List Int} {p j p1 : Nat} (h : nxS ns l p = .ok ((j : Int), p1)) (hj : j ≤ 29) : disS ns l p = match takeS l p1 (j / 2 - 1) with
    | .error e => .error e
    | .ok (v, p2) => .ok (1 + ((if j < 2 then j else (2 + j % 2) * 2 ^ (j / 2 - 1) : Nat) : Int) + v, p2) := by
  obtain ⟨h1, h2⟩ := spreadD j hj
  unfold disS
  rw [h]
  simp only [bind, Except.bind]
  rw [if_neg (by omega), show ((j : Int)).toNat = j by omega, h2, h1]
  cases takeS l p1 (j / 2 - 1) with
  | error e => rfl
  | ok x => simp only [Int.natCast_add]; rfl
set_option maxHeartbeats 1000000 in
theorem unDistance {F : Nat → Prop} {g : Nat} {ns : List Nat} (hF : Aside w gu gr out o F) (hc : PC w F g ns) (hn : ns.length ≤ 300) (h : Un w gu gr l limit fl fd p out o) :
    Calls Tryd.prog 73 #[.pointer (some ⟨gu, 0, none⟩), .pointer (some ⟨g, 0, none⟩)] w (Got w gu gr l limit fl fd out o (disS ns l p)) := by
  have hp := h.rdr.choose_spec.choose_spec.2.2.2.2.1
  have c0 : w.cell? ⟨gu, 0, none⟩ = some (.pointer (some ⟨gr, 0, none⟩)) := blk_cell h.blk 0
  have hcall := unNext hF hc h
  go_enter Tryd.func73, Tryd.ntmps73
  go_wp2_with fail
  refine hcall.mono ?_
  rintro e w2 ⟨ho, ⟨v, p', hv, rfl, hr⟩ | ⟨er, y, hv, hne, rfl⟩⟩
  · obtain ⟨⟨j, hj, rfl⟩, _, hp'⟩ := nxS_ok hp hv
    by_cases h29 : 29 < j
    · have hd : decide ((j : Int) > 29) = true := by simp; omega
      have hs : disS ns l p = .error 6 := by unfold disS; rw [hv]; simp only [bind, Except.bind]; rw [if_pos (by omega)]
      have HX := Lib.hid (And.intro hs ho)
      clear hcall hv hs ho hr h hc hF c0
      go_wp2_with fail
      go_ret2
      exact ⟨HX.out.2, .inr ⟨6, 0, HX.out.1, by decide, rfl⟩⟩
    · have hd : decide ((j : Int) > 29) = false := by simp; omega
      have hcall2 := spread1_is j (by omega) hr
      have hs := disS_is hv (show j ≤ 29 by omega)
      obtain ⟨hq1, hq2⟩ := spreadD j (by omega)
      obtain ⟨hb1, hb2⟩ := lenD_bd j (by omega)
      obtain ⟨K, hK⟩ : ∃ K, (if j < 2 then j else (2 + j % 2) * 2 ^ (j / 2 - 1)) = K := ⟨_, rfl⟩
      rw [hK] at hcall2 hs hq1
      rw [hq2] at hb2
      have hK3 : K ≤ 32768 := by omega
      have HS := Lib.hid (And.intro hs ho)
      clear hs h hK hq1 hq2 hb1 hcall hv hr hc hF c0 ho
      go_wp2_with fail
      refine hcall2.mono ?_
      rintro e w3 ⟨ho, ⟨v, p3, hv, rfl, hr⟩ | ⟨er, y, hv, hne, rfl⟩⟩
      · obtain ⟨hv1, _, _⟩ := takeS_val hv
        have hb := tk_bd l p' (j / 2 - 1)
        rw [← hv1] at hb
        have hpw := pow_mono2 hb2
        rw [show (2 : Int) ^ 13 = 8192 by decide] at hpw
        have hs := HS.out.1
        rw [hv] at hs
        have HX := Lib.hid (And.intro hs (And.intro hr (only_trans HS.out.2 ho)))
        have hb0 : 0 ≤ v ∧ v < 8192 := by omega
        have HV : Hid ((K : Int) + v + 1 = 1 + (K : Int) + v) := Lib.hid (by omega)
        clear hcall2 hv hs HS hr ho hv1 hb hpw hb2
        go_wp2_with fail
        go_ret2
        exact ⟨HX.out.2.2, .inl ⟨_, p3, HX.out.1, by rw [← HV.out]; rfl, HX.out.2.1⟩⟩
      · have hs := HS.out.1
        rw [hv] at hs
        have HX := Lib.hid (And.intro hs (And.intro hne (only_trans HS.out.2 ho)))
        clear hcall2 hv hne ho hs HS
        go_wp2_with fail
        go_ret2
        exact ⟨HX.out.2.2, .inr ⟨er, _, HX.out.1, HX.out.2.1, rfl⟩⟩
  · have hs : disS ns l p = .error er := by unfold disS; rw [hv]; rfl
    have HX := Lib.hid (And.intro hs (And.intro hne ho))
    have hd : (er != 0) = true := by simp [hne]
    clear hcall hv hne ho hs h hc hF c0
    go_wp2_with fail
    go_ret2
    exact ⟨HX.out.2.2, .inr ⟨er, 0, HX.out.1, HX.out.2.1, rfl⟩⟩
end
end Go.Proofs.YtpnnfekfoomgaaaDoor
