/- With a greater limit the answer is the same, unless the lesser one was passed: pure lemmas on symsS, storedS, toldB, blockS, blocksS. No condition; no program is named. -/
import Derived.Test.YtpnnfekfoomgaaaDoorAl
set_option linter.unusedVariables false
set_option maxRecDepth 100000
namespace Go.Proofs.YtpnnfekfoomgaaaDoor
open Go.RowKit

theorem copS_is (nd : List Nat) (l : List Int) (limit p1 : Nat) (out : List Int) (s : Int) : copS nd l limit p1 out s = match lenS l p1 s with
    | .error e => .error e
    | .ok (n, p2) => match disS nd l p2 with
      | .error e => .error e
      | .ok (far, p3) => if (out.length : Int) < far then .error 7 else if (limit : Int) - out.length < n then .error 8 else .ok (p3, copyN out far.toNat n.toNat) := by
  unfold copS
  cases lenS l p1 s with
  | error e => rfl
  | ok x =>
    obtain ⟨n, p2⟩ := x
    simp only [bind, Except.bind]
    cases disS nd l p2 with
    | error e => rfl
    | ok y => rfl
/-- the lesser limit's answer is the greater's, or the lesser was passed -/
def Lim (s : Nat) (x y : Except Int (Nat × List Int)) : Prop := x = y ∨ (x = .error 8 ∧ ∀ p o, y = .ok (p, o) → s < o.length)
theorem copS_lim {nd : List Nat} {l : List Int} {s g p1 : Nat} (hs : s ≤ g) (out : List Int) (sym : Int) : Lim s (copS nd l s p1 out sym) (copS nd l g p1 out sym) := by
  rw [copS_is, copS_is]
  cases lenS l p1 sym with
  | error e => exact .inl rfl
  | ok x =>
    obtain ⟨n, p2⟩ := x
    simp only
    cases disS nd l p2 with
    | error e => exact .inl rfl
    | ok y =>
      obtain ⟨far, p3⟩ := y
      simp only
      by_cases h7 : (out.length : Int) < far
      · rw [if_pos h7, if_pos h7]; exact .inl rfl
      · rw [if_neg h7, if_neg h7]
        by_cases h8 : (s : Int) - out.length < n
        · rw [if_pos h8]
          refine .inr ⟨rfl, fun p o h => ?_⟩
          split at h
          · cases h
          · injection h with h
            injection h with _ h
            rw [← h, copyN_len]
            omega
        · rw [if_neg h8, if_neg (by omega)]; exact .inl rfl
theorem copS_small {nd : List Nat} {l : List Int} {s p1 p' : Nat} {out o : List Int} {sym : Int} (hout : out.length ≤ s) (h : copS nd l s p1 out sym = .ok (p', o)) : o.length ≤ s ∧ out.length ≤ o.length := by
  rw [copS_is] at h
  cases hl : lenS l p1 sym with
  | error e => rw [hl] at h; cases h
  | ok x =>
    obtain ⟨n, p2⟩ := x
    rw [hl] at h
    simp only at h
    cases hd : disS nd l p2 with
    | error e => rw [hd] at h; cases h
    | ok y =>
      obtain ⟨far, p3⟩ := y
      rw [hd] at h
      simp only at h
      split at h
      · cases h
      · split at h
        · cases h
        · injection h with h
          injection h with _ h
          rw [← h, copyN_len]
          omega
/-- the same for one symbol -/
theorem symS_lim {nl nd : List Nat} {l : List Int} {s g p : Nat} (hp : p ≤ 8 * l.length) (hs : s ≤ g) (out : List Int) : symS nl nd l s p out = symS nl nd l g p out ∨ (symS nl nd l s p out = .error 8 ∧ ∀ p' r, symS nl nd l g p out = .ok (p', r) → ∃ o, r = some o ∧ s < o.length) := by
  cases hx : nxS nl l p with
  | error e => rw [symS_bad hx, symS_bad hx]; exact .inl rfl
  | ok x =>
    obtain ⟨v, p1⟩ := x
    obtain ⟨⟨t, ht, rfl⟩, h1, h2⟩ := nxS_ok hp hx
    by_cases h256 : t = 256
    · subst h256; rw [symS_end hx, symS_end hx]; exact .inl rfl
    · by_cases hlt : t < 256
      · rw [symS_lit hx (by omega), symS_lit hx (by omega)]
        by_cases hf : s ≤ out.length
        · rw [if_pos hf]
          refine .inr ⟨rfl, fun p' r h => ?_⟩
          split at h
          · cases h
          · injection h with h
            injection h with _ h
            exact ⟨_, h.symm, by simp; omega⟩
        · rw [if_neg hf, if_neg (by omega)]; exact .inl rfl
      · rw [symS_cop hx (by omega), symS_cop hx (by omega)]
        rcases copS_lim (nd := nd) (l := l) (p1 := p1) hs out (t : Int) with h | ⟨h, h'⟩
        · rw [h]; exact .inl rfl
        · rw [h]
          refine .inr ⟨rfl, fun p' r hr => ?_⟩
          cases hc : copS nd l g p1 out (t : Int) with
          | error e => rw [hc] at hr; cases hr
          | ok y =>
            obtain ⟨q, o⟩ := y
            rw [hc] at hr
            injection hr with hr
            injection hr with _ hr
            exact ⟨o, hr.symm, h' q o hc⟩
theorem symS_small {nl nd : List Nat} {l : List Int} {s p p' : Nat} {out o : List Int} (hp : p ≤ 8 * l.length) (hout : out.length ≤ s) (h : symS nl nd l s p out = .ok (p', some o)) : o.length ≤ s ∧ out.length ≤ o.length := by
  cases hx : nxS nl l p with
  | error e => rw [symS_bad hx] at h; cases h
  | ok x =>
    obtain ⟨v, p1⟩ := x
    obtain ⟨⟨t, ht, rfl⟩, h1, h2⟩ := nxS_ok hp hx
    by_cases h256 : t = 256
    · subst h256; rw [symS_end hx] at h; cases h
    · by_cases hlt : t < 256
      · rw [symS_lit hx (by omega)] at h
        split at h
        · cases h
        · injection h with h
          injection h with _ h
          injection h with h
          rw [← h, List.length_append]
          simp
          omega
      · rw [symS_cop hx (by omega)] at h
        cases hc : copS nd l s p1 out (t : Int) with
        | error e => rw [hc] at h; cases h
        | ok y =>
          obtain ⟨q, oo⟩ := y
          rw [hc] at h
          injection h with h
          injection h with _ h
          injection h with h
          subst h
          exact copS_small hout hc
theorem symsS_small {nl nd : List Nat} {l : List Int} {s : Nat} : ∀ (f p : Nat) (out : List Int) {p' : Nat} {o : List Int}, p ≤ 8 * l.length → out.length ≤ s → symsS nl nd l s f p out = .ok (p', o) → o.length ≤ s ∧ out.length ≤ o.length
  | 0, p, out, p', o, hp, hout, h => by cases h
  | f + 1, p, out, p', o, hp, hout, h => by
    rw [symsS] at h
    cases hs : symS nl nd l s p out with
    | error e => rw [hs] at h; cases h
    | ok x =>
      obtain ⟨q, r⟩ := x
      obtain ⟨h1, h2⟩ := symS_le hp hs
      rw [hs] at h
      cases r with
      | none => injection h with h; injection h with _ h; rw [← h]; exact ⟨hout, Nat.le_refl _⟩
      | some oo =>
        obtain ⟨h3, h4⟩ := symS_small hp hout hs
        obtain ⟨h5, h6⟩ := symsS_small f q oo h2 h3 h
        exact ⟨h5, Nat.le_trans h4 h6⟩
theorem symsS_lim {nl nd : List Nat} {l : List Int} {s g : Nat} (hs : s ≤ g) : ∀ (f p : Nat) (out : List Int), p ≤ 8 * l.length → out.length ≤ s → Lim s (symsS nl nd l s f p out) (symsS nl nd l g f p out)
  | 0, p, out, hp, hout => .inl rfl
  | f + 1, p, out, hp, hout => by
    rw [symsS, symsS]
    rcases symS_lim (nl := nl) (nd := nd) hp hs out with h | ⟨h, h'⟩
    · rw [← h]
      cases hx : symS nl nd l s p out with
      | error e => exact .inl rfl
      | ok x =>
        obtain ⟨q, r⟩ := x
        obtain ⟨h1, h2⟩ := symS_le hp hx
        cases r with
        | none => exact .inl rfl
        | some oo =>
          obtain ⟨h3, h4⟩ := symS_small hp hout hx
          exact symsS_lim hs f q oo h2 h3
    · rw [h]
      refine .inr ⟨rfl, fun p' o hy => ?_⟩
      cases hx : symS nl nd l g p out with
      | error e => rw [hx] at hy; cases hy
      | ok x =>
        obtain ⟨q, r⟩ := x
        obtain ⟨o1, rfl, h5⟩ := h' q r hx
        obtain ⟨h1, h2⟩ := symS_le hp hx
        obtain ⟨h3, h4⟩ := symS_small hp (by omega) hx
        rw [hx] at hy
        obtain ⟨_, h6⟩ := symsS_small f q o1 h2 h3 hy
        omega
theorem storedS_is (l : List Int) (limit q : Nat) (out : List Int) : storedS l limit q out = match takesS l (8 * q) [16, 16] with
    | .error e => .error e
    | .ok _ => if tk l (8 * q) 16 + tk l (8 * q + 16) 16 ≠ 65535 then .error 4
      else if (limit : Int) - out.length < tk l (8 * q) 16 then .error 8
      else if l.length < q + 4 + (tk l (8 * q) 16).toNat then .error 2
      else .ok (8 * (q + 4 + (tk l (8 * q) 16).toNat), out ++ cutOf l (q + 4) (q + 4 + (tk l (8 * q) 16).toNat)) := by
  cases h : takesS l (8 * q) [16, 16] with
  | error e => exact storedS_bad h
  | ok x => obtain ⟨vs, p'⟩ := x; exact storedS_ok h
theorem storedS_small {l : List Int} {s q p' : Nat} {out o : List Int} (hout : out.length ≤ s) (h : storedS l s q out = .ok (p', o)) : o.length ≤ s ∧ out.length ≤ o.length ∧ p' ≤ 8 * l.length := by
  rw [storedS_is] at h
  have hb := tk_bd l (8 * q) 16
  split at h
  · cases h
  · split at h
    · cases h
    · split at h
      · cases h
      · split at h
        · cases h
        · injection h with h
          injection h with h1 h
          rw [← h, ← h1, List.length_append, cutOf_len (by omega)]
          omega
theorem storedS_lim {l : List Int} {s g q : Nat} (hs : s ≤ g) (out : List Int) (hout : out.length ≤ s) : Lim s (storedS l s q out) (storedS l g q out) := by
  rw [storedS_is, storedS_is]
  have hb := tk_bd l (8 * q) 16
  cases takesS l (8 * q) [16, 16] with
  | error e => exact .inl rfl
  | ok x =>
    simp only
    by_cases h4 : tk l (8 * q) 16 + tk l (8 * q + 16) 16 ≠ 65535
    · rw [if_pos h4, if_pos h4]; exact .inl rfl
    · rw [if_neg h4, if_neg h4]
      by_cases h8 : (s : Int) - out.length < tk l (8 * q) 16
      · rw [if_pos h8]
        refine .inr ⟨rfl, fun p o h => ?_⟩
        split at h
        · cases h
        · split at h
          · cases h
          · injection h with h
            injection h with h1 h
            rw [← h, List.length_append, cutOf_len (by omega)]
            omega
      · rw [if_neg h8, if_neg (show ¬ ((g : Int) - out.length < tk l (8 * q) 16) by omega)]; exact .inl rfl
theorem toldB_small {l : List Int} {s p p' : Nat} {out o : List Int} (hp : p ≤ 8 * l.length) (hout : out.length ≤ s) (h : toldB l s p out = .ok (p', o)) : o.length ≤ s ∧ out.length ≤ o.length ∧ p' ≤ 8 * l.length := by
  unfold toldB at h
  cases ht : toldS l p with
  | error e => rw [ht] at h; cases h
  | ok x =>
    obtain ⟨p3, nl, nd⟩ := x
    obtain ⟨h1, h2⟩ := toldS_le hp ht
    rw [ht] at h
    simp only at h
    obtain ⟨h3, h4⟩ := symsS_small _ _ _ h2 hout h
    exact ⟨h3, h4, (symsS_le _ _ _ h2 h).2⟩
theorem toldB_lim {l : List Int} {s g p : Nat} (hp : p ≤ 8 * l.length) (hs : s ≤ g) (out : List Int) (hout : out.length ≤ s) : Lim s (toldB l s p out) (toldB l g p out) := by
  unfold toldB
  cases ht : toldS l p with
  | error e => exact .inl rfl
  | ok x =>
    obtain ⟨p3, nl, nd⟩ := x
    exact symsS_lim hs _ _ _ (toldS_le hp ht).2 hout
/-- the part of a block behind its head -/
def kindS (l : List Int) (limit p : Nat) (out : List Int) (kind : Int) : Except Int (Nat × List Int) := if kind = 0 then storedS l limit ((p + 7) / 8) out else if kind = 1 then symsS (nsOf fixL) (nsOf fixD) l limit (8 * l.length + 1 - p) p out else if kind = 2 then toldB l limit p out else .error 3
theorem kindS_small {l : List Int} {s p p' : Nat} {out o : List Int} {kind : Int} (hp : p ≤ 8 * l.length) (hout : out.length ≤ s) (h : kindS l s p out kind = .ok (p', o)) : o.length ≤ s ∧ out.length ≤ o.length ∧ p' ≤ 8 * l.length := by
  unfold kindS at h
  split at h
  · exact storedS_small hout h
  · split at h
    · obtain ⟨h3, h4⟩ := symsS_small _ _ _ hp hout h
      exact ⟨h3, h4, (symsS_le _ _ _ hp h).2⟩
    · split at h
      · exact toldB_small hp hout h
      · cases h
theorem kindS_lim {l : List Int} {s g p : Nat} (hp : p ≤ 8 * l.length) (hs : s ≤ g) (out : List Int) (hout : out.length ≤ s) (kind : Int) : Lim s (kindS l s p out kind) (kindS l g p out kind) := by
  unfold kindS
  split
  · exact storedS_lim hs out hout
  · split
    · exact symsS_lim hs _ _ _ hp hout
    · split
      · exact toldB_lim hp hs out hout
      · exact .inl rfl
theorem blockS_is (l : List Int) (limit p : Nat) (out : List Int) : blockS l limit p out = match takesS l p [1, 2] with
    | .error e => .error e
    | .ok _ => match kindS l limit (p + 1 + 2) out (tk l (p + 1) 2) with
      | .error e => .error e
      | .ok (p3, o) => .ok (tk l p 1 == 1, p3, o) := by
  cases h : takesS l p [1, 2] with
  | error e => exact blockS_bad h
  | ok x => obtain ⟨vs, p'⟩ := x; rw [blockS_ok h]; rfl
theorem blockS_small {l : List Int} {s p p' : Nat} {out o : List Int} {b : Bool} (hout : out.length ≤ s) (h : blockS l s p out = .ok (b, p', o)) : o.length ≤ s ∧ out.length ≤ o.length ∧ p' ≤ 8 * l.length := by
  rw [blockS_is] at h
  cases ht : takesS l p [1, 2] with
  | error e => rw [ht] at h; cases h
  | ok x =>
    obtain ⟨vs, q⟩ := x
    obtain ⟨_, _, hpl, _, _⟩ := takesS_two ht
    rw [ht] at h
    simp only at h
    cases hk : kindS l s (p + 1 + 2) out (tk l (p + 1) 2) with
    | error e => rw [hk] at h; cases h
    | ok y =>
      obtain ⟨p3, oo⟩ := y
      rw [hk] at h
      injection h with h
      injection h with _ h
      injection h with h1 h2
      subst h1 h2
      exact kindS_small hpl hout hk
theorem blockS_lim {l : List Int} {s g p : Nat} (hs : s ≤ g) (out : List Int) (hout : out.length ≤ s) : blockS l s p out = blockS l g p out ∨ (blockS l s p out = .error 8 ∧ ∀ b p' o, blockS l g p out = .ok (b, p', o) → s < o.length) := by
  rw [blockS_is, blockS_is]
  cases ht : takesS l p [1, 2] with
  | error e => exact .inl rfl
  | ok x =>
    obtain ⟨vs, q⟩ := x
    obtain ⟨_, _, hpl, _, _⟩ := takesS_two ht
    simp only
    rcases kindS_lim hpl hs out hout (tk l (p + 1) 2) with h | ⟨h, h'⟩
    · rw [h]; exact .inl rfl
    · rw [h]
      refine .inr ⟨rfl, fun b p' o hy => ?_⟩
      cases hk : kindS l g (p + 1 + 2) out (tk l (p + 1) 2) with
      | error e => rw [hk] at hy; cases hy
      | ok y =>
        obtain ⟨p3, oo⟩ := y
        rw [hk] at hy
        injection hy with hy
        injection hy with _ hy
        injection hy with _ hy
        subst hy
        exact h' p3 oo hk
theorem blocksS_small {l : List Int} {s : Nat} : ∀ (f p : Nat) (out : List Int) {o : List Int} {n : Nat}, out.length ≤ s → blocksS l s f p out = .ok (o, n) → o.length ≤ s ∧ out.length ≤ o.length
  | 0, p, out, o, n, hout, h => by cases h
  | f + 1, p, out, o, n, hout, h => by
    rw [blocksS] at h
    cases hb : blockS l s p out with
    | error e => rw [hb] at h; cases h
    | ok x =>
      obtain ⟨b, q, oo⟩ := x
      obtain ⟨h1, h2, _⟩ := blockS_small hout hb
      rw [hb] at h
      cases b with
      | true => injection h with h; injection h with h _; rw [← h]; exact ⟨h1, h2⟩
      | false =>
        obtain ⟨h3, h4⟩ := blocksS_small f q oo h1 h
        exact ⟨h3, Nat.le_trans h2 h4⟩
theorem blocksS_lim {l : List Int} {s g : Nat} (hs : s ≤ g) : ∀ (f p : Nat) (out : List Int), out.length ≤ s → blocksS l s f p out = blocksS l g f p out ∨ (blocksS l s f p out = .error 8 ∧ ∀ o n, blocksS l g f p out = .ok (o, n) → s < o.length)
  | 0, p, out, hout => .inl rfl
  | f + 1, p, out, hout => by
    rw [blocksS, blocksS]
    rcases blockS_lim (l := l) (p := p) hs out hout with h | ⟨h, h'⟩
    · rw [← h]
      cases hb : blockS l s p out with
      | error e => exact .inl rfl
      | ok x =>
        obtain ⟨b, q, oo⟩ := x
        obtain ⟨h1, h2, _⟩ := blockS_small hout hb
        cases b with
        | true => exact .inl rfl
        | false => exact blocksS_lim hs f q oo h1
    · rw [h]
      refine .inr ⟨rfl, fun o n hy => ?_⟩
      cases hb : blockS l g p out with
      | error e => rw [hb] at hy; cases hy
      | ok x =>
        obtain ⟨b, q, oo⟩ := x
        have h3 := h' b q oo hb
        obtain ⟨h1, h2, _⟩ := blockS_small (s := g) (by omega) hb
        rw [hb] at hy
        cases b with
        | true => injection hy with hy; injection hy with hy _; rw [← hy]; exact h3
        | false =>
          obtain ⟨_, h4⟩ := blocksS_small f q oo h1 hy
          omega
/-- with a greater limit the answer is the same, unless the lesser one was passed -/
theorem inflS_lim (l : List Int) {s g : Nat} (hs : s ≤ g) (hg : g ≤ 32768) : inflS l s = inflS l g ∨ (inflS l s = .error 8 ∧ ∀ o n, inflS l g = .ok (o, n) → s < o.length) := by
  unfold inflS
  rw [if_neg (by omega), if_neg (by omega), Int.toNat_natCast, Int.toNat_natCast]
  exact blocksS_lim hs _ _ _ (Nat.zero_le _)
theorem inflS_small (l : List Int) {s : Nat} (hs : s ≤ 32768) {o : List Int} {n : Nat} (h : inflS l s = .ok (o, n)) : o.length ≤ s := by
  unfold inflS at h
  rw [if_neg (by omega), Int.toNat_natCast] at h
  exact (blocksS_small _ _ _ (Nat.zero_le _) h).1
end Go.Proofs.YtpnnfekfoomgaaaDoor
