/- What a prefix code reads out of bits, as plain mathematics: words highest bit first, the longest word, the next symbol. No condition; no program is named. -/
import Derived.Test.YtpnnfekfoomgaaaDoorBitM
import Derived.Test.YtpnnfekfoomgaaaDoorPre
set_option linter.unusedVariables false
set_option maxRecDepth 100000
namespace Go.Proofs.YtpnnfekfoomgaaaDoor
open Go.RowKit

/-- the number of n bits from the bit p on, the first one the highest -/
def wd (l : List Int) (p : Nat) : Nat → Nat
  | 0 => 0
  | n + 1 => 2 * wd l p n + (bt l (p + n)).toNat
theorem bt_nat (l : List Int) (j : Nat) : ((bt l j).toNat : Int) = bt l j ∧ (bt l j).toNat ≤ 1 := by have := bt_bd l j; omega
theorem wd_lt (l : List Int) (p : Nat) : ∀ n, wd l p n < 2 ^ n
  | 0 => by simp [wd]
  | n + 1 => by have := wd_lt l p n; have := (bt_nat l (p + n)).2; rw [wd, Nat.pow_succ]; omega
theorem wd_div (l : List Int) (p j : Nat) : ∀ k, wd l p (j + k) / 2 ^ k = wd l p j
  | 0 => by simp
  | k + 1 => by
    have h := (bt_nat l (p + (j + k))).2
    have e : wd l p (j + (k + 1)) / 2 = wd l p (j + k) := by rw [← Nat.add_assoc, wd]; omega
    rw [Nat.pow_succ, Nat.mul_comm, ← Nat.div_div_eq_div_mul, e, wd_div l p j k]
/-- the longest word's bits, up to m -/
def plong (ns : List Nat) : Nat → Nat
  | 0 => 0
  | m + 1 => if pcnt ns (m + 1) = 0 then plong ns m else m + 1
theorem plong_le (ns : List Nat) : ∀ m, plong ns m ≤ m
  | 0 => Nat.le_refl _
  | m + 1 => by rw [plong]; split; · have := plong_le ns m; omega
                · exact Nat.le_refl _
theorem plong_ge (ns : List Nat) {n : Nat} (h : pcnt ns n ≠ 0) : ∀ m, n ≤ m → n ≤ plong ns m
  | 0, hm => by omega
  | m + 1, hm => by
    rw [plong]
    split
    · rename_i h0
      have : n ≠ m + 1 := fun e => by subst e; exact h h0
      exact plong_ge ns h m (by omega)
    · exact hm
theorem plong_cnt (ns : List Nat) : ∀ m, plong ns m ≠ 0 → pcnt ns (plong ns m) ≠ 0
  | 0, h => absurd rfl h
  | m + 1, h => by
    rw [plong] at h ⊢
    split
    · rename_i h0; rw [if_pos h0] at h; exact plong_cnt ns m h
    · rename_i h0; exact h0
theorem plong_zero (ns : List Nat) : ∀ m n, plong ns m < n → n ≤ m → pcnt ns n = 0 := fun m n h1 h2 => by
  rcases Nat.eq_zero_or_pos (pcnt ns n) with h | h
  · exact h
  · have := plong_ge ns (n := n) (by omega) m h2; omega
/-- the next symbol behind n bits that have none, if f more may be taken: the symbol, the error, the place behind -/
def nxR (ns : List Nat) (l : List Int) (p : Nat) : Nat → Nat → Int × Int × Nat
  | n, 0 => (0, 6, p + n)
  | n, f + 1 => if p + n < 8 * l.length then (match plook ns (n + 1) (wd l p (n + 1)) with | some s => ((s : Int), 0, p + n + 1) | none => nxR ns l p (n + 1) f) else (0, 2, p + n)
def nxt (ns : List Nat) (l : List Int) (p : Nat) : Int × Int × Nat := nxR ns l p 0 (plong ns 15)
theorem nxR_end (ns : List Nat) (l : List Int) (p n : Nat) : nxR ns l p n 0 = (0, 6, p + n) := rfl
theorem nxR_short (ns : List Nat) (l : List Int) (p n f : Nat) (h : 8 * l.length ≤ p + n) : nxR ns l p n (f + 1) = (0, 2, p + n) := by rw [nxR, if_neg (by omega)]
theorem nxR_some (ns : List Nat) (l : List Int) (p n f s : Nat) (h : p + n < 8 * l.length) (hs : plook ns (n + 1) (wd l p (n + 1)) = some s) : nxR ns l p n (f + 1) = ((s : Int), 0, p + n + 1) := by rw [nxR, if_pos h, hs]
theorem nxR_none (ns : List Nat) (l : List Int) (p n f : Nat) (h : p + n < 8 * l.length) (hs : plook ns (n + 1) (wd l p (n + 1)) = none) : nxR ns l p n (f + 1) = nxR ns l p (n + 1) f := by rw [nxR, if_pos h, hs]
theorem nxR_bd (ns : List Nat) (l : List Int) (p : Nat) : ∀ f n, p + n ≤ 8 * l.length → p + n ≤ (nxR ns l p n f).2.2 ∧ (nxR ns l p n f).2.2 ≤ 8 * l.length ∧ (nxR ns l p n f).2.2 ≤ p + n + f ∧ ((nxR ns l p n f).2.1 = 0 → p + n < (nxR ns l p n f).2.2 ∧ ∃ s : Nat, s < ns.length ∧ (nxR ns l p n f).1 = s ∧ 1 ≤ ns.getD s 0)
  | 0, n, h => by simp [nxR]; omega
  | f + 1, n, h => by
    rcases Nat.lt_or_ge (p + n) (8 * l.length) with q | q
    · cases hs : plook ns (n + 1) (wd l p (n + 1)) with
      | some s =>
        rw [nxR_some _ _ _ _ _ _ q hs]
        have := (plook_iff ns _ _ s).1 hs
        exact ⟨by simp <;> omega, by simp <;> omega, by simp <;> omega, fun _ => ⟨by simp <;> omega, s, this.1, rfl, by omega⟩⟩
      | none =>
        rw [nxR_none _ _ _ _ _ q hs]
        obtain ⟨h1, h2, h3, h4⟩ := nxR_bd ns l p f (n + 1) (by omega)
        exact ⟨by omega, h2, by omega, fun e => ⟨by have := (h4 e).1; omega, (h4 e).2⟩⟩
    · rw [nxR_short _ _ _ _ _ q]
      exact ⟨Nat.le_refl _, by simp; omega, by simp, fun e => by simp at e⟩
/-- bits that are a symbol's word are read as this symbol -/
theorem nxt_word {ns : List Nat} (hall : ∀ n ∈ ns, n ≤ 15) {l : List Int} {p s : Nat} (hs : s < ns.length) (h0 : 1 ≤ ns.getD s 0) (hw : wd l p (ns.getD s 0) = pword ns s) (hp : p + ns.getD s 0 ≤ 8 * l.length) :
    nxt ns l p = ((s : Int), 0, p + ns.getD s 0) := by
  have h15 : ns.getD s 0 ≤ 15 := by
    rw [List.getD_eq_getElem?_getD, List.getElem?_eq_getElem hs]; exact hall _ (List.getElem_mem hs)
  have hcnt : pcnt ns (ns.getD s 0) ≠ 0 := by have := prank_lt ns hs; omega
  have hL := plong_ge ns hcnt 15 h15
  have key : ∀ k j f, j + (k + 1) = ns.getD s 0 → ns.getD s 0 ≤ j + f → nxR ns l p j f = ((s : Int), 0, p + ns.getD s 0) := by
    intro k
    induction k with
    | zero =>
      intro j f hj hf
      obtain ⟨f, rfl⟩ : ∃ f', f = f' + 1 := ⟨f - 1, by omega⟩
      rw [nxR_some _ _ _ _ _ s (by omega) ((plook_iff _ _ _ _).2 ⟨hs, by omega, by rw [← hw]; congr 1; omega⟩), Nat.add_assoc, hj]
    | succ k ih =>
      intro j f hj hf
      obtain ⟨f, rfl⟩ : ∃ f', f = f' + 1 := ⟨f - 1, by omega⟩
      rw [nxR_none _ _ _ _ _ (by omega), ih (j + 1) f (by omega) (by omega)]
      cases ht : plook ns (j + 1) (wd l p (j + 1)) with
      | none => rfl
      | some t =>
        exfalso
        obtain ⟨t1, t2, t3⟩ := (plook_iff _ _ _ _).1 ht
        have hne : t ≠ s := fun e => by subst e; omega
        refine pword_free hall t1 hs hne (by omega) (by omega) ?_
        rw [t3, t2, ← hw, (by omega : ns.getD s 0 - (j + 1) = k + 1), (by omega : ns.getD s 0 = (j + 1) + (k + 1)), wd_div]
  obtain ⟨k, hk⟩ : ∃ k, ns.getD s 0 = k + 1 := ⟨ns.getD s 0 - 1, by omega⟩
  exact key k 0 _ (by omega) (by omega)
end Go.Proofs.YtpnnfekfoomgaaaDoor
