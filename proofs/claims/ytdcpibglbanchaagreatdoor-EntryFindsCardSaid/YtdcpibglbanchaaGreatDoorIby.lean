/- What bytes unpack to are bytes. No program is named. -/
import Derived.Test.YtdcpibglbanchaaGreatDoorLl
set_option linter.unusedVariables false
set_option maxRecDepth 100000
namespace Go.Proofs.YtdcpibglbanchaaGreatDoor
open Go.RowKit

theorem byI_getD {l : List Int} (h : Bytes l) (i : Nat) : 0 ≤ l.getD i 0 ∧ l.getD i 0 ≤ 255 := by
  rw [List.getD_eq_getElem?_getD]
  by_cases hi : i < l.length
  · rw [List.getElem?_eq_getElem hi]; exact h _ (List.getElem_mem hi)
  · rw [List.getElem?_eq_none (by omega)]; decide
theorem by_snoc {l : List Int} (h : Bytes l) {x : Int} (hx : 0 ≤ x ∧ x ≤ 255) : Bytes (l ++ [x]) := fun y hy => by
  rcases List.mem_append.1 hy with hy | hy
  · exact h y hy
  · rw [List.mem_singleton.1 hy]; exact hx
theorem copyN_bytes (far : Nat) : ∀ (n : Nat) (out : List Int), Bytes out → Bytes (copyN out far n)
  | 0, out, h => h
  | n + 1, out, h => by rw [copyN]; exact copyN_bytes far n _ (by_snoc h (byI_getD h _))
theorem symS_bytes {nl nd : List Nat} {l : List Int} {s p p' : Nat} {out o : List Int} (hp : p ≤ 8 * l.length) (hout : Bytes out) (h : symS nl nd l s p out = .ok (p', some o)) : Bytes o := by
  cases hx : nxS nl l p with
  | error e => rw [symS_bad hx] at h; cases h
  | ok x =>
    obtain ⟨v, p1⟩ := x
    obtain ⟨⟨t, ht, rfl⟩, h1, h2⟩ := nxS_ok hp hx
    by_cases h256 : t = 256
    · subst h256; rw [symS_end hx] at h; cases h
    · by_cases hlt : t < 256
      · rw [symS_lit hx (by omega)] at h
        split at h
        · cases h
        · injection h with h
          injection h with _ h
          injection h with h
          rw [← h]
          exact by_snoc hout (by omega)
      · rw [symS_cop hx (by omega)] at h
        cases hc : copS nd l s p1 out (t : Int) with
        | error e => rw [hc] at h; cases h
        | ok y =>
          obtain ⟨q, oo⟩ := y
          rw [hc] at h
          injection h with h
          injection h with _ h
          injection h with h
          subst h
          rw [copS_is] at hc
          cases hl : lenS l p1 (t : Int) with
          | error e => rw [hl] at hc; cases hc
          | ok x =>
            obtain ⟨n, p2⟩ := x
            rw [hl] at hc
            simp only at hc
            cases hd : disS nd l p2 with
            | error e => rw [hd] at hc; cases hc
            | ok y =>
              obtain ⟨far, p3⟩ := y
              rw [hd] at hc
              simp only at hc
              split at hc
              · cases hc
              · split at hc
                · cases hc
                · injection hc with hc
                  injection hc with _ hc
                  rw [← hc]
                  exact copyN_bytes _ _ _ hout
theorem symsS_bytes {nl nd : List Nat} {l : List Int} {s : Nat} : ∀ (f p : Nat) (out : List Int) {p' : Nat} {o : List Int}, p ≤ 8 * l.length → Bytes out → symsS nl nd l s f p out = .ok (p', o) → Bytes o
  | 0, p, out, p', o, hp, hout, h => by cases h
  | f + 1, p, out, p', o, hp, hout, h => by
    rw [symsS] at h
    cases hs : symS nl nd l s p out with
    | error e => rw [hs] at h; cases h
    | ok x =>
      obtain ⟨q, r⟩ := x
      obtain ⟨h1, h2⟩ := symS_le hp hs
      rw [hs] at h
      cases r with
      | none => injection h with h; injection h with _ h; rw [← h]; exact hout
      | some oo => exact symsS_bytes f q oo h2 (symS_bytes hp hout hs) h
theorem storedS_bytes {l : List Int} (hl : Bytes l) {s q p' : Nat} {out o : List Int} (hout : Bytes out) (h : storedS l s q out = .ok (p', o)) : Bytes o := by
  rw [storedS_is] at h
  split at h
  · cases h
  · split at h
    · cases h
    · split at h
      · cases h
      · split at h
        · cases h
        · injection h with h
          injection h with h1 h
          rw [← h]
          exact hout.app ((hl.drop _).take _)
theorem kindS_bytes {l : List Int} (hl : Bytes l) {s p p' : Nat} {out o : List Int} {kind : Int} (hp : p ≤ 8 * l.length) (hout : Bytes out) (h : kindS l s p out kind = .ok (p', o)) : Bytes o := by
  unfold kindS at h
  split at h
  · exact storedS_bytes hl hout h
  · split at h
    · exact symsS_bytes _ _ _ hp hout h
    · split at h
      · unfold toldB at h
        cases ht : toldS l p with
        | error e => rw [ht] at h; cases h
        | ok x =>
          obtain ⟨p3, nl, nd⟩ := x
          obtain ⟨h1, h2⟩ := toldS_le hp ht
          rw [ht] at h
          simp only at h
          exact symsS_bytes _ _ _ h2 hout h
      · cases h
theorem blockS_bytes {l : List Int} (hl : Bytes l) {s p p' : Nat} {out o : List Int} {b : Bool} (hout : Bytes out) (h : blockS l s p out = .ok (b, p', o)) : Bytes o := by
  rw [blockS_is] at h
  cases ht : takesS l p [1, 2] with
  | error e => rw [ht] at h; cases h
  | ok x =>
    obtain ⟨vs, q⟩ := x
    obtain ⟨_, _, hpl, _, _⟩ := takesS_two ht
    rw [ht] at h
    simp only at h
    cases hk : kindS l s (p + 1 + 2) out (tk l (p + 1) 2) with
    | error e => rw [hk] at h; cases h
    | ok y =>
      obtain ⟨p3, oo⟩ := y
      rw [hk] at h
      injection h with h
      injection h with _ h
      injection h with h1 h2
      subst h1 h2
      exact kindS_bytes hl hpl hout hk
theorem blocksS_bytes {l : List Int} (hl : Bytes l) {s : Nat} : ∀ (f p : Nat) (out : List Int) {o : List Int} {n : Nat}, Bytes out → blocksS l s f p out = .ok (o, n) → Bytes o
  | 0, p, out, o, n, hout, h => by cases h
  | f + 1, p, out, o, n, hout, h => by
    rw [blocksS] at h
    cases hb : blockS l s p out with
    | error e => rw [hb] at h; cases h
    | ok x =>
      obtain ⟨b, q, oo⟩ := x
      have h1 := blockS_bytes hl hout hb
      rw [hb] at h
      cases b with
      | true => injection h with h; injection h with h _; rw [← h]; exact h1
      | false => exact blocksS_bytes hl f q oo h1 h
theorem inflS_bytes {l : List Int} (hl : Bytes l) {s : Int} {o : List Int} {n : Nat} (h : inflS l s = .ok (o, n)) : Bytes o := by
  unfold inflS at h
  split at h
  · cases h
  · exact blocksS_bytes hl _ _ _ (fun x hx => by cases hx) h
end Go.Proofs.YtdcpibglbanchaaGreatDoor
