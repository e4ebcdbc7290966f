/- What two rows of bytes that are the same on a stretch have in common bz archives. No condition; no program is named. -/
import Derived.Test.YtimojfkpcmphfaaDoorDp
set_option linter.unusedVariables false
set_option maxRecDepth 100000
namespace Go.Proofs.YtimojfkpcmphfaaDoor
open Go.RowKit

/-- two rows of bytes of one length that are the same from lo on, up to hi -/
def Agr (l l' : List Int) (lo hi : Nat) : Prop := l.length = l'.length ∧ ∀ i, lo ≤ i → i < hi → l.getD i 0 = l'.getD i 0
section
variable {l l' : List Int} {lo hi : Nat}
theorem Agr.get? (h : Agr l l' lo hi) {i : Nat} (h1 : lo ≤ i) (h2 : i < hi) : l[i]? = l'[i]? := by
  have hg := h.2 i h1 h2
  rw [List.getD_eq_getElem?_getD, List.getD_eq_getElem?_getD] at hg
  by_cases hi : i < l.length
  · have hi' : i < l'.length := by rw [← h.1]; exact hi
    rw [List.getElem?_eq_getElem hi, List.getElem?_eq_getElem hi'] at hg ⊢
    exact congrArg some hg
  · rw [List.getElem?_eq_none (by omega), List.getElem?_eq_none (by rw [← h.1]; omega)]
theorem Agr.cut (h : Agr l l' lo hi) {p q : Nat} (h1 : lo ≤ p) (h2 : q ≤ hi) : cutOf l p q = cutOf l' p q := by
  unfold cutOf
  apply List.ext_getElem?
  intro i
  by_cases hi : i < q - p
  · rw [List.getElem?_take_of_lt hi, List.getElem?_take_of_lt hi, List.getElem?_drop, List.getElem?_drop]
    exact h.get? (by omega) (by omega)
  · rw [List.getElem?_eq_none (by rw [List.length_take]; omega), List.getElem?_eq_none (by rw [List.length_take]; omega)]
theorem piece_cut (l : List Int) (p k : Nat) : O2.piece l (p : Int) (k : Int) = cutOf l p (p + k) := by
  unfold O2.piece cutOf
  rw [Int.toNat_natCast, Int.toNat_natCast, Nat.add_sub_cancel_left]
theorem Agr.num (h : Agr l l' lo hi) (p k : Nat) (h1 : lo ≤ p) (h2 : p + k ≤ hi) : numL l (p : Int) (k : Int) = numL l' (p : Int) (k : Int) := by
  unfold numL O2.LT
  rw [piece_cut, piece_cut, h.cut h1 h2, h.1]
theorem Agr.num2 (h : Agr l l' lo hi) (p q : Nat) (h1 : lo ≤ p) (h2 : p + q + 2 ≤ hi) : numL l ((p : Int) + q) 2 = numL l' ((p : Int) + q) 2 := by
  have := h.num (p + q) 2 (by omega) h2
  rw [Int.natCast_add] at this; exact this
theorem Agr.num4 (h : Agr l l' lo hi) (p q : Nat) (h1 : lo ≤ p) (h2 : p + q + 4 ≤ hi) : numL l ((p : Int) + q) 4 = numL l' ((p : Int) + q) 4 := by
  have := h.num (p + q) 4 (by omega) h2
  rw [Int.natCast_add] at this; exact this
theorem Agr.kind (h : Agr l l' lo hi) (p : Nat) (h1 : lo ≤ p) (h2 : p + 4 ≤ hi) : kindL l p = kindL l' p := by
  unfold kindL
  rw [h.2 p h1 (by omega), h.2 (p + 1) (by omega) (by omega), h.2 (p + 2) (by omega) (by omega), h.2 (p + 3) (by omega) (by omega)]
theorem Agr.cutR {lo' hi' : Nat} (h : Agr l l' lo hi) (h1 : lo ≤ lo') (h2 : hi' ≤ hi) : Agr l l' lo' hi' := ⟨h.1, fun i a b => h.2 i (by omega) (by omega)⟩
/-- central records -/
theorem Agr.nmN (h : Agr l l' lo hi) (p : Nat) (h1 : lo ≤ p) (h2 : p + 46 ≤ hi) : nmN l p = nmN l' p := by
  unfold Go.Proofs.YtimojfkpcmphfaaDoor.nmN; rw [show ((p : Int) + 28) = (p : Int) + (28 : Nat) from rfl, h.num2 p 28 h1 (by omega)]
theorem Agr.szL (h : Agr l l' lo hi) (p : Nat) (h1 : lo ≤ p) (h2 : p + 46 ≤ hi) : szL l p = szL l' p := by
  unfold Go.Proofs.YtimojfkpcmphfaaDoor.szL
  rw [h.nmN p h1 h2, show ((p : Int) + 30) = (p : Int) + (30 : Nat) from rfl, show ((p : Int) + 32) = (p : Int) + (32 : Nat) from rfl, h.num2 p 30 h1 (by omega), h.num2 p 32 h1 (by omega)]
theorem Agr.nmT (h : Agr l l' lo hi) (p : Nat) (h1 : lo ≤ p) (h2 : p + Go.Proofs.YtimojfkpcmphfaaDoor.szL l p ≤ hi) : nmT l p = nmT l' p := by
  have hs := szL_ge l p
  unfold Go.Proofs.YtimojfkpcmphfaaDoor.nmT
  rw [← h.nmN p h1 (by omega), h.cut (by omega) (by omega)]
theorem Agr.recE (h : Agr l l' lo hi) (p : Nat) (h1 : lo ≤ p) (ns : List (List UInt8)) : recS l hi p ns = recS l' hi p ns := by
  unfold recS
  by_cases h46 : hi < p + 46
  · rw [if_pos (.inl h46), if_pos (.inl h46)]
  · rw [h.kind p h1 (by omega), h.szL p h1 (by omega)]
    by_cases hz : hi < p + Go.Proofs.YtimojfkpcmphfaaDoor.szL l' p
    · rw [if_pos (.inl hz : hi < p + Go.Proofs.YtimojfkpcmphfaaDoor.szL l' p ∨ numL l ((p : Int) + 34) 2 ≠ 0), if_pos (.inl hz : hi < p + Go.Proofs.YtimojfkpcmphfaaDoor.szL l' p ∨ numL l' ((p : Int) + 34) 2 ≠ 0)]
    · have hT := h.nmT p h1 (by rw [h.szL p h1 (by omega)]; omega)
      unfold nmU
      rw [hT, show ((p : Int) + 34) = (p : Int) + (34 : Nat) from rfl, show ((p : Int) + 6) = (p : Int) + (6 : Nat) from rfl, show ((p : Int) + 8) = (p : Int) + (8 : Nat) from rfl, show ((p : Int) + 10) = (p : Int) + (10 : Nat) from rfl,
        h.num2 p 34 h1 (by omega), h.num2 p 6 h1 (by omega), h.num2 p 8 h1 (by omega), h.num2 p 10 h1 (by omega)]
theorem Agr.cen (h : Agr l l' lo hi) : ∀ (n p : Nat) (ps : List Nat), lo ≤ p → ps.map (nmU l) = ps.map (nmU l') → cenS l hi n p ps = cenS l' hi n p ps
  | 0, p, ps, _, _ => rfl
  | n + 1, p, ps, h1, hps => by
    unfold cenS
    rw [hps, h.recE p h1]
    by_cases h0 : recS l' hi p (ps.map (nmU l')) = 0
    · rw [if_neg (by simpa using h0), if_neg (by simpa using h0)]
      have hok := recS_ok (by rw [← h.recE p h1] at h0; exact h0)
      rw [← h.szL p h1 hok.1]
      refine h.cen n _ _ (by omega) ?_
      rw [List.map_append, List.map_append, hps]
      have : nmU l p = nmU l' p := by unfold nmU; rw [h.nmT p h1 hok.2.2.1]
      simp [this]
    · rw [if_pos h0, if_pos h0]
end
/-- what is known of central records that were read -/
structure CenK (l : List Int) (fr tt : Nat) (ps : List Nat) : Prop where
  at_ : ∀ p ∈ ps, fr ≤ p ∧ p + szL l p ≤ tt ∧ nameB (nmT l p) = true ∧ (numL l ((p : Int) + 10) 2 = 0 ∨ numL l ((p : Int) + 10) 2 = 8)
  apart : (ps.map (nmU l)).Nodup
theorem cenS_ok {l : List Int} {fr tt : Nat} : ∀ {n p : Nat} {ps qs : List Nat}, fr ≤ p → CenK l fr tt ps → cenS l tt n p ps = .ok qs → CenK l fr tt qs ∧ qs.length = ps.length + n
  | 0, p, ps, qs, _, hk, h => by
    unfold cenS at h
    split at h
    · cases h
    · injection h with h
      subst h
      exact ⟨hk, rfl⟩
  | n + 1, p, ps, qs, hp, hk, h => by
    unfold cenS at h
    split at h
    · cases h
    · rename_i h0
      simp only [ne_eq, Decidable.not_not] at h0
      obtain ⟨h1, h2, h3, h4, h5, h6⟩ := recS_ok h0
      have hk' : CenK l fr tt (ps ++ [p]) := by
        refine ⟨fun q hq => ?_, ?_⟩
        · rcases List.mem_append.1 hq with hq | hq
          · exact hk.at_ q hq
          · obtain rfl := List.mem_singleton.1 hq
            exact ⟨hp, h3, h4, h6⟩
        · rw [List.map_append, List.nodup_append]
          refine ⟨hk.apart, by simp, fun a ha b hb => ?_⟩
          have : b = nmU l p := by simpa using hb
          rintro rfl
          exact h5 (this ▸ ha)
      have := cenS_ok (by omega) hk' h
      rw [List.length_append, List.length_singleton] at this
      exact ⟨this.1, by omega⟩
theorem locsS_len {l : List Int} {fr : Nat} : ∀ {ps bz : List Nat}, locsS l fr ps = some bz → bz.length = ps.length
  | [], bz, h => by injection h with h; subst h; rfl
  | p :: ps, bz, h => by
    unfold locsS at h
    split at h
    · cases h
    · cases h2 : locsS l fr ps with
      | none => rw [h2] at h; cases h
      | some bs => rw [h2] at h; injection h with h; subst h; simp [locsS_len h2]
theorem locsS_at {l : List Int} {fr : Nat} : ∀ {ps bz : List Nat}, locsS l fr ps = some bz → ∀ e ∈ ps.zip bz, locS l fr e.1 = some e.2
  | [], bz, h, e, he => by simp at he
  | p :: ps, bz, h, e, he => by
    unfold locsS at h
    split at h
    · cases h
    · rename_i a ha
      cases h2 : locsS l fr ps with
      | none => rw [h2] at h; cases h
      | some bs =>
        rw [h2] at h; injection h with h; subst h
        rw [List.zip_cons_cons] at he
        rcases List.mem_cons.1 he with rfl | he
        · exact ha
        · exact locsS_at h2 e he
theorem locS_ok {l : List Int} {fr p a : Nat} (h : locS l fr p = some a) : hdL l p + 30 ≤ fr ∧ hdL l p + 30 + nmN l p ≤ a ∧ a + pkL l p ≤ fr ∧ a = hdL l p + 30 + nmN l p + (numL l ((hdL l p : Int) + 28) 2).toNat ∧ kindL l (hdL l p) = 1 ∧ cutOf l (hdL l p + 4) (hdL l p + 28) = cutOf l (p + 6) (p + 30) ∧ strOfNums (cutOf l (hdL l p + 30) (hdL l p + 30 + nmN l p)) = nmT l p := by
  unfold locS at h
  split at h
  · cases h
  · split at h
    · cases h
    · split at h
      · cases h
      · rename_i h1 h2 h3
        injection h with h
        simp only [not_or, Decidable.not_not] at h1 h2 h3
        refine ⟨by omega, by omega, by omega, h.symm, h1.2, h2, h3.2⟩
end Go.Proofs.YtimojfkpcmphfaaDoor
