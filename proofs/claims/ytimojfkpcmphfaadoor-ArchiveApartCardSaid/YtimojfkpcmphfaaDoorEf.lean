/- What a byte that is another one changes of a directory, as plain mathematics. No condition; no program is named. -/
import Derived.Test.YtimojfkpcmphfaaDoorEe
set_option linter.unusedVariables false
set_option maxRecDepth 100000
namespace Go.Proofs.YtimojfkpcmphfaaDoor
open Go.RowKit

/-- what is known of a directory that is accepted -/
structure DirK (l : List Int) (F T N : Nat) (ps bs : List Nat) : Prop where
  ends : endS l = .ok ((F : Int), T, (N : Int))
  ft : F ≤ T
  tl : T + 22 ≤ l.length
  endc : endC l T
  n64 : N ≤ 64
  cen : cenS l T N F [] = .ok ps
  cenk : CenK l F T ps
  len : ps.length = N
  locs : locsS l F ps = some bs
  over : ovS l [] (ps.zip bs) = false
  blen : bs.length = ps.length
theorem dirS_inv {l : List Int} (hB : Bytes l) {es : List (Nat × Nat)} (h : dirS l = .ok es) : ∃ F T N ps bs, DirK l F T N ps bs ∧ es = ps.zip bs := by
  unfold dirS at h
  cases he : endS l with
  | error e => rw [he] at h; cases h
  | ok x =>
    obtain ⟨fr, tt, ct⟩ := x
    rw [he] at h
    simp only at h
    obtain ⟨h1, F, N, rfl, rfl, h2, hN, h3, _⟩ := endS_ok hB he
    simp only [Int.toNat_natCast] at h
    cases hc : cenS l tt N F [] with
    | error e => rw [hc] at h; cases h
    | ok ps =>
      rw [hc] at h
      simp only at h
      obtain ⟨hk, hl⟩ := cenS_ok (fr := F) (ps := []) (Nat.le_refl _) ⟨fun p hp => (by cases hp), List.nodup_nil⟩ hc
      cases hb : locsS l F ps with
      | none => rw [hb] at h; cases h
      | some bs =>
        rw [hb] at h
        simp only at h
        split at h
        · cases h
        · rename_i ho
          injection h with h
          exact ⟨F, tt, N, ps, bs, ⟨he, h2, h1, h3, hN, hc, hk, by simpa using hl, hb, by simpa using ho, locsS_len hb⟩, h.symm⟩
theorem DirK.dir {l : List Int} {F T N : Nat} {ps bs : List Nat} (h : DirK l F T N ps bs) : dirS l = .ok (ps.zip bs) := by
  unfold dirS
  rw [h.ends]
  simp only [Int.toNat_natCast]
  rw [h.cen]
  simp only
  rw [h.locs]
  simp only
  rw [h.over]; rfl
theorem epS_uniq {l : List Int} {T : Nat} (hT : endC l T) : ∀ k, T < k → 1 ≤ (epS l k).2 ∧ ((epS l k).2 = 1 → (epS l k).1 = T)
  | 0, h => absurd h (Nat.not_lt_zero _)
  | k + 1, h => by
    unfold epS
    by_cases hk : endC l k
    · rw [if_pos hk]
      refine ⟨by show 1 ≤ _ + 1; omega, fun h1 => ?_⟩
      rcases Nat.lt_or_ge T k with q | q
      · have := (epS_uniq hT k q).1
        simp only at h1; omega
      · show k = T; omega
    · rw [if_neg hk]
      rcases Nat.lt_or_ge T k with q | q
      · exact epS_uniq hT k q
      · obtain rfl : T = k := by omega
        exact absurd hT hk
section
variable {l l' : List Int} {F T N : Nat} {ps bs : List Nat}
theorem Agr.endC_ (h : Agr l l' F l.length) (hT : F ≤ T) (hl : T + 22 ≤ l.length) (he : endC l T) : endC l' T := by
  unfold endC at he ⊢
  have h20 := h.num2 T 20 hT (by omega)
  rw [show ((T : Int) + (20 : Nat)) = (T : Int) + 20 from rfl] at h20
  rw [← h.1, ← h.kind T hT (by omega), ← h20]
  exact he
theorem agr_loc {p a : Nat} (hd : Agr l l' F T) (hp : F ≤ p) (hz : p + szL l p ≤ T) (ha : Agr l l' (hdL l p) a) (hl : locS l F p = some a) : hdL l' p = hdL l p ∧ pkL l' p = pkL l p ∧ locS l' F p = some a := by
  have hs := szL_ge l p
  obtain ⟨h1, h2, h3, h4, h5, h6, h7⟩ := locS_ok hl
  have e1 : hdL l' p = hdL l p := by unfold hdL; rw [show ((p : Int) + 42) = (p : Int) + (42 : Nat) from rfl, hd.num4 p 42 hp (by omega)]
  have e2 : pkL l' p = pkL l p := by unfold pkL; rw [show ((p : Int) + 20) = (p : Int) + (20 : Nat) from rfl, hd.num4 p 20 hp (by omega)]
  have e3 : nmN l' p = nmN l p := (hd.nmN p hp (by omega)).symm
  have e4 : nmT l' p = nmT l p := (hd.nmT p hp hz).symm
  refine ⟨e1, e2, ?_⟩
  rw [← hl]
  unfold locS
  rw [e1, e2, e3, e4]
  have k1 := ha.kind (hdL l p) (Nat.le_refl _) (by omega)
  have k2 := ha.cut (p := hdL l p + 4) (q := hdL l p + 28) (by omega) (by omega)
  have k3 := ha.num2 (hdL l p) 28 (Nat.le_refl _) (by omega)
  have k4 := ha.cut (p := hdL l p + 30) (q := hdL l p + 30 + nmN l p) (by omega) (by omega)
  have k5 := hd.cut (p := p + 6) (q := p + 30) (by omega) (by omega)
  rw [show ((hdL l p : Int) + (28 : Nat)) = (hdL l p : Int) + 28 from rfl] at k3
  rw [k1, k2, k3, k4, k5]
theorem ovS_congr (es : List (Nat × Nat)) : ∀ (dn : List (Nat × Nat)), (∀ e ∈ dn, hdL l' e.1 = hdL l e.1 ∧ pkL l' e.1 = pkL l e.1) → (∀ e ∈ es, hdL l' e.1 = hdL l e.1 ∧ pkL l' e.1 = pkL l e.1) → ovS l' dn es = ovS l dn es := by
  induction es with
  | nil => intro dn _ _; rfl
  | cons e es ih =>
    intro dn h1 h2
    have he := h2 e (by simp)
    have hany : (dn.any fun d => onOne l' e d) = (dn.any fun d => onOne l e d) := by
      rw [Bool.eq_iff_iff, List.any_eq_true, List.any_eq_true]
      have hon : ∀ d ∈ dn, onOne l' e d = onOne l e d := fun d hd => by
        unfold onOne
        rw [he.1, he.2, (h1 d hd).1, (h1 d hd).2]
      constructor
      · rintro ⟨d, hd, h⟩; exact ⟨d, hd, by rw [← hon d hd]; exact h⟩
      · rintro ⟨d, hd, h⟩; exact ⟨d, hd, by rw [hon d hd]; exact h⟩
    show ((dn.any fun d => onOne l' e d) || ovS l' (dn ++ [e]) es) = ((dn.any fun d => onOne l e d) || ovS l (dn ++ [e]) es)
    rw [hany, ih (dn ++ [e]) (fun x hx => by
      rcases List.mem_append.1 hx with hx | hx
      · exact h1 x hx
      · obtain rfl := List.mem_singleton.1 hx; exact he) (fun x hx => h2 x (by simp [hx]))]
theorem locsS_congr (fr : Nat) : ∀ {ps bs : List Nat}, locsS l fr ps = some bs → (∀ e ∈ ps.zip bs, locS l' fr e.1 = some e.2) → locsS l' fr ps = some bs
  | [], bs, h, _ => h
  | p :: ps, bs, h, hh => by
    unfold locsS at h ⊢
    cases h1 : locS l fr p with
    | none => rw [h1] at h; cases h
    | some a =>
      rw [h1] at h
      simp only at h
      cases h2 : locsS l fr ps with
      | none => rw [h2] at h; cases h
      | some cs =>
        rw [h2] at h; injection h with h; subst h
        rw [hh (p, a) (by simp)]
        simp only
        rw [locsS_congr fr h2 (fun e he => hh e (by rw [List.zip_cons_cons]; exact List.mem_cons_of_mem _ he))]; rfl
/-- bytes that are the same in the directory and in all local headers -/
theorem DirK.agr (h : DirK l F T N ps bs) (hd : Agr l l' F l.length) (hent : ∀ e ∈ ps.zip bs, Agr l l' (hdL l e.1) e.2) :
    (endP l' < 0 ∧ dirS l' = .error 9) ∨ (0 ≤ endP l' ∧ dirS l' = .ok (ps.zip bs) ∧ recR l' (ps.zip bs) = recR l (ps.zip bs)) := by
  have hM : l'.length - 21 = l.length - 21 := by rw [hd.1]
  have hec := hd.endC_ h.ft h.tl h.endc
  have hu := epS_uniq hec (l'.length - 21) (by have := h.tl; omega)
  rcases endS_P l' with ⟨h1, h2⟩ | ⟨p, h1, h2, h3⟩
  · refine .inl ⟨h1, ?_⟩
    unfold dirS; rw [h2]
  · refine .inr ⟨by rw [h1]; omega, ?_⟩
    have hone : (epS l' (l'.length - 21)).2 = 1 := by
      by_cases hq : (epS l' (l'.length - 21)).2 = 1
      · exact hq
      · exfalso
        unfold endP at h1
        rw [endV_2 hq] at h1; omega
    have hpT : p = T := by
      unfold endP at h1
      rw [endV_1 hone] at h1
      have := hu.2 hone
      omega
    subst hpT
    have hpl := h.tl
    have hft := h.ft
    have n4 := hd.num2 p 4 hft (by omega)
    have n6 := hd.num2 p 6 hft (by omega)
    have n8 := hd.num2 p 8 hft (by omega)
    have n10 := hd.num2 p 10 hft (by omega)
    have n12 := hd.num4 p 12 hft (by omega)
    have n16 := hd.num4 p 16 hft (by omega)
    have he := h.ends
    have hends : endS l' = .ok ((F : Int), p, (N : Int)) := by
      rw [h3, ← he]
      rcases endS_P l with ⟨g1, g2⟩ | ⟨p2, g1, g2, g3⟩
      · rw [g2] at he; cases he
      · have hp2 : p2 = p := by
          rw [g3] at he
          split at he
          · cases he
          · injection he with he
            injection he with _ he
            injection he with he
        subst hp2
        rw [g3]
        rw [show ((p2 : Int) + (4 : Nat)) = (p2 : Int) + 4 from rfl] at n4
        rw [show ((p2 : Int) + (6 : Nat)) = (p2 : Int) + 6 from rfl] at n6
        rw [show ((p2 : Int) + (8 : Nat)) = (p2 : Int) + 8 from rfl] at n8
        rw [show ((p2 : Int) + (10 : Nat)) = (p2 : Int) + 10 from rfl] at n10
        rw [show ((p2 : Int) + (12 : Nat)) = (p2 : Int) + 12 from rfl] at n12
        rw [show ((p2 : Int) + (16 : Nat)) = (p2 : Int) + 16 from rfl] at n16
        rw [n4, n6, n8, n10, n12, n16]
    have hdT : Agr l l' F p := hd.cutR (Nat.le_refl _) (by omega)
    have hcen : cenS l' p N F [] = .ok ps := by rw [← hdT.cen N F [] (Nat.le_refl _) rfl]; exact h.cen
    have hloc : ∀ e ∈ ps.zip bs, hdL l' e.1 = hdL l e.1 ∧ pkL l' e.1 = pkL l e.1 ∧ locS l' F e.1 = some e.2 := fun e hem => by
      have hk := h.cenk.at_ e.1 (List.of_mem_zip hem).1
      exact agr_loc hdT hk.1 hk.2.1 (hent e hem) (locsS_at h.locs e hem)
    have hlocs : locsS l' F ps = some bs := locsS_congr F h.locs (fun e hem => (hloc e hem).2.2)
    have hov : ovS l' [] (ps.zip bs) = false := by
      rw [ovS_congr (l := l) _ [] (fun e hx => (by cases hx)) (fun e hem => ⟨(hloc e hem).1, (hloc e hem).2.1⟩)]; exact h.over
    refine ⟨?_, ?_⟩
    · unfold dirS
      rw [hends]
      simp only [Int.toNat_natCast]
      rw [hcen]
      simp only
      rw [hlocs]
      simp only
      rw [hov]; rfl
    · unfold recR
      have hrec : ∀ e ∈ ps.zip bs, recC l' e = recC l e := fun e hem => by
        have hk := h.cenk.at_ e.1 (List.of_mem_zip hem).1
        have hs := szL_ge l e.1
        unfold recC
        rw [(hloc e hem).1, (hloc e hem).2.1, ← hdT.nmT e.1 hk.1 hk.2.1]
        have m10 := hdT.num2 e.1 10 hk.1 (by omega)
        have m24 := hdT.num4 e.1 24 hk.1 (by omega)
        have m16 := hdT.num4 e.1 16 hk.1 (by omega)
        rw [show ((e.1 : Int) + (10 : Nat)) = (e.1 : Int) + 10 from rfl] at m10
        rw [show ((e.1 : Int) + (24 : Nat)) = (e.1 : Int) + 24 from rfl] at m24
        rw [show ((e.1 : Int) + (16 : Nat)) = (e.1 : Int) + 16 from rfl] at m16
        rw [m10, m24, m16]
      clear hov hlocs
      generalize ps.zip bs = es at *
      induction es with
      | nil => rfl
      | cons e es ih =>
        rw [List.flatMap_cons, List.flatMap_cons, hrec e (by simp), ih (fun x hx => hent x (by simp [hx])) (fun x hx => hloc x (by simp [hx])) (fun x hx => hrec x (by simp [hx]))]
end
end Go.Proofs.YtimojfkpcmphfaaDoor
