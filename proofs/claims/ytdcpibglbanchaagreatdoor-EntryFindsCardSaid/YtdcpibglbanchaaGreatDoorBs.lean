/- What stands behind the last block changes nothing, and what is cut off it is missed: pure lemmas. No condition; no program is named. Bytes that are laid in stored blocks come out as they were: pure lemmas. No condition; no program is named. -/
import Derived.Test.YtdcpibglbanchaaGreatDoorLl
set_option linter.unusedVariables false
set_option maxRecDepth 100000
namespace Go.Proofs.YtdcpibglbanchaaGreatDoor
open Go.RowKit

/-- two rows have the same first k bytes -/
structure Ag (l l' : List Int) (k : Nat) : Prop where
  le : k ≤ l.length
  le' : k ≤ l'.length
  same : l.take k = l'.take k
theorem Ag.get {l l' : List Int} {k : Nat} (h : Ag l l' k) {i : Nat} (hi : i < k) : l.getD i 0 = l'.getD i 0 := by
  have e := congrArg (fun x : List Int => x.getD i 0) h.same
  simpa [List.getD_eq_getElem?_getD, List.getElem?_take, hi] using e
theorem Ag.bt {l l' : List Int} {k : Nat} (h : Ag l l' k) {j : Nat} (hj : j < 8 * k) : bt l j = bt l' j := by
  unfold Go.Proofs.YtdcpibglbanchaaGreatDoor.bt
  rw [h.get (by omega)]
theorem Ag.tk {l l' : List Int} {k : Nat} (h : Ag l l' k) {p n : Nat} (hj : p + n ≤ 8 * k) : tk l p n = tk l' p n :=
  bsum_congr n fun i hi => h.bt (by omega)
theorem Ag.wd {l l' : List Int} {k : Nat} (h : Ag l l' k) {p : Nat} : ∀ {n : Nat}, p + n ≤ 8 * k → wd l p n = wd l' p n
  | 0, _ => rfl
  | n + 1, hj => by
    have e : Go.Proofs.YtdcpibglbanchaaGreatDoor.wd l p n = Go.Proofs.YtdcpibglbanchaaGreatDoor.wd l' p n := h.wd (by omega)
    simp only [Go.Proofs.YtdcpibglbanchaaGreatDoor.wd]
    rw [e, h.bt (by omega)]
theorem Ag.cut {l l' : List Int} {k : Nat} (h : Ag l l' k) {p q : Nat} (hj : q ≤ k) : cutOf l p q = cutOf l' p q := by
  have e : ∀ x : List Int, cutOf x p q = ((x.take k).drop p).take (q - p) := fun x => by
    unfold cutOf
    rw [List.drop_take, List.take_take]
    congr 1
    omega
  rw [e, e, h.same]
theorem Ag.some {l l' : List Int} {k : Nat} (h : Ag l l' k) {p n : Nat} (hj : p + 3 * n ≤ 8 * k) : someS l p n = someS l' p n := by
  unfold someS
  refine List.map_congr_left fun j _ => ?_
  by_cases hlt : tellO.idxOf j < n
  · rw [if_pos hlt, if_pos hlt, h.tk (by omega)]
  · rw [if_neg hlt, if_neg hlt]

/-- of rows that have the same first K bits: what x makes of the one y makes of the other, if it ends within them; where the other ends there, its bits end too early, if it doesn't -/
def Cx {α : Type} (S : Prop) (K M lo : Nat) (pos : α → Nat) (x y : Except Int α) : Prop := lo ≤ M → ∀ v, x = .ok v → lo ≤ pos v ∧ pos v ≤ M ∧ (pos v ≤ K → y = .ok v) ∧ (S → lo ≤ K → K < pos v → y = .error 2)
theorem Cx.bad {α : Type} {S : Prop} {K M lo : Nat} {pos : α → Nat} {e : Int} {y : Except Int α} : Cx S K M lo pos (.error e) y := fun _ v h => by cases h
theorem Cx.same {α : Type} {S : Prop} {K M lo : Nat} {pos : α → Nat} {x : Except Int α} (h : ∀ v, x = .ok v → pos v = lo) : Cx S K M lo pos x x := fun hlo v hv => by
  have := h v hv
  exact ⟨by omega, by omega, fun _ => hv, fun _ _ _ => by omega⟩
theorem Cx.bind {α β : Type} {S : Prop} {K M lo : Nat} {pos : α → Nat} {pos' : β → Nat} {x y : Except Int α} {f g : α → Except Int β} (h : Cx S K M lo pos x y)
    (hf : lo ≤ M → ∀ v, x = .ok v → pos v ≤ M → Cx S K M (pos v) pos' (f v) (g v)) : Cx S K M lo pos' (x >>= f) (y >>= g) := fun hlo w hw => by
  cases hx : x with
  | error e => rw [hx] at hw; cases hw
  | ok v =>
    obtain ⟨h1, h2, h3, h4⟩ := h hlo v hx
    have hw' : f v = .ok w := by rw [hx] at hw; exact hw
    obtain ⟨g1, g2, g3, g4⟩ := hf hlo v hx h2 h2 w hw'
    refine ⟨Nat.le_trans h1 g1, g2, fun hk => ?_, fun hS hl hk => ?_⟩
    · rw [h3 (Nat.le_trans g1 hk)]; exact g3 hk
    · by_cases hv : pos v ≤ K
      · rw [h3 hv]; exact g4 hS hv hk
      · rw [h4 hS hl (by omega)]; rfl
theorem Cx.from {α : Type} {S : Prop} {K M lo lo' : Nat} {pos : α → Nat} {x y : Except Int α} (h : Cx S K M lo' pos x y) (h1 : lo ≤ lo') (h2 : lo ≤ M → lo' ≤ M) (h3 : lo ≤ K → lo' ≤ K) : Cx S K M lo pos x y := fun hlo v hv => by
  obtain ⟨g1, g2, g3, g4⟩ := h (h2 hlo) v hv
  exact ⟨Nat.le_trans h1 g1, g2, g3, fun hS hl => g4 hS (h3 hl)⟩

section
variable {l l' : List Int} {k : Nat} (ag : Ag l l' k)
include ag
abbrev CxL {α : Type} (l l' : List Int) (k lo : Nat) (pos : α → Nat) (x y : Except Int α) : Prop := Cx (l'.length = k) (8 * k) (8 * l.length) lo pos x y
theorem take_cx (p n : Nat) : CxL l l' k p (fun v => v.2) (takeS l p n) (takeS l' p n) := fun hlo ⟨v, q⟩ hv => by
  obtain ⟨rfl, rfl, h⟩ := takeS_val hv
  refine ⟨by simp, h, fun hk => ?_, fun hS _ hk => ?_⟩
  · have := ag.le'
    simp only at hk
    rw [takeS_ok (by omega), ag.tk hk]
  · simp only at hk
    exact takeS_bad (by omega)
theorem nxR_cx (ns : List Nat) (p : Nat) : ∀ f n, p + n ≤ 8 * k → (nxR ns l p n f).2.1 = 0 → ((nxR ns l p n f).2.2 ≤ 8 * k → nxR ns l' p n f = nxR ns l p n f) ∧ (l'.length = k → 8 * k < (nxR ns l p n f).2.2 → (nxR ns l' p n f).2.1 = 2)
  | 0, n, hp, h => by rw [nxR_end] at h; cases h
  | f + 1, n, hp, h => by
    have hle := ag.le
    have hle' := ag.le'
    by_cases hk : p + n < 8 * k
    · have hw := ag.wd (p := p) (n := n + 1) (by omega)
      cases hl : plook ns (n + 1) (wd l p (n + 1)) with
      | some s =>
        rw [nxR_some ns l p n f s (by omega) hl, nxR_some ns l' p n f s (by omega) (by rw [← hw]; exact hl)]
        exact ⟨fun _ => rfl, fun _ hk' => by simp only at hk'; omega⟩
      | none =>
        rw [nxR_none ns l p n f (by omega) hl] at h ⊢
        rw [nxR_none ns l' p n f (by omega) (by rw [← hw]; exact hl)]
        exact nxR_cx ns p f (n + 1) (by omega) h
    · have hb := (nxR_bd ns l p (f + 1) n (by omega)).2.2.2 h
      refine ⟨fun hk' => by omega, fun hS _ => ?_⟩
      rw [nxR_short ns l' p n f (by omega)]
theorem nx_cx (ns : List Nat) (p : Nat) : CxL l l' k p (fun v => v.2) (nxS ns l p) (nxS ns l' p) := fun hlo ⟨v, q⟩ hv => by
  obtain ⟨_, h1, h2⟩ := nxS_ok hlo hv
  refine ⟨Nat.le_of_lt h1, h2, fun hk => ?_, fun hS hl hk => ?_⟩
  · simp only at hk
    unfold nxS at hv ⊢
    split at hv
    · rename_i h0
      injection hv with hv
      injection hv with hv1 hv2
      have e := (nxR_cx ag ns p (plong ns 15) 0 (by omega) h0).1 (by unfold nxt at hv2; omega)
      unfold nxt at h0 hv1 hv2 ⊢
      rw [e, if_pos h0, hv1, hv2]
    · cases hv
  · simp only at hk
    unfold nxS at hv ⊢
    split at hv
    · rename_i h0
      injection hv with hv
      injection hv with hv1 hv2
      have e := (nxR_cx ag ns p (plong ns 15) 0 (by omega) h0).2 hS (by unfold nxt at hv2; omega)
      unfold nxt at h0 hv1 hv2 ⊢
      rw [e, if_neg (by decide)]
    · cases hv
theorem len_cx (p : Nat) (s : Int) : CxL l l' k p (fun v => v.2) (lenS l p s) (lenS l' p s) := by
  unfold lenS
  by_cases h1 : 285 < s
  · rw [if_pos h1, if_pos h1]; exact Cx.bad
  · rw [if_neg h1, if_neg h1]
    by_cases h2 : s = 285
    · rw [if_pos h2, if_pos h2]; exact Cx.same fun v hv => by injection hv with hv; rw [← hv]
    · rw [if_neg h2, if_neg h2]
      refine (take_cx ag p _).bind fun _ v hv _ => ?_
      exact Cx.same fun w hw => by injection hw with hw; rw [← hw]
theorem dis_cx (ns : List Nat) (p : Nat) : CxL l l' k p (fun v => v.2) (disS ns l p) (disS ns l' p) := by
  unfold disS
  refine (nx_cx ag ns p).bind fun _ v hv _ => ?_
  obtain ⟨t, p1⟩ := v
  dsimp only
  by_cases h1 : 29 < t
  · rw [if_pos h1, if_pos h1]; exact Cx.bad
  · rw [if_neg h1, if_neg h1]
    refine (take_cx ag p1 _).bind fun _ v hv _ => ?_
    exact Cx.same fun w hw => by injection hw with hw; rw [← hw]
theorem sym_cx (nl nd : List Nat) (limit p : Nat) (out : List Int) : CxL l l' k p (fun v => v.1) (symS nl nd l limit p out) (symS nl nd l' limit p out) := by
  unfold symS
  refine (nx_cx ag nl p).bind fun _ v hv _ => ?_
  obtain ⟨s, p1⟩ := v
  dsimp only
  by_cases h1 : s = 256
  · rw [if_pos h1, if_pos h1]; exact Cx.same fun w hw => by injection hw with hw; rw [← hw]
  · rw [if_neg h1, if_neg h1]
    by_cases h2 : s < 256
    · rw [if_pos h2, if_pos h2]
      by_cases h3 : limit ≤ out.length
      · rw [if_pos h3]; exact Cx.bad
      · rw [if_neg h3]; exact Cx.same fun w hw => by injection hw with hw; rw [← hw]
    · rw [if_neg h2, if_neg h2]
      refine (len_cx ag p1 s).bind fun _ v hv _ => ?_
      obtain ⟨n, p2⟩ := v
      dsimp only
      refine (dis_cx ag nd p2).bind fun _ v hv _ => ?_
      obtain ⟨far, p3⟩ := v
      dsimp only
      by_cases h3 : (out.length : Int) < far
      · rw [if_pos h3]; exact Cx.bad
      · rw [if_neg h3]
        by_cases h4 : (limit : Int) - out.length < n
        · rw [if_pos h4]; exact Cx.bad
        · rw [if_neg h4]; exact Cx.same fun w hw => by injection hw with hw; rw [← hw]
omit ag in
theorem symsS_bind (nl nd : List Nat) (l : List Int) (limit f p : Nat) (out : List Int) : symsS nl nd l limit (f + 1) p out = (symS nl nd l limit p out >>= fun x => match x.2 with | none => .ok (x.1, out) | some o => symsS nl nd l limit f x.1 o) := by
  rw [symsS]
  cases symS nl nd l limit p out with
  | error e => rfl
  | ok x => obtain ⟨q, r⟩ := x; cases r <;> rfl
theorem syms_cx (nl nd : List Nat) (limit : Nat) : ∀ (f f' p : Nat) (out : List Int), 8 * k + 1 - p ≤ f' → CxL l l' k p (fun v => v.1) (symsS nl nd l limit f p out) (symsS nl nd l' limit f' p out)
  | 0, f', p, out, hf => Cx.bad
  | f + 1, f', p, out, hf => by
    by_cases hp : p ≤ 8 * k
    · obtain ⟨f', rfl⟩ : ∃ g, f' = g + 1 := ⟨f' - 1, by omega⟩
      rw [symsS_bind, symsS_bind]
      refine (sym_cx ag nl nd limit p out).bind fun hlo v hv hq => ?_
      obtain ⟨q, r⟩ := v
      have := (symS_le hlo hv).1
      cases r with
      | none => exact Cx.same fun w hw => by injection hw with hw; rw [← hw]
      | some o => exact syms_cx nl nd limit f f' q o (by omega)
    · intro hlo ⟨q, o⟩ hv
      have := symsS_le _ _ _ hlo hv
      exact ⟨by simp; omega, this.2, fun hk => by simp at hk; omega, fun _ h => by omega⟩
theorem step_cx (ns : List Nat) (n p : Nat) (row : List Int) : CxL l l' k p (fun v => v.1) (lenStep ns l n p row) (lenStep ns l' n p row) := by
  unfold lenStep
  refine (nx_cx ag ns p).bind fun _ v hv _ => ?_
  obtain ⟨s, p1⟩ := v
  dsimp only
  refine Cx.bind (pos := fun _ => p1) (Cx.same fun _ _ => rfl) fun _ v hv _ => ?_
  obtain ⟨a, least, width⟩ := v
  dsimp only
  refine (take_cx ag p1 width).bind fun _ v hv _ => ?_
  obtain ⟨more, p2⟩ := v
  dsimp only
  by_cases h3 : (n : Int) - row.length < least + more
  · rw [if_pos h3]; exact Cx.bad
  · rw [if_neg h3]; exact Cx.same fun w hw => by injection hw with hw; rw [← hw]
omit ag in
theorem lensS_bind (ns : List Nat) (l : List Int) (n f p : Nat) (row : List Int) : lensS ns l n (f + 1) p row = if row.length < n then (lenStep ns l n p row >>= fun x => lensS ns l n f x.1 x.2) else .ok (p, row) := by
  rw [lensS]
  by_cases h : row.length < n
  · rw [if_pos h, if_pos h]
    cases lenStep ns l n p row with
    | error e => rfl
    | ok x => obtain ⟨q, r⟩ := x; rfl
  · rw [if_neg h, if_neg h]
theorem lens_cx (ns : List Nat) (n : Nat) : ∀ (f p : Nat) (row : List Int), CxL l l' k p (fun v => v.1) (lensS ns l n f p row) (lensS ns l' n f p row)
  | 0, p, row => Cx.bad
  | f + 1, p, row => by
    rw [lensS_bind, lensS_bind]
    by_cases h : row.length < n
    · rw [if_pos h, if_pos h]
      exact (step_cx ag ns n p row).bind fun _ v _ _ => lens_cx ns n f v.1 v.2
    · rw [if_neg h, if_neg h]; exact Cx.same fun w hw => by injection hw with hw; rw [← hw]
theorem told_cx (p : Nat) : CxL l l' k p (fun v => v.1) (toldS l p) (toldS l' p) := by
  unfold toldS
  refine (take_cx ag p 5).bind fun _ v hv _ => ?_
  obtain ⟨a, p1⟩ := v
  dsimp only
  refine (take_cx ag p1 5).bind fun _ v hv _ => ?_
  obtain ⟨b, p2⟩ := v
  dsimp only
  refine (take_cx ag p2 4).bind fun _ v hv _ => ?_
  obtain ⟨c, p3⟩ := v
  dsimp only
  by_cases h3 : 286 < a + 257 ∨ 30 < b + 1
  · rw [if_pos h3, if_pos h3]; exact Cx.bad
  · rw [if_neg h3, if_neg h3]
    refine (take_cx ag p3 _).bind fun _ v hv _ => ?_
    obtain ⟨d, p4⟩ := v
    obtain ⟨_, rfl, _⟩ := takeS_val hv
    dsimp only
    refine Cx.bind (pos := fun _ => p3 + 3 * (c.toNat + 4)) (y := codeS (someS l' p3 (c.toNat + 4)) false) ?_ fun _ ns hns _ => ?_
    · intro hlo v hv
      exact ⟨Nat.le_refl _, hlo, fun hk => by rw [← ag.some hk]; exact hv, fun _ h1 h2 => by dsimp only at h1 h2; omega⟩
    · refine (lens_cx ag ns _ _ _ _).bind fun _ v hv _ => ?_
      obtain ⟨p5, row⟩ := v
      dsimp only
      by_cases h5 : row.getD 256 0 = 0
      · rw [if_pos h5]; exact Cx.bad
      · rw [if_neg h5]
        refine Cx.bind (pos := fun _ => p5) (Cx.same fun _ _ => rfl) fun _ nl _ _ => ?_
        refine Cx.bind (pos := fun _ => p5) (Cx.same fun _ _ => rfl) fun _ nd _ _ => ?_
        exact Cx.same fun w hw => by injection hw with hw; rw [← hw]
theorem stored_cx (limit q : Nat) (out : List Int) : CxL l l' k (8 * q) (fun v => v.1) (storedS l limit q out) (storedS l' limit q out) := by
  unfold storedS
  refine (take_cx ag (8 * q) 16).bind fun _ v hv _ => ?_
  obtain ⟨n, p1⟩ := v
  obtain ⟨_, hp1, _⟩ := takeS_val hv
  dsimp only
  refine (take_cx ag p1 16).bind fun _ v hv _ => ?_
  obtain ⟨m, p2⟩ := v
  obtain ⟨_, hp2, _⟩ := takeS_val hv
  dsimp only
  by_cases h1 : n + m ≠ 65535
  · rw [if_pos h1]; exact Cx.bad
  · rw [if_neg h1, if_neg h1]
    by_cases h2 : (limit : Int) - out.length < n
    · rw [if_pos h2]; exact Cx.bad
    · rw [if_neg h2, if_neg h2]
      by_cases h3 : l.length < q + 4 + n.toNat
      · rw [if_pos h3]; exact Cx.bad
      · rw [if_neg h3]
        intro hlo v hv
        injection hv with hv
        subst hv
        have hle := ag.le
        have hle' := ag.le'
        refine ⟨by simp only; omega, by simp only; omega, fun hk => ?_, fun hS _ hk => ?_⟩
        · simp only at hk
          rw [if_neg (by omega), ag.cut (by omega)]
        · simp only at hk
          rw [if_pos (by omega)]
theorem block_cx (limit p : Nat) (out : List Int) : CxL l l' k p (fun v => v.2.1) (blockS l limit p out) (blockS l' limit p out) := by
  have hle := ag.le
  have hle' := ag.le'
  unfold blockS
  refine (take_cx ag p 1).bind fun _ v hv _ => ?_
  obtain ⟨last, p1⟩ := v
  dsimp only
  refine (take_cx ag p1 2).bind fun _ v hv _ => ?_
  obtain ⟨kind, p2⟩ := v
  dsimp only
  by_cases h0 : kind = 0
  · rw [if_pos h0, if_pos h0]
    refine Cx.bind (pos := fun v => v.1) ((stored_cx ag limit ((p2 + 7) / 8) out).from (by omega) (by omega) (by omega)) fun _ v _ _ => ?_
    exact Cx.same fun w hw => by injection hw with hw; rw [← hw]
  · rw [if_neg h0, if_neg h0]
    by_cases h1 : kind = 1
    · rw [if_pos h1, if_pos h1]
      refine (syms_cx ag _ _ limit _ _ p2 out (by omega)).bind fun _ v _ _ => ?_
      exact Cx.same fun w hw => by injection hw with hw; rw [← hw]
    · rw [if_neg h1, if_neg h1]
      by_cases h2 : kind = 2
      · rw [if_pos h2, if_pos h2]
        refine (told_cx ag p2).bind fun _ v _ _ => ?_
        obtain ⟨p3, nl, nd⟩ := v
        dsimp only
        refine (syms_cx ag _ _ limit _ _ p3 out (by omega)).bind fun _ v _ _ => ?_
        exact Cx.same fun w hw => by injection hw with hw; rw [← hw]
      · rw [if_neg h2]; exact Cx.bad
omit ag in
theorem blocksS_bind (l : List Int) (limit f p : Nat) (out : List Int) : blocksS l limit (f + 1) p out = (blockS l limit p out >>= fun x => if x.1 then .ok (x.2.2, (x.2.1 + 7) / 8) else blocksS l limit f x.2.1 x.2.2) := by
  rw [blocksS]
  cases blockS l limit p out with
  | error e => rfl
  | ok x => obtain ⟨b, q, o⟩ := x; cases b <;> rfl
omit ag in
theorem blocksS_pos {l : List Int} {limit : Nat} : ∀ (f p : Nat) (out : List Int) {o : List Int} {n : Nat}, p ≤ 8 * l.length → blocksS l limit f p out = .ok (o, n) → p < 8 * n ∧ n ≤ l.length
  | 0, p, out, o, n, hp, h => by cases h
  | f + 1, p, out, o, n, hp, h => by
    rw [blocksS] at h
    cases hb : blockS l limit p out with
    | error e => rw [hb] at h; cases h
    | ok x =>
      obtain ⟨b, q, oo⟩ := x
      have h1 := blockS_le hp hb
      have h2 : q ≤ 8 * l.length := by
        have := (block_cx (l := l) (l' := l) (k := l.length) ⟨Nat.le_refl _, Nat.le_refl _, rfl⟩ limit p out hp _ hb).2.1
        exact this
      rw [hb] at h
      cases b with
      | true => injection h with h; injection h with _ h; omega
      | false =>
        have := blocksS_pos f q oo h2 h
        omega
theorem blocks_cx (limit : Nat) : ∀ (f f' p : Nat) (out : List Int), 8 * k + 1 - p ≤ f' → CxL l l' k p (fun v => 8 * v.2) (blocksS l limit f p out) (blocksS l' limit f' p out)
  | 0, f', p, out, hf => Cx.bad
  | f + 1, f', p, out, hf => by
    by_cases hp : p ≤ 8 * k
    · obtain ⟨f', rfl⟩ : ∃ g, f' = g + 1 := ⟨f' - 1, by omega⟩
      rw [blocksS_bind, blocksS_bind]
      refine (block_cx ag limit p out).bind fun hlo v hv hq => ?_
      obtain ⟨b, q, o⟩ := v
      have := blockS_le hlo hv
      cases b with
      | true =>
        intro hlo' w hw
        injection hw with hw
        subst hw
        dsimp only at hlo' ⊢
        exact ⟨by omega, by omega, fun _ => rfl, fun _ h1 h2 => by omega⟩
      | false => exact blocks_cx limit f f' q o (by omega)
    · have hle := ag.le
      intro hlo ⟨o, n⟩ hw
      have := blocksS_pos (f + 1) p out hlo hw
      exact ⟨by dsimp only; omega, by dsimp only; omega, fun hk => by dsimp only at hk; omega, fun _ h => by omega⟩
end
/-- what stands behind the last block changes nothing -/
theorem inflS_behind {l l' : List Int} {limit : Int} {o : List Int} {n : Nat} (ag : Ag l l' n) (h : inflS l limit = .ok (o, n)) : inflS l' limit = .ok (o, n) := by
  have hle' := ag.le'
  unfold inflS at h ⊢
  split at h
  · cases h
  · rename_i hl
    rw [if_neg hl]
    exact (blocks_cx ag limit.toNat _ (8 * l'.length + 1) 0 [] (by omega) (Nat.zero_le _) _ h).2.2.1 (Nat.le_refl _)
/-- what is cut off it is missed -/
theorem inflS_cut {l : List Int} {limit : Int} {o : List Int} {n m : Nat} (h : inflS l limit = .ok (o, n)) (hm : m < n) : inflS (l.take m) limit = .error 2 := by
  unfold inflS at h ⊢
  split at h
  · cases h
  · rename_i hl
    rw [if_neg hl]
    have hn := (blocksS_pos _ _ _ (Nat.zero_le _) h).2
    have hlen : (l.take m).length = m := by rw [List.length_take]; omega
    have ag : Ag l (l.take m) m := ⟨by omega, by omega, by rw [List.take_take, Nat.min_self]⟩
    exact (blocks_cx ag limit.toNat _ (8 * (l.take m).length + 1) 0 [] (by omega) (Nat.zero_le _) _ h).2.2.2 hlen (Nat.zero_le _) (by dsimp only; omega)
/-- as many bytes are used as there are, and one at least -/
theorem inflS_used {l : List Int} {limit : Int} {o : List Int} {n : Nat} (h : inflS l limit = .ok (o, n)) : 1 ≤ n ∧ n ≤ l.length := by
  unfold inflS at h
  split at h
  · cases h
  · have := blocksS_pos _ _ _ (Nat.zero_le _) h
    omega
end Go.Proofs.YtdcpibglbanchaaGreatDoor

set_option linter.unusedVariables false
set_option maxRecDepth 100000
namespace Go.Proofs.YtdcpibglbanchaaGreatDoor
open Go.RowKit

/-- a stored block that isn't the last -/
def blk (p : List Int) : List Int := [0, (p.length : Int) % 256, (p.length : Int) / 256, 255 - (p.length : Int) % 256, 255 - (p.length : Int) / 256] ++ p
theorem blk_len (p : List Int) : (blk p).length = 5 + p.length := by simp [blk]; omega
def endB : List Int := [1, 0, 0, 255, 255]
theorem bitAt_0 (i : Nat) : bitAt 0 i = 0 := by simp [bitAt]
theorem tk_at1 (l : List Int) (q : Nat) : tk l (8 * q) 1 = bitAt (l.getD q 0) 0 := by
  rw [tk_succ, tk_zero, Nat.add_zero, show 8 * q = 8 * q + 0 from rfl, bt_at _ _ _ (by decide)]; simp
theorem tk_at2 (l : List Int) (q : Nat) : tk l (8 * q + 1) 2 = bitAt (l.getD q 0) 1 + bitAt (l.getD q 0) 2 * 2 := by
  rw [tk_succ, tk_succ, tk_zero, Nat.add_zero, bt_at _ _ _ (by decide), Nat.add_assoc, bt_at _ _ _ (by decide)]; simp
theorem tk_16 (l : List Int) (h : Bytes l) (q : Nat) : tk l (8 * q) 16 = l.getD q 0 + l.getD (q + 1) 0 * 256 := by
  have h1 := tk_byte l h q 1
  have h2 := tk_byte l h q 0
  rw [show 8 * (0 + 1) = 8 from rfl, show 8 * 0 = 0 from rfl, tk_zero, Nat.add_zero] at h2
  rw [show 8 * (1 + 1) = 16 from rfl, show 8 * 1 = 8 from rfl, h2] at h1
  rw [h1]
  simp
theorem storedS_val {l : List Int} (hby : Bytes l) {q n : Nat} {limit : Nat} {out p : List Int} (hlen : q + 4 + n ≤ l.length) (h0 : l.getD q 0 + l.getD (q + 1) 0 * 256 = n) (h1 : l.getD (q + 2) 0 + l.getD (q + 3) 0 * 256 = 65535 - n) (hp : cutOf l (q + 4) (q + 4 + n) = p) :
    storedS l limit q out = if (limit : Int) - out.length < n then .error 8 else .ok (8 * (q + 4 + n), out ++ p) := by
  have e0 := tk_16 l hby q
  have e1 := tk_16 l hby (q + 2)
  rw [h0] at e0
  rw [h1, show 8 * (q + 2) = 8 * q + 16 by omega] at e1
  unfold storedS
  rw [takeS_ok (by omega), e0]
  dsimp only [bind, Except.bind]
  rw [takeS_ok (by omega), e1]
  dsimp only
  rw [if_neg (by omega), Int.toNat_natCast]
  by_cases h8 : (limit : Int) - out.length < n
  · rw [if_pos h8, if_pos h8]
  · rw [if_neg h8, if_neg h8, if_neg (by omega), hp]
theorem blockS_val {l : List Int} (hby : Bytes l) {q n : Nat} {limit : Nat} {out p : List Int} {b : Bool} (hlen : q + 5 + n ≤ l.length) (hb : l.getD q 0 = if b then 1 else 0) (h0 : l.getD (q + 1) 0 + l.getD (q + 2) 0 * 256 = n) (h1 : l.getD (q + 3) 0 + l.getD (q + 4) 0 * 256 = 65535 - n) (hp : cutOf l (q + 5) (q + 5 + n) = p) :
    blockS l limit (8 * q) out = if (limit : Int) - out.length < n then .error 8 else .ok (b, 8 * (q + 5 + n), out ++ p) := by
  have e0 : tk l (8 * q) 1 = if b then 1 else 0 := by rw [tk_at1, hb]; cases b <;> simp [bitAt]
  have e1 : tk l (8 * q + 1) 2 = 0 := by rw [tk_at2, hb]; cases b <;> simp [bitAt]
  have hs := storedS_val hby (q := q + 1) (n := n) (limit := limit) (out := out) (p := p) (by omega) h0 h1 (by rw [show q + 1 + 4 = q + 5 by omega]; exact hp)
  unfold blockS
  rw [takeS_ok (by omega), e0]
  dsimp only [bind, Except.bind]
  rw [takeS_ok (by omega), e1]
  dsimp only
  rw [if_pos rfl, show (8 * q + 1 + 2 + 7) / 8 = q + 1 by omega, hs]
  by_cases h8 : (limit : Int) - out.length < n
  · rw [if_pos h8, if_pos h8]
  · rw [if_neg h8, if_neg h8]
    dsimp only
    rw [show q + 1 + 4 + n = q + 5 + n by omega]
    cases b <;> rfl
theorem getD_mid (a b c : List Int) (i : Nat) (h : i < b.length) : (a ++ (b ++ c)).getD (a.length + i) 0 = b.getD i 0 := by
  simp only [List.getD_eq_getElem?_getD]
  rw [List.getElem?_append_right (by omega), Nat.add_sub_cancel_left, List.getElem?_append_left h]
theorem cut_mid (a b c : List Int) (k n : Nat) (h : k + n = b.length) : cutOf (a ++ (b ++ c)) (a.length + k) (a.length + k + n) = b.drop k := by
  unfold cutOf
  have e : (a ++ (b ++ c)).drop (a.length + k) = b.drop k ++ c := by
    rw [List.drop_append, List.drop_eq_nil_of_le (by omega), List.nil_append, Nat.add_sub_cancel_left, List.drop_append_of_le_length (by omega)]
  rw [Nat.add_sub_cancel_left, e, List.take_append_of_le_length (by simp; omega), List.take_of_length_le (by simp; omega)]
/-- blocks behind blocks -/
theorem blocks_stored {limit : Nat} : ∀ (ps : List (List Int)) (pre out : List Int) (f : Nat), (∀ p ∈ ps, p.length ≤ 65535 ∧ Bytes p) → Bytes pre → ps.length + 1 ≤ f → out.length ≤ limit →
    blocksS (pre ++ ((ps.map blk).flatten ++ endB)) limit f (8 * pre.length) out = if out.length + ps.flatten.length ≤ limit then .ok (out ++ ps.flatten, (pre ++ ((ps.map blk).flatten ++ endB)).length) else .error 8
  | ps, pre, out, 0, hps, hpre, hf, ho => by omega
  | [], pre, out, f + 1, hps, hpre, hf, ho => by
    have hby : Bytes (pre ++ (endB ++ [])) := hpre.app ((show Bytes endB from fun n hn => by
      have := List.all_eq_true.1 (show (endB.all fun n => decide (0 ≤ n) && decide (n ≤ 255)) = true by rfl) n hn
      simpa using this).app Bytes.nil)
    have hg := fun i hi => getD_mid pre endB [] i hi
    have hl : (pre ++ (endB ++ [])).length = pre.length + 5 := by simp [endB]
    have hb := blockS_val (l := pre ++ (endB ++ [])) hby (q := pre.length) (n := 0) (limit := limit) (out := out) (p := []) (b := true) (by omega) (by rw [show pre.length = pre.length + 0 from rfl, hg 0 (by decide)]; rfl)
      (by rw [hg 1 (by decide), hg 2 (by decide)]; rfl) (by rw [hg 3 (by decide), hg 4 (by decide)]; rfl) (by rw [cut_mid _ _ _ _ _ (by rfl)]; rfl)
    simp only [List.map_nil, List.flatten_nil, List.nil_append]
    rw [List.append_nil] at hb hl
    rw [blocksS, hb, if_neg (by omega)]
    dsimp only
    rw [if_pos (by simpa using ho), hl]
    congr 3
    omega
  | p :: ps, pre, out, f + 1, hps, hpre, hf, ho => by
    obtain ⟨hp, hpb⟩ := hps p (by simp)
    have hbb : Bytes (blk p) := by
      refine Bytes.app (fun n hn => ?_) hpb
      simp only [List.mem_cons, List.not_mem_nil, or_false] at hn
      omega
    have hrest : Bytes ((ps.map blk).flatten ++ endB) := by
      refine Bytes.app (fun n hn => ?_) (fun n hn => by
        have := List.all_eq_true.1 (show (endB.all fun n => decide (0 ≤ n) && decide (n ≤ 255)) = true by rfl) n hn
        simpa using this)
      obtain ⟨x, hx, hnx⟩ := List.mem_flatten.1 hn
      obtain ⟨y, hy, rfl⟩ := List.mem_map.1 hx
      obtain ⟨h1, h2⟩ := hps y (by simp [hy])
      refine Bytes.app (fun n hn => ?_) h2 n hnx
      simp only [List.mem_cons, List.not_mem_nil, or_false] at hn
      omega
    obtain ⟨R, hR⟩ : ∃ R, (ps.map blk).flatten ++ endB = R := ⟨_, rfl⟩
    have hby : Bytes (pre ++ (blk p ++ R)) := hpre.app (hbb.app (hR ▸ hrest))
    have hg := fun i hi => getD_mid pre (blk p) R i hi
    have hbl := blk_len p
    have hl : (pre ++ (blk p ++ R)).length = pre.length + 5 + p.length + R.length := by simp [hbl]; omega
    have hb := blockS_val (l := pre ++ (blk p ++ R)) hby (q := pre.length) (n := p.length) (limit := limit) (out := out) (p := p) (b := false) (by omega) (by rw [show pre.length = pre.length + 0 from rfl, hg 0 (by omega)]; rfl)
      (by rw [hg 1 (by omega), hg 2 (by omega)]; show (p.length : Int) % 256 + (p.length : Int) / 256 * 256 = _; omega) (by rw [hg 3 (by omega), hg 4 (by omega)]; show 255 - (p.length : Int) % 256 + (255 - (p.length : Int) / 256) * 256 = _; omega) (by rw [cut_mid _ _ _ _ _ (by omega)]; rfl)
    have e : pre ++ (((p :: ps).map blk).flatten ++ endB) = pre ++ (blk p ++ R) := by rw [← hR]; simp
    rw [e, blocksS, hb]
    have hfl : (p :: ps).flatten.length = p.length + ps.flatten.length := by simp
    by_cases h8 : (limit : Int) - out.length < (p.length : Nat)
    · rw [if_pos h8]
      dsimp only
      rw [if_neg (by omega)]
    · rw [if_neg h8]
      dsimp only
      have ih := blocks_stored (limit := limit) ps (pre ++ blk p) (out ++ p) f (fun x hx => hps x (by simp [hx])) (hpre.app hbb) (by rw [List.length_cons] at hf; omega) (by rw [List.length_append]; omega)
      rw [hR, show (pre ++ blk p).length = pre.length + 5 + p.length by simp [hbl]; omega, List.append_assoc, List.append_assoc] at ih
      rw [ih]
      have e2 : (out ++ p).length + ps.flatten.length = out.length + (p :: ps).flatten.length := by rw [hfl]; simp; omega
      rw [e2]
      by_cases hle : out.length + (p :: ps).flatten.length ≤ limit
      · rw [if_pos hle, if_pos hle]
        simp
      · rw [if_neg hle, if_neg hle]
/-- stored blocks, unpacked -/
theorem inflS_stored (ps : List (List Int)) (hps : ∀ p ∈ ps, p.length ≤ 65535 ∧ Bytes p) {limit : Nat} (hl : limit ≤ 32768) :
    inflS ((ps.map blk).flatten ++ endB) limit = if ps.flatten.length ≤ limit then .ok (ps.flatten, ((ps.map blk).flatten ++ endB).length) else .error 8 := by
  unfold inflS
  rw [if_neg (by omega), Int.toNat_natCast]
  have hlen : ∀ qs : List (List Int), qs.length ≤ (qs.map blk).flatten.length := fun qs => by
    induction qs with
    | nil => simp
    | cons q qs ih => simp only [List.map_cons, List.flatten_cons, List.length_append, List.length_cons, blk_len]; omega
  have := blocks_stored (limit := limit) ps [] [] (8 * ((ps.map blk).flatten ++ endB).length + 1) hps Bytes.nil (by have := hlen ps; simp only [List.length_append]; omega) (Nat.zero_le _)
  simpa using this
end Go.Proofs.YtdcpibglbanchaaGreatDoor
