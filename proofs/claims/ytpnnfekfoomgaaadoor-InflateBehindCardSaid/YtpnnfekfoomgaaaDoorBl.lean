/- A block of whatever kind: contract of block. Condition: the order of the lengths lies where the program's own text lays it. -/
import Derived.Test.YtpnnfekfoomgaaaDoorFp
set_option linter.unusedVariables false
set_option maxRecDepth 100000
namespace Go.Proofs.YtpnnfekfoomgaaaDoor
open Go.RowKit

/-- what follows a block's head -/
def blockC (l : List Int) (limit p : Nat) (out : List Int) (last : Bool) (kind : Int) : Except Int (Bool × Nat × List Int) :=
  match (if kind = 0 then storedS l limit ((p + 7) / 8) out else if kind = 1 then symsS (nsOf fixL) (nsOf fixD) l limit (8 * l.length + 1 - p) p out else if kind = 2 then toldB l limit p out else .error 3) with
  | .error e => .error e
  | .ok (p3, o) => .ok (last, p3, o)
theorem blockS_bad {l : List Int} {limit p : Nat} {out : List Int} {er : Int} (h : takesS l p [1, 2] = .error er) : blockS l limit p out = .error er := by
  unfold blockS
  unfold takesS takesS takesS at h
  cases h1 : takeS l p 1 with
  | error e => rw [h1] at h; simp only at h; injection h with h; subst h; rfl
  | ok x =>
    obtain ⟨v, p1⟩ := x
    rw [h1] at h
    simp only at h
    simp only [bind, Except.bind]
    cases h2 : takeS l p1 2 with
    | error e => rw [h2] at h; simp only at h; injection h with h; subst h; rfl
    | ok y => obtain ⟨v2, p2⟩ := y; rw [h2] at h; simp only at h; cases h
theorem blockS_ok {l : List Int} {limit p : Nat} {out : List Int} {vs : List Int} {p' : Nat} (h : takesS l p [1, 2] = .ok (vs, p')) : blockS l limit p out = blockC l limit (p + 1 + 2) out (tk l p 1 == 1) (tk l (p + 1) 2) := by
  obtain ⟨_, _, _, h1, h2⟩ := takesS_two h
  unfold blockS blockC
  rw [h1]
  simp only [bind, Except.bind]
  rw [h2]
  simp only
  by_cases k0 : tk l (p + 1) 2 = 0
  · rw [if_pos k0, if_pos k0]
    cases storedS l limit ((p + 1 + 2 + 7) / 8) out with
    | error e => rfl
    | ok x => rfl
  · rw [if_neg k0, if_neg k0]
    by_cases k1 : tk l (p + 1) 2 = 1
    · rw [if_pos k1, if_pos k1]
      cases symsS (nsOf fixL) (nsOf fixD) l limit (8 * l.length + 1 - (p + 1 + 2)) (p + 1 + 2) out with
      | error e => rfl
      | ok x => rfl
    · rw [if_neg k1, if_neg k1]
      by_cases k2 : tk l (p + 1) 2 = 2
      · rw [if_pos k2, if_pos k2]
        unfold toldB
        cases toldS l (p + 1 + 2) with
        | error e => rfl
        | ok x =>
          obtain ⟨p3, nl, nd⟩ := x
          simp only
          cases symsS nl nd l limit (8 * l.length + 1 - p3) p3 out with
          | error e => rfl
          | ok y => rfl
      · rw [if_neg k2, if_neg k2]
section
variable {w : World} {gu gr : Nat} {l : List Int} {limit : Nat} {fl fd : Option Addr} {p : Nat} {out : List Int} {o : Option Addr × Nat}
theorem Fxd.step {w' : World} {F : Nat → Prop} (h : Fxd w F fl fd) (hF : Aside w gu gr out o F) {out' : List Int} {o' : Option Addr × Nat} (s : Stp gu gr w out o w' out' o') : Fxd w' F fl fd := by
  rcases h with h | ⟨g1, g2, h1, h2, h3, h4⟩
  · exact .inl h
  · exact .inr ⟨g1, g2, h1, h2, h3.keep (hF.blk s), h4.keep (hF.blk s)⟩
theorem unFixed {F : Nat → Prop} (hF : Aside w gu gr out o F) (hfx : Fxd w F fl fd) (h : Un w gu gr l limit fl fd p out o) :
    Calls Tryd.prog 37 #[.pointer (some ⟨gu, 0, none⟩)] w (Fixes w gu gr l limit p out o) := by
  rcases hfx with ⟨rfl, rfl⟩ | ⟨g1, g2, rfl, rfl, h1, h2⟩
  · exact unFixedNone h
  · exact unFixedHad hF h1 h2 h
/-- what block answers -/
def Bls (w : World) (gu gr : Nat) (l : List Int) (limit : Nat) (out : List Int) (o : Option Addr × Nat) (s : Except Int (Bool × Nat × List Int)) (e : Ending) (w' : World) : Prop :=
  ∃ out' o', Stp gu gr w out o w' out' o' ∧ ((∃ last p' fl' fd' F', s = .ok (last, p', out') ∧ e = .returned (.tuple #[.bool last, .int .i64 0]) ∧ Un w' gu gr l limit fl' fd' p' out' o' ∧ Aside w' gu gr out' o' F' ∧ Fxd w' F' fl' fd') ∨ (∃ er b, s = .error er ∧ er ≠ 0 ∧ e = .returned (.tuple #[.bool b, .int .i64 er])))
set_option maxHeartbeats 8000000 in
theorem unBlock {F : Nat → Prop} (hord : Ord w) (hg0 : gr ≠ 0) (hF : Aside w gu gr out o F) (hfx : Fxd w F fl fd) (h : Un w gu gr l limit fl fd p out o) :
    Calls Tryd.prog 20 #[.pointer (some ⟨gu, 0, none⟩)] w (Bls w gu gr l limit out o (blockS l limit p out)) := by
  have hgu := blk_lt h.blk
  have hgr := h.under
  have hb1 := (Below.refl w.heap.size w).alloc (Nat.le_refl _) (.cells #[.int .i64 1, .int .i64 2] 3)
  have hU1 := h.below hb1
  have hints := lit_ints' w 3 [1, 2] (by decide)
  have htake := unTake (ws := [1, 2]) (a := some ⟨w.heap.size, 0, none⟩) (n := 2) (c := 2) hU1 rfl (by decide) (by decide) hints (by intro b off e; injection e with e; injection e with e; omega)
  have hsz : (w.alloc (.cells #[.int .i64 1, .int .i64 2] 3)).heap.size = w.heap.size + 1 := by simp
  have HW := Lib.hid (And.intro h (And.intro hord (And.intro (below_only (g := gr) hb1) (And.intro hsz (And.intro hF hfx)))))
  clear hb1 hU1 hints hsz h hord hF hfx
  go_enter Tryd.func20, Tryd.ntmps20
  go_wp2_with fail
  refine htake.mono ?_
  rintro e w2 ⟨ho2, ⟨vs, p2, hv, hvl, rfl, hblk, hU⟩ | ⟨er, hv, hne, rfl⟩⟩
  · have hs := blockS_ok (limit := limit) (out := out) hv
    obtain ⟨hvs, hp2, hpl, _, _⟩ := takesS_two hv
    subst hvs hp2
    have hb0 := tk_bd l p 1
    have hb1 := tk_bd l (p + 1) 2
    rw [show (2 : Int) ^ 1 = 2 by decide] at hb0
    rw [show (2 : Int) ^ 2 = 4 by decide] at hb1
    have hblk' : w2.heap[w.heap.size + 1]? = some (.cells (arrN 2 fun i => [tk l p 1, tk l (p + 1) 2].getD i 0) 3 (0, 0)) := by rw [HW.out.2.2.2.1] at hblk; exact hblk
    have k1 : w2.cell? ⟨w.heap.size + 1, 1, none⟩ = some (.int .i64 (tk l (p + 1) 2)) := by rw [blk_cell hblk', arrN_get _ _ (by decide)]; rfl
    have hO2 := only_trans HW.out.2.2.1 ho2
    have hS2 : Stp gu gr w out o w2 out o := stp_only hO2
    have hA2 := HW.out.2.2.2.2.1.step hS2
    have hF2 := HW.out.2.2.2.2.2.step HW.out.2.2.2.2.1 hS2
    -- the head's row stays
    have hkeep : ∀ (w' : World) (out' : List Int) (o' : Option Addr × Nat), Stp gu gr w2 out o w' out' o' → w'.cell? ⟨w.heap.size + 1, 0, none⟩ = some (.int .i64 (tk l p 1)) := fun w' out' o' hst => by
      have hq : w'.heap[w.heap.size + 1]? = w2.heap[w.heap.size + 1]? := hst.foot.block _ (blk_lt hblk') fun hq => by
        rcases hq with q | q | q
        · omega
        · omega
        · have := (HW.out.1.row.lt _ q).2; omega
      rw [blk_cell (hq.trans hblk'), arrN_get _ _ (by decide)]; rfl
    obtain ⟨L, hL⟩ := Int.eq_ofNat_of_zero_le hb0.1
    obtain ⟨K, hK⟩ := Int.eq_ofNat_of_zero_le hb1.1
    rw [hL] at hkeep hs
    rw [hK] at k1 hs hb1
    have hlast : ((L : Int) == 1) = (tk l p 1 == 1) := by rw [hL]
    have HX := Lib.hid (And.intro hs (And.intro hU (And.intro hS2 (And.intro hA2 (And.intro hF2 (And.intro hkeep (HW.out.2.1.only hO2 hg0)))))))
    clear htake hv hvl hblk hblk' hU ho2 hO2 hS2 hA2 hF2 hkeep hL hK hs hlast hb0
    by_cases h0 : K = 0
    · subst h0
      have hst := unStored HX.out.2.1
      go_wp2_with fail
      refine hst.mono ?_
      rintro e w3 ⟨out', o', hst3, ⟨p', he, rfl, hU3⟩ | ⟨er, he, hne, rfl⟩⟩
      · have k0 := HX.out.2.2.2.2.2.1 w3 out' o' (hst3)
        have hs := HX.out.1
        unfold blockC at hs
        rw [if_pos (by decide), he] at hs
        have HR := Lib.hid (And.intro hs (And.intro (HX.out.2.2.1.trans hst3) (And.intro hU3 (And.intro (HX.out.2.2.2.1.step hst3) (HX.out.2.2.2.2.1.step HX.out.2.2.2.1 hst3)))))
        clear he hst3 hU3 hs HX hst
        go_wp2_with fail
        go_ret2
        exact ⟨out', o', HR.out.2.1, .inl ⟨_, p', _, _, _, HR.out.1, rfl, HR.out.2.2.1, HR.out.2.2.2.1, HR.out.2.2.2.2⟩⟩
      · have k0 := HX.out.2.2.2.2.2.1 w3 out' o' (hst3)
        have hs := HX.out.1
        unfold blockC at hs
        rw [if_pos (by decide), he] at hs
        have HR := Lib.hid (And.intro hs (And.intro hne (HX.out.2.2.1.trans hst3)))
        clear he hst3 hs hne HX hst
        go_wp2_with fail
        go_ret2
        exact ⟨out', o', HR.out.2.2, .inr ⟨er, _, HR.out.1, HR.out.2.1, rfl⟩⟩
    · by_cases h1 : K = 1
      · subst h1
        have hfx := unFixed HX.out.2.2.2.1 HX.out.2.2.2.2.1 HX.out.2.1
        go_wp2_with fail
        refine hfx.mono ?_
        rintro e w4 ⟨g1, g2, F', rfl, hU4, hS4, hA4, hp1, hp2⟩
        have hsy := unSymbols hA4 hp1 hp2 (by simp [nsOf, fixL]) (by simp [nsOf, fixD]) hU4
        have hF4 : Fxd w4 F' (some ⟨g1, 0, none⟩) (some ⟨g2, 0, none⟩) := .inr ⟨g1, g2, rfl, rfl, hp1, hp2⟩
        have HY := Lib.hid (And.intro hS4 (And.intro hA4 hF4))
        clear hfx hU4 hS4 hA4 hp1 hp2 hF4
        go_wp2_with fail
        refine hsy.mono ?_
        rintro e w3 ⟨out', o', hst3, ⟨p', he, rfl, hU3⟩ | ⟨er, he, hne, rfl⟩⟩
        · have k0 := HX.out.2.2.2.2.2.1 w3 out' o' (HY.out.1.trans hst3)
          have hs := HX.out.1
          unfold blockC at hs
          rw [if_neg (by decide), if_pos (by decide), he] at hs
          have HR := Lib.hid (And.intro hs (And.intro ((HX.out.2.2.1.trans HY.out.1).trans hst3) (And.intro hU3 (And.intro (HY.out.2.1.step hst3) (HY.out.2.2.step HY.out.2.1 hst3)))))
          clear he hst3 hU3 hs HX HY hsy
          go_wp2_with fail
          go_ret2
          exact ⟨out', o', HR.out.2.1, .inl ⟨_, p', _, _, _, HR.out.1, rfl, HR.out.2.2.1, HR.out.2.2.2.1, HR.out.2.2.2.2⟩⟩
        · have k0 := HX.out.2.2.2.2.2.1 w3 out' o' (HY.out.1.trans hst3)
          have hs := HX.out.1
          unfold blockC at hs
          rw [if_neg (by decide), if_pos (by decide), he] at hs
          have HR := Lib.hid (And.intro hs (And.intro hne ((HX.out.2.2.1.trans HY.out.1).trans hst3)))
          clear he hst3 hs hne HX HY hsy
          go_wp2_with fail
          go_ret2
          exact ⟨out', o', HR.out.2.2, .inr ⟨er, _, HR.out.1, HR.out.2.1, rfl⟩⟩
      · by_cases h2 : K = 2
        · subst h2
          have hto := unTold HX.out.2.2.2.2.2.2 HX.out.2.1 hg0
          go_wp2_with fail
          refine hto.mono ?_
          rintro e w3 ⟨out', o', hst3, ⟨p', he, rfl, hU3⟩ | ⟨er, he, hne, rfl⟩⟩
          · have k0 := HX.out.2.2.2.2.2.1 w3 out' o' (hst3)
            have hs := HX.out.1
            unfold blockC at hs
            rw [if_neg (by decide), if_neg (by decide), if_pos (by decide), he] at hs
            have HR := Lib.hid (And.intro hs (And.intro (HX.out.2.2.1.trans hst3) (And.intro hU3 (And.intro (HX.out.2.2.2.1.step hst3) (HX.out.2.2.2.2.1.step HX.out.2.2.2.1 hst3)))))
            clear he hst3 hU3 hs HX hto
            go_wp2_with fail
            go_ret2
            exact ⟨out', o', HR.out.2.1, .inl ⟨_, p', _, _, _, HR.out.1, rfl, HR.out.2.2.1, HR.out.2.2.2.1, HR.out.2.2.2.2⟩⟩
          · have k0 := HX.out.2.2.2.2.2.1 w3 out' o' (hst3)
            have hs := HX.out.1
            unfold blockC at hs
            rw [if_neg (by decide), if_neg (by decide), if_pos (by decide), he] at hs
            have HR := Lib.hid (And.intro hs (And.intro hne (HX.out.2.2.1.trans hst3)))
            clear he hst3 hs hne HX hto
            go_wp2_with fail
            go_ret2
            exact ⟨out', o', HR.out.2.2, .inr ⟨er, _, HR.out.1, HR.out.2.1, rfl⟩⟩
        · have q0 : ((K : Int) == 0) = false := by simp; omega
          have q1 : ((K : Int) == 1) = false := by simp; omega
          have q2 : ((K : Int) == 2) = false := by simp; omega
          have k0 := HX.out.2.2.2.2.2.1 w2 out o (Stp.refl _ _ _ _ _)
          have hs := HX.out.1
          unfold blockC at hs
          rw [if_neg (by omega), if_neg (by omega), if_neg (by omega)] at hs
          have HR := Lib.hid (And.intro hs HX.out.2.2.1)
          clear hs HX
          go_wp2_with fail
          go_ret2
          exact ⟨out, o, HR.out.2, .inr ⟨3, _, HR.out.1, by decide, rfl⟩⟩
  · have hs := blockS_bad (limit := limit) (out := out) hv
    have HR := Lib.hid (And.intro hs (And.intro hne (only_trans HW.out.2.2.1 ho2)))
    have hd : (er != 0) = true := by simp [hne]
    clear htake HW hs hv hne ho2
    go_wp2_with fail
    go_ret2
    exact ⟨out, o, stp_only HR.out.2.2, .inr ⟨er, false, HR.out.1, HR.out.2.1, rfl⟩⟩
end
end Go.Proofs.YtpnnfekfoomgaaaDoor
