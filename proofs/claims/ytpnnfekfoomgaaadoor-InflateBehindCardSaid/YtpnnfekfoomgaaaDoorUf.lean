/- A block's symbols: contract of symbols. No condition but what the words say. -/
import Derived.Test.YtpnnfekfoomgaaaDoorUe
set_option linter.unusedVariables false
set_option maxRecDepth 100000
namespace Go.Proofs.YtpnnfekfoomgaaaDoor
open Go.RowKit

theorem copS_val {nd : List Nat} {l : List Int} {limit p1 p' j : Nat} {out out' : List Int} (hp : p1 ≤ 8 * l.length) (h : copS nd l limit p1 out ((j + 257 : Nat) : Int) = .ok (p', out')) : p1 ≤ p' ∧ p' ≤ 8 * l.length := by
  unfold copS at h
  cases hl : lenS l p1 ((j + 257 : Nat) : Int) with
  | error e => rw [hl] at h; cases h
  | ok x =>
    obtain ⟨n, q⟩ := x
    obtain ⟨_, _, _, _, h1, h2⟩ := lenS_val hp hl
    rw [hl] at h
    simp only [bind, Except.bind] at h
    cases hd : disS nd l q with
    | error e => rw [hd] at h; cases h
    | ok y =>
      obtain ⟨far, q2⟩ := y
      obtain ⟨_, _, _, _, h3, h4⟩ := disS_val h2 hd
      rw [hd] at h
      simp only at h
      split at h
      · cases h
      · split at h
        · cases h
        · injection h with h
          injection h with h5 h6
          omega
theorem symS_bad {nl nd : List Nat} {l : List Int} {limit p : Nat} {out : List Int} {er : Int} (h : nxS nl l p = .error er) : symS nl nd l limit p out = .error er := by
  unfold symS; rw [h]; rfl
theorem symS_end {nl nd : List Nat} {l : List Int} {limit p p1 : Nat} {out : List Int} (h : nxS nl l p = .ok (256, p1)) : symS nl nd l limit p out = .ok (p1, none) := by
  unfold symS; rw [h]; rfl
theorem symS_lit {nl nd : List Nat} {l : List Int} {limit p p1 : Nat} {out : List Int} {s : Int} (h : nxS nl l p = .ok (s, p1)) (hs : s < 256) : symS nl nd l limit p out = if limit ≤ out.length then .error 8 else .ok (p1, some (out ++ [s])) := by
  unfold symS; rw [h]; simp only [bind, Except.bind]; rw [if_neg (by omega), if_pos hs]
theorem symS_cop {nl nd : List Nat} {l : List Int} {limit p p1 : Nat} {out : List Int} {s : Int} (h : nxS nl l p = .ok (s, p1)) (hs : 256 < s) : symS nl nd l limit p out = match copS nd l limit p1 out s with
    | .error e => .error e
    | .ok (p', o) => .ok (p', some o) := by
  unfold symS copS; rw [h]; simp only [bind, Except.bind]; rw [if_neg (by omega), if_neg (by omega)]
  cases lenS l p1 s with
  | error e => rfl
  | ok x =>
    obtain ⟨n, q⟩ := x
    simp only
    cases disS nd l q with
    | error e => rfl
    | ok y =>
      obtain ⟨far, q2⟩ := y
      simp only
      split
      · rfl
      · split <;> rfl
section
variable {w : World} {gu gr : Nat} {l : List Int} {limit : Nat} {fl fd : Option Addr} {p : Nat} {out : List Int} {o : Option Addr × Nat}
theorem got_ok {s : Except Int (Int × Nat)} {v : Int} {p' : Nat} (hs : s = .ok (v, p')) {e : Ending} {w' : World} (h : Got w gu gr l limit fl fd out o s e w') : e = .returned (.tuple #[.int .i64 v, .int .i64 0]) ∧ Only gr w w' ∧ Un w' gu gr l limit fl fd p' out o := by
  obtain ⟨ho, ⟨v1, p1, h1, h2, h3⟩ | ⟨er, y, h1, _, _⟩⟩ := h
  · rw [hs] at h1; injection h1 with h1; injection h1 with h4 h5; subst h4 h5; exact ⟨h2, ho, h3⟩
  · rw [hs] at h1; cases h1
theorem got_bad {s : Except Int (Int × Nat)} {er : Int} (hs : s = .error er) {e : Ending} {w' : World} (h : Got w gu gr l limit fl fd out o s e w') : ∃ y, e = .returned (.tuple #[.int .i64 y, .int .i64 er]) ∧ Only gr w w' ∧ er ≠ 0 := by
  obtain ⟨ho, ⟨v1, p1, h1, h2, h3⟩ | ⟨er', y, h1, h2, h3⟩⟩ := h
  · rw [hs] at h1; cases h1
  · rw [hs] at h1; injection h1 with h1; subst h1; exact ⟨y, h3, ho, h2⟩
set_option maxHeartbeats 4000000 in
theorem unSymbols {F : Nat → Prop} {g1 g2 : Nat} {nl nd : List Nat} (hF : Aside w gu gr out o F) (hc1 : PC w F g1 nl) (hc2 : PC w F g2 nd) (hn1 : nl.length ≤ 300) (hn2 : nd.length ≤ 300) (h : Un w gu gr l limit fl fd p out o) :
    Calls Tryd.prog 36 #[.pointer (some ⟨gu, 0, none⟩), .agg #[.pointer (some ⟨g1, 0, none⟩), .pointer (some ⟨g2, 0, none⟩)]] w (Lays w gu gr l limit fl fd out o (symsS nl nd l limit (8 * l.length + 1 - p) p out)) := by
  have hb0 := (Below.refl w.heap.size w).alloc (Nat.le_refl _) (.cells #[.pointer (some ⟨g1, 0, none⟩), .pointer (some ⟨g2, 0, none⟩)] 45)
  have hnew := heap_alloc_new w (.cells #[.pointer (some ⟨g1, 0, none⟩), .pointer (some ⟨g2, 0, none⟩)] 45)
  have hU0 := h.below hb0
  have hs0 : Stp gu gr w out o (w.alloc (.cells #[.pointer (some ⟨g1, 0, none⟩), .pointer (some ⟨g2, 0, none⟩)] 45)) out o := stp_below hb0
  have hA0 : Aside (w.alloc (.cells #[.pointer (some ⟨g1, 0, none⟩), .pointer (some ⟨g2, 0, none⟩)] 45)) gu gr out o (fun b => F b ∨ b = w.heap.size) := fun b hb => by
    rcases hb with hb | hb
    · exact (hF.step hs0) b hb
    · have := aside_new h (w' := w.alloc (.cells #[.pointer (some ⟨g1, 0, none⟩), .pointer (some ⟨g2, 0, none⟩)] 45)) (by simp) b
      exact this ⟨by omega, by rw [hb]; simp⟩
  have hk : ∀ b, F b → (w.alloc (.cells #[.pointer (some ⟨g1, 0, none⟩), .pointer (some ⟨g2, 0, none⟩)] 45)).heap[b]? = w.heap[b]? := fun b hb => hb0.block b (hF b hb).1
  have HC := Lib.hid (And.intro ((hc1.keep hk).more (F' := fun b => F b ∨ b = w.heap.size) fun b hb => .inl hb) (And.intro ((hc2.keep hk).more (F' := fun b => F b ∨ b = w.heap.size) fun b hb => .inl hb) (And.intro hA0 (And.intro hnew (And.intro hU0 hs0)))))
  clear hb0 hnew hU0 hs0 hA0 hk hF hc1 hc2 h
  go_enter Tryd.func36, Tryd.ntmps36
  go_wp2_with fail
  generalize (w.alloc (.cells #[.pointer (some ⟨g1, 0, none⟩), .pointer (some ⟨g2, 0, none⟩)] 45)) = w1 at *
  go_loopg [] (8 * l.length + 1) (fun K wr => ∃ (p' f : Nat) (out' : List Int) (o' : Option Addr × Nat), 8 * l.length + 1 ≤ p' + f ∧ 8 * l.length + 1 ≤ p' + K ∧ Hid (symsS nl nd l limit (8 * l.length + 1 - p) p out = symsS nl nd l limit f p' out' ∧ Un wr gu gr l limit fl fd p' out' o' ∧ Stp gu gr w1 out o wr out' o'))
  case atStart => exact ⟨p, 8 * l.length + 1 - p, out, o, by omega, by omega, Lib.hid ⟨rfl, HC.out.2.2.2.2.1, Stp.refl _ _ _ _ _⟩⟩
  case round =>
    obtain ⟨p', f, out', o', hf, hK, H⟩ := hrel
    obtain ⟨x1, x2, x3, x4, x5, x6⟩ := HC.out
    obtain ⟨e1, hU, hS⟩ := H.out
    have hp := hU.rdr.choose_spec.choose_spec.2.2.2.2.1
    have hA := x3.step hS
    have hkk := x3.blk hS
    have hblk : wr.heap[w.heap.size]? = some (.cells #[.pointer (some ⟨g1, 0, none⟩), .pointer (some ⟨g2, 0, none⟩)] 45 (0, 0)) := (hkk _ (.inr rfl)).trans x4
    have b0 : wr.cell? ⟨w.heap.size, 0, none⟩ = some (.pointer (some ⟨g1, 0, none⟩)) := blk_cell hblk 0
    have b1 : wr.cell? ⟨w.heap.size, 1, none⟩ = some (.pointer (some ⟨g2, 0, none⟩)) := blk_cell hblk 1
    have c0 : wr.cell? ⟨gu, 0, none⟩ = some (.pointer (some ⟨gr, 0, none⟩)) := blk_cell hU.blk 0
    obtain ⟨f, rfl⟩ : ∃ f', f = f' + 1 := ⟨f - 1, by omega⟩
    have hbd : Below wr.heap.size wr wr.drew := low_drewN (Below.refl _ _) 1
    have hUd : Un wr.drew gu gr l limit fl fd p' out' o' := hU.below hbd
    have hSd : Stp gu gr w1 out o wr.drew out' o' := hS.trans (stp_below hbd)
    have hAd : Aside wr.drew gu gr out' o' (fun b => F b ∨ b = w.heap.size) := hA
    have hP1 : PC wr.drew (fun b => F b ∨ b = w.heap.size) g1 nl := x1.keep hkk
    have hP2 : PC wr.drew (fun b => F b ∨ b = w.heap.size) g2 nd := x2.keep hkk
    have hcall := unNext hAd hP1 hUd
    have HK : Hid (∀ w2, Only gr wr.drew w2 → w2.cell? ⟨w.heap.size, 0, none⟩ = some (.pointer (some ⟨g1, 0, none⟩)) ∧ w2.cell? ⟨gu, 0, none⟩ = some (.pointer (some ⟨gr, 0, none⟩)) ∧ w2.heap[w.heap.size]? = some (.cells #[.pointer (some ⟨g1, 0, none⟩), .pointer (some ⟨g2, 0, none⟩)] 45 (0, 0))) := Lib.hid fun w2 ho => by
      have hq1 : w2.heap[w.heap.size]? = wr.heap[w.heap.size]? := ho.block _ (show w.heap.size < wr.heap.size from blk_lt hblk) (by intro e; injection e with e; exact (hA _ (.inr rfl)).2 (.inr (.inl e)))
      have hq2 : w2.heap[gu]? = wr.heap[gu]? := ho.block _ (show gu < wr.heap.size from blk_lt hU.blk) (by intro e; injection e with e; have := hU.under; omega)
      exact ⟨(cell_keep' hq1).trans b0, (cell_keep' hq2).trans c0, hq1.trans hblk⟩
    have HD := Lib.hid (And.intro hAd (And.intro hP2 (And.intro hSd (And.intro e1 hblk))))
    have HX := HC
    clear HC x1 x2 x3 x4 x5 x6 hU hS hA hkk hblk hbd hUd hSd hAd hP1 hP2 H
    cases hx : nxS nl l p' with
    | error er =>
      have hs : symsS nl nd l limit (f + 1) p' out' = .error er := by rw [symsS, symS_bad hx]
      rw [← e1] at hs
      have hne := nxS_bad hx
      have hd : (er != 0) = true := by simp [hne]
      have HNX := Lib.hid (hcall.mono fun e w' h => got_bad hx h)
      have HS := Lib.hid (And.intro hs hne)
      clear hcall e1 hs hx hne
      go_wp2_with fail
      go_region_held3 (fun W => W.cell? ⟨w.heap.size, 0, none⟩ = some (.pointer (some ⟨g1, 0, none⟩)) ∧ W.cell? ⟨gu, 0, none⟩ = some (.pointer (some ⟨gr, 0, none⟩))) (first | exact ⟨(HK.out _ ho).1, (HK.out _ ho).2.1⟩ | go_keep) ((go_at_call 57; (with_reducible refine HNX.out.mono ?_); rintro e w2 ⟨y, rfl, ho, hz⟩))
      have HR := Lib.hid ((HX.out.2.2.2.2.2.trans HD.out.2.2.1).trans (stp_only ho))
      clear HNX ho HK HX HD b0 b1 c0
      go_wp2_with fail
      go_ret
      exact ⟨out', o', HR.out, .inr ⟨er, HS.out.1, HS.out.2, rfl⟩⟩
    | ok x =>
      obtain ⟨v, p2⟩ := x
      obtain ⟨⟨s, hs, rfl⟩, hpp, hp2⟩ := nxS_ok hp hx
      have HNX := Lib.hid (hcall.mono fun e w' h => got_ok hx h)
      have HS := Lib.hid (And.intro e1 hx)
      clear hcall e1 hx
      have hs300 : s ≤ 300 := by omega
      clear hs
      by_cases h256 : s = 256
      · subst h256
        go_wp2_with fail
        go_region_held3 (fun W => W.cell? ⟨w.heap.size, 0, none⟩ = some (.pointer (some ⟨g1, 0, none⟩)) ∧ W.cell? ⟨gu, 0, none⟩ = some (.pointer (some ⟨gr, 0, none⟩))) (first | exact ⟨(HK.out _ ho).1, (HK.out _ ho).2.1⟩ | go_keep) ((go_at_call 57; (with_reducible refine HNX.out.mono ?_); rintro e w2 ⟨rfl, ho, hr⟩))
        have HR := Lib.hid (And.intro hr ((HX.out.2.2.2.2.2.trans HD.out.2.2.1).trans (stp_only ho)))
        have hs2 : symsS nl nd l limit (8 * l.length + 1 - p) p out = .ok (p2, out') := by rw [HS.out.1, symsS, symS_end HS.out.2]
        have HE := Lib.hid hs2
        clear HNX ho HK HX HD b0 b1 c0 hr hs2
        go_wp2_with fail
        go_ret
        exact ⟨out', o', HR.out.2, .inl ⟨p2, HE.out, rfl, HR.out.1⟩⟩
      · have hn256 : ((s : Int) == 256) = false := by simp; omega
        by_cases hlt : s < 256
        · have hd : decide ((s : Int) < 256) = true := by simp; omega
          have hwr : IntKind.u8.wrap (s : Int) = s := IntWalk.u8_in (s : Int) (by omega)
          go_wp2_with fail
          go_region_held3 (fun W => W.cell? ⟨w.heap.size, 0, none⟩ = some (.pointer (some ⟨g1, 0, none⟩)) ∧ W.cell? ⟨gu, 0, none⟩ = some (.pointer (some ⟨gr, 0, none⟩))) (first | exact ⟨(HK.out _ ho).1, (HK.out _ ho).2.1⟩ | go_keep) ((go_at_call 57; (with_reducible refine HNX.out.mono ?_); rintro e w2 ⟨rfl, ho, hr⟩))
          have hs2 := symS_lit (nd := nd) (limit := limit) (out := out') HS.out.2 (show (s : Int) < 256 by omega)
          have hlit := unLiteral (s : Int) ⟨by omega, by omega⟩ hr
          have HE := Lib.hid (And.intro hs2 (And.intro HS.out.1 (HD.out.2.2.1.trans (stp_only ho))))
          clear HNX ho HK HD b0 b1 c0 hs2 HS hr
          go_wp2_with fail
          refine hlit.mono ?_
          rintro e w3 (⟨hl, rfl, hst⟩ | ⟨hl, rfl, o3, hr3, hst⟩)
          · have hs3 : symsS nl nd l limit (8 * l.length + 1 - p) p out = .error 8 := by rw [HE.out.2.1, symsS, HE.out.1, if_pos hl]
            have HR := Lib.hid (And.intro hs3 ((HX.out.2.2.2.2.2.trans HE.out.2.2).trans hst))
            clear HE HX hst hs3 hlit
            go_wp2_with fail
            go_ret
            exact ⟨out', o', HR.out.2, .inr ⟨8, HR.out.1, by decide, rfl⟩⟩
          · have hs3 : symsS nl nd l limit (8 * l.length + 1 - p) p out = symsS nl nd l limit f p2 (out' ++ [(s : Int)]) := by rw [HE.out.2.1, symsS, HE.out.1, if_neg (by omega)]
            have HR := Lib.hid (And.intro hs3 (And.intro hr3 (HE.out.2.2.trans hst)))
            clear HE HX hst hs3 hlit hr3
            go_wp2_with fail
            go_roundg (8 * l.length + 1 - p2)
            case measure => omega
            case rel => exact ⟨p2, f, _, o3, by omega, by omega, HR⟩
        · have hd : decide ((s : Int) < 256) = false := by simp; omega
          obtain ⟨j, rfl⟩ : ∃ j, s = j + 257 := ⟨s - 257, by omega⟩
          go_wp2_with fail
          go_region_held3 (fun W => W.cell? ⟨w.heap.size, 0, none⟩ = some (.pointer (some ⟨g1, 0, none⟩)) ∧ W.cell? ⟨gu, 0, none⟩ = some (.pointer (some ⟨gr, 0, none⟩))) (first | exact ⟨(HK.out _ ho).1, (HK.out _ ho).2.1⟩ | go_keep) ((go_at_call 57; (with_reducible refine HNX.out.mono ?_); rintro e w2 ⟨rfl, ho, hr⟩))
          have hs2 := symS_cop (nd := nd) (limit := limit) (out := out') HS.out.2 (show 256 < ((j + 257 : Nat) : Int) by omega)
          have hcop := unCopied (F := fun b => F b ∨ b = w.heap.size) (j := j) (HD.out.1.step (stp_only ho)) (HD.out.2.1.keep fun b hb => (stp_only (gu := gu) (out := out') (o := o') ho).foot.block b (HD.out.1 b hb).1 (HD.out.1 b hb).2) hn2 (by omega) hr
          have k1 := blk_cell (HK.out _ ho).2.2 1
          have HE := Lib.hid (And.intro hs2 (And.intro HS.out.1 (HD.out.2.2.1.trans (stp_only ho))))
          clear HNX ho HK HD b0 b1 c0 hs2 HS hr
          go_wp2_with fail
          refine hcop.mono ?_
          rintro e w3 ⟨out3, o3, hst, ⟨p3, hc, rfl, hr3⟩ | ⟨er, hc, hne, rfl⟩⟩
          · obtain ⟨hq1, hq2⟩ := copS_val hp2 hc
            have hs3 : symsS nl nd l limit (8 * l.length + 1 - p) p out = symsS nl nd l limit f p3 out3 := by rw [HE.out.2.1, symsS, HE.out.1, hc]
            have HR := Lib.hid (And.intro hs3 (And.intro hr3 (HE.out.2.2.trans hst)))
            clear HE HX hst hs3 hcop hr3 hc
            go_wp2_with fail
            go_roundg (8 * l.length + 1 - p3)
            case measure => omega
            case rel => exact ⟨p3, f, _, o3, by omega, by omega, HR⟩
          · have hs3 : symsS nl nd l limit (8 * l.length + 1 - p) p out = .error er := by rw [HE.out.2.1, symsS, HE.out.1, hc]
            have hd2 : (er != 0) = true := by simp [hne]
            have HR := Lib.hid (And.intro hs3 (And.intro hne ((HX.out.2.2.2.2.2.trans HE.out.2.2).trans hst)))
            clear HE HX hst hs3 hcop hc hne
            go_wp2_with fail
            go_ret
            exact ⟨_, o3, HR.out.2.2, .inr ⟨er, HR.out.1, HR.out.2.1, rfl⟩⟩
end
end Go.Proofs.YtpnnfekfoomgaaaDoor
