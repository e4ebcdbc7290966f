/- What a symbol of the code of lengths stands for: contract of repeated. No condition but what the words say. -/
import Derived.Test.YtpnnfekfoomgaaaDoorRp
set_option linter.unusedVariables false
set_option maxRecDepth 100000
namespace Go.Proofs.YtpnnfekfoomgaaaDoor
open Go.RowKit

/-- what a symbol stands for, and how often -/
def repT (l : List Int) (p : Nat) (row : List Int) (s : Int) : Except Int (Int × Int × Nat) := match repS row s with
  | .error e => .error e
  | .ok (v, least, width) => match takeS l p width with
    | .error e => .error e
    | .ok (more, p2) => .ok (v, least + more, p2)
section
variable {w : World} {gu gr : Nat} {l : List Int} {limit : Nat} {fl fd : Option Addr} {p : Nat} {out : List Int} {o : Option Addr × Nat}
/-- what repeated answers -/
def Rpts (w : World) (gu gr : Nat) (l : List Int) (limit : Nat) (fl fd : Option Addr) (out : List Int) (o : Option Addr × Nat) (s : Except Int (Int × Int × Nat)) (e : Ending) (w' : World) : Prop :=
  Only gr w w' ∧ ((∃ v t p', s = .ok (v, t, p') ∧ e = .returned (.tuple #[.int .i64 v, .int .i64 t, .int .i64 0]) ∧ Un w' gu gr l limit fl fd p' out o) ∨ (∃ er y z, s = .error er ∧ er ≠ 0 ∧ e = .returned (.tuple #[.int .i64 y, .int .i64 z, .int .i64 er])))
theorem ret3' {a b c a' b' c' : Value} (h1 : a = a') (h2 : b = b') (h3 : c = c') : Ending.returned (.tuple #[a, b, c]) = .returned (.tuple #[a', b', c']) := by rw [h1, h2, h3]
set_option maxHeartbeats 2000000 in
theorem unRepeated {row : List Int} {a : Option Addr} {c : Nat} (s : Nat) (hs : s ≤ 18) (hrl : row.length ≤ 400) (hb : Ints .i64 w w.heap.size a row) (h : Un w gu gr l limit fl fd p out o) :
    Calls Tryd.prog 74 #[.pointer (some ⟨gu, 0, none⟩), .int .i64 s, .slice a row.length c] w (Rpts w gu gr l limit fl fd out o (repT l p row s)) := by
  have c0 : w.cell? ⟨gu, 0, none⟩ = some (.pointer (some ⟨gr, 0, none⟩)) := blk_cell h.blk 0
  have HU := Lib.hid h
  have hr0 := h.rdr
  clear h
  by_cases h16 : s = 16
  · subst h16
    by_cases hrow : row.length = 0
    · have hrep : repT l p row ((16 : Nat) : Int) = .error 6 := by
        unfold repT repS
        rw [if_pos (by decide), if_pos hrow]
      have hre : ((row.length : Int) == 0) = true := by simp [hrow]
      have HR := Lib.hid hrep
      clear hr0 hrep hrow
      go_enter Tryd.func74, Tryd.ntmps74
      go_wp2_with fail
      go_ret3
      exact ⟨only_refl _ _, .inr ⟨6, 0, 0, HR.out, by decide, rfl⟩⟩
    · have hre : ((row.length : Int) == 0) = false := by simp; intro h; exact hrow (by rw [h]; rfl)
      obtain ⟨b, off, rfl, hbl, hc, _⟩ := hb.at_ (i := row.length - 1) (show row.length - 1 < row.length by omega)
      obtain ⟨k, hk⟩ : ∃ k, row.length - 1 = k := ⟨_, rfl⟩
      obtain ⟨n, hn⟩ : ∃ n, row.length = n := ⟨_, rfl⟩
      have hkn : (n : Int) - 1 = (k : Int) := by omega
      have hwk : wrap64 (k : Int) = (k : Int) := wrap64_in _ (by omega)
      have hk1 : (k : Int) < (n : Int) := by omega
      have hk0 : (0 : Int) ≤ (k : Int) := by omega
      rw [hk] at hc
      rw [hn] at hre
      rw [hn]
      have hrep : repT l p row ((16 : Nat) : Int) = match takeS l p 2 with
          | .error e => .error e
          | .ok (more, p2) => .ok (row.getD k 0, 3 + more, p2) := by
        unfold repT repS
        rw [if_pos (by decide), if_neg hrow, hk]
      have hcall := bitTakeS (w := w) 2 (by decide) hr0
      have HR := Lib.hid hrep
      clear hr0 hrep hrow hk hn hb hrl
      obtain ⟨x, hx⟩ : ∃ x, row.getD k 0 = x := ⟨_, rfl⟩
      rw [hx] at hc HR
      clear hx
      go_enter Tryd.func74, Tryd.ntmps74
      go_wp2_with fail
      refine hcall.mono ?_
      rintro e w2 ⟨ho, ⟨t, p', hv, rfl, hr⟩ | ⟨hv, rfl⟩⟩
      · obtain ⟨hv1, _, _⟩ := takeS_val hv
        have hb0 := tk_bd l p 2
        rw [← hv1, show (2 : Int) ^ 2 = 4 by decide] at hb0
        have hs := HR.out
        rw [hv] at hs
        have HX := Lib.hid (And.intro hs (And.intro (HU.out.only hr ho) ho))
        clear hcall hv hs HR HU hr ho hv1
        go_wp2_with fail
        go_ret3
        exact ⟨HX.out.2.2, .inl ⟨_, _, p', HX.out.1, rfl, HX.out.2.1⟩⟩
      · have hs := HR.out
        rw [hv] at hs
        have HX := Lib.hid (And.intro hs ho)
        clear hcall hv hs HR HU ho
        go_wp2_with fail
        go_ret3
        exact ⟨HX.out.2, .inr ⟨2, _, _, HX.out.1, by decide, rfl⟩⟩
  · by_cases h17 : s = 17
    · subst h17
      have hrep : repT l p row ((17 : Nat) : Int) = match takeS l p 3 with
          | .error e => .error e
          | .ok (more, p2) => .ok (0, 3 + more, p2) := by
        unfold repT repS
        rw [if_neg (by decide), if_pos (by decide)]
      have hcall := bitTakeS (w := w) 3 (by decide) hr0
      have HR := Lib.hid hrep
      clear hr0 hrep
      go_enter Tryd.func74, Tryd.ntmps74
      go_wp2_with fail
      refine hcall.mono ?_
      rintro e w2 ⟨ho, ⟨t, p', hv, rfl, hr⟩ | ⟨hv, rfl⟩⟩
      · obtain ⟨hv1, _, _⟩ := takeS_val hv
        have hb0 := tk_bd l p 3
        rw [← hv1, show (2 : Int) ^ 3 = 8 by decide] at hb0
        have hs := HR.out
        rw [hv] at hs
        have HX := Lib.hid (And.intro hs (And.intro (HU.out.only hr ho) ho))
        clear hcall hv hs HR HU hr ho hv1
        go_wp2_with fail
        go_ret3
        exact ⟨HX.out.2.2, .inl ⟨_, _, p', HX.out.1, rfl, HX.out.2.1⟩⟩
      · have hs := HR.out
        rw [hv] at hs
        have HX := Lib.hid (And.intro hs ho)
        clear hcall hv hs HR HU ho
        go_wp2_with fail
        go_ret3
        exact ⟨HX.out.2, .inr ⟨2, _, _, HX.out.1, by decide, rfl⟩⟩
    · by_cases h18 : s = 18
      · subst h18
        have hrep : repT l p row ((18 : Nat) : Int) = match takeS l p 7 with
            | .error e => .error e
            | .ok (more, p2) => .ok (0, 11 + more, p2) := by
          unfold repT repS
          rw [if_neg (by decide), if_neg (by decide), if_pos (by decide)]
        have hcall := bitTakeS (w := w) 7 (by decide) hr0
        have HR := Lib.hid hrep
        clear hr0 hrep
        go_enter Tryd.func74, Tryd.ntmps74
        go_wp2_with fail
        refine hcall.mono ?_
        rintro e w2 ⟨ho, ⟨t, p', hv, rfl, hr⟩ | ⟨hv, rfl⟩⟩
        · obtain ⟨hv1, _, _⟩ := takeS_val hv
          have hb0 := tk_bd l p 7
          rw [← hv1, show (2 : Int) ^ 7 = 128 by decide] at hb0
          have hs := HR.out
          rw [hv] at hs
          have HX := Lib.hid (And.intro hs (And.intro (HU.out.only hr ho) ho))
          clear hcall hv hs HR HU hr ho hv1
          go_wp2_with fail
          go_ret3
          exact ⟨HX.out.2.2, .inl ⟨_, _, p', HX.out.1, rfl, HX.out.2.1⟩⟩
        · have hs := HR.out
          rw [hv] at hs
          have HX := Lib.hid (And.intro hs ho)
          clear hcall hv hs HR HU ho
          go_wp2_with fail
          go_ret3
          exact ⟨HX.out.2, .inr ⟨2, _, _, HX.out.1, by decide, rfl⟩⟩
      · have q16 : ((s : Int) == 16) = false := by simp; omega
        have q17 : ((s : Int) == 17) = false := by simp; omega
        have q18 : ((s : Int) == 18) = false := by simp; omega
        have hrep : repT l p row (s : Int) = match takeS l p 0 with
            | .error e => .error e
            | .ok (more, p2) => .ok ((s : Int), 1 + more, p2) := by
          unfold repT repS
          rw [if_neg (by omega), if_neg (by omega), if_neg (by omega)]
        have hcall := bitTakeS (w := w) 0 (by decide) hr0
        have HR := Lib.hid hrep
        clear hr0 hrep
        go_enter Tryd.func74, Tryd.ntmps74
        go_wp2_with fail
        refine hcall.mono ?_
        rintro e w2 ⟨ho, ⟨t, p', hv, rfl, hr⟩ | ⟨hv, rfl⟩⟩
        · obtain ⟨hv1, _, _⟩ := takeS_val hv
          have hb0 := tk_bd l p 0
          rw [← hv1, show (2 : Int) ^ 0 = 1 by decide] at hb0
          have hs := HR.out
          rw [hv] at hs
          have HX := Lib.hid (And.intro hs (And.intro (HU.out.only hr ho) ho))
          clear hcall hv hs HR HU hr ho hv1
          go_wp2_with fail
          go_ret3
          exact ⟨HX.out.2.2, .inl ⟨_, _, p', HX.out.1, rfl, HX.out.2.1⟩⟩
        · have hs := HR.out
          rw [hv] at hs
          have HX := Lib.hid (And.intro hs ho)
          clear hcall hv hs HR HU ho
          go_wp2_with fail
          go_ret3
          exact ⟨HX.out.2, .inr ⟨2, _, _, HX.out.1, by decide, rfl⟩⟩
end
end Go.Proofs.YtpnnfekfoomgaaaDoor
