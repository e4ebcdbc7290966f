/- What samovarref02.Same answers: whether two rows of bytes are one. No condition. -/
import Derived.Test.YtdcpibglbanchaaDoorGa
set_option linter.unusedVariables false
set_option maxRecDepth 100000
namespace Go.Proofs.YtdcpibglbanchaaDoor
open Go.RowKit

def eqB (l l' : List Int) : Bool := decide (l = l')
theorem eqB_len {l l' : List Int} (h : l.length ≠ l'.length) : eqB l l' = false := by
  unfold eqB; rw [decide_eq_false_iff_not]; rintro rfl; exact h rfl
theorem eqB_all {l l' : List Int} (h : l.length = l'.length) (ht : l.take l.length = l'.take l.length) : eqB l l' = true := by
  unfold eqB; rw [decide_eq_true_eq]; rwa [List.take_length, h, List.take_length] at ht
theorem eqB_no {l l' : List Int} {k : Nat} (h : l.getD k 0 ≠ l'.getD k 0) : eqB l l' = false := by
  unfold eqB; rw [decide_eq_false_iff_not]; rintro rfl; exact h rfl

theorem refSame (a a' : Option Addr) (n c n' c' : Nat) (l l' : List Int) (hn : l.length = n) (hn' : l'.length = n') (hm : l.length ≤ maxLen) (hm' : l'.length ≤ maxLen) (w : World) (B B' : Nat) (hb : Bs w B a l) (hb' : Bs w B' a' l') :
    Calls Tryd.prog 7 #[.slice a n c, .slice a' n' c'] w fun e w' => e = .returned (.bool (eqB l l')) ∧ ∃ n, w' = w.drewN n := by
  subst hn; subst hn'
  unfold maxLen at hm hm'
  by_cases hlen : l.length = l'.length
  · have hE := @eqB_all l l' hlen
    have hN := fun k => @eqB_no l l' k
    have HL := Lib.hid hlen
    have HE := Lib.hid hE; clear hE
    have HN := Lib.hid hN; clear hN
    rw [← hlen] at hm' ⊢
    clear hlen
    go_enter Tryd.func7, Tryd.ntmps7
    go_wp2
    go_loopw [5] (fun i wr => ∃ k : Nat, ∃ n : Nat, k ≤ l.length ∧ i = .int .i64 k ∧ wr = w.drewN n ∧ Hid (l.take k = l'.take k)) (fun i _ => l.length - (intOf i).toNat)
    case atStart => exact ⟨0, 0, Nat.zero_le _, rfl, rfl, by simp [Hid]⟩
    case round =>
      obtain ⟨k, n, hk, rfl, rfl, HT⟩ := hrel
      by_cases hlt : k < l.length
      · obtain ⟨b, off, rfl, _, hc⟩ := hb.at_ hlt
        obtain ⟨b', off', rfl, _, hc'⟩ := hb'.at_ (i := k) (by rw [← HL.out]; exact hlt)
        by_cases hx : l.getD k 0 = l'.getD k 0
        · have ht : l.take (k + 1) = l'.take (k + 1) := by
            rw [take_succ' l k hlt, take_succ' l' k (by rw [← HL.out]; exact hlt), HT.out, hx]
          have HT2 := Lib.hid ht; clear ht
          rw [← hx] at hc'
          clear hx
          generalize l.getD k 0 = x at *
          go_wp2
          go_quiet (fail)
          go_wp2
          exact ⟨⟨k + 1, n + nq, by omega, by go_num, rfl, HT2⟩, by simp [intOf]; omega⟩
        · have hne : (l.getD k 0 != l'.getD k 0) = true := by rw [bne_iff_ne]; exact hx
          have HX := Lib.hid (HN.out k hx)
          clear hx
          generalize l.getD k 0 = x at *
          generalize l'.getD k 0 = y at *
          go_wp2
          go_quiet (fail)
          go_wp2
          go_ret
          exact ⟨by rw [HX.out]; rfl, n + nq, by simp⟩
      · obtain rfl : k = l.length := by omega
        go_wp2
        go_ret
        exact ⟨by rw [HE.out HT.out]; rfl, n, rfl⟩
  · rw [eqB_len hlen]
    have hl : ((l.length : Int) != (l'.length : Int)) = true := by rw [bne_iff_ne]; omega
    go_enter Tryd.func7, Tryd.ntmps7
    go_wp2
    go_ret
    exact ⟨rfl, 0, rfl⟩

theorem same_call {a a' : Option Addr} {n c n' c' : Nat} {l : List Int} {w w0 : World} {B B' : Nat} (hn : l.length = n) (hn' : l.length = n') (hl : l.length ≤ 8) (hb : Bs w B a l) (hb' : Bs w B' a' l) :
    Calls Tryd.prog 7 #[.slice a n c, .slice a' n' c'] w fun e w' => e = .returned (.bool true) ∧ ∃ n, w' = w.drewN n :=
  (refSame a a' n c n' c' l l hn hn' (by simp only [maxLen]; omega) (by simp only [maxLen]; omega) w B B' hb hb').mono fun e w' ⟨h1, h2⟩ => ⟨by rw [h1]; simp [eqB], h2⟩
end Go.Proofs.YtdcpibglbanchaaDoor
