/- What the document's own answers for layer 2 compute: contracts of samovarref02. Condition: the bytes are bytes, the numbers fit their kinds. -/
import Derived.Test.YtkkgfphfilbcdaaMem
import Derived.Test.YtkkgfphfilbcdaaNum
import Derived.Test.YtkkgfphfilbcdaaRows
import Derived.Deep.QuietTactic
import Derived.BigQuiet
import Derived.WalkSpells
set_option linter.unusedVariables false
namespace Go.Proofs.Ytkkgfphfilbcdaa
open Go.RowKit

theorem ret1 {a c : Int} {k : IntKind} (h1 : a = c) : Ending.returned (.int k a) = .returned (.int k c) := by rw [h1]
/-- the number of bytes, the greatest one first -/
def big (l : List Int) : Int := l.foldl (fun v b => v * 256 + b) 0
def numW (l : List Int) : Int := wrap64 (big l)
theorem big_snoc (l : List Int) (b : Int) : big (l ++ [b]) = big l * 256 + b := by simp [big, List.foldl_append]
theorem take_succ' (l : List Int) (k : Nat) (h : k < l.length) : l.take (k + 1) = l.take k ++ [l.getD k 0] := by
  rw [List.take_succ_eq_append_getElem h, List.getD_eq_getElem?_getD, List.getElem?_eq_getElem h]; rfl

theorem refNumber (a : Option Addr) (n c : Nat) (l : List Int) (hn : l.length = n) (hm : l.length ≤ maxLen) (w : World) (B : Nat) (hb : Bs w B a l) :
    Calls Try.prog 56 #[.slice a n c] w fun e w' => e = .returned (.int .i64 (numW l)) ∧ w = w' := by
  subst hn
  unfold maxLen at hm
  go_enter Try.func56, Try.ntmps56
  go_wp2
  go_loop [3, 4] (fun v i => ∃ k : Nat, k ≤ l.length ∧ i = .int .i64 k ∧ v = .int .i64 (numW (l.take k))) (fun _ i => l.length - (intOf i).toNat)
  case atStart => exact ⟨0, Nat.zero_le _, rfl, by simp [numW, big, wrap64]⟩
  case round =>
    obtain ⟨k, hk, rfl, rfl⟩ := hrel
    by_cases hlt : k < l.length
    · obtain ⟨b, off, rfl, _, hc⟩ := hb.at_ hlt
      have hv := hb.1.at_ k
      have hs : numW (l.take (k + 1)) = wrap64 (wrap64 (numW (l.take k) * 256) + l.getD k 0) := by
        rw [take_succ' l k hlt]; unfold numW; rw [big_snoc]; unfold wrap64; omega
      have HS := Lib.hid hs; clear hs
      generalize l.getD k 0 = x at *
      go_wp2
      go_round
      case rel => exact ⟨k + 1, by omega, by go_num, by rw [HS.out]⟩
      case measure => simp [intOf]; omega
    · obtain rfl : k = l.length := by omega
      go_wp2
      go_ret
      exact ⟨rfl, rfl⟩

def eqB (l l' : List Int) : Bool := decide (l = l')
theorem eqB_len {l l' : List Int} (h : l.length ≠ l'.length) : eqB l l' = false := by
  unfold eqB; rw [decide_eq_false_iff_not]; rintro rfl; exact h rfl
theorem eqB_all {l l' : List Int} (h : l.length = l'.length) (ht : l.take l.length = l'.take l.length) : eqB l l' = true := by
  unfold eqB; rw [decide_eq_true_eq]; rwa [List.take_length, h, List.take_length] at ht
theorem eqB_no {l l' : List Int} {k : Nat} (h : l.getD k 0 ≠ l'.getD k 0) : eqB l l' = false := by
  unfold eqB; rw [decide_eq_false_iff_not]; rintro rfl; exact h rfl

theorem refSame (a a' : Option Addr) (n c n' c' : Nat) (l l' : List Int) (hn : l.length = n) (hn' : l'.length = n') (hm : l.length ≤ maxLen) (hm' : l'.length ≤ maxLen) (w : World) (B B' : Nat) (hb : Bs w B a l) (hb' : Bs w B' a' l') :
    Calls Try.prog 35 #[.slice a n c, .slice a' n' c'] w fun e w' => e = .returned (.bool (eqB l l')) ∧ ∃ n, w' = w.drewN n := by
  subst hn; subst hn'
  unfold maxLen at hm hm'
  by_cases hlen : l.length = l'.length
  · have hE := @eqB_all l l' hlen
    have hN := fun k => @eqB_no l l' k
    have HL := Lib.hid hlen
    have HE := Lib.hid hE; clear hE
    have HN := Lib.hid hN; clear hN
    rw [← hlen] at hm' ⊢
    clear hlen
    go_enter Try.func35, Try.ntmps35
    go_wp2
    go_loopw [5] (fun i wr => ∃ k : Nat, ∃ n : Nat, k ≤ l.length ∧ i = .int .i64 k ∧ wr = w.drewN n ∧ Hid (l.take k = l'.take k)) (fun i _ => l.length - (intOf i).toNat)
    case atStart => exact ⟨0, 0, Nat.zero_le _, rfl, rfl, by simp [Hid]⟩
    case round =>
      obtain ⟨k, n, hk, rfl, rfl, HT⟩ := hrel
      by_cases hlt : k < l.length
      · obtain ⟨b, off, rfl, _, hc⟩ := hb.at_ hlt
        obtain ⟨b', off', rfl, _, hc'⟩ := hb'.at_ (i := k) (by rw [← HL.out]; exact hlt)
        by_cases hx : l.getD k 0 = l'.getD k 0
        · have ht : l.take (k + 1) = l'.take (k + 1) := by
            rw [take_succ' l k hlt, take_succ' l' k (by rw [← HL.out]; exact hlt), HT.out, hx]
          have HT2 := Lib.hid ht; clear ht
          rw [← hx] at hc'
          clear hx
          generalize l.getD k 0 = x at *
          go_wp2
          go_quiet (fail)
          go_wp2
          exact ⟨⟨k + 1, n + nq, by omega, by go_num, rfl, HT2⟩, by simp [intOf]; omega⟩
        · have hne : (l.getD k 0 != l'.getD k 0) = true := by rw [bne_iff_ne]; exact hx
          have HX := Lib.hid (HN.out k hx)
          clear hx
          generalize l.getD k 0 = x at *
          generalize l'.getD k 0 = y at *
          go_wp2
          go_quiet (fail)
          go_wp2
          go_ret
          exact ⟨by rw [HX.out]; rfl, n + nq, by simp⟩
      · obtain rfl : k = l.length := by omega
        go_wp2
        go_ret
        exact ⟨by rw [HE.out HT.out]; rfl, n, rfl⟩
  · rw [eqB_len hlen]
    have hl : ((l.length : Int) != (l'.length : Int)) = true := by rw [bne_iff_ne]; omega
    go_enter Try.func35, Try.ntmps35
    go_wp2
    go_ret
    exact ⟨rfl, 0, rfl⟩

theorem u8_info : (Try.prog.info? 5).map (fun i => (i.zero, i.size, i.bytes)) = some (some (.int .u8 0), 1, 1) := by kernel_rfl
/-- the call has made a slice of its own that holds the bytes l, and written nothing that was there -/
def Made (w : World) (l : List Int) (e : Ending) (w' : World) : Prop :=
  ∃ a c, e = .returned (.slice a l.length c) ∧ w'.ownsRow w.heap.size 5 1 (.slice a l.length c) l.length (l.map (Value.int .u8)) ∧ Below w.heap.size w w'

theorem one_new (w : World) (x : Value) (t : TypeId) : ∀ (j : Nat) (u : Value), [x][j]? = some u → (w.alloc (.cells #[x] t)).cell? ((⟨w.heap.size, 0, none⟩ : Addr).add j) = some u := by
  intro j u h
  have hj : j = 0 := by
    rcases Nat.eq_zero_or_pos j with h0 | h0
    · exact h0
    · rw [List.getElem?_eq_none (by simp; omega)] at h; cases h
  subst hj
  simp at h
  subst h
  simp [Addr.add]
theorem reverse_take (l : List Int) (k : Nat) (h : k < l.length) : (l.reverse.take (k + 1)) = l.reverse.take k ++ [l.getD (l.length - 1 - k) 0] := by
  rw [take_succ' _ k (by simpa using h)]
  congr 2
  rw [List.getD_eq_getElem?_getD, List.getD_eq_getElem?_getD, List.getElem?_reverse h]

theorem refTurn (a : Option Addr) (n c : Nat) (l : List Int) (hn : l.length = n) (hm : l.length ≤ 140737488355328) (w : World) (hb : Bs w w.heap.size a l) :
    Calls Try.prog 57 #[.slice a n c] w (Made w l.reverse) := by
  subst hn
  obtain ⟨i0, hi, hz0, hz1, hz2⟩ := info_parts u8_info
  go_enter Try.func57, Try.ntmps57
  go_wp2
  go_loopw [3, 4] (fun v i wr => ∃ k : Nat, k ≤ l.length ∧ i = .int .i64 ((l.length : Int) - k - 1) ∧ (∃ a' c', v = .slice a' k c') ∧ wr.ownsRow w.heap.size 5 1 v k ((l.reverse.take k).map (Value.int .u8)) ∧ Below w.heap.size w wr) (fun _ i _ => (intOf i + 1).toNat)
  case atStart => exact ⟨0, Nat.zero_le _, by simp, ⟨none, 0, rfl⟩, by simpa using World.ownsRow_nil _ _ _ _, Below.refl _ _⟩
  case round =>
    obtain ⟨k, hk, rfl, ⟨a', c', rfl⟩, hown, hbel⟩ := hrel
    by_cases hlt : k < l.length
    · obtain ⟨b, off, rfl, hbl, hc⟩ := (hb.below hbel).at_ (i := l.length - 1 - k) (by omega)
      have hs := reverse_take l k hlt
      have HS := Lib.hid hs; clear hs
      have hv := hb.1.at_ (l.length - 1 - k)
      obtain ⟨m, hm'⟩ : ∃ m, l.length = m + 1 + k := ⟨l.length - 1 - k, by omega⟩
      have e1 : l.length - 1 - k = m := by omega
      rw [e1] at hc HS hv
      have e2 : (l.length : Int) - k - 1 = m := by omega
      rw [e2]
      have hml : (m : Int) < l.length := by omega
      have HM := Lib.hid hm'; clear hm' e1 e2
      generalize l.getD m 0 = x at *
      have hsz := hbel.size
      go_wp2_with (at_builtin; refine wpList_append_own _ rfl _ _ 37 rfl w.heap.size 5 i0 (.int .u8 0) 1 1 Try.underlying37 hi hz0 hz1 hz2 rfl (by decide) _ _ _ rfl (hown.alloc _) ⟨wr.heap.size, 0, none⟩ 1 1 [.int .u8 x] rfl rfl ?c1 ?c2 ?c3 ?c4 ?c5 ?_)
      case c1 => exact one_new _ _ _
      case c2 => simp [Value.oneCell']
      case c3 => simp only [maxLen]; omega
      case c4 => omega
      case c5 => simp; omega
      intro v' w1 hown1 hg1 _
      have hb1 := grown_below hbel hsz hown hg1
      obtain ⟨a2, c2, rfl⟩ := own_shape hown1
      clear hown hbel hg1 hb
      go_wp2
      go_roundw
      case rel => exact ⟨k + 1, by omega, by refine congrArg (Value.int .i64) ?_; have := HM.out; omega, ⟨a2, c2, rfl⟩, by rw [HS.out]; simpa using hown1, hb1⟩
      case measure => simp [intOf]
    · obtain rfl : k = l.length := by omega
      have hown' := own_cast (n' := l.reverse.length) (ys := l.reverse.map (Value.int .u8)) hown (by simp) (by rw [show l.length = l.reverse.length by simp, List.take_length])
      rw [show (l.length : Int) - (l.length : Int) - 1 = -1 by omega]
      have HO := Lib.hid hown'
      clear hown hown'
      go_wp2
      go_ret
      exact ⟨a', c', by simp, HO.out, hbel⟩

theorem ret2 {a b c d : Int} {k l : IntKind} (h1 : a = c) (h2 : b = d) : Ending.returned (.tuple #[.int k a, .int l b]) = .returned (.tuple #[.int k c, .int l d]) := by rw [h1, h2]
/-- the piece of n bytes at a place -/
def piece (l : List Int) (at_ n : Int) : List Int := (l.drop at_.toNat).take n.toNat
def BG (l : List Int) (at_ n : Int) : Int × Int :=
  if n < 1 ∨ 8 < n ∨ at_ < 0 then (0, 1) else if (l.length : Int) < at_ + n then (0, 2) else (numW (piece l at_ n), 0)
def LT (l : List Int) (at_ n : Int) : Int × Int :=
  if n < 1 ∨ 8 < n ∨ at_ < 0 then (0, 1) else if (l.length : Int) < at_ + n then (0, 2) else (numW (piece l at_ n).reverse, 0)
theorem bg_arg {l : List Int} {at_ n : Int} (h : n < 1 ∨ 8 < n ∨ at_ < 0) : BG l at_ n = (0, 1) ∧ LT l at_ n = (0, 1) := by simp [BG, LT, h]
theorem bg_short {l : List Int} {at_ n : Int} (h : 1 ≤ n ∧ n ≤ 8 ∧ 0 ≤ at_) (h2 : (l.length : Int) < at_ + n) : BG l at_ n = (0, 2) ∧ LT l at_ n = (0, 2) := by
  have h' : ¬ (n < 1 ∨ 8 < n ∨ at_ < 0) := by omega
  simp [BG, LT, h', h2]
theorem bg_yes {l : List Int} {at_ n : Int} (h : 1 ≤ n ∧ n ≤ 8 ∧ 0 ≤ at_) (h2 : at_ + n ≤ (l.length : Int)) : BG l at_ n = (numW (piece l at_ n), 0) ∧ LT l at_ n = (numW (piece l at_ n).reverse, 0) := by
  have h' : ¬ (n < 1 ∨ 8 < n ∨ at_ < 0) := by omega
  have h'' : ¬ (l.length : Int) < at_ + n := by omega
  simp [BG, LT, h', h'']
theorem piece_len {l : List Int} {at_ n : Int} (h : 0 ≤ n ∧ 0 ≤ at_) (h2 : at_ + n ≤ (l.length : Int)) : (piece l at_ n).length = n.toNat := by
  simp [piece]; omega

theorem refBig (a : Option Addr) (c : Nat) (l : List Int) (at_ n : Int) (hat : -9223372036854775808 ≤ at_ ∧ at_ ≤ 9223372036854775807) (hn : -9223372036854775808 ≤ n ∧ n ≤ 9223372036854775807)
    (hlc : l.length ≤ c) (hm : l.length ≤ 140737488355328) (w : World) (B : Nat) (hb : Bs w B a l) :
    Calls Try.prog 32 #[.slice a l.length c, .int .i64 at_, .int .i64 n] w fun e w' => e = .returned (.tuple #[.int .i64 (BG l at_ n).1, .int .i64 (BG l at_ n).2]) ∧ w = w' := by
  by_cases h1 : n < 1 ∨ 8 < n ∨ at_ < 0
  · rw [(bg_arg h1).1]
    rcases h1 with h | h | h
    · go_enter Try.func32, Try.ntmps32
      go_wp2
      go_ret2
      exact ⟨rfl, rfl⟩
    · have h' : ¬ n < 1 := by omega
      go_enter Try.func32, Try.ntmps32
      go_wp2
      go_ret2
      exact ⟨rfl, rfl⟩
    · by_cases h' : n < 1
      · go_enter Try.func32, Try.ntmps32
        go_wp2
        go_ret2
        exact ⟨rfl, rfl⟩
      · go_enter Try.func32, Try.ntmps32
        go_wp2
        all_goals go_ret2
        all_goals exact ⟨rfl, rfl⟩
  · by_cases h2 : (l.length : Int) < at_ + n
    · rw [(bg_short (by omega) h2).1]
      have g1 : ¬ n < 1 := by omega
      have g2 : ¬ 8 < n := by omega
      have g3 : ¬ at_ < 0 := by omega
      by_cases h3 : (l.length : Int) < at_
      · go_enter Try.func32, Try.ntmps32
        go_wp2
        go_ret2
        exact ⟨rfl, rfl⟩
      · go_enter Try.func32, Try.ntmps32
        go_wp2
        go_ret2
        exact ⟨rfl, rfl⟩
    · rw [(bg_yes (by omega) (by omega)).1]
      have g1 : ¬ n < 1 := by omega
      have g2 : ¬ 8 < n := by omega
      have g3 : ¬ at_ < 0 := by omega
      have hpl := piece_len (l := l) (at_ := at_) (n := n) (by omega) (by omega)
      obtain ⟨k, rfl⟩ := Int.eq_ofNat_of_zero_le (show 0 ≤ at_ by omega)
      obtain ⟨m, rfl⟩ := Int.eq_ofNat_of_zero_le (show 0 ≤ n by omega)
      rw [Int.toNat_natCast] at hpl
      have hp : 0 < l.length := by omega
      obtain ⟨b, off, rfl, hbl, _⟩ := hb.at_ hp
      have hcut := hb.cut k m (by omega)
      have HP := Lib.hid hpl; clear hpl
      go_enter Try.func32, Try.ntmps32
      go_wp2_with (go_at_call 56; refine (refNumber _ _ _ (piece l k m) HP.out (by rw [HP.out]; simp only [maxLen]; omega) _ _ hcut).mono ?_; rintro e w' ⟨rfl, rfl⟩)
      go_ret2
      exact ⟨rfl, rfl⟩
theorem refLittle (a : Option Addr) (c : Nat) (l : List Int) (at_ n : Int) (hat : -9223372036854775808 ≤ at_ ∧ at_ ≤ 9223372036854775807) (hn : -9223372036854775808 ≤ n ∧ n ≤ 9223372036854775807)
    (hlc : l.length ≤ c) (hm : l.length ≤ 140737488355328) (w : World) (hb : Bs w w.heap.size a l) :
    Calls Try.prog 30 #[.slice a l.length c, .int .i64 at_, .int .i64 n] w fun e w' => e = .returned (.tuple #[.int .i64 (LT l at_ n).1, .int .i64 (LT l at_ n).2]) ∧ Below w.heap.size w w' := by
  by_cases h1 : n < 1 ∨ 8 < n ∨ at_ < 0
  · rw [(bg_arg h1).2]
    rcases h1 with h | h | h
    · go_enter Try.func30, Try.ntmps30
      go_wp2
      go_ret2
      exact ⟨rfl, Below.refl _ _⟩
    · have h' : ¬ n < 1 := by omega
      go_enter Try.func30, Try.ntmps30
      go_wp2
      go_ret2
      exact ⟨rfl, Below.refl _ _⟩
    · by_cases h' : n < 1
      · go_enter Try.func30, Try.ntmps30
        go_wp2
        go_ret2
        exact ⟨rfl, Below.refl _ _⟩
      · go_enter Try.func30, Try.ntmps30
        go_wp2
        all_goals go_ret2
        all_goals exact ⟨rfl, Below.refl _ _⟩
  · by_cases h2 : (l.length : Int) < at_ + n
    · rw [(bg_short (by omega) h2).2]
      have g1 : ¬ n < 1 := by omega
      have g2 : ¬ 8 < n := by omega
      have g3 : ¬ at_ < 0 := by omega
      by_cases h3 : (l.length : Int) < at_
      · go_enter Try.func30, Try.ntmps30
        go_wp2
        go_ret2
        exact ⟨rfl, Below.refl _ _⟩
      · go_enter Try.func30, Try.ntmps30
        go_wp2
        go_ret2
        exact ⟨rfl, Below.refl _ _⟩
    · rw [(bg_yes (by omega) (by omega)).2]
      have g1 : ¬ n < 1 := by omega
      have g2 : ¬ 8 < n := by omega
      have g3 : ¬ at_ < 0 := by omega
      have hpl := piece_len (l := l) (at_ := at_) (n := n) (by omega) (by omega)
      obtain ⟨k, rfl⟩ := Int.eq_ofNat_of_zero_le (show 0 ≤ at_ by omega)
      obtain ⟨m, rfl⟩ := Int.eq_ofNat_of_zero_le (show 0 ≤ n by omega)
      rw [Int.toNat_natCast] at hpl
      have hp : 0 < l.length := by omega
      obtain ⟨b, off, rfl, hbl, _⟩ := hb.at_ hp
      have hcut := hb.cut k m (by omega)
      have HP := Lib.hid hpl; clear hpl
      go_enter Try.func30, Try.ntmps30
      go_wp2_with (first | (go_at_call 57; refine (refTurn _ _ _ (piece l k m) HP.out (by rw [HP.out]; omega) _ hcut).mono ?_; rintro e w1 ⟨a1, c1, rfl, hown1, hbel1⟩; have hb1 := Bs.of_own hown1 hcut.1.reverse; clear hown1) | (go_at_call 56; refine (refNumber _ _ _ (piece l k m).reverse (by simp) (by rw [List.length_reverse, HP.out]; simp only [maxLen]; omega) _ _ hb1).mono ?_; rintro e w' ⟨rfl, rfl⟩))
      go_ret2
      exact ⟨rfl, hbel1⟩
end Go.Proofs.Ytkkgfphfilbcdaa
