/- Canonical prefix codes as numbers: where the words of a length begin, that no word begins another one, and that a full code has a word for all bits. No condition but lengths up to 15; no program is named. What a prefix code reads out of bits, as plain mathematics: words highest bit first, the longest word, the next symbol. No condition; no program is named. -/
import Derived.Orders
import Derived.Test.YtdcpibglbanchaaDoorGa
set_option linter.unusedVariables false
set_option maxRecDepth 100000
namespace Go.Proofs.YtdcpibglbanchaaDoor

/-- how many symbols have words of n bits -/
def pcnt (ns : List Nat) (n : Nat) : Nat := ns.count n
/-- the first word of n bits -/
def pfirst (ns : List Nat) : Nat → Nat
  | 0 => 0
  | 1 => 0
  | n + 2 => 2 * (pfirst ns (n + 1) + pcnt ns (n + 1))
/-- what the words take up, in parts of 2^15 -/
def kraft (ns : List Nat) : Nat := (ns.map fun n => if n = 0 then 0 else 2 ^ (15 - n)).sum
/-- what the words of up to k bits take up -/
def ppart (ns : List Nat) : Nat → Nat
  | 0 => 0
  | k + 1 => ppart ns k + pcnt ns (k + 1) * 2 ^ (15 - (k + 1))

theorem pfirst_part (ns : List Nat) : ∀ k, k ≤ 14 → pfirst ns (k + 1) * 2 ^ (15 - (k + 1)) = ppart ns k
  | 0, _ => by simp [pfirst, ppart]
  | k + 1, h => by
    have ih := pfirst_part ns k (by omega)
    have e : 15 - (k + 1) = (15 - (k + 2)) + 1 := by omega
    rw [ppart, ← ih, pfirst, e, Nat.pow_succ]
    generalize 2 ^ (15 - (k + 2)) = p
    generalize pfirst ns (k + 1) = f
    generalize pcnt ns (k + 1) = c
    rw [← Nat.add_mul, Nat.mul_comm p 2, ← Nat.mul_assoc, Nat.mul_comm 2 (f + c)]
theorem pend_part (ns : List Nat) {n : Nat} (h0 : 1 ≤ n) (h1 : n ≤ 15) : (pfirst ns n + pcnt ns n) * 2 ^ (15 - n) = ppart ns n := by
  obtain ⟨k, rfl⟩ : ∃ k, n = k + 1 := ⟨n - 1, by omega⟩
  rw [ppart, Nat.add_mul, pfirst_part ns k (by omega)]
theorem ppart_mono (ns : List Nat) {k m : Nat} (h : k ≤ m) : ppart ns k ≤ ppart ns m := by
  induction m with
  | zero => obtain rfl : k = 0 := by omega
            exact Nat.le_refl _
  | succ m ih =>
    rcases Nat.lt_or_ge k (m + 1) with q | q
    · exact Nat.le_trans (ih (by omega)) (by rw [ppart]; exact Nat.le_add_right _ _)
    · obtain rfl : k = m + 1 := by omega
      exact Nat.le_refl _
theorem ppart_cons (x : Nat) (ns : List Nat) : ∀ k, ppart (x :: ns) k = ppart ns k + (if 0 < x ∧ x ≤ k then 2 ^ (15 - x) else 0)
  | 0 => by simp [ppart]; omega
  | k + 1 => by
    rw [ppart, ppart, ppart_cons x ns k]
    unfold pcnt
    by_cases hx : x = k + 1
    · subst hx
      have e : List.count (k + 1) ((k + 1) :: ns) = List.count (k + 1) ns + 1 := by simp
      rw [e, Nat.add_mul, if_neg (by omega), if_pos (by omega)]
      omega
    · have e : List.count (k + 1) (x :: ns) = List.count (k + 1) ns := by simp [hx]
      rw [e]
      by_cases h : 0 < x ∧ x ≤ k
      · rw [if_pos h, if_pos (by omega)]; omega
      · rw [if_neg h, if_neg (by omega)]; omega
theorem kraft_part {ns : List Nat} (h : ∀ n ∈ ns, n ≤ 15) : kraft ns = ppart ns 15 := by
  induction ns with
  | nil =>
    have e : ∀ k, ppart [] k = 0 := fun k => by
      induction k with
      | zero => rfl
      | succ k ih => rw [ppart, ih]; simp [pcnt]
    rw [e]; rfl
  | cons x ns ih =>
    have ih := ih fun n hn => h n (by simp [hn])
    have hx := h x (by simp)
    rw [ppart_cons, ← ih]
    unfold kraft
    simp only [List.map_cons, List.sum_cons]
    by_cases h0 : x = 0
    · subst h0; simp
    · rw [if_neg h0, if_pos (by omega)]; omega
theorem pend_le {ns : List Nat} (h : ∀ n ∈ ns, n ≤ 15) (hk : kraft ns ≤ 2 ^ 15) {n : Nat} (h0 : 1 ≤ n) (h1 : n ≤ 15) : pfirst ns n + pcnt ns n ≤ 2 ^ n := by
  have e := pend_part ns h0 h1
  have hm := ppart_mono ns h1
  rw [← kraft_part h] at hm
  have e2 : 2 ^ 15 = 2 ^ n * 2 ^ (15 - n) := by rw [← Nat.pow_add]; congr 1; omega
  rw [← e] at hm
  exact Nat.le_of_mul_le_mul_right (Nat.le_trans hm (Nat.le_trans hk (Nat.le_of_eq e2))) (Nat.two_pow_pos _)
/-- the words of m bits begin behind all that the words of n bits begin -/
theorem pfirst_behind (ns : List Nat) {n m : Nat} (h0 : 1 ≤ n) (hnm : n < m) (h1 : m ≤ 15) : (pfirst ns n + pcnt ns n) * 2 ^ (m - n) ≤ pfirst ns m := by
  obtain ⟨k, rfl⟩ : ∃ k, m = k + 1 := ⟨m - 1, by omega⟩
  have e1 := pend_part ns h0 (by omega : n ≤ 15)
  have e2 := pfirst_part ns k (by omega)
  have hm := ppart_mono ns (by omega : n ≤ k)
  rw [← e1, ← e2] at hm
  have e3 : 2 ^ (15 - n) = 2 ^ (k + 1 - n) * 2 ^ (15 - (k + 1)) := by rw [← Nat.pow_add]; congr 1; omega
  rw [e3, ← Nat.mul_assoc] at hm
  exact Nat.le_of_mul_le_mul_right hm (Nat.two_pow_pos _)
theorem pfirst_step (ns : List Nat) {n : Nat} (h : 1 ≤ n) : pfirst ns (n + 1) = 2 * (pfirst ns n + pcnt ns n) := by
  obtain ⟨k, rfl⟩ : ∃ k, n = k + 1 := ⟨n - 1, by omega⟩
  rfl

/-- of the symbols ahead of s how many have words as long -/
def prank (ns : List Nat) (s : Nat) : Nat := (ns.take s).count (ns.getD s 0)
/-- the word of s -/
def pword (ns : List Nat) (s : Nat) : Nat := pfirst ns (ns.getD s 0) + prank ns s
/-- the symbols with words of n bits, rising -/
def pidx (ns : List Nat) (n : Nat) : List Nat := (List.range ns.length).filter fun i => ns.getD i 0 == n

theorem take_count_succ (ns : List Nat) (s n : Nat) (h : s < ns.length) : (ns.take (s + 1)).count n = (ns.take s).count n + (if ns.getD s 0 = n then 1 else 0) := by
  rw [List.take_succ_eq_append_getElem h, List.count_append, List.getD_eq_getElem?_getD, List.getElem?_eq_getElem h]
  simp [List.count_cons]
theorem take_count_mono (ns : List Nat) (n : Nat) {s t : Nat} (h : s ≤ t) : (ns.take s).count n ≤ (ns.take t).count n := by
  have e : t = s + (t - s) := by omega
  rw [e, List.take_add, List.count_append]
  exact Nat.le_add_right _ _
theorem prank_lt (ns : List Nat) {s : Nat} (h : s < ns.length) : prank ns s < pcnt ns (ns.getD s 0) := by
  have h1 := take_count_succ ns s (ns.getD s 0) h
  have h2 := take_count_mono ns (ns.getD s 0) (s := s + 1) (t := ns.length) (by omega)
  rw [List.take_length] at h2
  rw [if_pos rfl] at h1
  unfold prank pcnt; omega
theorem prank_rise (ns : List Nat) {s t : Nat} (hst : s < t) (ht : t < ns.length) (he : ns.getD s 0 = ns.getD t 0) : prank ns s < prank ns t := by
  have h1 := take_count_succ ns s (ns.getD s 0) (by omega)
  have h2 := take_count_mono ns (ns.getD s 0) (s := s + 1) (t := t) (by omega)
  rw [if_pos rfl] at h1
  unfold prank; rw [← he]; omega
theorem pword_bound {ns : List Nat} (h : ∀ n ∈ ns, n ≤ 15) (hk : kraft ns ≤ 2 ^ 15) {s : Nat} (hs : s < ns.length) (h0 : 1 ≤ ns.getD s 0) : pword ns s < 2 ^ ns.getD s 0 := by
  have h1 : ns.getD s 0 ≤ 15 := by
    rw [List.getD_eq_getElem?_getD, List.getElem?_eq_getElem hs]; exact h _ (List.getElem_mem hs)
  have := pend_le h hk h0 h1
  have := prank_lt ns hs
  unfold pword; omega
/-- no word begins another one -/
theorem pword_free {ns : List Nat} (h : ∀ n ∈ ns, n ≤ 15) {s t : Nat} (hs : s < ns.length) (ht : t < ns.length) (hst : s ≠ t) (h0 : 1 ≤ ns.getD s 0) (hm : ns.getD s 0 ≤ ns.getD t 0) :
    pword ns t / 2 ^ (ns.getD t 0 - ns.getD s 0) ≠ pword ns s := by
  have h1 : ns.getD t 0 ≤ 15 := by
    rw [List.getD_eq_getElem?_getD, List.getElem?_eq_getElem ht]; exact h _ (List.getElem_mem ht)
  rcases Nat.lt_or_ge (ns.getD s 0) (ns.getD t 0) with q | q
  · have h2 := pfirst_behind ns h0 q h1
    have h3 := prank_lt ns hs
    have h4 : pfirst ns (ns.getD s 0) + pcnt ns (ns.getD s 0) ≤ pword ns t / 2 ^ (ns.getD t 0 - ns.getD s 0) := by
      rw [Nat.le_div_iff_mul_le (Nat.two_pow_pos _)]
      unfold pword; omega
    have h5 : pword ns s = pfirst ns (ns.getD s 0) + prank ns s := rfl
    omega
  · have e : ns.getD s 0 = ns.getD t 0 := by omega
    rw [e, Nat.sub_self, Nat.pow_zero, Nat.div_one]
    unfold pword
    rw [e]
    rcases Nat.lt_or_ge s t with r | r
    · have := prank_rise ns r ht e; omega
    · have := prank_rise ns (by omega : t < s) hs e.symm; omega
/-- words of one length rise with their symbols -/
theorem pword_rise (ns : List Nat) {s t : Nat} (hst : s < t) (ht : t < ns.length) (he : ns.getD s 0 = ns.getD t 0) : pword ns s < pword ns t := by
  have := prank_rise ns hst ht he
  unfold pword; rw [he]; omega

theorem pidx_upto (ns : List Nat) (n : Nat) : ∀ k, k ≤ ns.length → ((List.range k).filter fun i => ns.getD i 0 == n).length = (ns.take k).count n
  | 0, _ => by simp
  | k + 1, h => by
    rw [List.range_succ, List.filter_append, List.length_append, pidx_upto ns n k (by omega), take_count_succ ns k n (by omega)]
    congr 1
    rw [List.filter_cons, List.filter_nil]
    by_cases e : ns.getD k 0 = n
    · rw [if_pos (by rw [e]; simp), if_pos e]; rfl
    · rw [if_neg (by rw [beq_iff_eq]; exact e), if_neg e]; rfl
theorem pidx_len (ns : List Nat) (n : Nat) : (pidx ns n).length = pcnt ns n := by
  unfold pidx pcnt
  rw [pidx_upto ns n _ (Nat.le_refl _), List.take_length]
theorem pidx_rank (ns : List Nat) {s : Nat} (hs : s < ns.length) : (pidx ns (ns.getD s 0))[prank ns s]? = some s := by
  have e : ns.length = s + (ns.length - s) := by omega
  unfold pidx
  rw [e, List.range_add, List.filter_append]
  have hl := pidx_upto ns (ns.getD s 0) s (by omega)
  rw [List.getElem?_append_right (by rw [hl]; exact Nat.le_refl _), hl]
  have e2 : (ns.take s).count (ns.getD s 0) = prank ns s := rfl
  rw [e2, Nat.sub_self]
  obtain ⟨m, hm⟩ : ∃ m, ns.length - s = m + 1 := ⟨ns.length - s - 1, by omega⟩
  rw [hm, List.range_succ_eq_map]
  simp
theorem pidx_mem (ns : List Nat) {n i s : Nat} (h : (pidx ns n)[i]? = some s) : s < ns.length ∧ ns.getD s 0 = n ∧ prank ns s = i := by
  have hm : s ∈ pidx ns n := List.mem_of_getElem? h
  unfold pidx at hm
  rw [List.mem_filter, List.mem_range] at hm
  obtain ⟨hs, he⟩ := hm
  have he : ns.getD s 0 = n := by simpa using he
  refine ⟨hs, he, ?_⟩
  have h2 := pidx_rank ns hs
  rw [he] at h2
  have hnd : (pidx ns n).Pairwise (· < ·) := List.Pairwise.filter _ List.pairwise_lt_range
  obtain ⟨hi, h3⟩ := List.getElem?_eq_some_iff.1 h
  obtain ⟨hj, h4⟩ := List.getElem?_eq_some_iff.1 h2
  have hp := List.pairwise_iff_getElem.1 hnd
  rcases Nat.lt_trichotomy (prank ns s) i with q | q | q
  · have := hp _ _ hj hi q; omega
  · exact q
  · have := hp _ _ hi hj q; omega
/-- the symbol whose word the n bits v are -/
def plook (ns : List Nat) (n v : Nat) : Option Nat := if pfirst ns n ≤ v then (pidx ns n)[v - pfirst ns n]? else none
theorem plook_iff (ns : List Nat) (n v s : Nat) : plook ns n v = some s ↔ s < ns.length ∧ ns.getD s 0 = n ∧ pword ns s = v := by
  unfold plook
  constructor
  · intro h
    split at h
    · rename_i hle
      obtain ⟨h1, h2, h3⟩ := pidx_mem ns h
      exact ⟨h1, h2, by unfold pword; rw [h2]; omega⟩
    · cases h
  · rintro ⟨h1, rfl, rfl⟩
    have e : pword ns s = pfirst ns (ns.getD s 0) + prank ns s := rfl
    rw [if_pos (by omega), e, Nat.add_sub_cancel_left, pidx_rank ns h1]
theorem plook_none (ns : List Nat) (n v : Nat) : plook ns n v = none ↔ v < pfirst ns n ∨ pfirst ns n + pcnt ns n ≤ v := by
  unfold plook
  split
  · rw [List.getElem?_eq_none_iff, pidx_len]; omega
  · simp; omega
theorem plook_some (ns : List Nat) (n v : Nat) (h1 : pfirst ns n ≤ v) (h2 : v < pfirst ns n + pcnt ns n) : ∃ s, plook ns n v = some s := by
  cases h : plook ns n v with
  | some s => exact ⟨s, rfl⟩
  | none => rw [plook_none] at h; omega
/-- bits that have no word among their beginnings stand behind all words so long -/
theorem pbehind (ns : List Nat) {n v : Nat} (h : ∀ j, 1 ≤ j → j ≤ n → plook ns j (v / 2 ^ (n - j)) = none) : ∀ j, 1 ≤ j → j ≤ n → pfirst ns j + pcnt ns j ≤ v / 2 ^ (n - j) := by
  intro j
  induction j with
  | zero => intro h0; omega
  | succ j ih =>
    intro _ hj
    have hl := (plook_none ns _ _).1 (h (j + 1) (by omega) hj)
    rcases hl with hl | hl
    · exfalso
      rcases Nat.eq_zero_or_pos j with h0 | h0
      · subst h0; simp [pfirst] at hl
      · have ih := ih h0 (by omega)
        rw [pfirst_step ns h0] at hl
        have e : n - j = (n - (j + 1)) + 1 := by omega
        rw [e, Nat.pow_succ, ← Nat.div_div_eq_div_mul] at ih
        omega
    · exact hl
/-- in a full code such bits begin a longer word, if there is any longer one -/
theorem pfull_longer {ns : List Nat} (h : ∀ n ∈ ns, n ≤ 15) (hk : kraft ns = 2 ^ 15) {n v L : Nat} (hn : 1 ≤ n) (hv : v < 2 ^ n) (hb : pfirst ns n + pcnt ns n ≤ v) (hL : n < L) (hL15 : L ≤ 15) (hlong : ∀ m ∈ ns, m ≤ L) :
    ∃ s, s < ns.length ∧ n < ns.getD s 0 ∧ pword ns s / 2 ^ (ns.getD s 0 - n) = v := by
  have hend : pfirst ns L + pcnt ns L = 2 ^ L := by
    have e := pend_part ns (by omega : 1 ≤ L) hL15
    have hz : ∀ k, L + k ≤ 15 → ppart ns (L + k) = ppart ns L := fun k => by
      induction k with
      | zero => intro _; rfl
      | succ k ih =>
        intro hk
        rw [← Nat.add_assoc, ppart, ih (by omega)]
        have : pcnt ns (L + k + 1) = 0 := by
          unfold pcnt
          rw [List.count_eq_zero]
          intro hm; have := hlong _ hm; omega
        rw [this]; simp
    have e3 := hz (15 - L) (by omega)
    rw [(by omega : L + (15 - L) = 15), ← kraft_part h, hk, ← e] at e3
    have e2 : 2 ^ 15 = 2 ^ L * 2 ^ (15 - L) := by rw [← Nat.pow_add]; congr 1; omega
    rw [e2] at e3
    exact (Nat.eq_of_mul_eq_mul_right (Nat.two_pow_pos _) e3).symm
  have hfind : ∀ d, n + d ≤ L → pfirst ns (n + d) + pcnt ns (n + d) ≤ v * 2 ^ d ∨ ∃ m, n < m ∧ m ≤ n + d ∧ pfirst ns m ≤ v * 2 ^ (m - n) ∧ v * 2 ^ (m - n) < pfirst ns m + pcnt ns m := by
    intro d
    induction d with
    | zero => intro _; left; simpa using hb
    | succ d ih =>
      intro hd
      rcases ih (by omega) with q | ⟨m, q1, q2, q3, q4⟩
      · have hs := pfirst_step ns (by omega : 1 ≤ n + d)
        rcases Nat.lt_or_ge (v * 2 ^ (d + 1)) (pfirst ns (n + (d + 1)) + pcnt ns (n + (d + 1))) with r | r
        · right
          refine ⟨n + (d + 1), by omega, Nat.le_refl _, ?_, ?_⟩
          · rw [(by omega : n + (d + 1) - n = d + 1), ← Nat.add_assoc, hs, Nat.pow_succ, ← Nat.mul_assoc]; omega
          · rw [(by omega : n + (d + 1) - n = d + 1)]; exact r
        · left; exact r
      · right; exact ⟨m, q1, by omega, q3, q4⟩
  rcases hfind (L - n) (by omega) with q | ⟨m, q1, q2, q3, q4⟩
  · exfalso
    rw [(by omega : n + (L - n) = L), hend] at q
    have e2 : 2 ^ L = 2 ^ n * 2 ^ (L - n) := by rw [← Nat.pow_add]; congr 1; omega
    rw [e2] at q
    have := Nat.le_of_mul_le_mul_right q (Nat.two_pow_pos _)
    omega
  · obtain ⟨s, hs⟩ := plook_some ns m _ q3 q4
    obtain ⟨h1, h2, h3⟩ := (plook_iff ns m _ s).1 hs
    refine ⟨s, h1, by omega, ?_⟩
    rw [h3, h2, Nat.mul_div_cancel _ (Nat.two_pow_pos _)]
end Go.Proofs.YtdcpibglbanchaaDoor

set_option linter.unusedVariables false
set_option maxRecDepth 100000
namespace Go.Proofs.YtdcpibglbanchaaDoor
open Go.RowKit

/-- the number of n bits from the bit p on, the first one the highest -/
def wd (l : List Int) (p : Nat) : Nat → Nat
  | 0 => 0
  | n + 1 => 2 * wd l p n + (bt l (p + n)).toNat
theorem bt_nat (l : List Int) (j : Nat) : ((bt l j).toNat : Int) = bt l j ∧ (bt l j).toNat ≤ 1 := by have := bt_bd l j; omega
theorem wd_lt (l : List Int) (p : Nat) : ∀ n, wd l p n < 2 ^ n
  | 0 => by simp [wd]
  | n + 1 => by have := wd_lt l p n; have := (bt_nat l (p + n)).2; rw [wd, Nat.pow_succ]; omega
theorem wd_div (l : List Int) (p j : Nat) : ∀ k, wd l p (j + k) / 2 ^ k = wd l p j
  | 0 => by simp
  | k + 1 => by
    have h := (bt_nat l (p + (j + k))).2
    have e : wd l p (j + (k + 1)) / 2 = wd l p (j + k) := by rw [← Nat.add_assoc, wd]; omega
    rw [Nat.pow_succ, Nat.mul_comm, ← Nat.div_div_eq_div_mul, e, wd_div l p j k]
/-- the longest word's bits, up to m -/
def plong (ns : List Nat) : Nat → Nat
  | 0 => 0
  | m + 1 => if pcnt ns (m + 1) = 0 then plong ns m else m + 1
theorem plong_le (ns : List Nat) : ∀ m, plong ns m ≤ m
  | 0 => Nat.le_refl _
  | m + 1 => by rw [plong]; split; · have := plong_le ns m; omega
                · exact Nat.le_refl _
theorem plong_ge (ns : List Nat) {n : Nat} (h : pcnt ns n ≠ 0) : ∀ m, n ≤ m → n ≤ plong ns m
  | 0, hm => by omega
  | m + 1, hm => by
    rw [plong]
    split
    · rename_i h0
      have : n ≠ m + 1 := fun e => by subst e; exact h h0
      exact plong_ge ns h m (by omega)
    · exact hm
theorem plong_cnt (ns : List Nat) : ∀ m, plong ns m ≠ 0 → pcnt ns (plong ns m) ≠ 0
  | 0, h => absurd rfl h
  | m + 1, h => by
    rw [plong] at h ⊢
    split
    · rename_i h0; rw [if_pos h0] at h; exact plong_cnt ns m h
    · rename_i h0; exact h0
theorem plong_zero (ns : List Nat) : ∀ m n, plong ns m < n → n ≤ m → pcnt ns n = 0 := fun m n h1 h2 => by
  rcases Nat.eq_zero_or_pos (pcnt ns n) with h | h
  · exact h
  · have := plong_ge ns (n := n) (by omega) m h2; omega
/-- the next symbol behind n bits that have none, if f more may be taken: the symbol, the error, the place behind -/
def nxR (ns : List Nat) (l : List Int) (p : Nat) : Nat → Nat → Int × Int × Nat
  | n, 0 => (0, 6, p + n)
  | n, f + 1 => if p + n < 8 * l.length then (match plook ns (n + 1) (wd l p (n + 1)) with | some s => ((s : Int), 0, p + n + 1) | none => nxR ns l p (n + 1) f) else (0, 2, p + n)
def nxt (ns : List Nat) (l : List Int) (p : Nat) : Int × Int × Nat := nxR ns l p 0 (plong ns 15)
theorem nxR_end (ns : List Nat) (l : List Int) (p n : Nat) : nxR ns l p n 0 = (0, 6, p + n) := rfl
theorem nxR_short (ns : List Nat) (l : List Int) (p n f : Nat) (h : 8 * l.length ≤ p + n) : nxR ns l p n (f + 1) = (0, 2, p + n) := by rw [nxR, if_neg (by omega)]
theorem nxR_some (ns : List Nat) (l : List Int) (p n f s : Nat) (h : p + n < 8 * l.length) (hs : plook ns (n + 1) (wd l p (n + 1)) = some s) : nxR ns l p n (f + 1) = ((s : Int), 0, p + n + 1) := by rw [nxR, if_pos h, hs]
theorem nxR_none (ns : List Nat) (l : List Int) (p n f : Nat) (h : p + n < 8 * l.length) (hs : plook ns (n + 1) (wd l p (n + 1)) = none) : nxR ns l p n (f + 1) = nxR ns l p (n + 1) f := by rw [nxR, if_pos h, hs]
theorem nxR_bd (ns : List Nat) (l : List Int) (p : Nat) : ∀ f n, p + n ≤ 8 * l.length → p + n ≤ (nxR ns l p n f).2.2 ∧ (nxR ns l p n f).2.2 ≤ 8 * l.length ∧ (nxR ns l p n f).2.2 ≤ p + n + f ∧ ((nxR ns l p n f).2.1 = 0 → p + n < (nxR ns l p n f).2.2 ∧ ∃ s : Nat, s < ns.length ∧ (nxR ns l p n f).1 = s ∧ 1 ≤ ns.getD s 0)
  | 0, n, h => by simp [nxR]; omega
  | f + 1, n, h => by
    rcases Nat.lt_or_ge (p + n) (8 * l.length) with q | q
    · cases hs : plook ns (n + 1) (wd l p (n + 1)) with
      | some s =>
        rw [nxR_some _ _ _ _ _ _ q hs]
        have := (plook_iff ns _ _ s).1 hs
        exact ⟨by simp <;> omega, by simp <;> omega, by simp <;> omega, fun _ => ⟨by simp <;> omega, s, this.1, rfl, by omega⟩⟩
      | none =>
        rw [nxR_none _ _ _ _ _ q hs]
        obtain ⟨h1, h2, h3, h4⟩ := nxR_bd ns l p f (n + 1) (by omega)
        exact ⟨by omega, h2, by omega, fun e => ⟨by have := (h4 e).1; omega, (h4 e).2⟩⟩
    · rw [nxR_short _ _ _ _ _ q]
      exact ⟨Nat.le_refl _, by simp; omega, by simp, fun e => by simp at e⟩
/-- bits that are a symbol's word are read as this symbol -/
theorem nxt_word {ns : List Nat} (hall : ∀ n ∈ ns, n ≤ 15) {l : List Int} {p s : Nat} (hs : s < ns.length) (h0 : 1 ≤ ns.getD s 0) (hw : wd l p (ns.getD s 0) = pword ns s) (hp : p + ns.getD s 0 ≤ 8 * l.length) :
    nxt ns l p = ((s : Int), 0, p + ns.getD s 0) := by
  have h15 : ns.getD s 0 ≤ 15 := by
    rw [List.getD_eq_getElem?_getD, List.getElem?_eq_getElem hs]; exact hall _ (List.getElem_mem hs)
  have hcnt : pcnt ns (ns.getD s 0) ≠ 0 := by have := prank_lt ns hs; omega
  have hL := plong_ge ns hcnt 15 h15
  have key : ∀ k j f, j + (k + 1) = ns.getD s 0 → ns.getD s 0 ≤ j + f → nxR ns l p j f = ((s : Int), 0, p + ns.getD s 0) := by
    intro k
    induction k with
    | zero =>
      intro j f hj hf
      obtain ⟨f, rfl⟩ : ∃ f', f = f' + 1 := ⟨f - 1, by omega⟩
      rw [nxR_some _ _ _ _ _ s (by omega) ((plook_iff _ _ _ _).2 ⟨hs, by omega, by rw [← hw]; congr 1; omega⟩), Nat.add_assoc, hj]
    | succ k ih =>
      intro j f hj hf
      obtain ⟨f, rfl⟩ : ∃ f', f = f' + 1 := ⟨f - 1, by omega⟩
      rw [nxR_none _ _ _ _ _ (by omega), ih (j + 1) f (by omega) (by omega)]
      cases ht : plook ns (j + 1) (wd l p (j + 1)) with
      | none => rfl
      | some t =>
        exfalso
        obtain ⟨t1, t2, t3⟩ := (plook_iff _ _ _ _).1 ht
        have hne : t ≠ s := fun e => by subst e; omega
        refine pword_free hall t1 hs hne (by omega) (by omega) ?_
        rw [t3, t2, ← hw, (by omega : ns.getD s 0 - (j + 1) = k + 1), (by omega : ns.getD s 0 = (j + 1) + (k + 1)), wd_div]
  obtain ⟨k, hk⟩ : ∃ k, ns.getD s 0 = k + 1 := ⟨ns.getD s 0 - 1, by omega⟩
  exact key k 0 _ (by omega) (by omega)
end Go.Proofs.YtdcpibglbanchaaDoor
