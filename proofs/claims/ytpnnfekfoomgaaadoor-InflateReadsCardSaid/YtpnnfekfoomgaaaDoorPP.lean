/- Pure facts for a code that is laid symbol by symbol: a map of words, rows of sixteen numbers, the longest word. No condition; no program is named but for its keys. -/
import Derived.Test.YtpnnfekfoomgaaaDoorPreM
import Derived.Test.YtpnnfekfoomgaaaDoorLib
import Derived.Maps.OwnSet
import Derived.DeepKeys5
import Derived.MapViews
set_option linter.unusedVariables false
set_option maxRecDepth 100000
namespace Go.Proofs.YtpnnfekfoomgaaaDoor
open Go.RowKit Go.Maps

/-- sixteen numbers -/
def arr (f : Nat → Int) : Array Value := ((List.range 16).map fun i => Value.int .i64 (f i)).toArray
theorem arr_size (f : Nat → Int) : (arr f).size = 16 := by simp [arr]
theorem arr_get (f : Nat → Int) {i : Nat} (h : i < 16) : (arr f)[i]? = some (.int .i64 (f i)) := by
  unfold arr
  rw [List.getElem?_toArray, List.getElem?_map, List.getElem?_range h]; rfl
theorem arr_ext {cs : Array Value} {f : Nat → Int} (hs : cs.size = 16) (h : ∀ i, i < 16 → cs[i]? = some (.int .i64 (f i))) : cs = arr f := by
  apply Array.ext_getElem?
  intro i
  by_cases hi : i < 16
  · rw [h i hi, arr_get f hi]
  · rw [Array.getElem?_eq_none (by omega), Array.getElem?_eq_none (by rw [arr_size]; omega)]
theorem arr_set (f : Nat → Int) (i : Nat) (v : Int) : (arr f).setIfInBounds i (.int .i64 v) = arr fun j => if j = i then v else f j := by
  apply arr_ext
  · simp [arr_size]
  · intro j hj
    rw [Array.getElem?_setIfInBounds]
    by_cases h : i = j
    · subst h; simp [arr_size, hj]
    · rw [if_neg h, arr_get f hj, if_neg (fun e => h e.symm)]
theorem arr_congr {f g : Nat → Int} (h : ∀ i, i < 16 → f i = g i) : arr f = arr g := arr_ext (arr_size f) fun i hi => by rw [arr_get f hi, h i hi]

/-- a word of n bits, as a key -/
def wkey (n v : Nat) : Value := .agg #[.int .i64 (n : Int), .int .i64 (v : Int)]
noncomputable def kl (n v : Nat) : Lit := (keyOf Tryd.prog 122 (wkey n v)).getD (.bool false)
theorem wf_nat {n : Nat} (h : n < 9223372036854775808) : (Lit.int .i64 (n : Int)).wf = true := WalkArith.wf_i64 (by omega)
/-- the map reads as this look-up -/
def MapIs (D : DataW Unit) (f : Nat → Nat → Option Nat) : Prop :=
  ∀ n v, n < 9223372036854775808 → v < 9223372036854775808 → Maps.has D (kl n v) = (f n v).isSome ∧ ∀ s, f n v = some s → D.atKey (kl n v) (.lit (.int .i64 0)) = .lit (.int .i64 (s : Int))
theorem mapIs_empty : MapIs (.map []) fun _ _ => none := fun n v _ _ => ⟨rfl, fun s h => by cases h⟩
/-- of the first s symbols the one whose word the n bits v are -/
def plookTo (ns : List Nat) (s n v : Nat) : Option Nat := (plook ns n v).filter fun t => decide (t < s ∧ 1 ≤ n)
theorem plookTo_iff (ns : List Nat) (s n v t : Nat) : plookTo ns s n v = some t ↔ t < s ∧ 1 ≤ n ∧ t < ns.length ∧ ns.getD t 0 = n ∧ pword ns t = v := by
  unfold plookTo
  rw [Option.filter_eq_some_iff, plook_iff]
  simp only [decide_eq_true_eq]
  omega
theorem plookTo_all (ns : List Nat) {n : Nat} (h : 1 ≤ n) (v : Nat) : plookTo ns ns.length n v = plook ns n v := by
  cases hp : plook ns n v with
  | none => simp [plookTo, hp]
  | some t =>
    rw [plookTo_iff]
    have := (plook_iff ns n v t).1 hp
    exact ⟨this.1, h, this⟩
theorem plookTo_zero (ns : List Nat) (n v : Nat) : plookTo ns 0 n v = none := by
  cases h : plookTo ns 0 n v with
  | none => rfl
  | some t => have := (plookTo_iff ns 0 n v t).1 h; omega
/-- words differ from symbol to symbol -/
theorem pword_ne {ns : List Nat} {s t : Nat} (hs : s < ns.length) (ht : t < ns.length) (he : ns.getD s 0 = ns.getD t 0) (hw : pword ns s = pword ns t) : s = t := by
  rcases Nat.lt_trichotomy s t with q | q | q
  · have := pword_rise ns q ht he; omega
  · exact q
  · have := pword_rise ns q hs he.symm; omega
theorem plookTo_succ (ns : List Nat) {s : Nat} (hs : s < ns.length) (n v : Nat) :
    plookTo ns (s + 1) n v = if 1 ≤ ns.getD s 0 ∧ n = ns.getD s 0 ∧ v = pword ns s then some s else plookTo ns s n v := by
  split
  · rename_i h
    obtain ⟨h0, rfl, rfl⟩ := h
    rw [plookTo_iff]; exact ⟨by omega, h0, hs, rfl, rfl⟩
  · rename_i h
    cases h1 : plookTo ns s n v with
    | some t =>
      have := (plookTo_iff ns s n v t).1 h1
      rw [plookTo_iff]; exact ⟨by omega, this.2⟩
    | none =>
      cases h2 : plookTo ns (s + 1) n v with
      | none => rfl
      | some t =>
        exfalso
        obtain ⟨q1, q2, q3, q4, q5⟩ := (plookTo_iff ns (s + 1) n v t).1 h2
        by_cases e : t = s
        · subst e; exact h ⟨by omega, q4.symm, q5.symm⟩
        · have := (plookTo_iff ns s n v t).2 ⟨by omega, q2, q3, q4, q5⟩
          rw [h1] at this; cases this
theorem plookTo_skip (ns : List Nat) {s : Nat} (hs : s < ns.length) (h0 : ns.getD s 0 = 0) : plookTo ns (s + 1) = plookTo ns s := by
  funext n v
  rw [plookTo_succ ns hs, if_neg (by omega)]
theorem MapIs.congr {D : DataW Unit} {f g : Nat → Nat → Option Nat} (h : MapIs D f) (e : f = g) : MapIs D g := e ▸ h
/-- the longest of some lengths -/
def LongTo (ns : List Nat) (s m : Nat) : Prop := (∀ i, i < s → ns.getD i 0 ≤ m) ∧ (m = 0 ∨ ∃ i, i < s ∧ ns.getD i 0 = m)
theorem longTo_zero (ns : List Nat) : LongTo ns 0 0 := ⟨fun i h => by omega, .inl rfl⟩
theorem LongTo.succ {ns : List Nat} {s m : Nat} (h : LongTo ns s m) : LongTo ns (s + 1) (max m (ns.getD s 0)) := by
  refine ⟨fun i hi => ?_, ?_⟩
  · rcases Nat.lt_or_ge i s with q | q
    · have := h.1 i q; omega
    · obtain rfl : i = s := by omega
      omega
  · rcases Nat.le_total m (ns.getD s 0) with q | q
    · exact .inr ⟨s, by omega, by omega⟩
    · rw [Nat.max_eq_left q]
      rcases h.2 with e | ⟨i, h1, h2⟩
      · exact .inl e
      · exact .inr ⟨i, by omega, h2⟩
theorem LongTo.skip {ns : List Nat} {s m : Nat} (h : LongTo ns s m) (h0 : ns.getD s 0 = 0) : LongTo ns (s + 1) m := by
  have := h.succ
  rwa [h0, Nat.max_eq_left (Nat.zero_le _)] at this
theorem longTo_all {ns : List Nat} (hall : ∀ n ∈ ns, n ≤ 15) {m : Nat} (h : LongTo ns ns.length m) : m = plong ns 15 := by
  have hmem : ∀ n, pcnt ns n ≠ 0 ↔ n ∈ ns := fun n => by unfold pcnt; rw [← Nat.pos_iff_ne_zero, List.count_pos_iff]
  have hle : plong ns 15 ≤ m := by
    by_cases e : plong ns 15 = 0
    · omega
    · have h1 := (hmem _).1 (plong_cnt ns 15 e)
      obtain ⟨i, hi, he⟩ := List.mem_iff_getElem.1 h1
      have := h.1 i hi
      rw [List.getD_eq_getElem?_getD, List.getElem?_eq_getElem hi] at this
      simp at this; omega
  have hge : m ≤ plong ns 15 := by
    rcases h.2 with e | ⟨i, hi, he⟩
    · omega
    · rw [List.getD_eq_getElem?_getD, List.getElem?_eq_getElem hi] at he
      have hm : m ∈ ns := by rw [← he]; exact List.getElem_mem hi
      exact plong_ge ns ((hmem m).2 hm) 15 (hall m hm)
  omega
theorem word_keys : WideMaps.KeyLaw Tryd.prog 122 := (deep_law_laid (m := 4) (by kernel_rfl) (by decide) (of_decide_eq_true (by kernel_rfl)) (by kernel_rfl) (by kernel_rfl))
theorem word_law : Keyed Tryd.prog 122 := Keyed.of_law word_keys
theorem wkey_is {n v : Nat} (hn : n < 9223372036854775808) (hv : v < 9223372036854775808) : keyOf Tryd.prog 122 (wkey n v) = some (kl n v) := by
  have h1 := wf_nat hn
  have h2 := wf_nat hv
  have : ∃ l, keyOf Tryd.prog 122 (wkey n v) = some l := by
    have hkt : Tryd.prog.keyType 122 = true := by kernel_rfl
    obtain ⟨m, hm⟩ : ∃ m, Tryd.prog.types.size = m + 1 := ⟨Tryd.prog.types.size - 1, by kernel_rfl⟩
    have hc : Tryd.prog.cellsOf 122 = 2 := by kernel_rfl
    have hci : Tryd.prog.cellsOf 3 = 1 := by kernel_rfl
    unfold wkey keyOf
    simp only [Tryd.underlying122]
    rw [if_pos (by simp [hkt, Value.formed, Tryd.underlying122, hc]), hm]
    unfold Program.keyLits
    simp only [Tryd.underlying122, Value.cells]
    rw [if_pos ⟨by rw [hc]; rfl, by kernel_rfl⟩]
    simp [hci, Program.keyLits, Tryd.underlying3, h1, h2]
  obtain ⟨l, hl⟩ := this
  unfold kl
  rw [hl]; rfl
theorem kl_ne {n v n' v' : Nat} (hn : n < 9223372036854775808) (hv : v < 9223372036854775808) (hn' : n' < 9223372036854775808) (hv' : v' < 9223372036854775808) (h : ¬ (n = n' ∧ v = v')) : kl n v ≠ kl n' v' := fun e => by
  have h1 := wkey_is hn hv
  have h2 := wkey_is hn' hv'
  rw [← e] at h2
  have h3 := word_law.inj h1 h2
  unfold wkey at h3
  simp at h3
  omega
/-- what the map reads as when a word is put -/
theorem MapIs.put {D : DataW Unit} {f : Nat → Nat → Option Nat} (h : MapIs D f) (hD : IsMap D) {n v s : Nat} (hn : n < 9223372036854775808) (hv : v < 9223372036854775808) :
    MapIs (D.put (kl n v) (.lit (.int .i64 (s : Int)))) fun m u => if m = n ∧ u = v then some s else f m u := fun m u hm hu => by
  have hk : WideAt.IsKeyLit (kl n v) := word_law.key (wkey_is hn hv)
  by_cases e : m = n ∧ u = v
  · obtain ⟨rfl, rfl⟩ := e
    simp only [and_self, if_true]
    exact ⟨has_put_same hD hk _, fun t ht => by injection ht with ht; subst ht; exact atKey_put_same hD hk _ _⟩
  · simp only [e, if_false]
    have hne := kl_ne hm hu hn hv e
    obtain ⟨h1, h2⟩ := h m u hm hu
    exact ⟨by rw [has_put_other hne]; exact h1, fun t ht => by rw [atKey_put_other hne]; exact h2 t ht⟩
end Go.Proofs.YtpnnfekfoomgaaaDoor
