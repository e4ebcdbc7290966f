/- What the reader of package octet does: contracts of its methods, on a reader that was made and on none. Condition: the numbers fit their kinds. -/
import Derived.Test.YtkkgfphfilbcdaaOctP
import Derived.OneCell
import Derived.Laws.Rows
set_option linter.unusedVariables false
namespace Go.Proofs.Ytkkgfphfilbcdaa
open Go.RowKit

theorem retb {a c : Bool} (h1 : a = c) : Ending.returned (.bool a) = .returned (.bool c) := by rw [h1]
/-- only block g, and what is new, has turned -/
abbrev Only (g : Nat) (w w' : World) : Prop := w.grownBy w' (some g)
theorem only_refl (g : Nat) (w : World) : Only g w w := ⟨rfl, rfl, rfl, Nat.le_refl _, fun _ _ _ => rfl⟩
theorem only_trans {g : Nat} {a b c : World} (h : Only g a b) (k : Only g b c) : Only g a c :=
  ⟨k.os.trans h.os, k.tape.trans h.tape, k.output.trans h.output, Nat.le_trans h.size k.size, fun i hi hne => (k.block i (Nat.lt_of_lt_of_le hi h.size) hne).trans (h.block i hi hne)⟩
theorem only_drewN {g : Nat} {a w : World} (h : Only g a w) (n : Nat) : Only g a (w.drewN n) := ⟨h.os, h.tape, h.output, h.size, h.block⟩
theorem only_set {g : Nat} {a w : World} (h : Only g a w) (o : Nat) (u : Value) : Only g a (w.setCell ⟨g, o, none⟩ u) :=
  ⟨h.os, h.tape, h.output, by simpa [World.setCell] using h.size, fun i hi hne => (Below.heap_setCell w ⟨g, o, none⟩ u i (by rintro rfl; exact hne rfl)).trans (h.block i hi hne)⟩
theorem only_below {g : Nat} {a w : World} (h : Only g a w) (hg : g ≤ a.heap.size) : Below g a w := ⟨h.os, h.tape, h.output, h.size, fun i hi => h.block i (by omega) (by intro e; injection e with e; omega)⟩
theorem only_low {g B : Nat} {a w : World} (h : Only g a w) (hB : B ≤ g) (hs : B ≤ a.heap.size) : Below B a w := ⟨h.os, h.tape, h.output, h.size, fun i hi => h.block i (by omega) (by intro e; injection e with e; omega)⟩
theorem low_only {B g : Nat} {a b c : World} (h : Below B a b) (k : Only g b c) (hB : B ≤ g) (hs : B ≤ a.heap.size) : Below B a c := h.trans (only_low k hB (Nat.le_trans hs h.size))
theorem low_drewN {B : Nat} {a w : World} (h : Below B a w) (n : Nat) : Below B a (w.drewN n) := ⟨h.os, h.tape, h.output, h.size, h.block⟩
theorem below_only {g : Nat} {a w : World} (h : Below a.heap.size a w) : Only g a w := ⟨h.os, h.tape, h.output, h.size, fun i hi _ => h.block i hi⟩

/-- block g is a reader of the bytes l, at a place, bad or not -/
def Rd (w : World) (g : Nat) (l : List Int) (p : Nat) (bad : Bool) : Prop :=
  ∃ a c, w.heap[g]? = some (.cells #[.slice a l.length c, .int .i64 p, .bool bad] 73 (0, 0)) ∧ l.length ≤ c ∧ l.length ≤ 140737488355328 ∧ Bs w g a l ∧ p ≤ l.length

theorem blk_cell {w : World} {g : Nat} {t : TypeId} {cs : Array Value} (h : w.heap[g]? = some (.cells cs t (0, 0))) (i : Nat) : w.cell? ⟨g, i, none⟩ = cs[i]? := cell_of_row w g i cs t (0, 0) h
theorem blk_free {w : World} {g : Nat} {t : TypeId} {cs : Array Value} (h : w.heap[g]? = some (.cells cs t (0, 0))) (i : Nat) : w.frozen? ⟨g, i, none⟩ = false := by simp [World.frozen?, h]
theorem blk_set {w : World} {g : Nat} {t : TypeId} {cs : Array Value} (h : w.heap[g]? = some (.cells cs t (0, 0))) (i : Nat) (u : Value) : (w.setCell ⟨g, i, none⟩ u).heap[g]? = some (.cells (cs.setIfInBounds i u) t (0, 0)) := by
  simp [World.setCell, Array.getElem?_modify, h]
theorem blk_lt {w : World} {g : Nat} {o : Obj} (h : w.heap[g]? = some o) : g < w.heap.size := by
  rcases Nat.lt_or_ge g w.heap.size with h1 | h1
  · exact h1
  · rw [Array.getElem?_eq_none h1] at h; cases h

theorem q_left {P : Program} {f : FuncId} {args : Array Value} {w : World} {v : Value} (h : Calls P f args w fun e w' => e = .returned v ∧ w = w') : Calls P f args w fun e w'' => e = .returned v ∧ ∃ m, w'' = w.drewN m :=
  h.mono fun _ _ ⟨he, hm⟩ => ⟨he, 0, hm.symm⟩
theorem q_left2 {P : Program} {f : FuncId} {args : Array Value} {w : World} {n : Nat} {v : Value} (h : Calls P f args (w.drewN n) fun e w' => e = .returned v ∧ w.drewN n = w') : Calls P f args (w.drewN n) fun e w'' => e = .returned v ∧ ∃ m, w'' = w.drewN m :=
  h.mono fun _ _ ⟨he, hm⟩ => ⟨he, n, hm.symm⟩
theorem q_left3 {P : Program} {f : FuncId} {args : Array Value} {w : World} {a n : Nat} {v : Value} (h : Calls P f args (w.drewN (a + n)) fun e w' => e = .returned v ∧ w.drewN (a + n) = w') : Calls P f args (w.drewN (a + n)) fun e w'' => e = .returned v ∧ ∃ m, w'' = w.drewN (a + m) :=
  h.mono fun _ _ ⟨he, hm⟩ => ⟨he, n, hm.symm⟩

theorem rdBad {w : World} {g : Nat} {l : List Int} {p : Nat} {bad : Bool} (h : Rd w g l p bad) :
    Calls Try.prog 47 #[.pointer (some ⟨g, 0, none⟩)] w fun e w' => e = .returned (.bool bad) ∧ w = w' := by
  obtain ⟨a, c, hh, _, _, _, _⟩ := h
  have h2 : w.cell? ⟨g, 2, none⟩ = some (.bool bad) := blk_cell hh 2
  clear hh
  go_enter Try.func47, Try.ntmps47
  go_wp2
  go_ret
  exact ⟨rfl, rfl⟩
theorem rdAt {w : World} {g : Nat} {l : List Int} {p : Nat} {bad : Bool} (h : Rd w g l p bad) :
    Calls Try.prog 39 #[.pointer (some ⟨g, 0, none⟩)] w fun e w' => e = .returned (.int .i64 p) ∧ w = w' := by
  obtain ⟨a, c, hh, _, _, _, _⟩ := h
  have h2 : w.cell? ⟨g, 1, none⟩ = some (.int .i64 p) := blk_cell hh 1
  clear hh
  go_enter Try.func39, Try.ntmps39
  go_wp2
  go_ret
  exact ⟨rfl, rfl⟩
theorem rdLeft {w : World} {g : Nat} {l : List Int} {p : Nat} {bad : Bool} (h : Rd w g l p bad) :
    Calls Try.prog 46 #[.pointer (some ⟨g, 0, none⟩)] w fun e w' => e = .returned (.int .i64 ((l.length : Int) - p)) ∧ ∃ n, w' = w.drewN n := by
  obtain ⟨a, c, hh, hlc, hc, _, hp⟩ := h
  have h0 : w.cell? ⟨g, 0, none⟩ = some (.slice a l.length c) := blk_cell hh 0
  have h2 : w.cell? ⟨g, 1, none⟩ = some (.int .i64 p) := blk_cell hh 1
  have hs : IntKind.i64.wrap ((l.length : Int) - p) = (l.length : Int) - p := IntWalk.i64_in _ (by omega)
  clear hh
  go_enter Try.func46, Try.ntmps46
  go_wp2
  go_quiet (fail)
  go_wp2
  go_ret
  exact ⟨rfl, _, rfl⟩

theorem rd_mk {w : World} {g : Nat} {l : List Int} {p' : Nat} {bad' : Bool} {a : Option Addr} {c : Nat} {w' : World} (hh : w'.heap[g]? = some (.cells #[.slice a l.length c, .int .i64 p', .bool bad'] 73 (0, 0))) (hlc : l.length ≤ c) (hc : l.length ≤ 140737488355328) (hbs : Bs w g a l) (ho : Only g w w') (hg : g ≤ w.heap.size) (hp : p' ≤ l.length) : Rd w' g l p' bad' :=
  ⟨a, c, hh, hlc, hc, hbs.below (only_below ho hg), hp⟩
/-- whether n bytes can be passed -/
def canB (l : List Int) (p : Nat) (bad fit : Bool) (n : Int) : Bool := !bad && fit && decide (n + p ≤ l.length)
set_option maxHeartbeats 400000 in
theorem rdHas {w : World} {g : Nat} {l : List Int} {p : Nat} {bad fit : Bool} (n : Int) (hn : -9223372036854775808 ≤ n ∧ n ≤ 9223372036854775807) (h : Rd w g l p bad) :
    Calls Try.prog 60 #[.pointer (some ⟨g, 0, none⟩), .int .i64 n, .bool fit] w fun e w' => e = .returned (.bool (canB l p bad fit n)) ∧ Rd w' g l p (!canB l p bad fit n) ∧ Only g w w' := by
  have h' := h
  obtain ⟨a, c, hh, hlc, hc, hbs, hp⟩ := h
  have h2 : w.cell? ⟨g, 2, none⟩ = some (.bool bad) := blk_cell hh 2
  have hf := blk_free hh 2
  have hlt := blk_lt hh
  have HH := Lib.hid hh; clear hh
  have HR := Lib.hid h'; clear h'
  cases bad with
  | true =>
    go_enter Try.func60, Try.ntmps60
    go_wp2_with (go_at_call 47; refine (rdBad HR.out).mono ?_; rintro e w' ⟨rfl, rfl⟩)
    go_ret
    exact ⟨by simp [canB], by simpa [canB] using HR.out, only_refl _ _⟩
  | false =>
    cases fit with
    | false =>
      go_enter Try.func60, Try.ntmps60
      go_wp2_with (go_at_call 47; refine (rdBad HR.out).mono ?_; rintro e w' ⟨rfl, rfl⟩)
      go_ret
      exact ⟨by simp [canB], rd_mk (w := w) (by simpa [canB] using blk_set HH.out 2 (.bool true)) hlc hc hbs (only_set (only_refl _ _) _ _) (Nat.le_of_lt hlt) hp, only_set (only_refl _ _) _ _⟩
    | true =>
      have hLf := rdLeft HR.out
      have HL := Lib.hid hLf; clear hLf
      by_cases hle : n + p ≤ l.length
      · have hcb : canB l p false true n = true := by simp [canB, hle]
        have hd : decide ((l.length : Int) - p < n) = false := by simp; omega
        rw [hcb]
        go_enter Try.func60, Try.ntmps60
        go_wp2_with (first | (go_at_call 47; refine (rdBad HR.out).mono ?_; rintro e w' ⟨rfl, rfl⟩) | (go_at_call 46; refine HL.out.mono ?_; rintro e w' ⟨rfl, m, rfl⟩))
        go_ret
        exact ⟨rfl, rd_mk (w := w) (by simpa using blk_set (w := w.drewN m) HH.out 2 (.bool false)) hlc hc hbs (only_set (only_drewN (only_refl _ _) _) _ _) (Nat.le_of_lt hlt) hp, only_set (only_drewN (only_refl _ _) _) _ _⟩
      · have hcb : canB l p false true n = false := by simp [canB]; omega
        have hd : decide ((l.length : Int) - p < n) = true := by simp; omega
        rw [hcb]
        go_enter Try.func60, Try.ntmps60
        go_wp2_with (first | (go_at_call 47; refine (rdBad HR.out).mono ?_; rintro e w' ⟨rfl, rfl⟩) | (go_at_call 46; refine HL.out.mono ?_; rintro e w' ⟨rfl, m, rfl⟩))
        go_ret
        exact ⟨rfl, rd_mk (w := w) (by simpa using blk_set (w := w.drewN m) HH.out 2 (.bool true)) hlc hc hbs (only_set (only_drewN (only_refl _ _) _) _ _) (Nat.le_of_lt hlt) hp, only_set (only_drewN (only_refl _ _) _) _ _⟩

/-- a number of n bytes that is taken -/
def takes (l : List Int) (p : Nat) (bad : Bool) (n : Int) : Bool := canB l p bad (decide (1 ≤ n ∧ n ≤ 8)) n
def numV (l : List Int) (p : Nat) (bad : Bool) (n : Int) : Int := if takes l p bad n then numW (piece l p n) else 0
def stepP (p : Nat) (ok : Bool) (n : Int) : Nat := if ok then p + n.toNat else p
set_option maxHeartbeats 400000 in
theorem rdNum {w : World} {g : Nat} {l : List Int} {p : Nat} {bad : Bool} (n : Int) (hn : -9223372036854775808 ≤ n ∧ n ≤ 9223372036854775807) (h : Rd w g l p bad) :
    Calls Try.prog 40 #[.pointer (some ⟨g, 0, none⟩), .int .i64 n] w fun e w' => e = .returned (.int .i64 (numV l p bad n)) ∧ Rd w' g l (stepP p (takes l p bad n) n) (!takes l p bad n) ∧ Only g w w' := by
  have hw : ∀ W, Calls Try.prog 58 #[.int .i64 n] W fun e w' => e = .returned (.bool (decide (1 ≤ n ∧ n ≤ 8))) ∧ W = w' := octWidth n
  have hh := rdHas (fit := decide (1 ≤ n ∧ n ≤ 8)) n hn h
  have HW := Lib.hid hw; clear hw
  cases ht : takes l p bad n with
  | false =>
    have hv : numV l p bad n = 0 := by simp [numV, ht]
    rw [hv]
    unfold takes at ht
    rw [ht] at hh
    generalize decide (1 ≤ n ∧ n ≤ 8) = fit at *
    have HT := Lib.hid ht; clear ht hv
    have HH := Lib.hid hh; clear hh
    go_enter Try.func40, Try.ntmps40
    go_wp2_with (first | (go_at_call 58; refine (HW.out _).mono ?_; rintro e w' ⟨rfl, rfl⟩) | (go_at_call 60; refine HH.out.mono ?_; rintro e w' ⟨rfl, hr, ho⟩))
    go_ret
    exact ⟨rfl, by simpa [stepP] using hr, ho⟩
  | true =>
    have hv : numV l p bad n = numW (piece l p n) := by simp [numV, ht]
    rw [hv]
    unfold takes at ht
    rw [ht] at hh
    have hcan : bad = false ∧ (1 ≤ n ∧ n ≤ 8) ∧ n + p ≤ l.length := by simpa [canB, Bool.and_eq_true, and_assoc] using ht
    obtain ⟨_, hn8, hle⟩ := hcan
    generalize decide (1 ≤ n ∧ n ≤ 8) = fit at *
    have hbg := (bg_yes (l := l) (at_ := (p : Int)) (n := n) (by omega) (by omega)).1
    have HB := Lib.hid hbg; clear hbg
    have HT := Lib.hid ht; clear ht hv
    have HH := Lib.hid hh; clear hh
    go_enter Try.func40, Try.ntmps40
    go_wp2_with (first | (go_at_call 58; refine (HW.out _).mono ?_; rintro e w' ⟨rfl, rfl⟩) | (go_at_call 60; refine HH.out.mono ?_; rintro e w' ⟨rfl, hr, ho⟩))
    obtain ⟨a, c, hh, hlc, hc, hbs, hp⟩ := hr
    have h0 : w'.cell? ⟨g, 0, none⟩ = some (.slice a l.length c) := blk_cell hh 0
    have h1 : w'.cell? ⟨g, 1, none⟩ = some (.int .i64 p) := blk_cell hh 1
    have hf := blk_free hh 1
    have hlt := blk_lt hh
    have hq : ∀ W, Bs W g a l → Calls Try.prog 31 #[.slice a l.length c, .int .i64 p, .int .i64 n] W fun e w' => e = .returned (.tuple #[.int .i64 (numW (piece l p n)), .int .i64 0]) ∧ W = w' := fun W hW => by
      have := octBig a l.length c l rfl p n (by omega) hn hlc hc W g hW
      rw [HB.out] at this; exact this
    have HQ := Lib.hid hq; clear hq
    have HK := Lib.hid hh; clear hh
    have hpn : IntKind.i64.wrap ((p : Int) + n) = (p : Int) + n := IntWalk.i64_in _ (by omega)
    go_wp2_with fail
    go_quiet ((go_at_call 31; exact q_left2 (HQ.out _ (hbs.drewN _))))
    go_wp2
    go_ret
    have hst : ((stepP p true n : Nat) : Int) = p + n := by simp [stepP]; omega
    refine ⟨rfl, rd_mk (w := w') ?_ hlc hc hbs (only_set (only_drewN (only_refl _ _) _) _ _) (Nat.le_of_lt hlt) (by omega), only_trans ho (only_set (only_drewN (only_refl _ _) _) _ _)⟩
    rw [hst]
    simpa using blk_set (w := w'.drewN _) HK.out 1 (.int .i64 (p + n))

/-- the number with its sign -/
def sgV (v : Int) (n : Int) : Int := wrap64 (v * 2 ^ (8 * (8 - n)).toNat) / 2 ^ (8 * (8 - n)).toNat
def signV (l : List Int) (p : Nat) (bad : Bool) (n : Int) : Int := if takes l p bad n then sgV (numW (piece l p n)) n else 0
theorem rdSigned {w : World} {g : Nat} {l : List Int} {p : Nat} {bad : Bool} (n : Int) (hn : -9223372036854775808 ≤ n ∧ n ≤ 9223372036854775807) (h : Rd w g l p bad) :
    Calls Try.prog 42 #[.pointer (some ⟨g, 0, none⟩), .int .i64 n] w fun e w' => e = .returned (.int .i64 (signV l p bad n)) ∧ Rd w' g l (stepP p (takes l p bad n) n) (!takes l p bad n) ∧ Only g w w' := by
  have hh := rdNum n hn h
  cases ht : takes l p bad n with
  | false =>
    have hv : signV l p bad n = 0 := by simp [signV, ht]
    have hv2 : numV l p bad n = 0 := by simp [numV, ht]
    rw [hv]
    rw [ht, hv2] at hh
    clear hv hv2 ht
    have HH := Lib.hid hh; clear hh
    go_enter Try.func42, Try.ntmps42
    go_wp2_with (first | (go_at_call 40; refine HH.out.mono ?_; rintro e w' ⟨rfl, hr, ho⟩) | (go_at_call 47; refine (rdBad hr).mono ?_; rintro e w'' ⟨rfl, rfl⟩))
    go_ret
    exact ⟨rfl, hr, ho⟩
  | true =>
    have hv : signV l p bad n = sgV (numW (piece l p n)) n := by simp [signV, ht]
    have hv2 : numV l p bad n = numW (piece l p n) := by simp [numV, ht]
    rw [hv]
    rw [ht, hv2] at hh
    have hcan : bad = false ∧ (1 ≤ n ∧ n ≤ 8) ∧ n + p ≤ l.length := by simpa [takes, canB, Bool.and_eq_true, and_assoc] using ht
    obtain ⟨_, hn8, hle⟩ := hcan
    clear hv hv2 ht
    have HH := Lib.hid hh; clear hh
    unfold sgV
    go_enter Try.func42, Try.ntmps42
    go_wp2_with (first | (go_at_call 40; refine HH.out.mono ?_; rintro e w' ⟨rfl, hr, ho⟩) | (go_at_call 47; refine (rdBad hr).mono ?_; rintro e w'' ⟨rfl, rfl⟩))
    go_ret
    exact ⟨rfl, hr, ho⟩

/-- no reader -/
theorem nilBad (w : World) : Calls Try.prog 47 #[.pointer none] w fun e w' => e = .returned (.bool true) ∧ w = w' := by
  go_enter Try.func47, Try.ntmps47
  go_wp2
  go_ret
  exact ⟨rfl, rfl⟩
theorem nilAt (w : World) : Calls Try.prog 39 #[.pointer none] w fun e w' => e = .returned (.int .i64 0) ∧ w = w' := by
  go_enter Try.func39, Try.ntmps39
  go_wp2
  go_ret
  exact ⟨rfl, rfl⟩
theorem nilLeft (w : World) : Calls Try.prog 46 #[.pointer none] w fun e w' => e = .returned (.int .i64 0) ∧ w = w' := by
  go_enter Try.func46, Try.ntmps46
  go_wp2
  go_ret
  exact ⟨rfl, rfl⟩
theorem nilHas (n : Int) (fit : Bool) (w : World) : Calls Try.prog 60 #[.pointer none, .int .i64 n, .bool fit] w fun e w' => e = .returned (.bool false) ∧ w = w' := by
  go_enter Try.func60, Try.ntmps60
  go_wp2_with (go_at_call 47; refine (nilBad _).mono ?_; rintro e w' ⟨rfl, rfl⟩)
  go_ret
  exact ⟨rfl, rfl⟩
theorem nilNum (n : Int) (w : World) : Calls Try.prog 40 #[.pointer none, .int .i64 n] w fun e w' => e = .returned (.int .i64 0) ∧ w = w' := by
  go_enter Try.func40, Try.ntmps40
  go_wp2_with (first | (go_at_call 58; refine (octWidth _ _).mono ?_; rintro e w' ⟨rfl, rfl⟩) | (go_at_call 60; refine (nilHas _ _ _).mono ?_; rintro e w' ⟨rfl, rfl⟩))
  go_ret
  exact ⟨rfl, rfl⟩
theorem nilSigned (n : Int) (w : World) : Calls Try.prog 42 #[.pointer none, .int .i64 n] w fun e w' => e = .returned (.int .i64 0) ∧ w = w' := by
  go_enter Try.func42, Try.ntmps42
  go_wp2_with (first | (go_at_call 40; refine (nilNum _ _).mono ?_; rintro e w' ⟨rfl, rfl⟩) | (go_at_call 47; refine (nilBad _).mono ?_; rintro e w' ⟨rfl, rfl⟩))
  go_ret
  exact ⟨rfl, rfl⟩
theorem nilBytes (n : Int) (w : World) : Calls Try.prog 44 #[.pointer none, .int .i64 n] w fun e w' => e = .returned (.slice none 0 0) ∧ w = w' := by
  go_enter Try.func44, Try.ntmps44
  go_wp2_with (first | (go_at_call 60; refine (nilHas _ _ _).mono ?_; rintro e w' ⟨rfl, rfl⟩))
  go_ret
  exact ⟨rfl, rfl⟩
end Go.Proofs.Ytkkgfphfilbcdaa
