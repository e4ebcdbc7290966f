/- Units of modified UTF-8: contract of package name's firstUnit. Condition: the text isn't empty, and no longer than 60000 bytes. -/
import Derived.Test.YtbeekjfjfcaobaaDoorMj
set_option linter.unusedVariables false
set_option maxRecDepth 100000
namespace Go.Proofs.YtbeekjfjfcaobaaDoor
open Go.RowKit Go.Lib Go.Maps

/-- what the first byte of a unit tells: its bits, and how many bytes there are -/
def lead (a : Nat) : Option (Nat × Nat) := if a < 128 then some (a, 1) else if a / 32 = 6 then some (a % 32, 2) else if a / 16 = 14 then some (a % 16, 3) else none
/-- the byte at a place -/
def bU (l : List UInt8) (i : Nat) : Nat := (l.getD i 0).toNat
/-- the bits of the first byte and of so many others -/
def uni (l : List UInt8) (u : Nat) : Nat → Nat
  | 0 => u
  | i + 1 => uni l u i * 64 + bU l (i + 1) % 64
def contB (l : List UInt8) (n : Nat) : Bool := (List.range n).all (fun j => bU l (j + 1) / 64 == 2)
/-- the unit with which a text begins, and how many bytes it has -/
def unit1 (l : List UInt8) : Option (Nat × Nat) := match lead (bU l 0) with
  | none => none
  | some (u, n) => if l.length < n then none else if contB l (n - 1) = true ∧ widN (uni l u (n - 1)) = n then some (uni l u (n - 1), n) else none
theorem contB_succ (l : List UInt8) (n : Nat) : contB l (n + 1) = (contB l n && (bU l (n + 1) / 64 == 2)) := by
  unfold contB; rw [List.range_succ, List.all_append]; simp
theorem bU_at (s : ByteArray) {i : Nat} (h : i < s.size) {x : UInt8} (hx : s[i]'h = x) : bU (tl s) i = x.toNat := by
  unfold bU
  rw [List.getD_eq_getElem?_getD, show tl s = s.data.toList from rfl, (get_drop s h hx).1]; rfl
theorem bU_lt (l : List UInt8) (i : Nat) : bU l i < 256 := UInt8.toNat_lt _
theorem uni_lt {l : List UInt8} {u n : Nat} (hu : (n = 1 ∧ u < 128) ∨ (n = 2 ∧ u < 32) ∨ (n = 3 ∧ u < 16)) : ∀ i, i < n → uni l u i < 65536 ∧ (i + 1 < n → uni l u i < 1024) := by
  intro i hi
  have h1 := Nat.mod_lt (bU l 1) (show 0 < 64 by decide)
  have h2 := Nat.mod_lt (bU l 2) (show 0 < 64 by decide)
  rcases hu with ⟨rfl, hu⟩ | ⟨rfl, hu⟩ | ⟨rfl, hu⟩
  · obtain rfl : i = 0 := by omega
    exact ⟨by unfold uni; omega, fun h => by omega⟩
  · match i, hi with
    | 0, _ => exact ⟨by unfold uni; omega, fun h => by unfold uni; omega⟩
    | 1, _ => exact ⟨by unfold uni uni; omega, fun h => by omega⟩
  · match i, hi with
    | 0, _ => exact ⟨by unfold uni; omega, fun h => by unfold uni; omega⟩
    | 1, _ => exact ⟨by unfold uni uni; omega, fun h => by unfold uni uni; omega⟩
    | 2, _ => exact ⟨by unfold uni uni uni; omega, fun h => by omega⟩
/-- a unit, or nothing -/
def unitV (l : List UInt8) : Nat × Nat := (unit1 l).getD (0, 0)
set_option maxHeartbeats 8000000 in
theorem firstUnit_is (s : ByteArray) (hpos : 0 < s.size) (hs : s.size ≤ 60000) (w : World) : Calls Tryd.prog 33 #[.string s] w fun e w' => e = .returned (.tuple #[.int .u16 ((unitV (tl s)).1 : Nat), .int .i64 ((unitV (tl s)).2 : Nat)]) ∧ w' = w := by
  obtain ⟨x, hx⟩ : ∃ x : UInt8, s[0]'hpos = x := ⟨_, rfl⟩
  have hb0 := bU_at s hpos hx
  have hxl := x.toNat_lt
  have cv : IntKind.u16.wrap ((x.toNat : Nat) : Int) = ((x.toNat : Nat) : Int) := by rw [u16_wrap]; omega
  have hun : ∀ {u n : Nat}, lead x.toNat = some (u, n) → unit1 (tl s) = if s.size < n then none else if contB (tl s) (n - 1) = true ∧ widN (uni (tl s) u (n - 1)) = n then some (uni (tl s) u (n - 1), n) else none := fun h => by
    unfold unit1; rw [hb0, h, tl_len]
  have hcase : (x.toNat < 128 ∧ lead x.toNat = some (x.toNat, 1)) ∨ ((192 ≤ x.toNat ∧ x.toNat < 224) ∧ lead x.toNat = some (x.toNat % 32, 2)) ∨ ((224 ≤ x.toNat ∧ x.toNat < 240) ∧ lead x.toNat = some (x.toNat % 16, 3)) ∨ ((128 ≤ x.toNat ∧ (x.toNat < 192 ∨ 240 ≤ x.toNat)) ∧ lead x.toNat = none) := by
    unfold lead
    by_cases h1 : x.toNat < 128
    · exact .inl ⟨h1, by rw [if_pos h1]⟩
    · rw [if_neg h1]
      by_cases h2 : x.toNat / 32 = 6
      · exact .inr (.inl ⟨by omega, by rw [if_pos h2]⟩)
      · rw [if_neg h2]
        by_cases h3 : x.toNat / 16 = 14
        · exact .inr (.inr (.inl ⟨by omega, by rw [if_pos h3]⟩))
        · exact .inr (.inr (.inr ⟨by omega, by rw [if_neg h3]⟩))
  rcases hcase with ⟨hr, hl⟩ | ⟨hr, hl⟩ | ⟨hr, hl⟩ | ⟨hr, hl⟩
  · have hv := hun hl
    rw [if_neg (by omega)] at hv
    have HV := Lib.hid hv
    clear hv hl hun
    go_enter Tryd.func33, Tryd.ntmps33
    go_wp2_with fail
    go_loopw [4, 6] (fun uv iv wr => uv = .int .u16 ((x.toNat : Nat) : Int) ∧ iv = .int .i64 1 ∧ wr = w) (fun _ iv _ => 1 - (RowKit.intOf iv).toNat)
    case atStart => exact ⟨rfl, rfl, rfl⟩
    case round =>
      obtain ⟨rfl, rfl, rfl⟩ := hrel
      have hw := width_is x.toNat
      have hv := HV.out
      rw [show contB (tl s) (1 - 1) = true from rfl, show uni (tl s) x.toNat (1 - 1) = x.toNat from rfl] at hv
      by_cases hwd : widN x.toNat = 1
      · have HX := Lib.hid (show unitV (tl s) = (x.toNat, 1) by unfold unitV; rw [hv, if_pos ⟨rfl, hwd⟩]; rfl)
        rw [hwd] at hw
        clear hv hwd
        go_wp2_with fail
        refine (hw _).mono ?_
        rintro e w1 ⟨rfl, rfl⟩
        clear hw
        go_wp2_with fail
        go_ret2
        exact ⟨by rw [HX.out]; rfl, rfl⟩
      · have HX := Lib.hid (show unitV (tl s) = (0, 0) by unfold unitV; rw [hv, if_neg (fun h => hwd h.2)]; rfl)
        obtain ⟨W, hW⟩ : ∃ W, widN x.toNat = W := ⟨_, rfl⟩
        rw [hW] at hw hwd
        have t9 : ((1 : Int) == (W : Int)) = false := by rw [beq_eq_false_iff_ne]; omega
        clear hv hW
        go_wp2_with fail
        refine (hw _).mono ?_
        rintro e w1 ⟨rfl, rfl⟩
        clear hw
        go_wp2_with fail
        go_ret2
        exact ⟨by rw [HX.out]; rfl, rfl⟩
  · obtain ⟨u0, hu0⟩ : ∃ u0, x.toNat % 32 = u0 := ⟨_, rfl⟩
    have hU := uni_lt (l := tl s) (u := u0) (n := 2) (.inr (.inl ⟨rfl, by omega⟩))
    have ha : bits .and .u16 ((x.toNat : Nat) : Int) 31 = ((x.toNat % 32 : Nat) : Int) := and_u16 x.toNat 5 (by omega) (by decide)
    rw [hu0] at ha
    have hv := hun hl
    rw [hu0] at hv
    by_cases hsz : s.size < 2
    · have HX := Lib.hid (show unitV (tl s) = (0, 0) by unfold unitV; rw [hv, if_pos hsz]; rfl)
      clear hv hl hun hU
      go_enter Tryd.func33, Tryd.ntmps33
      go_wp2_with fail
      go_ret2
      exact ⟨by rw [HX.out]; rfl, rfl⟩
    · rw [if_neg hsz] at hv
      have HV := Lib.hid hv
      have HU := Lib.hid hU
      clear hv hl hun hU hu0
      go_enter Tryd.func33, Tryd.ntmps33
      go_wp2_with fail
      go_loopw [4, 6] (fun uv iv wr => ∃ i : Nat, i < 2 ∧ uv = .int .u16 ((uni (tl s) u0 i : Nat) : Int) ∧ iv = .int .i64 ((i + 1 : Nat) : Int) ∧ wr = w ∧ Hid (contB (tl s) i = true)) (fun _ iv _ => 2 - (RowKit.intOf iv).toNat)
      case atStart => exact ⟨0, by decide, rfl, rfl, rfl, Lib.hid rfl⟩
      case round =>
        obtain ⟨i, hi, rfl, rfl, rfl, HC⟩ := hrel
        by_cases hin : i + 1 < 2
        · have hlt : i + 1 < s.size := by omega
          obtain ⟨y, hy⟩ : ∃ y : UInt8, s[i + 1]'hlt = y := ⟨_, rfl⟩
          have hby := bU_at s hlt hy
          have hyl := y.toNat_lt
          have hU1 := (HU.out i hi).2 hin
          have hun1 : uni (tl s) u0 (i + 1) = uni (tl s) u0 i * 64 + y.toNat % 64 := by rw [uni, hby]
          have hco : contB (tl s) (i + 1) = (y.toNat / 64 == 2) := by rw [contB_succ, HC.out, Bool.true_and, hby]
          have hmono : y.toNat / 64 ≠ 2 → contB (tl s) (2 - 1) = false := fun h => by
            have hc1 : contB (tl s) (i + 1) = false := by rw [hco]; simpa using h
            have hle : ∀ k, contB (tl s) (i + 1 + k) = false := fun k => by
              induction k with
              | zero => exact hc1
              | succ k ih => rw [← Nat.add_assoc, contB_succ, ih, Bool.false_and]
            have := hle (2 - 1 - (i + 1))
            rwa [show i + 1 + (2 - 1 - (i + 1)) = 2 - 1 by omega] at this
          obtain ⟨U, hUe⟩ : ∃ U, uni (tl s) u0 i = U := ⟨_, rfl⟩
          rw [hUe] at hU1 hun1 ⊢
          obtain ⟨A1, hA1⟩ : ∃ A1, U * 64 = A1 := ⟨_, rfl⟩
          obtain ⟨B1, hB1⟩ : ∃ B1, y.toNat % 64 = B1 := ⟨_, rfl⟩
          obtain ⟨C1, hC1⟩ : ∃ C1, A1 + B1 = C1 := ⟨_, rfl⟩
          have hBl : B1 < 64 := by omega
          rw [hA1, hB1, hC1] at hun1
          have e1 : IntKind.u16.wrap ((U : Int) * 64) = (A1 : Int) := by rw [u16_wrap]; omega
          have e1' : IntKind.u16.wrap ((U : Int) * 2 ^ 6) = (A1 : Int) := by rw [u16_wrap]; omega
          have e2 : bits .and .u8 ((y.toNat : Nat) : Int) 63 = (B1 : Int) := by rw [← hB1]; exact and_u8 y.toNat 6 hyl (by decide)
          have e3 : IntKind.u16.wrap (B1 : Int) = (B1 : Int) := by rw [u16_wrap]; omega
          have e4 : bits .or .u16 (A1 : Int) (B1 : Int) = (C1 : Int) := by rw [← hC1, ← hA1]; exact orB16 U 6 B1 hBl (by omega)
          by_cases h2 : y.toNat / 64 = 2
          · have HX := Lib.hid (And.intro hun1 (show contB (tl s) (i + 1) = true by rw [hco, h2]; rfl))
            clear hun1 hco hmono hUe hA1 hB1 hC1 hby
            go_wp2_with fail
            go_roundw
            case rel => exact ⟨i + 1, by omega, by rw [HX.out.1], by go_num, trivial, Lib.hid HX.out.2⟩
            case measure => simp [RowKit.intOf]; omega
          · have HX := Lib.hid (show unitV (tl s) = (0, 0) by unfold unitV; rw [HV.out, if_neg (fun h => by rw [hmono h2] at h; exact absurd h.1 (by decide))]; rfl)
            clear hun1 hco hmono hUe hA1 hB1 hC1 hby
            go_wp2_with fail
            go_ret2
            exact ⟨by rw [HX.out]; rfl, rfl⟩
        · obtain rfl : i = 2 - 1 := by omega
          have hU1 := (HU.out (2 - 1) hi).1
          obtain ⟨U, hUe⟩ : ∃ U, uni (tl s) u0 (2 - 1) = U := ⟨_, rfl⟩
          have hw := width_is U
          have hv := HV.out
          rw [HC.out, hUe] at hv
          rw [hUe] at hU1 ⊢
          by_cases hwd : widN U = 2
          · have HX := Lib.hid (show unitV (tl s) = (U, 2) by unfold unitV; rw [hv, if_pos ⟨rfl, hwd⟩]; rfl)
            rw [hwd] at hw
            clear hv hUe hwd
            go_wp2_with fail
            refine (hw _).mono ?_
            rintro e w1 ⟨rfl, rfl⟩
            clear hw
            go_wp2_with fail
            go_ret2
            exact ⟨by rw [HX.out]; rfl, rfl⟩
          · have HX := Lib.hid (show unitV (tl s) = (0, 0) by unfold unitV; rw [hv, if_neg (fun h => hwd h.2)]; rfl)
            obtain ⟨W, hW⟩ : ∃ W, widN U = W := ⟨_, rfl⟩
            rw [hW] at hw hwd
            have t9 : ((2 : Int) == (W : Int)) = false := by rw [beq_eq_false_iff_ne]; omega
            clear hv hUe hW
            go_wp2_with fail
            refine (hw _).mono ?_
            rintro e w1 ⟨rfl, rfl⟩
            clear hw
            go_wp2_with fail
            go_ret2
            exact ⟨by rw [HX.out]; rfl, rfl⟩
  · obtain ⟨u0, hu0⟩ : ∃ u0, x.toNat % 16 = u0 := ⟨_, rfl⟩
    have hU := uni_lt (l := tl s) (u := u0) (n := 3) (.inr (.inr ⟨rfl, by omega⟩))
    have ha : bits .and .u16 ((x.toNat : Nat) : Int) 15 = ((x.toNat % 16 : Nat) : Int) := and_u16 x.toNat 4 (by omega) (by decide)
    rw [hu0] at ha
    have hv := hun hl
    rw [hu0] at hv
    by_cases hsz : s.size < 3
    · have HX := Lib.hid (show unitV (tl s) = (0, 0) by unfold unitV; rw [hv, if_pos hsz]; rfl)
      clear hv hl hun hU
      go_enter Tryd.func33, Tryd.ntmps33
      go_wp2_with fail
      go_ret2
      exact ⟨by rw [HX.out]; rfl, rfl⟩
    · rw [if_neg hsz] at hv
      have HV := Lib.hid hv
      have HU := Lib.hid hU
      clear hv hl hun hU hu0
      go_enter Tryd.func33, Tryd.ntmps33
      go_wp2_with fail
      go_loopw [4, 6] (fun uv iv wr => ∃ i : Nat, i < 3 ∧ uv = .int .u16 ((uni (tl s) u0 i : Nat) : Int) ∧ iv = .int .i64 ((i + 1 : Nat) : Int) ∧ wr = w ∧ Hid (contB (tl s) i = true)) (fun _ iv _ => 3 - (RowKit.intOf iv).toNat)
      case atStart => exact ⟨0, by decide, rfl, rfl, rfl, Lib.hid rfl⟩
      case round =>
        obtain ⟨i, hi, rfl, rfl, rfl, HC⟩ := hrel
        by_cases hin : i + 1 < 3
        · have hlt : i + 1 < s.size := by omega
          obtain ⟨y, hy⟩ : ∃ y : UInt8, s[i + 1]'hlt = y := ⟨_, rfl⟩
          have hby := bU_at s hlt hy
          have hyl := y.toNat_lt
          have hU1 := (HU.out i hi).2 hin
          have hun1 : uni (tl s) u0 (i + 1) = uni (tl s) u0 i * 64 + y.toNat % 64 := by rw [uni, hby]
          have hco : contB (tl s) (i + 1) = (y.toNat / 64 == 2) := by rw [contB_succ, HC.out, Bool.true_and, hby]
          have hmono : y.toNat / 64 ≠ 2 → contB (tl s) (3 - 1) = false := fun h => by
            have hc1 : contB (tl s) (i + 1) = false := by rw [hco]; simpa using h
            have hle : ∀ k, contB (tl s) (i + 1 + k) = false := fun k => by
              induction k with
              | zero => exact hc1
              | succ k ih => rw [← Nat.add_assoc, contB_succ, ih, Bool.false_and]
            have := hle (3 - 1 - (i + 1))
            rwa [show i + 1 + (3 - 1 - (i + 1)) = 3 - 1 by omega] at this
          obtain ⟨U, hUe⟩ : ∃ U, uni (tl s) u0 i = U := ⟨_, rfl⟩
          rw [hUe] at hU1 hun1 ⊢
          obtain ⟨A1, hA1⟩ : ∃ A1, U * 64 = A1 := ⟨_, rfl⟩
          obtain ⟨B1, hB1⟩ : ∃ B1, y.toNat % 64 = B1 := ⟨_, rfl⟩
          obtain ⟨C1, hC1⟩ : ∃ C1, A1 + B1 = C1 := ⟨_, rfl⟩
          have hBl : B1 < 64 := by omega
          rw [hA1, hB1, hC1] at hun1
          have e1 : IntKind.u16.wrap ((U : Int) * 64) = (A1 : Int) := by rw [u16_wrap]; omega
          have e1' : IntKind.u16.wrap ((U : Int) * 2 ^ 6) = (A1 : Int) := by rw [u16_wrap]; omega
          have e2 : bits .and .u8 ((y.toNat : Nat) : Int) 63 = (B1 : Int) := by rw [← hB1]; exact and_u8 y.toNat 6 hyl (by decide)
          have e3 : IntKind.u16.wrap (B1 : Int) = (B1 : Int) := by rw [u16_wrap]; omega
          have e4 : bits .or .u16 (A1 : Int) (B1 : Int) = (C1 : Int) := by rw [← hC1, ← hA1]; exact orB16 U 6 B1 hBl (by omega)
          by_cases h2 : y.toNat / 64 = 2
          · have HX := Lib.hid (And.intro hun1 (show contB (tl s) (i + 1) = true by rw [hco, h2]; rfl))
            clear hun1 hco hmono hUe hA1 hB1 hC1 hby
            go_wp2_with fail
            go_roundw
            case rel => exact ⟨i + 1, by omega, by rw [HX.out.1], by go_num, trivial, Lib.hid HX.out.2⟩
            case measure => simp [RowKit.intOf]; omega
          · have HX := Lib.hid (show unitV (tl s) = (0, 0) by unfold unitV; rw [HV.out, if_neg (fun h => by rw [hmono h2] at h; exact absurd h.1 (by decide))]; rfl)
            clear hun1 hco hmono hUe hA1 hB1 hC1 hby
            go_wp2_with fail
            go_ret2
            exact ⟨by rw [HX.out]; rfl, rfl⟩
        · obtain rfl : i = 3 - 1 := by omega
          have hU1 := (HU.out (3 - 1) hi).1
          obtain ⟨U, hUe⟩ : ∃ U, uni (tl s) u0 (3 - 1) = U := ⟨_, rfl⟩
          have hw := width_is U
          have hv := HV.out
          rw [HC.out, hUe] at hv
          rw [hUe] at hU1 ⊢
          by_cases hwd : widN U = 3
          · have HX := Lib.hid (show unitV (tl s) = (U, 3) by unfold unitV; rw [hv, if_pos ⟨rfl, hwd⟩]; rfl)
            rw [hwd] at hw
            clear hv hUe hwd
            go_wp2_with fail
            refine (hw _).mono ?_
            rintro e w1 ⟨rfl, rfl⟩
            clear hw
            go_wp2_with fail
            go_ret2
            exact ⟨by rw [HX.out]; rfl, rfl⟩
          · have HX := Lib.hid (show unitV (tl s) = (0, 0) by unfold unitV; rw [hv, if_neg (fun h => hwd h.2)]; rfl)
            obtain ⟨W, hW⟩ : ∃ W, widN U = W := ⟨_, rfl⟩
            rw [hW] at hw hwd
            have t9 : ((3 : Int) == (W : Int)) = false := by rw [beq_eq_false_iff_ne]; omega
            clear hv hUe hW
            go_wp2_with fail
            refine (hw _).mono ?_
            rintro e w1 ⟨rfl, rfl⟩
            clear hw
            go_wp2_with fail
            go_ret2
            exact ⟨by rw [HX.out]; rfl, rfl⟩
  · have HX := Lib.hid (show unitV (tl s) = (0, 0) by unfold unitV unit1; rw [hb0, hl]; rfl)
    go_enter Tryd.func33, Tryd.ntmps33
    go_wp2_with fail
    go_ret2
    exact ⟨by rw [HX.out]; rfl, rfl⟩
end Go.Proofs.YtbeekjfjfcaobaaDoor
