/- Units of modified UTF-8: contract of the document's own Units. Condition: the text is no longer than 20000 bytes. -/
import Derived.Test.YtbeekjfjfcaobaaDoorMn
set_option linter.unusedVariables false
set_option maxRecDepth 100000
namespace Go.Proofs.YtbeekjfjfcaobaaDoor
open Go.RowKit Go.Lib Go.Maps

/-- what so many bytes tell, taken as one unit -/
def vN (l : List UInt8) : Nat → Nat
  | 1 => bU l 0
  | 2 => bU l 0 % 32 * 64 + bU l 1 % 64
  | 3 => bU l 0 % 16 * 4096 + bU l 1 % 64 * 64 + bU l 2 % 64
  | _ => 0
def takeN (l : List UInt8) : Nat → List Nat
  | 1 => [bU l 0]
  | 2 => [bU l 0, bU l 1]
  | 3 => [bU l 0, bU l 1, bU l 2]
  | _ => []
theorem bytN_cases (u : Nat) : ((1 ≤ u ∧ u ≤ 127) ∧ bytN u = [u] ∧ widN u = 1) ∨ ((¬(1 ≤ u ∧ u ≤ 127) ∧ u ≤ 2047) ∧ bytN u = [192 + u / 64, 128 + u % 64] ∧ widN u = 2) ∨ (2048 ≤ u ∧ bytN u = [224 + u / 4096, 128 + u / 64 % 64, 128 + u % 64] ∧ widN u = 3) := by
  unfold bytN widN
  by_cases h1 : 1 ≤ u ∧ u ≤ 127
  · exact .inl ⟨h1, by rw [if_pos h1], by rw [if_pos h1]⟩
  · by_cases h2 : u ≤ 2047
    · exact .inr (.inl ⟨⟨h1, h2⟩, by rw [if_neg h1, if_pos h2], by rw [if_neg h1, if_pos h2]⟩)
    · exact .inr (.inr ⟨by omega, by rw [if_neg h1, if_neg h2], by rw [if_neg h1, if_neg h2]⟩)
theorem cont_1 (l : List UInt8) : contB l 1 = (bU l 1 / 64 == 2) := by unfold contB; simp [List.range_succ]
theorem cont_2 (l : List UInt8) : contB l 2 = ((bU l 1 / 64 == 2) && (bU l 2 / 64 == 2)) := by unfold contB; simp [List.range_succ]
theorem unit_1 (l : List UInt8) (hl : 1 ≤ l.length) : bytN (vN l 1) = takeN l 1 ↔ unit1 l = some (vN l 1, 1) := by
  have ha := bU_lt l 0
  show bytN (bU l 0) = [bU l 0] ↔ unit1 l = some (bU l 0, 1)
  unfold unit1
  rcases bytN_cases (bU l 0) with ⟨h1, h2, h3⟩ | ⟨h1, h2, h3⟩ | ⟨h1, h2, h3⟩
  · rw [h2, show lead (bU l 0) = some (bU l 0, 1) by unfold lead; rw [if_pos (by omega)]]
    simp only
    rw [if_neg (by omega), if_pos ⟨rfl, h3⟩]
    simp [uni]
  · rw [h2]
    constructor
    · intro h; simp at h
    · intro h
      exfalso
      cases hl : lead (bU l 0) with
      | none => rw [hl] at h; cases h
      | some x =>
        obtain ⟨u, n⟩ := x
        rw [hl] at h
        simp only at h
        split at h
        · cases h
        · split at h
          · rename_i hc
            injection h with h
            injection h with h4 h5
            subst h5
            unfold lead at hl
            split at hl
            · injection hl with hl; injection hl with hl1 hl2
              rw [← hl1] at hc
              have := hc.2
              rw [show uni l (bU l 0) (1 - 1) = bU l 0 from rfl] at this
              omega
            · split at hl
              · injection hl with hl; injection hl with hl1 hl2; omega
              · split at hl
                · injection hl with hl; injection hl with hl1 hl2; omega
                · cases hl
          · cases h
  · omega
theorem lead_2 {a : Nat} {u n : Nat} (h : lead a = some (u, n)) : (n = 1 ∧ a < 128 ∧ u = a) ∨ (n = 2 ∧ a / 32 = 6 ∧ u = a % 32) ∨ (n = 3 ∧ a / 16 = 14 ∧ u = a % 16) := by
  unfold lead at h
  split at h
  · injection h with h; injection h with h1 h2; exact .inl ⟨h2.symm, by assumption, h1.symm⟩
  · split at h
    · injection h with h; injection h with h1 h2; exact .inr (.inl ⟨h2.symm, by assumption, h1.symm⟩)
    · split at h
      · injection h with h; injection h with h1 h2; exact .inr (.inr ⟨h2.symm, by assumption, h1.symm⟩)
      · cases h
theorem unit1_some {l : List UInt8} {u n : Nat} (h : unit1 l = some (u, n)) : ∃ u0, lead (bU l 0) = some (u0, n) ∧ n ≤ l.length ∧ contB l (n - 1) = true ∧ widN u = n ∧ u = uni l u0 (n - 1) := by
  unfold unit1 at h
  cases hl : lead (bU l 0) with
  | none => rw [hl] at h; cases h
  | some x =>
    obtain ⟨u0, m⟩ := x
    rw [hl] at h
    simp only at h
    split at h
    · cases h
    · split at h
      · rename_i h1 hc
        injection h with h
        injection h with h4 h5
        subst h4 h5
        exact ⟨u0, rfl, by omega, hc.1, hc.2, rfl⟩
      · cases h
theorem unit1_mk {l : List UInt8} {u0 n : Nat} (hl : lead (bU l 0) = some (u0, n)) (hn : n ≤ l.length) (hc : contB l (n - 1) = true) (hw : widN (uni l u0 (n - 1)) = n) : unit1 l = some (uni l u0 (n - 1), n) := by
  unfold unit1; rw [hl]; simp only; rw [if_neg (by omega), if_pos ⟨hc, hw⟩]
theorem unit_2 (l : List UInt8) (hl : 2 ≤ l.length) : bytN (vN l 2) = takeN l 2 ↔ unit1 l = some (vN l 2, 2) := by
  have ha := bU_lt l 0
  have hb := bU_lt l 1
  show bytN (bU l 0 % 32 * 64 + bU l 1 % 64) = [bU l 0, bU l 1] ↔ unit1 l = some (bU l 0 % 32 * 64 + bU l 1 % 64, 2)
  constructor
  · intro h
    rcases bytN_cases (bU l 0 % 32 * 64 + bU l 1 % 64) with ⟨h1, h2, h3⟩ | ⟨h1, h2, h3⟩ | ⟨h1, h2, h3⟩
    · rw [h2] at h; simp at h
    · rw [h2] at h
      injection h with h4 h5
      injection h5 with h5 _
      have hld : lead (bU l 0) = some (bU l 0 % 32, 2) := by unfold lead; rw [if_neg (by omega), if_pos (by omega)]
      exact unit1_mk hld hl (by rw [cont_1, show bU l 1 / 64 = 2 by omega]; rfl) h3
    · omega
  · intro h
    obtain ⟨u0, h1, _, h3, h4, h5⟩ := unit1_some h
    rw [cont_1] at h3
    have h3' : bU l 1 / 64 = 2 := by simpa using h3
    rcases lead_2 h1 with ⟨h6, _⟩ | ⟨_, h7, h8⟩ | ⟨h6, _⟩
    · omega
    · rcases bytN_cases (bU l 0 % 32 * 64 + bU l 1 % 64) with ⟨g1, g2, g3⟩ | ⟨g1, g2, g3⟩ | ⟨g1, g2, g3⟩
      · omega
      · rw [g2, show 192 + (bU l 0 % 32 * 64 + bU l 1 % 64) / 64 = bU l 0 by omega, show 128 + (bU l 0 % 32 * 64 + bU l 1 % 64) % 64 = bU l 1 by omega]
      · omega
    · omega
theorem uni_2 (l : List UInt8) (u : Nat) : uni l u 2 = (u * 64 + bU l 1 % 64) * 64 + bU l 2 % 64 := rfl
theorem unit_3 (l : List UInt8) (hl : 3 ≤ l.length) : bytN (vN l 3) = takeN l 3 ↔ unit1 l = some (vN l 3, 3) := by
  have ha := bU_lt l 0
  have hb := bU_lt l 1
  have hc := bU_lt l 2
  have hu : uni l (bU l 0 % 16) 2 = bU l 0 % 16 * 4096 + bU l 1 % 64 * 64 + bU l 2 % 64 := by rw [uni_2]; omega
  show bytN (bU l 0 % 16 * 4096 + bU l 1 % 64 * 64 + bU l 2 % 64) = [bU l 0, bU l 1, bU l 2] ↔ unit1 l = some (bU l 0 % 16 * 4096 + bU l 1 % 64 * 64 + bU l 2 % 64, 3)
  constructor
  · intro h
    rcases bytN_cases (bU l 0 % 16 * 4096 + bU l 1 % 64 * 64 + bU l 2 % 64) with ⟨h1, h2, h3⟩ | ⟨h1, h2, h3⟩ | ⟨h1, h2, h3⟩
    · rw [h2] at h; simp at h
    · rw [h2] at h; simp at h
    · rw [h2] at h
      injection h with h4 h5
      injection h5 with h5 h6
      injection h6 with h6 _
      have hld : lead (bU l 0) = some (bU l 0 % 16, 3) := by unfold lead; rw [if_neg (by omega), if_neg (by omega), if_pos (by omega)]
      have := unit1_mk hld hl (by rw [cont_2, show bU l 1 / 64 = 2 by omega, show bU l 2 / 64 = 2 by omega]; rfl) (by rw [hu]; exact h3)
      rw [hu] at this; exact this
  · intro h
    obtain ⟨u0, h1, _, h3, h4, h5⟩ := unit1_some h
    rw [cont_2, Bool.and_eq_true] at h3
    have h3' : bU l 1 / 64 = 2 ∧ bU l 2 / 64 = 2 := by simpa using h3
    obtain ⟨k1, k2⟩ := h3'
    rcases lead_2 h1 with ⟨h6, _⟩ | ⟨h6, _⟩ | ⟨_, h7, h8⟩
    · omega
    · omega
    · rcases bytN_cases (bU l 0 % 16 * 4096 + bU l 1 % 64 * 64 + bU l 2 % 64) with ⟨g1, g2, g3⟩ | ⟨g1, g2, g3⟩ | ⟨g1, g2, g3⟩
      · omega
      · omega
      · rw [g2, show 224 + (bU l 0 % 16 * 4096 + bU l 1 % 64 * 64 + bU l 2 % 64) / 4096 = bU l 0 by omega, show 128 + (bU l 0 % 16 * 4096 + bU l 1 % 64 * 64 + bU l 2 % 64) / 64 % 64 = bU l 1 by omega, show 128 + (bU l 0 % 16 * 4096 + bU l 1 % 64 * 64 + bU l 2 % 64) % 64 = bU l 2 by omega]
theorem unit_n (l : List UInt8) {n : Nat} (h1 : 1 ≤ n) (h3 : n ≤ 3) (hl : n ≤ l.length) : bytN (vN l n) = takeN l n ↔ unit1 l = some (vN l n, n) := by
  match n, h1, h3 with
  | 1, _, _ => exact unit_1 l hl
  | 2, _, _ => exact unit_2 l hl
  | 3, _, _ => exact unit_3 l hl
theorem vN_lt (l : List UInt8) (n : Nat) : vN l n < 65536 := by
  have ha := bU_lt l 0
  unfold vN
  split <;> omega
theorem vN_of {l : List UInt8} {u n : Nat} (h : unit1 l = some (u, n)) : u = vN l n := by
  obtain ⟨u0, h1, _, h3, h4, h5⟩ := unit1_some h
  rcases lead_2 h1 with ⟨rfl, _, rfl⟩ | ⟨rfl, _, rfl⟩ | ⟨rfl, _, rfl⟩
  · exact h5
  · exact h5
  · rw [h5]; show uni l (bU l 0 % 16) 2 = bU l 0 % 16 * 4096 + bU l 1 % 64 * 64 + bU l 2 % 64
    rw [uni_2]; omega
theorem strOf_list (xs : List Int) : (strOfNums xs).data.toList = xs.map fun x => x.toNat.toUInt8 := by unfold strOfNums; simp
theorem takeN_is (l : List UInt8) {n : Nat} (h1 : 1 ≤ n) (h3 : n ≤ 3) (hl : n ≤ l.length) : takeN l n = (l.take n).map UInt8.toNat := by
  have hb : ∀ i, i < l.length → l[i]? = some (l.getD i 0) := fun i hi => by rw [List.getD_eq_getElem?_getD, List.getElem?_eq_getElem hi]; rfl
  have hd : ∀ i, i < l.length → l.drop i = l.getD i 0 :: l.drop (i + 1) := fun i hi => by rw [List.drop_eq_getElem?_toList_append, hb i hi]; rfl
  have h0 : l = l.getD 0 0 :: l.drop 1 := by have := hd 0 (by omega); rwa [List.drop_zero] at this
  match n, h1, h3 with
  | 1, _, _ => rw [h0]; rfl
  | 2, _, _ =>
    have := hd 1 (by omega)
    conv => rhs; rw [h0, this]
    rfl
  | 3, _, _ =>
    have k1 := hd 1 (by omega)
    have k2 := hd 2 (by omega)
    conv => rhs; rw [h0, k1, k2]
    rfl
theorem map_back {xs : List Nat} (h : ∀ x ∈ xs, x < 256) : (xs.map Nat.toUInt8).map UInt8.toNat = xs := by
  rw [List.map_map]
  conv => rhs; rw [← List.map_id xs]
  exact List.map_congr_left fun x hx => by have := h x hx; simp; omega
theorem txt_one (V : Nat) : (strOfNums (txtI [V])).data.toList = (bytN V).map Nat.toUInt8 := by
  rw [strOf_list]
  unfold txtI
  simp [List.map_map, Function.comp_def]
theorem txt_eq {V : Nat} (hV : V < 65536) {E : ByteArray} {R : List UInt8} {n : Nat} (hE : tl E = R.take n) (h1 : 1 ≤ n) (h3 : n ≤ 3) (hl : n ≤ R.length) : ((strOfNums (txtI [V])).toList == E.toList) = decide (bytN V = takeN R n) := by
  rw [Bool.eq_iff_iff, beq_iff_eq, decide_eq_true_iff, Lib.toList_data, Lib.toList_data, txt_one, takeN_is R h1 h3 hl, show E.data.toList = R.take n from hE]
  constructor
  · intro h
    rw [← h, map_back (bytN_lt hV)]
  · intro h
    rw [h, List.map_map]
    conv => rhs; rw [← List.map_id (R.take n)]
    exact List.map_congr_left fun x _ => UInt8.toNat_inj.1 (by simp)
theorem us_one (W : World) {V : Nat} (h : V < 65536) : Us (W.alloc (.cells #[.int .u16 ((V : Nat) : Int)] 38)) (W.alloc (.cells #[.int .u16 ((V : Nat) : Int)] 38)).heap.size (some ⟨W.heap.size, 0, none⟩) [V] :=
  ⟨fun u hu => by rw [List.mem_singleton.1 hu]; exact h, fun _ => ⟨W.heap.size, 0, rfl, by simp, fun i hi => by
    have h0 : i = 0 := by simp at hi; exact hi
    subst h0
    rw [blk_cell (heap_alloc_new W _)]; rfl⟩⟩
set_option maxHeartbeats 16000000 in
theorem refUnits_is (s : ByteArray) (hs : s.size ≤ 20000) (w : World) : Calls Tryd.prog 21 #[.string s] w (UniP (tl s) w) := by
  obtain ⟨l0, hl0⟩ : ∃ l0, tl s = l0 := ⟨_, rfl⟩
  rw [hl0]
  have hlen : l0.length = s.size := by rw [← hl0, tl_len]
  have H0 := Lib.hid (And.intro hl0 hlen)
  clear hl0 hlen
  go_enter Tryd.func21, Tryd.ntmps21
  go_wp2_with fail
  go_loopw [4, 5] (fun pv iv wr => ∃ (us : List Nat) (i : Nat), iv = .int .i64 (i : Nat) ∧ i ≤ s.size ∧ us.length ≤ i ∧ Hid (GotU l0 us (l0.drop i) ∧ wr.ownsRow w.heap.size 38 1 pv us.length (us.map fun u => Value.int .u16 ((u : Nat) : Int)) ∧ Below w.heap.size w wr)) (fun _ iv _ => s.size - (RowKit.intOf iv).toNat)
  case atStart => exact ⟨[], 0, rfl, Nat.zero_le _, Nat.zero_le _, Lib.hid ⟨by rw [List.drop_zero]; exact GotU.start _, World.ownsRow_nil _ _ _ _, Below.refl _ _⟩⟩
  case round =>
    obtain ⟨us, i, rfl, hi, hus, HI⟩ := hrel
    by_cases hlt : i < s.size
    · have hlt2 : (i : Int) < s.size := by omega
      obtain ⟨R, hR⟩ : ∃ R, l0.drop i = R := ⟨_, rfl⟩
      have hRl : R.length = s.size - i := by rw [← hR, List.length_drop, H0.out.2]
      have hbU : ∀ k, i + k < s.size → ∀ (h : i + k < s.size), (s[i + k]'h).toNat = bU R k := fun k hk h => by
        have := bU_at s h (x := s[i + k]'h) rfl
        rw [← this]
        unfold bU
        rw [H0.out.1, ← hR, List.getD_eq_getElem?_getD, List.getD_eq_getElem?_getD, List.getElem?_drop]
      rename World => wo
      go_wp2_with fail
      go_loopw [4, 6, 7] (fun pv fv nv wr => ∃ (f n : Nat), fv = .int .i64 (f : Nat) ∧ nv = .int .i64 (n : Nat) ∧ 1 ≤ n ∧ n ≤ 4 ∧ Hid (Below w.heap.size w wr) ∧ ((f = 0 ∧ Hid ((∀ m, m < n → ∀ u, unit1 R ≠ some (u, m)) ∧ wr.ownsRow w.heap.size 38 1 pv us.length (us.map fun u => Value.int .u16 ((u : Nat) : Int)))) ∨ (1 ≤ f ∧ f ≤ 3 ∧ i + f ≤ s.size ∧ Hid (∃ u, unit1 R = some (u, f) ∧ wr.ownsRow w.heap.size 38 1 pv (us ++ [u]).length ((us ++ [u]).map fun u => Value.int .u16 ((u : Nat) : Int)))))) (fun _ _ nv _ => 4 - (RowKit.intOf nv).toNat)
      case atStart => exact ⟨0, 1, rfl, rfl, by decide, by decide, Lib.hid HI.out.2.2, .inl ⟨rfl, Lib.hid ⟨fun m hm u h => by have := (unit1_bd h).2.1; omega, HI.out.2.1⟩⟩⟩
      case round =>
        obtain ⟨f, n, rfl, rfl, hn1, hn4, HB, hcase⟩ := hrel
        by_cases hcond : n ≤ 3 ∧ i + n ≤ s.size
        · obtain ⟨hc3, hcs⟩ := hcond
          have hmt := unit_n R hn1 hc3 (by omega)
          have t1 : decide ((n : Int) ≤ 3) = true := by simp; omega
          obtain rfl | rfl | rfl : n = 1 ∨ n = 2 ∨ n = 3 := by omega
          rotate_left
          rotate_left
          · skip
            have hx0 : (s[i]'hlt).toNat = bU R 0 := hbU 0 (by omega) (by omega)
            obtain ⟨x0, hx0e⟩ : ∃ x : UInt8, s[i]'hlt = x := ⟨_, rfl⟩
            have hx0l := x0.toNat_lt
            rw [hx0e] at hx0
            have e0 : IntKind.i64.wrap ((x0.toNat : Nat) : Int) = ((x0.toNat : Nat) : Int) := IntWalk.i64_in _ (by omega)
            have hl1 : i + 1 < s.size := by omega
            have hx1 : (s[i + 1]'hl1).toNat = bU R 1 := hbU 1 (by omega) (by omega)
            obtain ⟨x1, hx1e⟩ : ∃ x : UInt8, s[i + 1]'hl1 = x := ⟨_, rfl⟩
            have hx1l := x1.toNat_lt
            rw [hx1e] at hx1
            have e1 : IntKind.i64.wrap ((x1.toNat : Nat) : Int) = ((x1.toNat : Nat) : Int) := IntWalk.i64_in _ (by omega)
            have k1 : IntKind.i64.wrap ((i : Int) + 1) = ((i + 1 : Nat) : Int) := by rw [IntWalk.i64_in _ (by omega)]; omega
            have hl2 : i + 2 < s.size := by omega
            have hx2 : (s[i + 2]'hl2).toNat = bU R 2 := hbU 2 (by omega) (by omega)
            obtain ⟨x2, hx2e⟩ : ∃ x : UInt8, s[i + 2]'hl2 = x := ⟨_, rfl⟩
            have hx2l := x2.toNat_lt
            rw [hx2e] at hx2
            have e2 : IntKind.i64.wrap ((x2.toNat : Nat) : Int) = ((x2.toNat : Nat) : Int) := IntWalk.i64_in _ (by omega)
            have z1a : (0 : Int) ≤ (i : Int) + 1 := by omega
            have z1b : (i : Int) + 1 < (s.size : Int) := by omega
            have z1c : ((i : Int) + 1).toNat = i + 1 := by omega
            have z2a : (0 : Int) ≤ (i : Int) + 2 := by omega
            have z2b : (i : Int) + 2 < (s.size : Int) := by omega
            have z2c : ((i : Int) + 2).toNat = i + 2 := by omega
            have k2 : IntKind.i64.wrap ((i : Int) + 2) = ((i + 2 : Nat) : Int) := by rw [IntWalk.i64_in _ (by omega)]; omega
            obtain ⟨V, hV⟩ : ∃ V, vN R 3 = V := ⟨_, rfl⟩
            have hVl := vN_lt R 3
            rw [hV] at hVl
            have hVe : V = x0.toNat % 16 * 4096 + x1.toNat % 64 * 64 + x2.toNat % 64 := by rw [← hV, hx0, hx1, hx2]; rfl
            obtain ⟨ra, hra⟩ : ∃ x, x0.toNat % 16 = x := ⟨_, rfl⟩
            obtain ⟨rA, hrA⟩ : ∃ x, ra * 4096 = x := ⟨_, rfl⟩
            obtain ⟨rb, hrb⟩ : ∃ x, x1.toNat % 64 = x := ⟨_, rfl⟩
            obtain ⟨rB, hrB⟩ : ∃ x, rb * 64 = x := ⟨_, rfl⟩
            obtain ⟨rS, hrS⟩ : ∃ x, rA + rB = x := ⟨_, rfl⟩
            obtain ⟨rc, hrc⟩ : ∃ x, x2.toNat % 64 = x := ⟨_, rfl⟩
            have fra : ((x0.toNat : Nat) : Int).tmod 16 = (ra : Int) := by rw [Int.tmod_eq_emod_of_nonneg (by omega)]; omega
            have fra' : ((x0.toNat : Nat) : Int) % 16 = (ra : Int) := by omega
            have frA : IntKind.i64.wrap ((ra : Int) * 4096) = (rA : Int) := by rw [IntWalk.i64_in _ (by omega)]; omega
            have frb : ((x1.toNat : Nat) : Int).tmod 64 = (rb : Int) := by rw [Int.tmod_eq_emod_of_nonneg (by omega)]; omega
            have frb' : ((x1.toNat : Nat) : Int) % 64 = (rb : Int) := by omega
            have frB : IntKind.i64.wrap ((rb : Int) * 64) = (rB : Int) := by rw [IntWalk.i64_in _ (by omega)]; omega
            have grS : IntKind.i64.wrap ((rA : Int) + (rB : Int)) = (rS : Int) := by rw [IntWalk.i64_in _ (by omega)]; omega
            have frc : ((x2.toNat : Nat) : Int).tmod 64 = (rc : Int) := by rw [Int.tmod_eq_emod_of_nonneg (by omega)]; omega
            have frc' : ((x2.toNat : Nat) : Int) % 64 = (rc : Int) := by omega
            have gV : IntKind.i64.wrap ((rS : Int) + (rc : Int)) = (V : Int) := by rw [IntWalk.i64_in _ (by omega)]; omega
            obtain ⟨E, hE⟩ : ∃ E, i + 3 = E := ⟨_, rfl⟩
            have kn : IntKind.i64.wrap ((i : Int) + 3) = (E : Int) := by rw [IntWalk.i64_in _ (by omega)]; omega
            have hES : E ≤ s.size := by omega
            have hiE : i ≤ E := by omega
            have t2 : decide ((E : Int) ≤ (s.size : Int)) = true := by simp; omega
            have HEE := Lib.hid hE
            clear hE
            have hVm : vN R 3 = V := by exact hV
            have HVm := Lib.hid (And.intro hVm (And.intro hmt (And.intro hR hRl)))
            clear hbU hmt hR hRl hVm hV hx0 hx1 hx2 hVe hra hrA hrb hrB hrS hrc hx0l hx1l hx2l
            rcases hcase with ⟨rfl, HF⟩ | ⟨hf1, hf3, hfs, HF⟩
            · go_wp2_with fail
              go_quiet (fail)
              go_wp2_with fail
              have htx1 : ∀ k, Calls Tryd.prog 24 #[.slice (some ⟨wr.heap.size, 0, none⟩) 1 1] ((wr.drewN k).alloc (.cells #[.int .u16 ((V : Nat) : Int)] 38)) fun e w' => e = .returned (.string (strOfNums (txtI [V]))) ∧ Below wr.heap.size wr w' := fun k => by
                have h := refText_is (some ⟨wr.heap.size, 0, none⟩) 1 1 [V] rfl (by decide) ((wr.drewN k).alloc (.cells #[.int .u16 ((V : Nat) : Int)] 38)) (us_one (wr.drewN k) hVl)
                exact h.mono fun e w' h => ⟨h.1, below_next ((low_drewN (Below.refl wr.heap.size wr) k).alloc (Nat.le_refl _) (.cells #[.int .u16 ((V : Nat) : Int)] 38)) (Nat.le_refl _) h.2⟩
              have htx2 : Calls Tryd.prog 24 #[.slice (some ⟨wr.heap.size, 0, none⟩) 1 1] (wr.alloc (.cells #[.int .u16 ((V : Nat) : Int)] 38)).drew fun e w' => e = .returned (.string (strOfNums (txtI [V]))) ∧ Below wr.heap.size wr w' := by
                have h := refText_is (some ⟨wr.heap.size, 0, none⟩) 1 1 [V] rfl (by decide) (wr.alloc (.cells #[.int .u16 ((V : Nat) : Int)] 38)).drew (us_one wr hVl)
                exact h.mono fun e w' h => ⟨h.1, below_next (low_drewN ((Below.refl wr.heap.size wr).alloc (Nat.le_refl _) (.cells #[.int .u16 ((V : Nat) : Int)] 38)) 1) (Nat.le_refl _) h.2⟩
              have y1 : (0 : Int) ≤ (i : Int) := by omega
              have y2 : (i : Int) ≤ (E : Int) := by omega
              have y3 : (E : Int) ≤ (s.size : Int) := by omega
              have hu16 : IntKind.u16.wrap ((V : Nat) : Int) = ((V : Nat) : Int) := by rw [u16_wrap]; omega
              have hEl : tl (s.extract i E) = R.take 3 := by have := HEE.out; rw [tl_mid, H0.out.1, HVm.out.2.2.1, show E - i = 3 by omega]
              have hteq := txt_eq hVl hEl (by decide) (by decide) (by rw [HVm.out.2.2.2]; omega)
              have hmt2 := HVm.out.2.1
              rw [HVm.out.1] at hmt2
              by_cases hm : bytN V = takeN R 3
              · have t5 : ((strOfNums (txtI [V])).toList == (s.extract i E).toList) = true := by rw [hteq, decide_eq_true hm]
                have HU := Lib.hid (hmt2.1 hm)
                clear hteq hmt2 hm hEl
                generalize strOfNums (txtI [V]) = X at *
                go_region_held3 (fun _ => True) (first | exact trivial | go_keep) ((go_at_call 24; (with_reducible first | (refine (htx1 _).mono ?_) | (refine htx2.mono ?_)); rintro e w6 ⟨rfl, hb6⟩))
                have H6 := Lib.hid (And.intro (own_below HF.out.2 hb6) (below_next HB.out (Nat.le_refl _) hb6))
                clear hb6 htx1 htx2
                go_wp2_with (at_builtin; refine u16_app rfl _ _ rfl w.heap.size _ us.length (us.map fun u => Value.int .u16 ((u : Nat) : Int)) rfl (H6.out.1.alloc _) w6.heap.size ((V : Nat) : Int) rfl (heap_alloc_new _ _) (by omega) (Nat.le_trans H6.out.2.size (by simp)) ?_; intro v' w7 ho7 hg7 _; have HG := Lib.hid (And.intro ho7 (grown_below H6.out.2 H6.out.2.size H6.out.1 hg7)); clear ho7 hg7)
                go_roundw
                case rel => exact ⟨3, 3 + 1, rfl, rfl, by decide, by decide, Lib.hid HG.out.2, .inr ⟨by decide, by decide, by have := HEE.out; omega, Lib.hid ⟨V, HU.out, by have := HG.out.1; simpa using this⟩⟩⟩
                case measure => simp [RowKit.intOf]
              · have t5 : ((strOfNums (txtI [V])).toList == (s.extract i E).toList) = false := by rw [hteq, decide_eq_false hm]
                have HU := Lib.hid (fun h => hm (hmt2.2 h))
                clear hteq hmt2 hm hEl
                generalize strOfNums (txtI [V]) = X at *
                go_region_held3 (fun _ => True) (first | exact trivial | go_keep) ((go_at_call 24; (with_reducible first | (refine (htx1 _).mono ?_) | (refine htx2.mono ?_)); rintro e w6 ⟨rfl, hb6⟩))
                have H6 := Lib.hid (And.intro (own_below HF.out.2 hb6) (below_next HB.out (Nat.le_refl _) hb6))
                clear hb6 htx1 htx2
                go_wp2_with fail
                go_roundw
                case rel => exact ⟨0, 3 + 1, rfl, rfl, by decide, by decide, Lib.hid H6.out.2, .inl ⟨rfl, Lib.hid ⟨fun m hm u h => by
                  rcases Nat.lt_or_ge m 3 with h1 | h1
                  · exact HF.out.1 m h1 u h
                  · obtain rfl : m = 3 := by omega
                    have := vN_of h
                    rw [HVm.out.1] at this
                    subst this
                    exact HU.out h, H6.out.1⟩⟩⟩
                case measure => simp [RowKit.intOf]
            · go_wp2_with fail
              go_quiet (fail)
              go_wp2_with fail
              have t4 : ((f : Int) == 0) = false := by rw [beq_eq_false_iff_ne]; omega
              go_quiet (fail)
              go_wp2_with fail
              go_roundw
              case rel => exact ⟨f, 3 + 1, rfl, rfl, by decide, by decide, Lib.hid (low_drewN HB.out _), .inr ⟨hf1, hf3, hfs, Lib.hid (by
                obtain ⟨u, h1, h2⟩ := HF.out
                exact ⟨u, h1, own_below h2 (low_drewN (Below.refl _ _) _)⟩)⟩⟩
              case measure => simp [RowKit.intOf]
          · skip
            have hx0 : (s[i]'hlt).toNat = bU R 0 := hbU 0 (by omega) (by omega)
            obtain ⟨x0, hx0e⟩ : ∃ x : UInt8, s[i]'hlt = x := ⟨_, rfl⟩
            have hx0l := x0.toNat_lt
            rw [hx0e] at hx0
            have e0 : IntKind.i64.wrap ((x0.toNat : Nat) : Int) = ((x0.toNat : Nat) : Int) := IntWalk.i64_in _ (by omega)
            obtain ⟨V, hV⟩ : ∃ V, vN R 1 = V := ⟨_, rfl⟩
            have hVl := vN_lt R 1
            rw [hV] at hVl
            have hVe : V = x0.toNat := by rw [← hV, hx0]; rfl
            subst hVe
            obtain ⟨E, hE⟩ : ∃ E, i + 1 = E := ⟨_, rfl⟩
            have kn : IntKind.i64.wrap ((i : Int) + 1) = (E : Int) := by rw [IntWalk.i64_in _ (by omega)]; omega
            have hES : E ≤ s.size := by omega
            have hiE : i ≤ E := by omega
            have t2 : decide ((E : Int) ≤ (s.size : Int)) = true := by simp; omega
            have HEE := Lib.hid hE
            clear hE
            have hVm : vN R 1 = x0.toNat := by exact hx0.symm
            have HVm := Lib.hid (And.intro hVm (And.intro hmt (And.intro hR hRl)))
            clear hbU hmt hR hRl hVm hV hx0
            rcases hcase with ⟨rfl, HF⟩ | ⟨hf1, hf3, hfs, HF⟩
            · go_wp2_with fail
              have htx1 : ∀ k, Calls Tryd.prog 24 #[.slice (some ⟨wr.heap.size, 0, none⟩) 1 1] ((wr.drewN k).alloc (.cells #[.int .u16 ((x0.toNat : Nat) : Int)] 38)) fun e w' => e = .returned (.string (strOfNums (txtI [x0.toNat]))) ∧ Below wr.heap.size wr w' := fun k => by
                have h := refText_is (some ⟨wr.heap.size, 0, none⟩) 1 1 [x0.toNat] rfl (by decide) ((wr.drewN k).alloc (.cells #[.int .u16 ((x0.toNat : Nat) : Int)] 38)) (us_one (wr.drewN k) hVl)
                exact h.mono fun e w' h => ⟨h.1, below_next ((low_drewN (Below.refl wr.heap.size wr) k).alloc (Nat.le_refl _) (.cells #[.int .u16 ((x0.toNat : Nat) : Int)] 38)) (Nat.le_refl _) h.2⟩
              have htx2 : Calls Tryd.prog 24 #[.slice (some ⟨wr.heap.size, 0, none⟩) 1 1] (wr.alloc (.cells #[.int .u16 ((x0.toNat : Nat) : Int)] 38)).drew fun e w' => e = .returned (.string (strOfNums (txtI [x0.toNat]))) ∧ Below wr.heap.size wr w' := by
                have h := refText_is (some ⟨wr.heap.size, 0, none⟩) 1 1 [x0.toNat] rfl (by decide) (wr.alloc (.cells #[.int .u16 ((x0.toNat : Nat) : Int)] 38)).drew (us_one wr hVl)
                exact h.mono fun e w' h => ⟨h.1, below_next (low_drewN ((Below.refl wr.heap.size wr).alloc (Nat.le_refl _) (.cells #[.int .u16 ((x0.toNat : Nat) : Int)] 38)) 1) (Nat.le_refl _) h.2⟩
              have y1 : (0 : Int) ≤ (i : Int) := by omega
              have y2 : (i : Int) ≤ (E : Int) := by omega
              have y3 : (E : Int) ≤ (s.size : Int) := by omega
              have hu16 : IntKind.u16.wrap ((x0.toNat : Nat) : Int) = ((x0.toNat : Nat) : Int) := by rw [u16_wrap]; omega
              have hEl : tl (s.extract i E) = R.take 1 := by have := HEE.out; rw [tl_mid, H0.out.1, HVm.out.2.2.1, show E - i = 1 by omega]
              have hteq := txt_eq hVl hEl (by decide) (by decide) (by rw [HVm.out.2.2.2]; omega)
              have hmt2 := HVm.out.2.1
              rw [HVm.out.1] at hmt2
              by_cases hm : bytN x0.toNat = takeN R 1
              · have t5 : ((strOfNums (txtI [x0.toNat])).toList == (s.extract i E).toList) = true := by rw [hteq, decide_eq_true hm]
                have HU := Lib.hid (hmt2.1 hm)
                clear hteq hmt2 hm hEl
                generalize strOfNums (txtI [x0.toNat]) = X at *
                go_region_held3 (fun _ => True) (first | exact trivial | go_keep) ((go_at_call 24; (with_reducible first | (refine (htx1 _).mono ?_) | (refine htx2.mono ?_)); rintro e w6 ⟨rfl, hb6⟩))
                have H6 := Lib.hid (And.intro (own_below HF.out.2 hb6) (below_next HB.out (Nat.le_refl _) hb6))
                clear hb6 htx1 htx2
                go_wp2_with (at_builtin; refine u16_app rfl _ _ rfl w.heap.size _ us.length (us.map fun u => Value.int .u16 ((u : Nat) : Int)) rfl (H6.out.1.alloc _) w6.heap.size ((x0.toNat : Nat) : Int) rfl (heap_alloc_new _ _) (by omega) (Nat.le_trans H6.out.2.size (by simp)) ?_; intro v' w7 ho7 hg7 _; have HG := Lib.hid (And.intro ho7 (grown_below H6.out.2 H6.out.2.size H6.out.1 hg7)); clear ho7 hg7)
                go_roundw
                case rel => exact ⟨1, 1 + 1, rfl, rfl, by decide, by decide, Lib.hid HG.out.2, .inr ⟨by decide, by decide, by have := HEE.out; omega, Lib.hid ⟨x0.toNat, HU.out, by have := HG.out.1; simpa using this⟩⟩⟩
                case measure => simp [RowKit.intOf]
              · have t5 : ((strOfNums (txtI [x0.toNat])).toList == (s.extract i E).toList) = false := by rw [hteq, decide_eq_false hm]
                have HU := Lib.hid (fun h => hm (hmt2.2 h))
                clear hteq hmt2 hm hEl
                generalize strOfNums (txtI [x0.toNat]) = X at *
                go_region_held3 (fun _ => True) (first | exact trivial | go_keep) ((go_at_call 24; (with_reducible first | (refine (htx1 _).mono ?_) | (refine htx2.mono ?_)); rintro e w6 ⟨rfl, hb6⟩))
                have H6 := Lib.hid (And.intro (own_below HF.out.2 hb6) (below_next HB.out (Nat.le_refl _) hb6))
                clear hb6 htx1 htx2
                go_wp2_with fail
                go_roundw
                case rel => exact ⟨0, 1 + 1, rfl, rfl, by decide, by decide, Lib.hid H6.out.2, .inl ⟨rfl, Lib.hid ⟨fun m hm u h => by
                  rcases Nat.lt_or_ge m 1 with h1 | h1
                  · exact HF.out.1 m h1 u h
                  · obtain rfl : m = 1 := by omega
                    have := vN_of h
                    rw [HVm.out.1] at this
                    subst this
                    exact HU.out h, H6.out.1⟩⟩⟩
                case measure => simp [RowKit.intOf]
            · go_wp2_with fail
              have t4 : ((f : Int) == 0) = false := by rw [beq_eq_false_iff_ne]; omega
              go_quiet (fail)
              go_wp2_with fail
              go_roundw
              case rel => exact ⟨f, 1 + 1, rfl, rfl, by decide, by decide, Lib.hid (low_drewN HB.out _), .inr ⟨hf1, hf3, hfs, Lib.hid (by
                obtain ⟨u, h1, h2⟩ := HF.out
                exact ⟨u, h1, own_below h2 (low_drewN (Below.refl _ _) _)⟩)⟩⟩
              case measure => simp [RowKit.intOf]
          · skip
            have hx0 : (s[i]'hlt).toNat = bU R 0 := hbU 0 (by omega) (by omega)
            obtain ⟨x0, hx0e⟩ : ∃ x : UInt8, s[i]'hlt = x := ⟨_, rfl⟩
            have hx0l := x0.toNat_lt
            rw [hx0e] at hx0
            have e0 : IntKind.i64.wrap ((x0.toNat : Nat) : Int) = ((x0.toNat : Nat) : Int) := IntWalk.i64_in _ (by omega)
            have hl1 : i + 1 < s.size := by omega
            have hx1 : (s[i + 1]'hl1).toNat = bU R 1 := hbU 1 (by omega) (by omega)
            obtain ⟨x1, hx1e⟩ : ∃ x : UInt8, s[i + 1]'hl1 = x := ⟨_, rfl⟩
            have hx1l := x1.toNat_lt
            rw [hx1e] at hx1
            have e1 : IntKind.i64.wrap ((x1.toNat : Nat) : Int) = ((x1.toNat : Nat) : Int) := IntWalk.i64_in _ (by omega)
            have k1 : IntKind.i64.wrap ((i : Int) + 1) = ((i + 1 : Nat) : Int) := by rw [IntWalk.i64_in _ (by omega)]; omega
            obtain ⟨V, hV⟩ : ∃ V, vN R 2 = V := ⟨_, rfl⟩
            have hVl := vN_lt R 2
            rw [hV] at hVl
            have hVe : V = x0.toNat % 32 * 64 + x1.toNat % 64 := by rw [← hV, hx0, hx1]; rfl
            obtain ⟨ra, hra⟩ : ∃ x, x0.toNat % 32 = x := ⟨_, rfl⟩
            obtain ⟨rA, hrA⟩ : ∃ x, ra * 64 = x := ⟨_, rfl⟩
            obtain ⟨rb, hrb⟩ : ∃ x, x1.toNat % 64 = x := ⟨_, rfl⟩
            have fra : ((x0.toNat : Nat) : Int).tmod 32 = (ra : Int) := by rw [Int.tmod_eq_emod_of_nonneg (by omega)]; omega
            have fra' : ((x0.toNat : Nat) : Int) % 32 = (ra : Int) := by omega
            have frA : IntKind.i64.wrap ((ra : Int) * 64) = (rA : Int) := by rw [IntWalk.i64_in _ (by omega)]; omega
            have frb : ((x1.toNat : Nat) : Int).tmod 64 = (rb : Int) := by rw [Int.tmod_eq_emod_of_nonneg (by omega)]; omega
            have frb' : ((x1.toNat : Nat) : Int) % 64 = (rb : Int) := by omega
            have gV : IntKind.i64.wrap ((rA : Int) + (rb : Int)) = (V : Int) := by rw [IntWalk.i64_in _ (by omega)]; omega
            obtain ⟨E, hE⟩ : ∃ E, i + 2 = E := ⟨_, rfl⟩
            have kn : IntKind.i64.wrap ((i : Int) + 2) = (E : Int) := by rw [IntWalk.i64_in _ (by omega)]; omega
            have hES : E ≤ s.size := by omega
            have hiE : i ≤ E := by omega
            have t2 : decide ((E : Int) ≤ (s.size : Int)) = true := by simp; omega
            have HEE := Lib.hid hE
            clear hE
            have hVm : vN R 2 = V := by exact hV
            have HVm := Lib.hid (And.intro hVm (And.intro hmt (And.intro hR hRl)))
            clear hbU hmt hR hRl hVm hV hx0 hx1 hVe hra hrA hrb hx0l hx1l
            rcases hcase with ⟨rfl, HF⟩ | ⟨hf1, hf3, hfs, HF⟩
            · go_wp2_with fail
              go_quiet (fail)
              go_wp2_with fail
              have htx1 : ∀ k, Calls Tryd.prog 24 #[.slice (some ⟨wr.heap.size, 0, none⟩) 1 1] ((wr.drewN k).alloc (.cells #[.int .u16 ((V : Nat) : Int)] 38)) fun e w' => e = .returned (.string (strOfNums (txtI [V]))) ∧ Below wr.heap.size wr w' := fun k => by
                have h := refText_is (some ⟨wr.heap.size, 0, none⟩) 1 1 [V] rfl (by decide) ((wr.drewN k).alloc (.cells #[.int .u16 ((V : Nat) : Int)] 38)) (us_one (wr.drewN k) hVl)
                exact h.mono fun e w' h => ⟨h.1, below_next ((low_drewN (Below.refl wr.heap.size wr) k).alloc (Nat.le_refl _) (.cells #[.int .u16 ((V : Nat) : Int)] 38)) (Nat.le_refl _) h.2⟩
              have htx2 : Calls Tryd.prog 24 #[.slice (some ⟨wr.heap.size, 0, none⟩) 1 1] (wr.alloc (.cells #[.int .u16 ((V : Nat) : Int)] 38)).drew fun e w' => e = .returned (.string (strOfNums (txtI [V]))) ∧ Below wr.heap.size wr w' := by
                have h := refText_is (some ⟨wr.heap.size, 0, none⟩) 1 1 [V] rfl (by decide) (wr.alloc (.cells #[.int .u16 ((V : Nat) : Int)] 38)).drew (us_one wr hVl)
                exact h.mono fun e w' h => ⟨h.1, below_next (low_drewN ((Below.refl wr.heap.size wr).alloc (Nat.le_refl _) (.cells #[.int .u16 ((V : Nat) : Int)] 38)) 1) (Nat.le_refl _) h.2⟩
              have y1 : (0 : Int) ≤ (i : Int) := by omega
              have y2 : (i : Int) ≤ (E : Int) := by omega
              have y3 : (E : Int) ≤ (s.size : Int) := by omega
              have hu16 : IntKind.u16.wrap ((V : Nat) : Int) = ((V : Nat) : Int) := by rw [u16_wrap]; omega
              have hEl : tl (s.extract i E) = R.take 2 := by have := HEE.out; rw [tl_mid, H0.out.1, HVm.out.2.2.1, show E - i = 2 by omega]
              have hteq := txt_eq hVl hEl (by decide) (by decide) (by rw [HVm.out.2.2.2]; omega)
              have hmt2 := HVm.out.2.1
              rw [HVm.out.1] at hmt2
              by_cases hm : bytN V = takeN R 2
              · have t5 : ((strOfNums (txtI [V])).toList == (s.extract i E).toList) = true := by rw [hteq, decide_eq_true hm]
                have HU := Lib.hid (hmt2.1 hm)
                clear hteq hmt2 hm hEl
                generalize strOfNums (txtI [V]) = X at *
                go_region_held3 (fun _ => True) (first | exact trivial | go_keep) ((go_at_call 24; (with_reducible first | (refine (htx1 _).mono ?_) | (refine htx2.mono ?_)); rintro e w6 ⟨rfl, hb6⟩))
                have H6 := Lib.hid (And.intro (own_below HF.out.2 hb6) (below_next HB.out (Nat.le_refl _) hb6))
                clear hb6 htx1 htx2
                go_wp2_with (at_builtin; refine u16_app rfl _ _ rfl w.heap.size _ us.length (us.map fun u => Value.int .u16 ((u : Nat) : Int)) rfl (H6.out.1.alloc _) w6.heap.size ((V : Nat) : Int) rfl (heap_alloc_new _ _) (by omega) (Nat.le_trans H6.out.2.size (by simp)) ?_; intro v' w7 ho7 hg7 _; have HG := Lib.hid (And.intro ho7 (grown_below H6.out.2 H6.out.2.size H6.out.1 hg7)); clear ho7 hg7)
                go_roundw
                case rel => exact ⟨2, 2 + 1, rfl, rfl, by decide, by decide, Lib.hid HG.out.2, .inr ⟨by decide, by decide, by have := HEE.out; omega, Lib.hid ⟨V, HU.out, by have := HG.out.1; simpa using this⟩⟩⟩
                case measure => simp [RowKit.intOf]
              · have t5 : ((strOfNums (txtI [V])).toList == (s.extract i E).toList) = false := by rw [hteq, decide_eq_false hm]
                have HU := Lib.hid (fun h => hm (hmt2.2 h))
                clear hteq hmt2 hm hEl
                generalize strOfNums (txtI [V]) = X at *
                go_region_held3 (fun _ => True) (first | exact trivial | go_keep) ((go_at_call 24; (with_reducible first | (refine (htx1 _).mono ?_) | (refine htx2.mono ?_)); rintro e w6 ⟨rfl, hb6⟩))
                have H6 := Lib.hid (And.intro (own_below HF.out.2 hb6) (below_next HB.out (Nat.le_refl _) hb6))
                clear hb6 htx1 htx2
                go_wp2_with fail
                go_roundw
                case rel => exact ⟨0, 2 + 1, rfl, rfl, by decide, by decide, Lib.hid H6.out.2, .inl ⟨rfl, Lib.hid ⟨fun m hm u h => by
                  rcases Nat.lt_or_ge m 2 with h1 | h1
                  · exact HF.out.1 m h1 u h
                  · obtain rfl : m = 2 := by omega
                    have := vN_of h
                    rw [HVm.out.1] at this
                    subst this
                    exact HU.out h, H6.out.1⟩⟩⟩
                case measure => simp [RowKit.intOf]
            · go_wp2_with fail
              go_quiet (fail)
              go_wp2_with fail
              have t4 : ((f : Int) == 0) = false := by rw [beq_eq_false_iff_ne]; omega
              go_quiet (fail)
              go_wp2_with fail
              go_roundw
              case rel => exact ⟨f, 2 + 1, rfl, rfl, by decide, by decide, Lib.hid (low_drewN HB.out _), .inr ⟨hf1, hf3, hfs, Lib.hid (by
                obtain ⟨u, h1, h2⟩ := HF.out
                exact ⟨u, h1, own_below h2 (low_drewN (Below.refl _ _) _)⟩)⟩⟩
              case measure => simp [RowKit.intOf]
        · have t12 : decide ((n : Int) ≤ 3) = false ∨ (decide ((n : Int) ≤ 3) = true ∧ IntKind.i64.wrap ((i : Int) + (n : Int)) = ((i + n : Nat) : Int) ∧ ¬ (i + n ≤ s.size)) := by
            by_cases h3 : n ≤ 3
            · exact .inr ⟨by simp; omega, by rw [IntWalk.i64_in _ (by omega)]; omega, fun h => hcond ⟨h3, h⟩⟩
            · exact .inl (by simp; omega)
          obtain ⟨E, hE⟩ : ∃ E, i + n = E := ⟨_, rfl⟩
          rw [hE] at t12
          have HR := Lib.hid (And.intro hR (And.intro hRl (And.intro hcond trivial)))
          clear hR hRl hcond hbU hE
          rcases hcase with ⟨rfl, HF⟩ | ⟨hf1, hf3, hfs, HF⟩
          · have hun : unit1 R = none := by
              cases hu : unit1 R with
              | none => rfl
              | some x =>
                obtain ⟨u, m⟩ := x
                have hb := unit1_bd hu
                have h1 : ¬ m < n := fun h => HF.out.1 m h u hu
                have := HR.out.2.1
                exact absurd (by omega : n ≤ 3 ∧ i + n ≤ s.size) HR.out.2.2.1
            have hne : R ≠ [] := fun h => by have := HR.out.2.1; rw [h] at this; simp at this; omega
            have HX := Lib.hid (HI.out.1.fails (by rw [HR.out.1]; exact unitsT_bad hne hun))
            clear hun hne
            rcases t12 with t1 | ⟨t1, k1, t2⟩
            all_goals
              go_wp2_with fail
              go_ret2
              exact .inl ⟨HX.out, rfl, HB.out⟩
          · have hf0 : ((f : Int) == 0) = false := by rw [beq_eq_false_iff_ne]; omega
            have kf : IntKind.i64.wrap ((i : Int) + (f : Int)) = ((i + f : Nat) : Int) := by rw [IntWalk.i64_in _ (by omega)]; omega
            rcases t12 with t1 | ⟨t1, k1, t2⟩
            all_goals
              go_wp2_with fail
              go_roundw
              case rel =>
                obtain ⟨u, h1, h2⟩ := HF.out
                refine ⟨us ++ [u], i + f, by go_num, hfs, by rw [List.length_append, List.length_singleton]; omega, Lib.hid ⟨?_, h2, HB.out⟩⟩
                have h3 := HI.out.1
                rw [HR.out.1] at h3
                have h4 := h3.step h1
                rw [← HR.out.1, List.drop_drop] at h4
                exact h4
              case measure => simp [RowKit.intOf]; omega
    · obtain rfl : s.size = i := by omega
      have hnil : l0.drop s.size = [] := List.drop_eq_nil_of_le (by rw [H0.out.2]; exact Nat.le_refl _)
      have HX := Lib.hid (show unitsT l0 = some us from (by rw [← hnil]; exact HI.out.1 : GotU l0 us []).stop)
      have hlt2 : decide ((s.size : Int) < s.size) = false := by simp
      clear hnil
      go_wp2_with fail
      go_ret2
      exact .inr ⟨us, _, HX.out, rfl, HI.out.2.1, by have := H0.out.2; omega, HI.out.2.2⟩
end Go.Proofs.YtbeekjfjfcaobaaDoor
