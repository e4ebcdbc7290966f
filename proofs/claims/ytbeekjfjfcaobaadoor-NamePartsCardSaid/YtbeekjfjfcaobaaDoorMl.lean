/- Units of modified UTF-8: contract of package name's Units. Condition: the text is no longer than 60000 bytes. -/
import Derived.Test.YtbeekjfjfcaobaaDoorMk
set_option linter.unusedVariables false
set_option maxRecDepth 100000
namespace Go.Proofs.YtbeekjfjfcaobaaDoor
open Go.RowKit Go.Lib Go.Maps

theorem unit1_bd {l : List UInt8} {u n : Nat} (h : unit1 l = some (u, n)) : u < 65536 ∧ 1 ≤ n ∧ n ≤ 3 ∧ n ≤ l.length := by
  unfold unit1 at h
  cases hl : lead (bU l 0) with
  | none => rw [hl] at h; cases h
  | some x =>
    obtain ⟨u0, m⟩ := x
    rw [hl] at h
    simp only at h
    have hU := uni_lt (l := l) (u := u0) (n := m) (by
      have hb := bU_lt l 0
      unfold lead at hl
      split at hl
      · rename_i h1
        injection hl with hl
        injection hl with hl1 hl2
        subst hl1 hl2
        exact .inl ⟨rfl, h1⟩
      · split at hl
        · injection hl with hl
          injection hl with hl1 hl2
          subst hl1 hl2
          exact .inr (.inl ⟨rfl, by omega⟩)
        · split at hl
          · injection hl with hl
            injection hl with hl1 hl2
            subst hl1 hl2
            exact .inr (.inr ⟨rfl, by omega⟩)
          · cases hl)
    have hm : 1 ≤ m ∧ m ≤ 3 := by
      unfold lead at hl
      split at hl
      · injection hl with hl; injection hl with hl1 hl2; omega
      · split at hl
        · injection hl with hl; injection hl with hl1 hl2; omega
        · split at hl
          · injection hl with hl; injection hl with hl1 hl2; omega
          · cases hl
    split at h
    · cases h
    · split at h
      · injection h with h
        injection h with h1 h2
        subst h1 h2
        exact ⟨(hU (m - 1) (by omega)).1, hm.1, hm.2, by omega⟩
      · cases h
/-- all units of a text -/
def unitsF : Nat → List UInt8 → Option (List Nat)
  | 0, _ => none
  | k + 1, l => if l = [] then some [] else match unit1 l with
    | none => none
    | some (u, n) => (unitsF k (l.drop n)).map (u :: ·)
def unitsT (l : List UInt8) : Option (List Nat) := unitsF (l.length + 1) l
theorem unitsF_fuel : ∀ (k n : Nat) (l : List UInt8), l.length ≤ k → l.length < n → unitsF n l = unitsF (l.length + 1) l
  | _, 0, l, _, h => absurd h (Nat.not_lt_zero _)
  | k, n + 1, [], _, _ => rfl
  | 0, n + 1, c :: r, h, _ => absurd h (by simp)
  | k + 1, n + 1, c :: r, hk, hn => by
    have e : ∀ m, unitsF (m + 1) (c :: r) = match unit1 (c :: r) with
      | none => none
      | some (u, n) => (unitsF m ((c :: r).drop n)).map (u :: ·) := fun m => rfl
    rw [e n, e]
    cases hu : unit1 (c :: r) with
    | none => rfl
    | some x =>
      obtain ⟨u, d⟩ := x
      have hb := unit1_bd hu
      have hlen : ((c :: r).drop d).length ≤ r.length := by rw [List.length_drop, List.length_cons]; omega
      simp only [List.length_cons] at hk hn ⊢
      rw [unitsF_fuel k n _ (by omega) (by omega), unitsF_fuel k (r.length + 1) _ (by omega) (by omega)]
theorem unitsT_nil : unitsT [] = some [] := rfl
theorem unitsT_bad {l : List UInt8} (hl : l ≠ []) (h : unit1 l = none) : unitsT l = none := by
  unfold unitsT unitsF; rw [if_neg hl, h]
theorem unitsT_step {l : List UInt8} {u n : Nat} (h : unit1 l = some (u, n)) : unitsT l = (unitsT (l.drop n)).map (u :: ·) := by
  have hb := unit1_bd h
  have hl : l ≠ [] := by rintro rfl; simp at hb; omega
  unfold unitsT
  rw [unitsF, if_neg hl, h]
  have hlen : (l.drop n).length ≤ l.length - 1 := by rw [List.length_drop]; omega
  simp only
  rw [unitsF_fuel (l.length - 1) l.length _ hlen (by omega)]
/-- units that were read, and what is left -/
def GotU (l : List UInt8) (us : List Nat) (R : List UInt8) : Prop := unitsT l = (unitsT R).map (us ++ ·)
theorem GotU.start (l : List UInt8) : GotU l [] l := by unfold GotU; cases unitsT l <;> rfl
theorem GotU.fails {l : List UInt8} {us : List Nat} {R : List UInt8} (h : GotU l us R) (hn : unitsT R = none) : unitsT l = none := by unfold GotU at h; rw [h, hn]; rfl
theorem GotU.step {l : List UInt8} {us : List Nat} {R : List UInt8} {u n : Nat} (h : GotU l us R) (hu : unit1 R = some (u, n)) : GotU l (us ++ [u]) (R.drop n) := by
  unfold GotU at h ⊢
  rw [h, unitsT_step hu]
  cases unitsT (R.drop n) <;> simp
theorem GotU.stop {l : List UInt8} {us : List Nat} (h : GotU l us []) : unitsT l = some us := by
  unfold GotU at h; rw [h, unitsT_nil]; simp
/-- what Units answers -/
def UniP (l : List UInt8) (w : World) (e : Ending) (w' : World) : Prop :=
  (unitsT l = none ∧ e = .returned (.tuple #[.slice none 0 0, .int .i64 23]) ∧ Below w.heap.size w w') ∨
  (∃ (us : List Nat) (V : Value), unitsT l = some us ∧ e = .returned (.tuple #[V, .int .i64 0]) ∧ w'.ownsRow w.heap.size 38 1 V us.length (us.map fun u => Value.int .u16 ((u : Nat) : Int)) ∧ us.length ≤ l.length ∧ Below w.heap.size w w')
theorem u16_info : (Tryd.prog.info? 38).bind (fun i => i.zero.map fun z => (i.size, i.bytes, z.cells.size)) = some (1, 2, 1) := by kernel_rfl
theorem u16_parts : ∃ i z, Tryd.prog.info? 38 = some i ∧ i.zero = some z ∧ i.size = 1 ∧ i.bytes = 2 ∧ z.cells.size = 1 := by
  have h := u16_info
  cases hi : Tryd.prog.info? 38 with
  | none => rw [hi] at h; cases h
  | some i =>
    rw [hi] at h
    cases hz : i.zero with
    | none => simp [hz] at h
    | some z =>
      simp [hz] at h
      exact ⟨i, z, rfl, hz, h.1, h.2.1, h.2.2⟩
theorem u16_app {w : World} {ops : Array Oper} {rest : List Oper} {o : Oper} {a : Act} {Q : Exit → Act → World → Prop} (hgd : o.guard = none) (s x : Operand)
    (ho : o.op = .call { callee := .builtin .append, args := #[s, x], argTypes := #[31, 31] }) (base : Nat) (v : Value) (n : Nat) (xs : List Value) (hs : a.eval s = v) (hown : w.ownsRow base 38 1 v n xs)
    (q : Nat) (u : Int) (hx : a.eval x = .slice (some ⟨q, 0, none⟩) 1 1) (hh : w.heap[q]? = some (.cells #[.int .u16 u] 38 (0, 0))) (hn : n ≤ 1000000) (hbase : base ≤ w.heap.size)
    (h : ∀ v' w', w'.ownsRow base 38 1 v' (n + 1) (xs ++ [.int .u16 u]) → w.grownBy w' v.ownBlock → (v'.ownBlock = v.ownBlock ∨ v'.ownBlock = some w.heap.size) → wpList Tryd.prog ops Q rest (a.put o.dst v') w') : wpList Tryd.prog ops Q (o :: rest) a w := by
  obtain ⟨i, z, hi, hz, h32, h96, hzs⟩ := u16_parts
  exact one_app hgd s x ho Tryd.underlying31 hi hz h32 h96 hzs (by decide) base v n xs hs hown q _ hx hh rfl hn hbase h
set_option maxHeartbeats 8000000 in
theorem units_is (s : ByteArray) (hs : s.size ≤ 60000) (w : World) : Calls Tryd.prog 20 #[.string s] w (UniP (tl s) w) := by
  obtain ⟨l0, hl0⟩ : ∃ l0, tl s = l0 := ⟨_, rfl⟩
  have hlen : s.size = l0.length := by rw [← hl0, tl_len]
  rw [hl0]
  have H0 := Lib.hid hl0
  clear hl0
  go_enter Tryd.func20, Tryd.ntmps20
  go_wp2_with fail
  go_loopw [0, 4] (fun rv pv wr => ∃ (R : ByteArray) (us : List Nat), rv = .string R ∧ R.size + us.length ≤ s.size ∧ Hid (GotU l0 us (tl R) ∧ wr.ownsRow w.heap.size 38 1 pv us.length (us.map fun u => Value.int .u16 ((u : Nat) : Int)) ∧ Below w.heap.size w wr)) (fun rv _ _ => strOf rv)
  case atStart => exact ⟨s, [], rfl, by simp, Lib.hid ⟨by rw [H0.out]; exact GotU.start _, World.ownsRow_nil _ _ _ _, Below.refl _ _⟩⟩
  case round =>
    obtain ⟨R, us, rfl, hsz, HI⟩ := hrel
    have htl : R.toList = tl R := Lib.toList_data R
    rcases Nat.eq_zero_or_pos R.size with h0 | hpos
    · have hnil : tl R = [] := List.eq_nil_of_length_eq_zero (by rw [tl_len]; exact h0)
      have t1 : (R.toList == []) = true := by rw [htl, hnil]; rfl
      have HX := Lib.hid (show unitsT l0 = some us from (by rw [← hnil]; exact HI.out.1 : GotU l0 us []).stop)
      clear hnil htl
      go_wp2_with fail
      go_ret2
      exact .inr ⟨us, _, HX.out, rfl, HI.out.2.1, by omega, HI.out.2.2⟩
    · have hne : tl R ≠ [] := fun h => by have := tl_len R; rw [h] at this; simp at this; omega
      have t1 : (R.toList == []) = false := by rw [htl, beq_eq_false_iff_ne]; exact hne
      have t2 : R.toList.isEmpty = false := by rw [htl, List.isEmpty_eq_false_iff]; exact hne
      have hfu := firstUnit_is R hpos (by omega)
      cases hu : unit1 (tl R) with
      | none =>
        have hv : unitV (tl R) = (0, 0) := by unfold unitV; rw [hu]; rfl
        simp only [hv] at hfu
        have HX := Lib.hid (HI.out.1.fails (unitsT_bad hne hu))
        clear hne htl hu hv
        go_wp2_with fail
        refine (hfu _).mono ?_
        rintro e w1 ⟨rfl, rfl⟩
        clear hfu
        go_wp2_with fail
        go_ret2
        exact .inl ⟨HX.out, rfl, HI.out.2.2⟩
      | some x =>
        obtain ⟨u, n⟩ := x
        have hv : unitV (tl R) = (u, n) := by unfold unitV; rw [hu]; rfl
        simp only [hv] at hfu
        have hb := unit1_bd hu
        rw [tl_len] at hb
        have hst := HI.out.1.step hu
        rw [← tl_drop R n hb.2.2.2] at hst
        have HX := Lib.hid hst
        have hn0 : ((n : Int) == 0) = false := by rw [beq_eq_false_iff_ne]; omega
        have hrs : (R.extract n R.size).size = R.size - n := by rw [ByteArray.size_extract]; omega
        obtain ⟨hb1, hb2, hb3, hb4⟩ := hb
        clear hne htl hu hv hst
        go_wp2_with fail
        refine (hfu _).mono ?_
        rintro e w1 ⟨rfl, rfl⟩
        clear hfu
        go_wp2_with (at_builtin; refine u16_app rfl _ _ rfl w.heap.size _ us.length (us.map fun u => Value.int .u16 ((u : Nat) : Int)) rfl (HI.out.2.1.alloc _) w1.heap.size ((u : Nat) : Int) rfl (heap_alloc_new _ _) (by omega) (Nat.le_trans HI.out.2.2.size (by simp)) ?_; intro v' w5 ho5 hg5 _; have HG := Lib.hid (And.intro ho5 (grown_below HI.out.2.2 HI.out.2.2.size HI.out.2.1 hg5)); clear ho5 hg5)
        go_roundw
        case rel => exact ⟨R.extract n R.size, us ++ [u], rfl, by rw [List.length_append, List.length_singleton]; omega, Lib.hid ⟨HX.out, by have := HG.out.1; simpa using this, HG.out.2⟩⟩
        case measure => simp [strOf]; omega
end Go.Proofs.YtbeekjfjfcaobaaDoor
