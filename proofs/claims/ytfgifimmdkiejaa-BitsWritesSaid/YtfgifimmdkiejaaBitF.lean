/- The calls whose answers the document fixes for layer 4 answer so; a nil reader and a nil writer. No condition. -/
import Derived.Test.YtfgifimmdkiejaaBitX
import Derived.Test.YtfgifimmdkiejaaSame
set_option linter.unusedVariables false
namespace Go.Proofs.Ytfgifimmdkiejaa
open Go.RowKit

theorem bs_lits (w : World) (t : TypeId) (l : List Int) (z : Nat × Nat) (hl : Bytes l) : Bs (w.alloc (.cells (l.map (Value.int .u8)).toArray t z)) (w.heap.size + 1) (some ⟨w.heap.size, 0, none⟩) l := by
  refine ⟨hl, fun hn => ⟨w.heap.size, 0, rfl, by omega, fun i hi => ?_⟩⟩
  have h := heap_alloc_new w (.cells (l.map (Value.int .u8)).toArray t z)
  rw [cell_of_row _ _ _ _ _ _ h]
  simp [hi]
def r2 : List Int := [5, 128]
theorem ft1 : valT r2 0 1 = 1 ∧ errT r2 0 1 = 0 ∧ posT r2 0 1 = 1 := by decide +kernel
theorem ft2 : valT r2 1 3 = 2 ∧ errT r2 1 3 = 0 ∧ posT r2 1 3 = 4 := by decide +kernel
theorem ft3 : valT r2 4 12 = 2048 ∧ errT r2 4 12 = 0 ∧ posT r2 4 12 = 16 := by decide +kernel
theorem ft4 : valT r2 16 1 = 0 ∧ errT r2 16 1 = 2 ∧ posT r2 16 1 = 16 := by decide +kernel
theorem fixTake {w : World} {g p q : Nat} {n v er : Int} (hn : -9223372036854775808 ≤ n ∧ n ≤ 9223372036854775807) (h : Rdr 78 w g r2 p) (e : valT r2 p n = v ∧ errT r2 p n = er ∧ posT r2 p n = q) :
    Calls Try.prog 20 #[.pointer (some ⟨g, 0, none⟩), .int .i64 n] w fun e w' => e = .returned (.tuple #[.int .i64 v, .int .i64 er]) ∧ Rdr 78 w' g r2 q ∧ Only g w w' := by
  have := bitTake n hn h
  rw [e.1, e.2.1, e.2.2] at this
  exact this
theorem wt_new (w : World) (base : Nat) : Wt (w.alloc (.cells #[.slice none 0 0, .int .i64 0] 56)) base w.heap.size none 0 (pk []) ([] : List Bool).length :=
  ⟨heap_alloc_new w _, World.ownsRow_nil _ _ _ _, by simp [Value.ownBlock]⟩
/-- what a Put leaves -/
def PutPost (w : World) (base g : Nat) (a : Option Addr) (c : Nat) (L L' : List Bool) (e : Ending) (w' : World) : Prop :=
  e = .returned (.int .i64 0) ∧ ∃ a' c', Wt w' base g a' c' (pk L') L'.length ∧ Foot (WF g a (pk L).length c) w w' ∧ (∀ i, (Value.slice a' (pk L').length c').ownBlock = some i → (Value.slice a (pk L).length c).ownBlock = some i ∨ w.heap.size ≤ i)
theorem wrPutI {w : World} {base g : Nat} {a : Option Addr} {c : Nat} {L : List Bool} (h : Wt w base g a c (pk L) L.length) (hm : L.length ≤ 1099511627776) (hbase : base ≤ w.heap.size)
    (n : Nat) (N : Int) (hN : (n : Int) = N) (hn : n ≤ 16) (v : Int) (hv : -9223372036854775808 ≤ v ∧ v ≤ 9223372036854775807) :
    Calls Try.prog 30 #[.pointer (some ⟨g, 0, none⟩), .int .i64 N, .int .i64 v] w (PutPost w base g a c L (putL L n v)) := by
  subst hN; exact wrPut h hm hbase n hn v hv
theorem fw : pk (putL (putL [] 3 5) 2 0) = [5] := by decide +kernel
theorem same_true {a a' : Option Addr} {n c n' c' : Nat} {l : List Int} {w : World} {B B' : Nat} (hn : l.length = n) (hn' : l.length = n') (hl : l.length ≤ 140737488355328) (hb : Bs w B a l) (hb' : Bs w B' a' l) :
    Calls Try.prog 26 #[.slice a n c, .slice a' n' c'] w fun e w' => e = .returned (.bool true) ∧ ∃ n, w' = w.drewN n :=
  (refSame a a' n c n' c' l l hn hn' (by simp only [maxLen]; omega) (by simp only [maxLen]; omega) w B B' hb hb').mono fun e w' ⟨h1, h2⟩ => ⟨by rw [h1]; simp [eqB], h2⟩

set_option maxRecDepth 100000 in
set_option maxHeartbeats 2000000 in
theorem bitFixed (w : World) : Calls Try.prog 18 #[] w fun e w' => e = .returned (.bool true) ∧ Below w.heap.size w w' := by
  go_enter Try.func18, Try.ntmps18
  go_wp2_with fail
  refine (bitNew (some ⟨w.heap.size, 0, none⟩) 2 2 r2 rfl (by decide) _ (by simpa [r2] using bs_lits w 5 r2 (0, 0) (by simp [r2, Bytes]))).mono ?_
  rintro e w1 ⟨g, a1, c1, rfl, hg, hh1, ho1, hlt1, hb1⟩
  have hb1' : Below w.heap.size w w1 := ((Below.refl w.heap.size w).alloc (Nat.le_refl _) _).trans (hb1.mono (by simp))
  have hr1 := rdr_of_row (T := 78) (l := r2) (p := 0) hh1 ho1 (by simp [r2, Bytes]) (by decide) hlt1 (by decide)
  have hgw : w.heap.size ≤ g := by simp at hg; omega
  clear hh1 ho1 hlt1 hb1 hg
  go_wp2_with fail
  refine (fixTake (by decide) hr1 ft1).mono ?_
  rintro e w2 ⟨rfl, hr2, ho2⟩
  have hb2 := low_only hb1' ho2 hgw (Nat.le_refl _)
  clear hr1 ho2 hb1'
  go_wp2_with fail
  refine (fixTake (by decide) hr2 ft2).mono ?_
  rintro e w3 ⟨rfl, hr3, ho3⟩
  have hb3 := low_only hb2 ho3 hgw (Nat.le_refl _)
  clear hr2 ho3 hb2
  go_wp2_with fail
  refine (fixTake (by decide) hr3 ft3).mono ?_
  rintro e w4 ⟨rfl, hr4, ho4⟩
  have hb4 := low_only hb3 ho4 hgw (Nat.le_refl _)
  clear hr3 ho4 hb3
  go_wp2_with fail
  refine (fixTake (by decide) hr4 ft4).mono ?_
  rintro e w5 ⟨rfl, hr5, ho5⟩
  have hb5 := low_only hb4 ho5 hgw (Nat.le_refl _)
  clear hr4 ho5 hb4 hr5
  have hs5 := hb5.size
  have hw5 := wt_new w5 w5.heap.size
  have HW5 := Lib.hid hw5
  clear hw5
  go_wp2_with fail
  refine (wrPutI HW5.out (by decide) (by simp) 3 3 rfl (by decide) 5 (by decide)).mono ?_
  rintro e w6 ⟨rfl, a6, c6, hw6, hf6, hr6⟩
  have hs6 := hf6.size
  have hb6 : Below w5.heap.size w5 w6 := ((Below.refl w5.heap.size w5).alloc (Nat.le_refl _) _).trans (hf6.below (fun i hi hF => by rcases hF with q | q; omega; simp [Value.ownBlock] at q) (by simp))
  simp at hs6
  have HW6 := Lib.hid (And.intro hw6 hb6)
  clear hw6 hf6 hr6 hb6 HW5
  go_wp2_with fail
  refine (wrPutI HW6.out.1 (by simp [putL]) (by omega) 2 2 rfl (by decide) 0 (by decide)).mono ?_
  rintro e w7 ⟨rfl, a7, c7, hw7, hf7, hr7⟩
  have hs7 := hf7.size
  have hb7 : Below w5.heap.size w5 w7 := HW6.out.2.trans (hf7.below (fun i hi hF => by
    rcases hF with q | q
    · omega
    · have := (HW6.out.1.2.1.lt i q).1; omega) (by omega))
  rw [fw] at hw7
  have HW7 := Lib.hid (And.intro hw7 hb7)
  clear hw7 hf7 hr7 hb7 HW6
  go_wp2_with fail
  refine (wrAlign HW7.out.1 (by decide)).mono ?_
  rintro e w8 ⟨rfl, hw8, ho8⟩
  have hs8 := ho8.size
  have hb8 : Below w5.heap.size w5 w8 := low_only HW7.out.2 ho8 (Nat.le_refl _) (Nat.le_refl _)
  have hg8 := blk_lt hw8.1
  have HW8 := Lib.hid (And.intro hw8 hb8)
  clear hw8 ho8 hb8 HW7
  go_wp2_with fail
  have h7 : Bs (w8.alloc (.cells #[.int .u8 7] 5)) (w8.heap.size + 1) (some ⟨w8.heap.size, 0, none⟩) [7] := bs_one w8 7 (by decide) _
  have hw8' : Wt (w8.alloc (.cells #[.int .u8 7] 5)) w5.heap.size w5.heap.size a7 c7 [5] (8 * [5].length) := HW8.out.1.below ((Below.refl _ _).alloc (Nat.le_refl _) _)
  refine (wrAdd hw8' (by decide) (by simp; omega) (some ⟨w8.heap.size, 0, none⟩) 1 1 [7] rfl (by decide) (fun w' ho => ?_) (fun h => by cases h)).mono ?_
  · refine ⟨h7.1, fun hn => ?_⟩
    obtain ⟨b, off, e, _, hc⟩ := h7.2 hn
    injection e with e; injection e with e1 e2
    subst e1; subst e2
    have hlt : w8.heap.size < (w8.alloc (.cells #[.int .u8 7] 5)).heap.size := by simp
    have hsz := ho.size
    exact ⟨w8.heap.size, 0, rfl, by omega, fun i hi => (World.cell?_of_block (w := w8.alloc (.cells #[.int .u8 7] 5)) (ho.block w8.heap.size hlt (by intro e; injection e with e; omega))).trans (hc i hi)⟩
  rintro e w9 ⟨rfl, a9, c9, hw9, hf9, hr9⟩
  have hs9 := hf9.size
  simp at hs9
  have hb9 : Below w5.heap.size w5 w9 := (HW8.out.2.alloc (by omega) _).trans (hf9.below (fun i hi hF => by
    rcases hF with q | q
    · omega
    · have := (HW8.out.1.2.1.lt i q).1; omega) (by simp; omega))
  have HW9 := Lib.hid (And.intro hw9 hb9)
  have hlen : 8 * ([5] ++ [7] : List Int).length = 16 := rfl
  rw [hlen] at hw9
  have HL := Lib.hid (wrLen hw9)
  have HB := Lib.hid (wrBytes hw9 (by simp [Bytes]) (by decide))
  clear hw9 hf9 hr9 hb9 HW8 hw8' h7 hlen
  go_wp2_with fail
  refine HL.out.mono ?_
  rintro e w10 ⟨rfl, rfl⟩
  go_wp2_with fail
  refine HB.out.mono ?_
  rintro e w11 ⟨a11, c11, rfl, ho11, hb11⟩
  have hs11 := hb11.size
  have hbs := Bs.of_own ho11 (by simp [Bytes])
  have hbz := below_next (below_next hb5 (Nat.le_refl _) HW9.out.2) (Nat.le_refl _) hb11
  clear ho11
  go_wp2_with fail
  refine (same_true (l := [5, 7]) rfl rfl (by decide) (by simpa using hbs.alloc (Nat.le_refl _) (.cells #[.int .u8 5, .int .u8 7] 5)) (by simpa using bs_lits w11 5 [5, 7] (0, 0) (by simp [Bytes]))).mono ?_
  rintro e w12 ⟨rfl, m, rfl⟩
  go_wp2_with fail
  go_ret
  exact ⟨rfl, low_drewN (hbz.alloc (by have := hbz.size; omega) _) m⟩
end Go.Proofs.Ytfgifimmdkiejaa
