/- The walks of the laws SumBytes and SumEnds: they return true and turn nothing that was there. Condition: the bytes lie below the heap's size, the number fits its kind. -/
import Derived.Test.YtfgifimmdkiejaaSumOf
set_option linter.unusedVariables false
namespace Go.Proofs.Ytfgifimmdkiejaa
open Go.RowKit

set_option maxHeartbeats 1000000 in
theorem sumbytes_walk (w : World) (s : Int) (a : Option Addr) (n c : Nat) (l : List Int) (hn : l.length = n) (hm : n ≤ 140737488355328) (hb : Bs w w.heap.size a l) :
    Calls Try.prog 3 #[.int .i64 s, .slice a n c] w fun e w' => e = .returned (.bool true) ∧ Below w.heap.size w w' := by
  go_enter Try.func3, Try.ntmps3
  go_wp2_with fail
  refine (sumFixed _).mono ?_
  rintro e w1 ⟨rfl, hb1⟩
  go_wp2_with fail
  refine (sumNew _).mono ?_
  rintro e w2 ⟨g, rfl, hg, ht, hb2⟩
  have c1 := below_next hb1 (Nat.le_refl _) hb2
  have HT := Lib.hid ht; clear ht
  go_wp2_with fail
  refine (sumAdd g s a n c l hn hm _ _ HT.out (hb.below c1)).mono ?_
  rintro e w3 ⟨rfl, rfl⟩
  go_wp2_with fail
  refine (refAdd s a n c l hn hm _ _ (hb.below c1)).mono ?_
  rintro e w3 ⟨rfl, rfl⟩
  go_wp2_with fail
  refine (sumOne (by simp) ((hb.below c1).more c1.size) hn hm).mono ?_
  rintro e w3 ⟨rfl, hb3⟩
  have c2 := below_next c1 (Nat.le_refl _) hb3
  go_wp2_with fail
  refine (refOf a n c l hn hm _ _ (hb.below c2)).mono ?_
  rintro e w3 ⟨rfl, rfl⟩
  go_wp2_with fail
  go_ret
  exact ⟨rfl, c2⟩

/-- a number's four bytes, the least one first -/
def four (v : Int) : List Int := [v % 256, v / 256 % 256, v / 65536 % 256, v / 16777216]
theorem reg_mod (y : BitVec 32) : reg (un y % 256) = y &&& 255#32 := by
  apply un_inj
  unfold reg
  rw [un_of]
  have h := un_bd y
  unfold un
  rw [BitVec.toNat_and]
  have e : (255#32).toNat = 2 ^ 8 - 1 := rfl
  rw [e, Nat.and_two_pow_sub_one_eq_mod]
  omega
theorem regs_four (x : BitVec 32) : regs (four (un x)) = x := by
  have e1 : un x / (256 : Int) = un (x >>> 8) := un_256 x
  have e2 : un x / (65536 : Int) = un (x >>> 16) := un_shr x 16
  have e3 : un x / (16777216 : Int) = un (x >>> 24) % (256 : Int) := by
    have h := un_shr x 24
    have h2 := un_bd x
    have : un x / (2 : Int) ^ 24 = un x / (16777216 : Int) := rfl
    omega
  unfold four
  rw [e3, e2, e1]
  simp only [regs]
  rw [reg_mod, reg_mod, reg_mod, reg_mod]
  apply BitVec.eq_of_getLsbD_eq
  intro i hi
  simp only [BitVec.getLsbD_xor, BitVec.getLsbD_shiftLeft, BitVec.getLsbD_zero]
  rw [and255 _ _ hi]
  by_cases h0 : i < 8
  · simp [h0]
  · rw [and255 _ _ (by omega), BitVec.getLsbD_ushiftRight]
    by_cases h1 : i < 16
    · simp [h0, hi, show i - 8 < 8 by omega, show 8 + (i - 8) = i by omega]
    · rw [and255 _ _ (by omega), BitVec.getLsbD_ushiftRight]
      by_cases h2 : i < 24
      · simp [h0, hi, show ¬ i - 8 < 8 by omega, show i - 8 - 8 < 8 by omega, show 16 + (i - 8 - 8) = i by omega, show i - 8 < 32 by omega]
      · rw [and255 _ _ (by omega), BitVec.getLsbD_ushiftRight]
        simp [h0, hi, show ¬ i - 8 < 8 by omega, show ¬ i - 8 - 8 < 8 by omega, show i - 8 - 8 - 8 < 8 by omega, show 24 + (i - 8 - 8 - 8) = i by omega, show i - 8 < 32 by omega, show i - 8 - 8 < 32 by omega]
theorem four_bytes (v : Int) (h : 0 ≤ v ∧ v ≤ 4294967295) : Bytes (four v) := by
  intro x hx
  simp [four] at hx
  omega
theorem ends_all : un (~~~ (shn 32 (BitVec.allOnes 32))) = 558161692 := by decide +kernel
/-- what a sum's four bytes do behind the bytes that have it -/
theorem sum_end (l : List Int) : sumOf 0 (l ++ four (sumOf 0 l)) = 558161692 := by
  have e : sumOf 0 l = un (~~~ (crc (start 0) l)) := rfl
  rw [e]
  unfold sumOf
  have hb := four_bytes _ (un_bd (~~~ (crc (start 0) l)))
  rw [crc_app, crc_regs _ hb _ (by simp [four]), regs_four]
  have e2 : crc (start 0) l ^^^ ~~~ (crc (start 0) l) = BitVec.allOnes 32 := by
    apply BitVec.eq_of_getLsbD_eq
    intro i hi
    rw [BitVec.getLsbD_xor, BitVec.getLsbD_not, BitVec.getLsbD_allOnes]
    simp [hi]
  rw [e2]
  exact ends_all
theorem parts_two {w : World} {a a' : Option Addr} {n c n' c' : Nat} {l l' : List Int} {t : TypeId} (hb : Bs w w.heap.size a l) (hn : l.length = n) (hm : n ≤ 140737488355328) (hb' : Bs w w.heap.size a' l') (hn' : l'.length = n') (hm' : n' ≤ 140737488355328) :
    Parts (w.alloc (.cells #[.slice a n c, .slice a' n' c'] t)) (w.heap.size + 1) (some ⟨w.heap.size, 0, none⟩) [l, l'] := by
  subst hn; subst hn'
  refine ⟨fun p hp => by simp at hp; rcases hp with rfl | rfl <;> assumption, fun _ => ⟨w.heap.size, 0, rfl, by omega, fun i hi => ?_⟩⟩
  rcases i with _ | _ | i
  · exact ⟨a, c, by rw [blk_cell (heap_alloc_new w _)]; rfl, (hb.alloc (Nat.le_refl _) _).more (by omega)⟩
  · exact ⟨a', c', by rw [blk_cell (heap_alloc_new w _)]; rfl, (hb'.alloc (Nat.le_refl _) _).more (by omega)⟩
  · simp at hi; omega
theorem sumTwo {w : World} {a a' : Option Addr} {n c n' c' : Nat} {l l' : List Int} {t : TypeId} {b : Nat} (hbk : b = w.heap.size) (hb : Bs w w.heap.size a l) (hn : l.length = n) (hm : n ≤ 140737488355328) (hb' : Bs w w.heap.size a' l') (hn' : l'.length = n') (hm' : n' ≤ 140737488355328) :
    Calls Try.prog 16 #[.slice (some ⟨b, 0, none⟩) 2 2] (w.alloc (.cells #[.slice a n c, .slice a' n' c'] t)) fun e w' => e = .returned (.int .i64 (sumOf 0 (l ++ l'))) ∧ Below w.heap.size w w' := by
  subst hbk
  have hp := parts_two (t := t) (c := c) (c' := c') hb hn hm hb' hn' hm'
  have := sumOfCall (some ⟨w.heap.size, 0, none⟩) 2 2 [l, l'] rfl (by decide) (w.alloc (.cells #[.slice a n c, .slice a' n' c'] t)) (by simpa using hp)
  refine this.mono fun e w' ⟨h1, h2⟩ => ⟨by simpa using h1, ((Below.refl _ _).alloc (Nat.le_refl _) _).trans (h2.mono (by simp))⟩
theorem nilAdd (s : Int) (v : Value) (w : World) : Calls Try.prog 14 #[.pointer none, .int .i64 s, v] w fun e w' => e = .returned (.int .i64 0) ∧ w = w' := by
  go_enter Try.func14, Try.ntmps14
  go_wp2_with fail
  go_ret
  exact ⟨rfl, rfl⟩
set_option maxHeartbeats 1000000 in
theorem sumends_walk (w : World) (a : Option Addr) (n c : Nat) (l : List Int) (hn : l.length = n) (hm : n ≤ 140737488355328) (hb : Bs w w.heap.size a l) :
    Calls Try.prog 7 #[.slice a n c] w fun e w' => e = .returned (.bool true) ∧ Below w.heap.size w w' := by
  have hv := un_bd (~~~ (crc (start 0) l))
  have hx : sumOf 0 l = un (~~~ (crc (start 0) l)) := rfl
  have HX := Lib.hid hx; clear hx
  go_enter Try.func7, Try.ntmps7
  go_wp2_with fail
  refine (sumFixed _).mono ?_
  rintro e w1 ⟨rfl, hb1⟩
  go_wp2_with fail
  refine (sumOne (by simp) ((hb.below hb1).more hb1.size) hn hm).mono ?_
  rintro e w2 ⟨rfl, hb2⟩
  have c1 := below_next hb1 (Nat.le_refl _) hb2
  have he := sum_end l
  rw [HX.out] at he ⊢
  have hF := four_bytes _ hv
  generalize un (~~~ (crc (start 0) l)) = v at *
  have hlt : decide (v < 4294967296) = true := by simp; omega
  have hge : decide (0 ≤ v) = true := by simp; omega
  have HE := Lib.hid he; clear he
  go_wp2_with fail
  have h2 := sumTwo (t := 22) (b := w2.heap.size + 1) (w := w2.alloc (.cells #[.int .u8 (v % 256), .int .u8 (v / 256 % 256), .int .u8 (v / 65536 % 256), .int .u8 (v / 16777216)] 5)) (c := c) (c' := 4) (a' := some ⟨w2.heap.size, 0, none⟩) (by simp) (((hb.below c1).more c1.size).alloc (Nat.le_refl _) _ |>.more (by simp)) hn hm (by simpa [four] using bs_lit w2 5 (four v) (0, 0) hF) (show (four v).length = 4 by rfl) (by decide)
  rw [HE.out] at h2
  refine h2.mono ?_
  rintro e w3 ⟨rfl, hb3⟩
  have c2 := below_next c1 (Nat.le_refl _) (below_next ((Below.refl w2.heap.size w2).alloc (Nat.le_refl _) (.cells #[.int .u8 (v % 256), .int .u8 (v / 256 % 256), .int .u8 (v / 65536 % 256), .int .u8 (v / 16777216)] 5)) (Nat.le_refl _) hb3)
  clear HE HX h2
  go_wp2_with fail
  refine (nilAdd _ _ _).mono ?_
  rintro e w4 ⟨rfl, rfl⟩
  go_wp2_with fail
  go_ret
  exact ⟨rfl, c2⟩
end Go.Proofs.Ytfgifimmdkiejaa
