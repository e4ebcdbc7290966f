/- What the table of package sum is, and what is summed with it: contracts of sum.New, Table.Add, and of the document's own Add. Condition: the bytes are bytes. -/
import Derived.Test.YtfgifimmdkiejaaSum
import Derived.Deep.RegionWith
set_option linter.unusedVariables false
namespace Go.Proofs.Ytfgifimmdkiejaa
open Go.RowKit

theorem shiftedAt (k : Nat) (hk : k < 256) (w : World) : Calls Try.prog 39 #[.int .u32 (k : Int)] w fun e w' => e = .returned (.int .u32 (un (tab k))) ∧ w = w' := by
  have h : (k : Int) = un (reg k) := by unfold reg; rw [un_of]; omega
  have := sumShifted (reg k) w
  rw [← h] at this
  exact this
/-- block g is a table -/
def IsTab (w : World) (g : Nat) : Prop := ∃ cs : Array Value, w.heap[g]? = some (.cells cs 72 (0, 0)) ∧ ∀ i : Nat, i < 256 → cs[i]? = some (.int .u32 (un (tab i)))
def NewTab (w : World) (e : Ending) (w' : World) : Prop := ∃ g, e = .returned (.pointer (some ⟨g, 0, none⟩)) ∧ w.heap.size ≤ g ∧ IsTab w' g ∧ Below w.heap.size w w'
theorem IsTab.at_ {w : World} {g : Nat} (h : IsTab w g) {i : Nat} (hi : i < 256) : w.cell? ⟨g, i, none⟩ = some (.int .u32 (un (tab i))) := by
  obtain ⟨cs, hh, hc⟩ := h
  rw [blk_cell hh]; exact hc i hi

theorem IsTab.below {w w' : World} {g : Nat} (h : IsTab w g) (hb : Below w.heap.size w w') : IsTab w' g := by
  obtain ⟨cs, hh, hc⟩ := h
  exact ⟨cs, (hb.block g (blk_lt hh)).trans hh, hc⟩
def zeros : Array Value := Array.replicate 256 (.int .u32 0)
theorem zeroTab (W : World) : (zeroValue 72).run Try.prog W = .ok (.agg zeros) W := by kernel_rfl
set_option maxRecDepth 100000 in
set_option maxHeartbeats 1000000 in
theorem sumNew (w : World) : Calls Try.prog 13 #[] w (NewTab w) := by
  have hz := zeroTab
  go_enter Try.func13, Try.ntmps13
  go_wp2_with fail
  clear hz
  go_loopw [2, 5] (fun _ i wr => ∃ k : Nat, ∃ cs : Array Value, k ≤ 256 ∧ i = .int .i64 k ∧ wr.heap[w.heap.size]? = some (.cells cs 72 (0, 0)) ∧ cs.size = 256 ∧ (∀ j, j < k → cs[j]? = some (.int .u32 (un (tab j)))) ∧ Below w.heap.size w wr) (fun _ i _ => 256 - (intOf i).toNat)
  case atStart => exact ⟨0, zeros, Nat.zero_le _, rfl, heap_alloc_new w _, by simp [zeros], fun j hj => absurd hj (by omega), (Below.refl _ _).alloc (Nat.le_refl _) _⟩
  case round =>
    obtain ⟨k, cs, hk, rfl, hh, hs, hcs, hbel⟩ := hrel
    by_cases hlt : k < 256
    · obtain ⟨u, hc⟩ : ∃ u, wr.cell? ⟨w.heap.size, k, none⟩ = some u := ⟨cs[k]'(by omega), by rw [blk_cell hh]; simp [hs, hlt]⟩
      have hf := blk_free hh k
      have hset := blk_set hh k (.int .u32 (un (tab k)))
      have hB := blk_lt hh
      have HS := Lib.hid hset; clear hset
      have HC := Lib.hid hcs; clear hcs
      have HZ := Lib.hid hs; clear hs
      clear hh
      have i0 : (0 : Int) ≤ (k : Int) := by omega
      have i1 : (k : Int) < 256 := by omega
      have i2 : IntKind.u32.wrap (k : Int) = k := by rw [u32_wrap]; omega
      go_wp2_with fail
      go_region_with ((go_at_call 39; (with_reducible refine (shiftedAt k hlt _).mono ?_); rintro e w' ⟨rfl, rfl⟩))
      go_wp2
      go_roundw
      case rel => exact ⟨k + 1, _, by omega, by go_num, HS.out, by simpa using HZ.out, fun j hj => by
        by_cases hjk : j = k
        · subst hjk; simp [HZ.out, hlt]
        · rw [Array.getElem?_setIfInBounds_ne (by omega)]; exact HC.out j (by omega), (low_drewN hbel 1).setCell (Nat.le_refl _) _⟩
      case measure => simp [intOf]; omega
    · obtain rfl : k = 256 := by omega
      have HT : IsTab wr w.heap.size := ⟨cs, hh, hcs⟩
      have HI := Lib.hid HT
      clear hh hs hcs HT
      go_wp2
      go_ret
      exact ⟨_, rfl, Nat.le_refl _, HI.out, hbel⟩

/-- the register behind bytes that have a sum -/
def start (s : Int) : BitVec 32 := ~~~ (BitVec.ofInt 32 s)
def sumOf (s : Int) (l : List Int) : Int := un (~~~ (crc (start s) l))
theorem tab_one : (un (tab 1) == 0) = false := by decide +kernel
theorem reg_un (x : BitVec 32) : reg (un x) = x := of_un x
theorem low_bd (r : BitVec 32) (b : Int) : 0 ≤ un (low r b) ∧ un (low r b) < 256 := by
  refine ⟨(un_bd _).1, ?_⟩
  have h := Nat.and_le_right (n := (r ^^^ reg b).toNat) (m := 255)
  unfold un low
  rw [BitVec.toNat_and]
  show (((r ^^^ reg b).toNat &&& 255 : Nat) : Int) < 256
  omega
theorem low_ix (r : BitVec 32) (b : Int) (hb : 0 ≤ b ∧ b ≤ 255) : bits .xor .u8 (IntKind.u8.wrap (un r)) b = un (low r b) := by
  have hl := low_bd r b
  have h0 : BitVec.ofInt 8 (IntKind.u8.wrap (un r)) = r.setWidth 8 := by
    apply BitVec.eq_of_toNat_eq
    have h := ofInt_toNat 8 (IntKind.u8.wrap (un r))
    rw [u8_wrap] at h ⊢
    rw [BitVec.toNat_setWidth]
    unfold un at h ⊢
    omega
  have h1 : BitVec.ofInt 8 b = (reg b).setWidth 8 := by
    apply BitVec.eq_of_toNat_eq
    have h := ofInt_toNat 8 b
    have h2 := reg_get b hb
    rw [BitVec.toNat_setWidth]
    omega
  rw [xor8u_is, h0, h1]
  have h2 : (((r.setWidth 8) ^^^ ((reg b).setWidth 8)).toNat : Int) = un (low r b) := by
    unfold un low
    rw [BitVec.toNat_xor, BitVec.toNat_and, BitVec.toNat_setWidth, BitVec.toNat_setWidth, BitVec.toNat_xor]
    have e : (255#32).toNat = 2 ^ 8 - 1 := rfl
    rw [e, Nat.and_two_pow_sub_one_eq_mod, Nat.xor_mod_two_pow]
  rw [h2, u8_wrap]; omega
theorem add_step (r : BitVec 32) (b : Int) (hb : 0 ≤ b ∧ b ≤ 255) : ∃ j : Nat, j < 256 ∧ bits .xor .u8 (IntKind.u8.wrap (un r)) b = (j : Int) ∧ bits .xor .u32 (un (r >>> 8)) (un (tab j)) = un (step r b) := by
  have hl := low_bd r b
  refine ⟨(un (low r b)).toNat, by omega, by rw [low_ix r b hb]; omega, ?_⟩
  rw [un_xor, step_tab r b hb, Int.toNat_of_nonneg hl.1]
  unfold tab
  rw [reg_un]
theorem un_not (r : BitVec 32) : bits .xor .u32 IntKind.u32.max (un r) = un (~~~ r) := by
  have h : IntKind.u32.max = un (BitVec.allOnes 32) := by decide
  rw [h, un_xor, BitVec.allOnes_xor]
theorem start_is (s : Int) : bits .xor .u32 IntKind.u32.max (s % 4294967296) = un (start s) := by
  rw [← un_of, un_not]; rfl

set_option maxRecDepth 100000 in
set_option maxHeartbeats 1000000 in
theorem sumAdd (g : Nat) (s : Int) (a : Option Addr) (n c : Nat) (l : List Int) (hn : l.length = n) (hm : n ≤ 140737488355328) (w : World) (B : Nat) (hg : IsTab w g) (hb : Bs w B a l) :
    Calls Try.prog 14 #[.pointer (some ⟨g, 0, none⟩), .int .i64 s, .slice a n c] w fun e w' => e = .returned (.int .i64 (sumOf s l)) ∧ w = w' := by
  subst hn
  have h1 := hg.at_ (i := 1) (by decide)
  have ht := tab_one
  have HG := Lib.hid hg; clear hg
  have hst := start_is s
  go_enter Try.func14, Try.ntmps14
  go_wp2_with fail
  clear hst h1 ht
  go_loop [7, 9, 24] (fun r _ i => ∃ k : Nat, k ≤ l.length ∧ i = .int .i64 k ∧ r = .int .u32 (un (crc (start s) (l.take k)))) (fun _ _ i => l.length - (intOf i).toNat)
  case atStart => exact ⟨0, Nat.zero_le _, rfl, rfl⟩
  case round =>
    obtain ⟨k, hk, rfl, rfl⟩ := hrel
    by_cases hlt : k < l.length
    · obtain ⟨b, off, rfl, hbl, hc⟩ := hb.at_ hlt
      have hv := hb.1.at_ k
      have hs : crc (start s) (l.take (k + 1)) = step (crc (start s) (l.take k)) (l.getD k 0) := by rw [take_succ' l k hlt, crc_snoc]
      have HS := Lib.hid hs; clear hs
      generalize l.getD k 0 = x at *
      generalize crc (start s) (l.take k) = r at *
      obtain ⟨j, hj, e1, e2⟩ := add_step r x hv
      have e3 := un_256 r
      have hcell := HG.out.at_ hj
      have HE := Lib.hid e2; clear e2
      have j0 : (0 : Int) ≤ (j : Int) := by omega
      have j1 : (j : Int) < 256 := by omega
      have hbd := un_bd r
      rw [u8_wrap] at e1
      go_wp2_with fail
      go_round
      case rel => exact ⟨k + 1, by omega, by go_num, by rw [HS.out, ← HE.out]⟩
      case measure => simp [intOf]; omega
    · obtain rfl : k = l.length := by omega
      rw [List.take_length]
      have e := un_not (crc (start s) l)
      have hbd := un_bd (~~~ (crc (start s) l))
      have hr : sumOf s l = un (~~~ (crc (start s) l)) := rfl
      have HR := Lib.hid hr; clear hr
      generalize un (~~~ (crc (start s) l)) = v at *
      go_wp2_with fail
      go_ret
      exact ⟨ret1 HR.out.symm, rfl⟩

theorem start_not (r : BitVec 32) : start (un (~~~ r)) = r := by
  unfold start; rw [of_un, BitVec.not_not]
theorem sumOf_app (s : Int) (l m : List Int) : sumOf (sumOf s l) m = sumOf s (l ++ m) := by
  unfold sumOf; rw [start_not, crc_app]

set_option maxHeartbeats 1000000 in
theorem refAdd (s : Int) (a : Option Addr) (n c : Nat) (l : List Int) (hn : l.length = n) (hm : n ≤ 140737488355328) (w : World) (B : Nat) (hb : Bs w B a l) :
    Calls Try.prog 15 #[.int .i64 s, .slice a n c] w fun e w' => e = .returned (.int .i64 (sumOf s l)) ∧ w = w' := by
  subst hn
  have hst : bits .xor .u32 IntKind.u32.max (IntKind.u64.wrap s % 4294967296) = un (start s) := by
    rw [← start_is]; congr 1
    have : IntKind.u64.wrap s = s % 18446744073709551616 := by simp [IntKind.wrap, IntKind.bits, IntKind.signed]
    omega
  go_enter Try.func15, Try.ntmps15
  go_wp2_with fail
  clear hst
  go_loop [5, 6] (fun r i => ∃ k : Nat, k ≤ l.length ∧ i = .int .i64 k ∧ r = .int .u32 (un (crc (start s) (l.take k)))) (fun _ i => l.length - (intOf i).toNat)
  case atStart => exact ⟨0, Nat.zero_le _, rfl, rfl⟩
  case round =>
    obtain ⟨k, hk, rfl, rfl⟩ := hrel
    by_cases hlt : k < l.length
    · obtain ⟨b, off, rfl, hbl, hc⟩ := hb.at_ hlt
      have hv := hb.1.at_ k
      have hs : crc (start s) (l.take (k + 1)) = step (crc (start s) (l.take k)) (l.getD k 0) := by rw [take_succ' l k hlt, crc_snoc]
      have HS := Lib.hid hs; clear hs
      generalize l.getD k 0 = x at *
      generalize crc (start s) (l.take k) = r at *
      go_wp2_with fail
      refine (refStep r x hv _).mono ?_
      rintro e w' ⟨rfl, rfl⟩
      go_wp2_with fail
      go_round
      case rel => exact ⟨k + 1, by omega, by go_num, by rw [HS.out]⟩
      case measure => simp [intOf]; omega
    · obtain rfl : k = l.length := by omega
      rw [List.take_length]
      have e := un_not (crc (start s) l)
      have hbd := un_bd (~~~ (crc (start s) l))
      have hr : sumOf s l = un (~~~ (crc (start s) l)) := rfl
      have HR := Lib.hid hr; clear hr
      generalize un (~~~ (crc (start s) l)) = v at *
      go_wp2_with fail
      go_ret
      exact ⟨ret1 HR.out.symm, rfl⟩
theorem refOf (a : Option Addr) (n c : Nat) (l : List Int) (hn : l.length = n) (hm : n ≤ 140737488355328) (w : World) (B : Nat) (hb : Bs w B a l) :
    Calls Try.prog 17 #[.slice a n c] w fun e w' => e = .returned (.int .i64 (sumOf 0 l)) ∧ w = w' := by
  go_enter Try.func17, Try.ntmps17
  go_wp2_with fail
  refine (refAdd 0 a n c l hn hm _ B hb).mono ?_
  rintro e w' ⟨rfl, rfl⟩
  go_wp2_with fail
  go_ret
  exact ⟨rfl, rfl⟩
end Go.Proofs.Ytfgifimmdkiejaa
