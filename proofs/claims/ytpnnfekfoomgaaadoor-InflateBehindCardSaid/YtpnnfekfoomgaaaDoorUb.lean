/- What an unpacker reckons of lengths and distances, and lays: contracts of literal, spread, length, distance. No condition but what the words say. -/
import Derived.Test.YtpnnfekfoomgaaaDoorUa
set_option linter.unusedVariables false
set_option maxRecDepth 100000
namespace Go.Proofs.YtpnnfekfoomgaaaDoor
open Go.RowKit

theorem and_mask64 (x : Int) (n : Nat) (hn : n ≤ 16) : bits .and .i64 x (2 ^ n - 1) = x % 2 ^ n := by
  have h1 := ofInt_toNat 64 x
  have hm := pow_mono2 (show n ≤ 16 by omega)
  have hp := pow_pos2 n
  have e16 : (2 : Int) ^ 16 = 65536 := by decide
  have h2 : (BitVec.ofInt 64 ((2 : Int) ^ n - 1)).toNat = 2 ^ n - 1 := by
    have := ofInt_toNat 64 ((2 : Int) ^ n - 1)
    have e1 := pow_cast n
    omega
  have hd : (2 : Int) ^ n ∣ 18446744073709551616 := ⟨2 ^ (64 - n), by rw [← Int.pow_add, show n + (64 - n) = 64 by omega]; rfl⟩
  have e : (((BitVec.ofInt 64 x).toNat % 2 ^ n : Nat) : Int) = x % 2 ^ n := by
    rw [Int.natCast_emod, h1, ← pow_cast]
    exact Int.emod_emod_of_dvd x hd
  have hlt := Int.emod_lt_of_pos x hp
  have hge := Int.emod_nonneg x (b := (2 : Int) ^ n) (by omega)
  rw [and64_is, BitVec.toNat_and, h2, Nat.and_two_pow_sub_one_eq_mod, e, wrap64_eq, wrap64_in _ (by omega)]

section
variable {w : World} {gu gr : Nat} {l : List Int} {limit : Nat} {fl fd : Option Addr} {p : Nat} {out : List Int} {o : Option Addr × Nat}
/-- behind an append to what is unpacked -/
theorem unAppend {w1 w2 : World} (h : Un w gu gr l limit fl fd p out o) (hb : Below w.heap.size w w1) {m : List Int} {o' : Option Addr × Nat} (hm : Bytes m) (hs : (out ++ m).length ≤ limit) (hg : w1.grownBy w2 (outV out o).ownBlock) (hown : w2.ownsRow (gu + 1) 5 1 (outV (out ++ m) o') (out ++ m).length ((out ++ m).map (Value.int .u8)))
    (hl : (outV (out ++ m) o').ownBlock = (outV out o).ownBlock ∨ (outV (out ++ m) o').ownBlock = some w1.heap.size) :
    Un (w2.setCell ⟨gu, 1, none⟩ (outV (out ++ m) o')) gu gr l limit fl fd p (out ++ m) o' ∧ Stp gu gr w out o (w2.setCell ⟨gu, 1, none⟩ (outV (out ++ m) o')) (out ++ m) o' := by
  have h1 := h.below hb
  have hgu := blk_lt h1.blk
  have hun := h.under
  have hkeep : ∀ i, i < w1.heap.size → (outV out o).ownBlock ≠ some i → w2.heap[i]? = w1.heap[i]? := fun i hi hn => hg.block i hi fun e => hn e.symm
  have hu2 : w2.heap[gu]? = w1.heap[gu]? := hkeep gu hgu fun e => by have := (h.row.lt gu e).1; omega
  have hlow : ∀ i, i < gu → w2.heap[i]? = w1.heap[i]? := fun i hi => hkeep i (by omega) fun e => by have := (h.row.lt i e).1; omega
  have hset : ∀ i, i ≠ gu → (w2.setCell ⟨gu, 1, none⟩ (outV (out ++ m) o')).heap[i]? = w2.heap[i]? := fun i hi => Below.heap_setCell _ ⟨gu, 1, none⟩ _ i hi
  have hsz : (w2.setCell ⟨gu, 1, none⟩ (outV (out ++ m) o')).heap.size = w2.heap.size := by simp [World.setCell]
  refine ⟨⟨blk_set (hu2.trans h1.blk) 1 _, ?_, own_keep' hown fun i hi => hset i (by have := (hown.lt i hi).1; omega), h.bytes.app hm, hun, hs, h.lim⟩, ⟨⟨hg.os.trans hb.os, hg.tape.trans hb.tape, hg.output.trans hb.output, by rw [hsz]; exact Nat.le_trans hb.size hg.size, fun i hi hn => ?_⟩, fun i hi => ?_⟩⟩
  · obtain ⟨ar, cr, q1, q2, q3, q4, q5, q6⟩ := h1.rdr
    exact ⟨ar, cr, ((hset gr (by omega)).trans (hlow gr hun)).trans q1, q2, q3, q4.keep fun y hy => cell_keep' ((hset _ (by omega)).trans (hlow _ (by omega))), q5, q6⟩
  · exact (hset i fun e => hn (.inl e)).trans ((hkeep i (Nat.lt_of_lt_of_le hi hb.size) fun e => hn (.inr (.inr e))).trans (hb.block i hi))
  · rcases hl with q | q
    · rw [q] at hi; exact .inl hi
    · rw [q] at hi; injection hi with hi; exact .inr (by rw [← hi]; exact hb.size)
theorem unLiteral (x : Int) (hx : 0 ≤ x ∧ x ≤ 255) (h : Un w gu gr l limit fl fd p out o) :
    Calls Tryd.prog 58 #[.pointer (some ⟨gu, 0, none⟩), .int .u8 x] w fun e w' => (limit ≤ out.length ∧ e = .returned (.int .i64 8) ∧ Stp gu gr w out o w' out o) ∨ (out.length < limit ∧ e = .returned (.int .i64 0) ∧ ∃ o', Un w' gu gr l limit fl fd p (out ++ [x]) o' ∧ Stp gu gr w out o w' (out ++ [x]) o') := by
  have hroom := unRoom h
  have hs := h.small
  have hl := h.lim
  by_cases hf : limit ≤ out.length
  · obtain rfl : limit = out.length := by omega
    have hz : ((out.length : Int) - out.length) = 0 := by omega
    rw [hz] at hroom
    go_enter Tryd.func58, Tryd.ntmps58
    go_wp2_with fail
    refine hroom.mono ?_
    rintro e w1 ⟨rfl, m, rfl⟩
    have HS : Hid (Stp gu gr w out o (w.drewN m) out o) := Lib.hid ⟨(Foot.refl _ _).drewN m, fun i hi => .inl hi⟩
    clear hz hroom h
    go_wp2_with fail
    go_ret
    exact .inl ⟨Nat.le_refl _, rfl, HS.out⟩
  · have hd : (((limit : Int) - out.length) == 0) = false := by simp; omega
    go_enter Tryd.func58, Tryd.ntmps58
    go_wp2_with fail
    refine hroom.mono ?_
    rintro e w1 ⟨rfl, m, rfl⟩
    have c1 : (w.drewN m).cell? ⟨gu, 1, none⟩ = some (outV out o) := blk_cell h.blk 1
    have hown : ((w.drewN m).alloc (.cells #[.int .u8 x] 5)).ownsRow (gu + 1) 5 1 (outV out o) out.length (out.map (Value.int .u8)) := (show (w.drewN m).ownsRow (gu + 1) 5 1 (outV out o) out.length (out.map (Value.int .u8)) from h.row).alloc _
    have hgu := blk_lt h.blk
    have hbo : Bs ((w.drewN m).alloc (.cells #[.int .u8 x] 5)) ((w.drewN m).alloc (.cells #[.int .u8 x] 5)).heap.size (some ⟨(w.drewN m).heap.size, 0, none⟩) [x] := ⟨Bytes.one hx, fun hn => ⟨(w.drewN m).heap.size, 0, rfl, by simp, fun i hi => by
      obtain rfl : i = 0 := by simpa using hi
      rw [blk_cell (heap_alloc_new _ _)]; rfl⟩⟩
    have hB0 : Below w.heap.size w ((w.drewN m).alloc (.cells #[.int .u8 x] 5)) := (low_drewN (Below.refl w.heap.size w) m).alloc (Nat.le_refl _) _
    have HB0 := Lib.hid hB0
    clear hroom hB0
    obtain ⟨ao, co⟩ := o
    go_wp2_with (at_builtin; refine wpList_app2 rfl _ _ rfl (gu + 1) (.slice ao out.length co) out.length out rfl hown _ (some ⟨(w.drewN m).heap.size, 0, none⟩) 1 1 [x] rfl rfl hbo (by simp) (by omega) (by simp; omega) ?_; intro v2 w2 hown2 hg2 hl2; obtain ⟨a2, c2, rfl⟩ := own_shape hown2; have hf2 : w2.frozen? ⟨gu, 1, none⟩ = false := blk_free ((hg2.block gu (by simp; omega) (fun e => by have := (h.row.lt gu e.symm).1; omega)).trans (HB0.out.block gu hgu |>.trans h.blk)) 1; have hcu2 : w2.cell? ⟨gu, 1, none⟩ = some (.slice ao out.length co) := blk_cell ((hg2.block gu (by simp; omega) (fun e => by have := (h.row.lt gu e.symm).1; omega)).trans (HB0.out.block gu hgu |>.trans h.blk)) 1)
    have hfin := unAppend (m := [x]) (o' := (a2, c2)) h HB0.out (Bytes.one hx) (by simp; omega) hg2 (by simpa [outV] using hown2) (by simpa [outV] using hl2)
    have HF := Lib.hid hfin
    clear hfin hown2 hg2 hl2 hown hbo h c1
    go_wp2_with fail
    go_ret
    exact .inr ⟨by omega, rfl, (a2, c2), by simpa [outV] using HF.out.1, by simpa [outV] using HF.out.2⟩
end
end Go.Proofs.YtpnnfekfoomgaaaDoor
