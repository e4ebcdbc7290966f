/- CRC-32 as plain mathematics: registers of 32 bits, what a byte does, that this is linear and loses nothing. No condition; no program is named. -/
import Derived.Test.YtfgifimmdkiejaaNum
set_option linter.unusedVariables false
namespace Go.Proofs.Ytfgifimmdkiejaa
open Go.RowKit

def poly : BitVec 32 := 0xedb88320#32
/-- one bit falls out -/
def sh (r : BitVec 32) : BitVec 32 := if r.getLsbD 0 then (r >>> 1) ^^^ poly else r >>> 1
def shn : Nat → BitVec 32 → BitVec 32
  | 0, r => r
  | n + 1, r => shn n (sh r)
theorem xor4 (a b c d : BitVec 32) : (a ^^^ b) ^^^ (c ^^^ d) = (a ^^^ c) ^^^ (b ^^^ d) := by
  rw [BitVec.xor_assoc, BitVec.xor_assoc]; congr 1
  rw [← BitVec.xor_assoc, BitVec.xor_comm b c, BitVec.xor_assoc]
theorem sh_xor (a b : BitVec 32) : sh (a ^^^ b) = sh a ^^^ sh b := by
  unfold sh
  rw [BitVec.getLsbD_xor, BitVec.ushiftRight_xor_distrib]
  cases ha : a.getLsbD 0 <;> cases hb : b.getLsbD 0 <;> simp
  · rw [BitVec.xor_assoc]
  · rw [BitVec.xor_assoc, BitVec.xor_comm (b >>> 1), BitVec.xor_assoc, BitVec.xor_comm poly]
  · rw [xor4]; simp
theorem shn_xor (n : Nat) : ∀ a b, shn n (a ^^^ b) = shn n a ^^^ shn n b := by
  induction n with
  | zero => intro a b; rfl
  | succ n ih => intro a b; simp only [shn]; rw [sh_xor, ih]
theorem xor_zero_iff (a b : BitVec 32) : a ^^^ b = 0#32 ↔ a = b := by
  constructor
  · intro h
    have : (a ^^^ b) ^^^ b = 0#32 ^^^ b := by rw [h]
    rwa [BitVec.xor_assoc, BitVec.xor_self, BitVec.xor_zero, BitVec.zero_xor] at this
  · rintro rfl; exact BitVec.xor_self
theorem sh_zero (d : BitVec 32) (h : sh d = 0#32) : d = 0#32 := by
  unfold sh at h
  split at h
  · rw [xor_zero_iff] at h
    have h1 : (d >>> 1).getLsbD 31 = poly.getLsbD 31 := by rw [h]
    rw [BitVec.getLsbD_ushiftRight, BitVec.getLsbD_of_ge _ _ (by decide)] at h1
    have hp : poly.getLsbD 31 = true := by decide
    rw [hp] at h1; cases h1
  · rename_i h0
    apply BitVec.eq_of_getLsbD_eq
    intro i hi
    rw [BitVec.getLsbD_zero]
    rcases i with _ | i
    · simpa using h0
    · have h1 : (d >>> 1).getLsbD i = (0#32).getLsbD i := by rw [h]
      rwa [BitVec.getLsbD_ushiftRight, BitVec.getLsbD_zero, Nat.add_comm] at h1
theorem sh_inj {a b : BitVec 32} (h : sh a = sh b) : a = b := by
  rw [← xor_zero_iff] at h ⊢
  rw [← sh_xor] at h
  exact sh_zero _ h
theorem shn_inj (n : Nat) : ∀ {a b : BitVec 32}, shn n a = shn n b → a = b := by
  induction n with
  | zero => intro a b h; exact h
  | succ n ih => intro a b h; exact sh_inj (ih h)
theorem shn_add (m n : Nat) : ∀ r, shn (m + n) r = shn n (shn m r) := by
  induction m with
  | zero => intro r; simp [shn]
  | succ m ih => intro r; rw [Nat.succ_add]; exact ih (sh r)
theorem shn_succ (n : Nat) (r : BitVec 32) : shn (n + 1) r = sh (shn n r) := shn_add n 1 r
/-- bits that are noughts only fall out -/
theorem shn_low (n : Nat) : ∀ d : BitVec 32, (∀ i, i < n → d.getLsbD i = false) → shn n d = d >>> n := by
  induction n with
  | zero => intro d _; simp [shn]
  | succ n ih =>
    intro d h
    have h0 : sh d = d >>> 1 := by unfold sh; rw [h 0 (by omega)]; simp
    simp only [shn]
    rw [h0, ih _ (fun i hi => by rw [BitVec.getLsbD_ushiftRight]; exact h _ (by omega)), ← BitVec.shiftRight_add, Nat.add_comm]

/-- a byte as a register -/
def reg (b : Int) : BitVec 32 := BitVec.ofInt 32 b
/-- the register behind a byte -/
def step (r : BitVec 32) (b : Int) : BitVec 32 := shn 8 (r ^^^ reg b)
/-- the register behind bytes -/
def crc (r : BitVec 32) (l : List Int) : BitVec 32 := l.foldl step r
/-- what the table tells of a byte -/
def tab (b : Int) : BitVec 32 := shn 8 (reg b)
theorem crc_app (r : BitVec 32) (l m : List Int) : crc r (l ++ m) = crc (crc r l) m := by simp [crc]
theorem crc_snoc (r : BitVec 32) (l : List Int) (b : Int) : crc r (l ++ [b]) = step (crc r l) b := by simp [crc]
theorem crc_cons (r : BitVec 32) (l : List Int) (b : Int) : crc r (b :: l) = crc (step r b) l := rfl
theorem reg_bit (b : Int) (hb : 0 ≤ b ∧ b ≤ 255) (i : Nat) (hi : 8 ≤ i) : (reg b).getLsbD i = false := by
  unfold reg
  rw [lsb_ofInt]
  have h1 : (256 : Int) ≤ 2 ^ i := by
    have := Nat.pow_le_pow_right (n := 2) (by decide) hi
    have e : (2 : Int) ^ i = ((2 ^ i : Nat) : Int) := by simp
    omega
  have h2 : bitAt b i = 0 := by unfold bitAt; rw [Int.ediv_eq_zero_of_lt hb.1 (by omega)]; rfl
  rw [h2]; simp
/-- the byte that falls out of a register, and what comes in -/
def low (r : BitVec 32) (b : Int) : BitVec 32 := (r ^^^ reg b) &&& 255#32
theorem and255 (x : BitVec 32) (i : Nat) (hi : i < 32) : (x &&& 255#32).getLsbD i = (x.getLsbD i && decide (i < 8)) := by
  rw [BitVec.getLsbD_and]
  congr 1
  have : ∀ i : Fin 32, (255#32).getLsbD i = decide (i.1 < 8) := by decide
  exact this ⟨i, hi⟩
theorem step_tab (r : BitVec 32) (b : Int) (hb : 0 ≤ b ∧ b ≤ 255) : step r b = (r >>> 8) ^^^ shn 8 (low r b) := by
  have e : r ^^^ reg b = ((r >>> 8) <<< 8) ^^^ low r b := by
    apply BitVec.eq_of_getLsbD_eq
    intro i hi
    rw [BitVec.getLsbD_xor, BitVec.getLsbD_xor, BitVec.getLsbD_shiftLeft, BitVec.getLsbD_ushiftRight, low, and255 _ _ hi, BitVec.getLsbD_xor]
    by_cases h : i < 8
    · simp [h]
    · rw [reg_bit b hb i (by omega)]
      simp [h, hi, show 8 + (i - 8) = i by omega]
  unfold step
  rw [e, shn_xor, shn_low 8 _ (fun i hi => by rw [BitVec.getLsbD_shiftLeft]; simp [hi])]
  congr 1
  apply BitVec.eq_of_getLsbD_eq
  intro i hi
  rw [BitVec.getLsbD_ushiftRight, BitVec.getLsbD_shiftLeft, BitVec.getLsbD_ushiftRight, BitVec.getLsbD_ushiftRight]
  by_cases h : 8 + i < 32
  · simp [h]
  · simp [h]
    rw [BitVec.getLsbD_of_ge _ _ (by omega)]

/-- bytes as one register, the first one lowest -/
def regs : List Int → BitVec 32
  | [] => 0#32
  | b :: l => reg b ^^^ (regs l <<< 8)
theorem regs_high : ∀ (l : List Int) (hl : ∀ b ∈ l, 0 ≤ b ∧ b ≤ 255) (i : Nat), 8 * l.length ≤ i → (regs l).getLsbD i = false
  | [], _, i, _ => by simp [regs]
  | b :: l, hl, i, hi => by
    rw [List.length_cons] at hi
    simp only [regs]
    rw [BitVec.getLsbD_xor, BitVec.getLsbD_shiftLeft, reg_bit b (hl b (by simp)) i (by omega)]
    have := regs_high l (fun x hx => hl x (by simp [hx])) (i - 8) (by omega)
    simp [this]
/-- up to four bytes go in as one -/
theorem crc_regs : ∀ (l : List Int) (hl : ∀ b ∈ l, 0 ≤ b ∧ b ≤ 255) (r : BitVec 32), l.length ≤ 4 → crc r l = shn (8 * l.length) (r ^^^ regs l)
  | [], _, r, _ => by simp [crc, regs, shn]
  | b :: l, hl, r, h4 => by
    rw [List.length_cons] at h4 ⊢
    rw [crc_cons, crc_regs l (fun x hx => hl x (by simp [hx])) _ (by omega), show 8 * (l.length + 1) = 8 + 8 * l.length by omega, shn_add]
    congr 1
    simp only [regs, step]
    rw [← BitVec.xor_assoc, shn_xor 8 (r ^^^ reg b)]
    congr 1
    rw [shn_low 8 _ (fun i hi => by rw [BitVec.getLsbD_shiftLeft]; simp [hi])]
    apply BitVec.eq_of_getLsbD_eq
    intro i hi
    rw [BitVec.getLsbD_ushiftRight, BitVec.getLsbD_shiftLeft]
    by_cases h : 8 + i < 32
    · simp [h]
    · rw [regs_high l (fun x hx => hl x (by simp [hx])) i (by omega)]; simp [h]
theorem reg_get (b : Int) (hb : 0 ≤ b ∧ b ≤ 255) : ((reg b).toNat : Int) = b := by
  unfold reg; rw [ofInt_toNat]; omega
theorem regs_inj : ∀ (l m : List Int) (hl : ∀ b ∈ l, 0 ≤ b ∧ b ≤ 255) (hm : ∀ b ∈ m, 0 ≤ b ∧ b ≤ 255), l.length = m.length → l.length ≤ 4 → regs l = regs m → l = m
  | [], [], _, _, _, _, _ => rfl
  | [], _ :: _, _, _, h, _, _ => by simp at h
  | _ :: _, [], _, _, h, _, _ => by simp at h
  | b :: l, c :: m, hl, hm, h, h4, he => by
    rw [List.length_cons] at h4
    have hb := hl b (by simp)
    have hc := hm c (by simp)
    have hlen : l.length = m.length := by simpa using h
    simp only [regs] at he
    have e1 : reg b = reg c := by
      apply BitVec.eq_of_getLsbD_eq
      intro i hi
      by_cases h8 : i < 8
      · have := congrArg (fun x => x.getLsbD i) he
        simpa [BitVec.getLsbD_xor, BitVec.getLsbD_shiftLeft, h8] using this
      · rw [reg_bit b hb i (by omega), reg_bit c hc i (by omega)]
    have e2 : regs l = regs m := by
      apply BitVec.eq_of_getLsbD_eq
      intro i hi
      by_cases h8 : i + 8 < 32
      · have h1 := congrArg (fun x => x.getLsbD (i + 8)) he
        simp only [BitVec.getLsbD_xor, BitVec.getLsbD_shiftLeft, reg_bit b hb (i + 8) (by omega), reg_bit c hc (i + 8) (by omega), Nat.add_sub_cancel] at h1
        simpa [h8, show ¬ i + 8 < 8 by omega] using h1
      · rw [regs_high l (fun x hx => hl x (by simp [hx])) i (by omega), regs_high m (fun x hx => hm x (by simp [hx])) i (by omega)]
    have h1 := reg_get b hb
    have h2 := reg_get c hc
    rw [e1, h2] at h1
    rw [h1, regs_inj l m (fun x hx => hl x (by simp [hx])) (fun x hx => hm x (by simp [hx])) hlen (by omega) e2]
/-- bytes that all go in alike lose nothing -/
theorem crc_inj (l : List Int) : ∀ {a b : BitVec 32}, crc a l = crc b l → a = b := by
  induction l with
  | nil => intro a b h; exact h
  | cons x l ih =>
    intro a b h
    have h1 := shn_inj 8 (ih h)
    have : (a ^^^ reg x) ^^^ reg x = (b ^^^ reg x) ^^^ reg x := by rw [h1]
    simpa [BitVec.xor_assoc] using this
/-- up to four neighbouring bytes tell themselves by the register behind -/
theorem crc_turned (p m m' q : List Int) (hm : ∀ b ∈ m, 0 ≤ b ∧ b ≤ 255) (hm' : ∀ b ∈ m', 0 ≤ b ∧ b ≤ 255) (hlen : m.length = m'.length) (h4 : m.length ≤ 4) (r : BitVec 32)
    (h : crc r (p ++ m ++ q) = crc r (p ++ m' ++ q)) : m = m' := by
  rw [crc_app, crc_app, crc_app, crc_app] at h
  have h1 := crc_inj q h
  rw [crc_regs m hm _ h4, crc_regs m' hm' _ (by omega), hlen] at h1
  have h2 := shn_inj _ h1
  refine regs_inj m m' hm hm' hlen h4 ?_
  have : crc r p ^^^ (crc r p ^^^ regs m) = crc r p ^^^ (crc r p ^^^ regs m') := by rw [h2]
  simpa [← BitVec.xor_assoc] using this

/-- a byte out of two by exclusive or -/
def bx (a b : Int) : Int := bits .xor .u8 a b
end Go.Proofs.Ytfgifimmdkiejaa
