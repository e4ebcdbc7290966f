/- CRC-32 as plain mathematics: registers of 32 bits, what a byte does, that this is linear and loses nothing. No condition; no program is named. What package sum and the document's own answer for layer 3 compute with one register: contracts. Condition: the bytes are bytes. What the table of package sum is, and what is summed with it: contracts of sum.New, Table.Add, and of the document's own Add. Condition: the bytes are bytes. The sum of parts: contract of sum.Of; and the calls whose answers the document fixes for layer 3. Condition: the bytes are bytes. -/
import Derived.Test.YtdcpibglbanchaaDoorNum
import Derived.Test.YtdcpibglbanchaaDoorGa
import Derived.Deep.RegionWith
import Derived.Lib.SlBytesConst
set_option linter.unusedVariables false
set_option maxRecDepth 100000
namespace Go.Proofs.YtdcpibglbanchaaDoor
open Go.RowKit

def poly : BitVec 32 := 0xedb88320#32
/-- one bit falls out -/
def sh (r : BitVec 32) : BitVec 32 := if r.getLsbD 0 then (r >>> 1) ^^^ poly else r >>> 1
def shn : Nat → BitVec 32 → BitVec 32
  | 0, r => r
  | n + 1, r => shn n (sh r)
theorem xor4 (a b c d : BitVec 32) : (a ^^^ b) ^^^ (c ^^^ d) = (a ^^^ c) ^^^ (b ^^^ d) := by
  rw [BitVec.xor_assoc, BitVec.xor_assoc]; congr 1
  rw [← BitVec.xor_assoc, BitVec.xor_comm b c, BitVec.xor_assoc]
theorem sh_xor (a b : BitVec 32) : sh (a ^^^ b) = sh a ^^^ sh b := by
  unfold sh
  rw [BitVec.getLsbD_xor, BitVec.ushiftRight_xor_distrib]
  cases ha : a.getLsbD 0 <;> cases hb : b.getLsbD 0 <;> simp
  · rw [BitVec.xor_assoc]
  · rw [BitVec.xor_assoc, BitVec.xor_comm (b >>> 1), BitVec.xor_assoc, BitVec.xor_comm poly]
  · rw [xor4]; simp
theorem shn_xor (n : Nat) : ∀ a b, shn n (a ^^^ b) = shn n a ^^^ shn n b := by
  induction n with
  | zero => intro a b; rfl
  | succ n ih => intro a b; simp only [shn]; rw [sh_xor, ih]
theorem xor_zero_iff (a b : BitVec 32) : a ^^^ b = 0#32 ↔ a = b := by
  constructor
  · intro h
    have : (a ^^^ b) ^^^ b = 0#32 ^^^ b := by rw [h]
    rwa [BitVec.xor_assoc, BitVec.xor_self, BitVec.xor_zero, BitVec.zero_xor] at this
  · rintro rfl; exact BitVec.xor_self
theorem sh_zero (d : BitVec 32) (h : sh d = 0#32) : d = 0#32 := by
  unfold sh at h
  split at h
  · rw [xor_zero_iff] at h
    have h1 : (d >>> 1).getLsbD 31 = poly.getLsbD 31 := by rw [h]
    rw [BitVec.getLsbD_ushiftRight, BitVec.getLsbD_of_ge _ _ (by decide)] at h1
    have hp : poly.getLsbD 31 = true := by decide
    rw [hp] at h1; cases h1
  · rename_i h0
    apply BitVec.eq_of_getLsbD_eq
    intro i hi
    rw [BitVec.getLsbD_zero]
    rcases i with _ | i
    · simpa using h0
    · have h1 : (d >>> 1).getLsbD i = (0#32).getLsbD i := by rw [h]
      rwa [BitVec.getLsbD_ushiftRight, BitVec.getLsbD_zero, Nat.add_comm] at h1
theorem sh_inj {a b : BitVec 32} (h : sh a = sh b) : a = b := by
  rw [← xor_zero_iff] at h ⊢
  rw [← sh_xor] at h
  exact sh_zero _ h
theorem shn_inj (n : Nat) : ∀ {a b : BitVec 32}, shn n a = shn n b → a = b := by
  induction n with
  | zero => intro a b h; exact h
  | succ n ih => intro a b h; exact sh_inj (ih h)
theorem shn_add (m n : Nat) : ∀ r, shn (m + n) r = shn n (shn m r) := by
  induction m with
  | zero => intro r; simp [shn]
  | succ m ih => intro r; rw [Nat.succ_add]; exact ih (sh r)
theorem shn_succ (n : Nat) (r : BitVec 32) : shn (n + 1) r = sh (shn n r) := shn_add n 1 r
/-- bits that are noughts only fall out -/
theorem shn_low (n : Nat) : ∀ d : BitVec 32, (∀ i, i < n → d.getLsbD i = false) → shn n d = d >>> n := by
  induction n with
  | zero => intro d _; simp [shn]
  | succ n ih =>
    intro d h
    have h0 : sh d = d >>> 1 := by unfold sh; rw [h 0 (by omega)]; simp
    simp only [shn]
    rw [h0, ih _ (fun i hi => by rw [BitVec.getLsbD_ushiftRight]; exact h _ (by omega)), ← BitVec.shiftRight_add, Nat.add_comm]

/-- a byte as a register -/
def reg (b : Int) : BitVec 32 := BitVec.ofInt 32 b
/-- the register behind a byte -/
def step (r : BitVec 32) (b : Int) : BitVec 32 := shn 8 (r ^^^ reg b)
/-- the register behind bytes -/
def crc (r : BitVec 32) (l : List Int) : BitVec 32 := l.foldl step r
/-- what the table tells of a byte -/
def tab (b : Int) : BitVec 32 := shn 8 (reg b)
theorem crc_app (r : BitVec 32) (l m : List Int) : crc r (l ++ m) = crc (crc r l) m := by simp [crc]
theorem crc_snoc (r : BitVec 32) (l : List Int) (b : Int) : crc r (l ++ [b]) = step (crc r l) b := by simp [crc]
theorem crc_cons (r : BitVec 32) (l : List Int) (b : Int) : crc r (b :: l) = crc (step r b) l := rfl
theorem reg_bit (b : Int) (hb : 0 ≤ b ∧ b ≤ 255) (i : Nat) (hi : 8 ≤ i) : (reg b).getLsbD i = false := by
  unfold reg
  rw [lsb_ofInt]
  have h1 : (256 : Int) ≤ 2 ^ i := by
    have := Nat.pow_le_pow_right (n := 2) (by decide) hi
    have e : (2 : Int) ^ i = ((2 ^ i : Nat) : Int) := by simp
    omega
  have h2 : bitAt b i = 0 := by unfold bitAt; rw [Int.ediv_eq_zero_of_lt hb.1 (by omega)]; rfl
  rw [h2]; simp
/-- the byte that falls out of a register, and what comes in -/
def low (r : BitVec 32) (b : Int) : BitVec 32 := (r ^^^ reg b) &&& 255#32
theorem and255 (x : BitVec 32) (i : Nat) (hi : i < 32) : (x &&& 255#32).getLsbD i = (x.getLsbD i && decide (i < 8)) := by
  rw [BitVec.getLsbD_and]
  congr 1
  have : ∀ i : Fin 32, (255#32).getLsbD i = decide (i.1 < 8) := by decide
  exact this ⟨i, hi⟩
theorem step_tab (r : BitVec 32) (b : Int) (hb : 0 ≤ b ∧ b ≤ 255) : step r b = (r >>> 8) ^^^ shn 8 (low r b) := by
  have e : r ^^^ reg b = ((r >>> 8) <<< 8) ^^^ low r b := by
    apply BitVec.eq_of_getLsbD_eq
    intro i hi
    rw [BitVec.getLsbD_xor, BitVec.getLsbD_xor, BitVec.getLsbD_shiftLeft, BitVec.getLsbD_ushiftRight, low, and255 _ _ hi, BitVec.getLsbD_xor]
    by_cases h : i < 8
    · simp [h]
    · rw [reg_bit b hb i (by omega)]
      simp [h, hi, show 8 + (i - 8) = i by omega]
  unfold step
  rw [e, shn_xor, shn_low 8 _ (fun i hi => by rw [BitVec.getLsbD_shiftLeft]; simp [hi])]
  congr 1
  apply BitVec.eq_of_getLsbD_eq
  intro i hi
  rw [BitVec.getLsbD_ushiftRight, BitVec.getLsbD_shiftLeft, BitVec.getLsbD_ushiftRight, BitVec.getLsbD_ushiftRight]
  by_cases h : 8 + i < 32
  · simp [h]
  · simp [h]
    rw [BitVec.getLsbD_of_ge _ _ (by omega)]

/-- bytes as one register, the first one lowest -/
def regs : List Int → BitVec 32
  | [] => 0#32
  | b :: l => reg b ^^^ (regs l <<< 8)
theorem regs_high : ∀ (l : List Int) (hl : ∀ b ∈ l, 0 ≤ b ∧ b ≤ 255) (i : Nat), 8 * l.length ≤ i → (regs l).getLsbD i = false
  | [], _, i, _ => by simp [regs]
  | b :: l, hl, i, hi => by
    rw [List.length_cons] at hi
    simp only [regs]
    rw [BitVec.getLsbD_xor, BitVec.getLsbD_shiftLeft, reg_bit b (hl b (by simp)) i (by omega)]
    have := regs_high l (fun x hx => hl x (by simp [hx])) (i - 8) (by omega)
    simp [this]
/-- up to four bytes go in as one -/
theorem crc_regs : ∀ (l : List Int) (hl : ∀ b ∈ l, 0 ≤ b ∧ b ≤ 255) (r : BitVec 32), l.length ≤ 4 → crc r l = shn (8 * l.length) (r ^^^ regs l)
  | [], _, r, _ => by simp [crc, regs, shn]
  | b :: l, hl, r, h4 => by
    rw [List.length_cons] at h4 ⊢
    rw [crc_cons, crc_regs l (fun x hx => hl x (by simp [hx])) _ (by omega), show 8 * (l.length + 1) = 8 + 8 * l.length by omega, shn_add]
    congr 1
    simp only [regs, step]
    rw [← BitVec.xor_assoc, shn_xor 8 (r ^^^ reg b)]
    congr 1
    rw [shn_low 8 _ (fun i hi => by rw [BitVec.getLsbD_shiftLeft]; simp [hi])]
    apply BitVec.eq_of_getLsbD_eq
    intro i hi
    rw [BitVec.getLsbD_ushiftRight, BitVec.getLsbD_shiftLeft]
    by_cases h : 8 + i < 32
    · simp [h]
    · rw [regs_high l (fun x hx => hl x (by simp [hx])) i (by omega)]; simp [h]
theorem reg_get (b : Int) (hb : 0 ≤ b ∧ b ≤ 255) : ((reg b).toNat : Int) = b := by
  unfold reg; rw [ofInt_toNat]; omega
theorem regs_inj : ∀ (l m : List Int) (hl : ∀ b ∈ l, 0 ≤ b ∧ b ≤ 255) (hm : ∀ b ∈ m, 0 ≤ b ∧ b ≤ 255), l.length = m.length → l.length ≤ 4 → regs l = regs m → l = m
  | [], [], _, _, _, _, _ => rfl
  | [], _ :: _, _, _, h, _, _ => by simp at h
  | _ :: _, [], _, _, h, _, _ => by simp at h
  | b :: l, c :: m, hl, hm, h, h4, he => by
    rw [List.length_cons] at h4
    have hb := hl b (by simp)
    have hc := hm c (by simp)
    have hlen : l.length = m.length := by simpa using h
    simp only [regs] at he
    have e1 : reg b = reg c := by
      apply BitVec.eq_of_getLsbD_eq
      intro i hi
      by_cases h8 : i < 8
      · have := congrArg (fun x => x.getLsbD i) he
        simpa [BitVec.getLsbD_xor, BitVec.getLsbD_shiftLeft, h8] using this
      · rw [reg_bit b hb i (by omega), reg_bit c hc i (by omega)]
    have e2 : regs l = regs m := by
      apply BitVec.eq_of_getLsbD_eq
      intro i hi
      by_cases h8 : i + 8 < 32
      · have h1 := congrArg (fun x => x.getLsbD (i + 8)) he
        simp only [BitVec.getLsbD_xor, BitVec.getLsbD_shiftLeft, reg_bit b hb (i + 8) (by omega), reg_bit c hc (i + 8) (by omega), Nat.add_sub_cancel] at h1
        simpa [h8, show ¬ i + 8 < 8 by omega] using h1
      · rw [regs_high l (fun x hx => hl x (by simp [hx])) i (by omega), regs_high m (fun x hx => hm x (by simp [hx])) i (by omega)]
    have h1 := reg_get b hb
    have h2 := reg_get c hc
    rw [e1, h2] at h1
    rw [h1, regs_inj l m (fun x hx => hl x (by simp [hx])) (fun x hx => hm x (by simp [hx])) hlen (by omega) e2]
/-- bytes that all go in alike lose nothing -/
theorem crc_inj (l : List Int) : ∀ {a b : BitVec 32}, crc a l = crc b l → a = b := by
  induction l with
  | nil => intro a b h; exact h
  | cons x l ih =>
    intro a b h
    have h1 := shn_inj 8 (ih h)
    have : (a ^^^ reg x) ^^^ reg x = (b ^^^ reg x) ^^^ reg x := by rw [h1]
    simpa [BitVec.xor_assoc] using this
/-- up to four neighbouring bytes tell themselves by the register behind -/
theorem crc_turned (p m m' q : List Int) (hm : ∀ b ∈ m, 0 ≤ b ∧ b ≤ 255) (hm' : ∀ b ∈ m', 0 ≤ b ∧ b ≤ 255) (hlen : m.length = m'.length) (h4 : m.length ≤ 4) (r : BitVec 32)
    (h : crc r (p ++ m ++ q) = crc r (p ++ m' ++ q)) : m = m' := by
  rw [crc_app, crc_app, crc_app, crc_app] at h
  have h1 := crc_inj q h
  rw [crc_regs m hm _ h4, crc_regs m' hm' _ (by omega), hlen] at h1
  have h2 := shn_inj _ h1
  refine regs_inj m m' hm hm' hlen h4 ?_
  have : crc r p ^^^ (crc r p ^^^ regs m) = crc r p ^^^ (crc r p ^^^ regs m') := by rw [h2]
  simpa [← BitVec.xor_assoc] using this

/-- a byte out of two by exclusive or -/
def bx (a b : Int) : Int := bits .xor .u8 a b
end Go.Proofs.YtdcpibglbanchaaDoor

set_option linter.unusedVariables false
set_option maxRecDepth 100000
namespace Go.Proofs.YtdcpibglbanchaaDoor
open Go.RowKit

/-- a register as a number -/
def un (r : BitVec 32) : Int := (r.toNat : Int)
theorem un_bd (r : BitVec 32) : 0 ≤ un r ∧ un r ≤ 4294967295 := by unfold un; have := r.isLt; omega
theorem un_inj {a b : BitVec 32} (h : un a = un b) : a = b := by unfold un at h; exact BitVec.eq_of_toNat_eq (by omega)
theorem u32_wrap (n : Int) : IntKind.u32.wrap n = n % 4294967296 := by simp [IntKind.wrap, IntKind.bits, IntKind.signed]
theorem u8_wrap (n : Int) : IntKind.u8.wrap n = n % 256 := by simp [IntKind.wrap, IntKind.bits, IntKind.signed]
theorem and32u_is (x y : Int) : bits .and .u32 x y = IntKind.u32.wrap ((BitVec.ofInt 32 x &&& BitVec.ofInt 32 y).toNat : Int) := rfl
theorem xor32u_is (x y : Int) : bits .xor .u32 x y = IntKind.u32.wrap ((BitVec.ofInt 32 x ^^^ BitVec.ofInt 32 y).toNat : Int) := rfl
theorem xor8u_is (x y : Int) : bits .xor .u8 x y = IntKind.u8.wrap ((BitVec.ofInt 8 x ^^^ BitVec.ofInt 8 y).toNat : Int) := rfl
theorem of_un (r : BitVec 32) : BitVec.ofInt 32 (un r) = r := by
  apply BitVec.eq_of_toNat_eq
  have h := ofInt_toNat 32 (un r)
  have := r.isLt
  unfold un at h ⊢
  omega
theorem un_of (n : Int) : un (BitVec.ofInt 32 n) = n % 4294967296 := ofInt_toNat 32 n
theorem un_same (r : BitVec 32) : IntKind.u32.wrap (r.toNat : Int) = un r := by
  rw [u32_wrap]; unfold un; have := r.isLt; omega
theorem un_xor (a b : BitVec 32) : bits .xor .u32 (un a) (un b) = un (a ^^^ b) := by rw [xor32u_is, of_un, of_un, un_same]
theorem un_poly (a : BitVec 32) : bits .xor .u32 (un a) 3988292384 = un (a ^^^ poly) := un_xor a poly
theorem un_and (a : BitVec 32) : bits .and .u32 (un a) 1 = if a.getLsbD 0 then 1 else 0 := by
  have h : BitVec.ofInt 32 1 = 1#32 := rfl
  rw [and32u_is, of_un, h, un_same]
  have h1 : (a &&& 1#32) = if a.getLsbD 0 then 1#32 else 0#32 := by
    apply BitVec.eq_of_getLsbD_eq
    intro i hi
    rw [BitVec.getLsbD_and]
    rcases i with _ | i
    · cases a.getLsbD 0 <;> simp
    · have : (1#32).getLsbD (i + 1) = false := by
        have : ∀ i : Fin 31, (1#32).getLsbD (i.1 + 1) = false := by decide
        exact this ⟨i, by omega⟩
      rw [this]; split <;> simp [this]
  rw [h1]; split <;> rfl
theorem un_shr (a : BitVec 32) (n : Nat) : un a / (2 : Int) ^ n = un (a >>> n) := by
  unfold un; rw [BitVec.toNat_ushiftRight, Nat.shiftRight_eq_div_pow]; simp
theorem un_half (a : BitVec 32) : un a / (2 : Int) = un (a >>> 1) := by have := un_shr a 1; omega
theorem un_256 (a : BitVec 32) : un a / (256 : Int) = un (a >>> 8) := by have := un_shr a 8; omega
theorem un_mod2 (a : BitVec 32) : un a % (2 : Int) = if a.getLsbD 0 then 1 else 0 := by
  unfold un
  rw [BitVec.getLsbD, Nat.testBit_zero]
  by_cases h : a.toNat % 2 = 1
  · simp [h]; omega
  · simp [h]; omega
theorem sh_one {x : BitVec 32} (h : x.getLsbD 0 = true) : sh x = (x >>> 1) ^^^ poly := by unfold sh; rw [h]; rfl
theorem sh_none {x : BitVec 32} (h : x.getLsbD 0 = false) : sh x = x >>> 1 := by unfold sh; rw [h]; rfl

set_option maxHeartbeats 400000 in
theorem sumShifted (r : BitVec 32) (w : World) : Calls Tryd.prog 31 #[.int .u32 (un r)] w fun e w' => e = .returned (.int .u32 (un (shn 8 r))) ∧ w = w' := by
  go_enter Tryd.func31, Tryd.ntmps31
  go_wp2
  go_loop [0, 3, 4] (fun x _ i => ∃ k : Nat, k ≤ 8 ∧ i = .int .i64 k ∧ x = .int .u32 (un (shn k r))) (fun _ _ i => 8 - (intOf i).toNat)
  case atStart => exact ⟨0, Nat.zero_le _, rfl, rfl⟩
  case round =>
    obtain ⟨k, hk, rfl, rfl⟩ := hrel
    by_cases hlt : k < 8
    · have hs := shn_succ k r
      have HS := Lib.hid hs; clear hs
      generalize shn k r = x at *
      have e2 := un_half x
      have hbd := un_bd x
      cases hb : x.getLsbD 0 with
      | true =>
        have e3 := sh_one hb
        have e4 := un_poly (x >>> 1)
        have e1 : bits .and .u32 (un x) 1 = 1 := by rw [un_and, hb]; rfl
        have HE := Lib.hid e3; clear e3 hb
        go_wp2
        go_round
        case rel => exact ⟨k + 1, by omega, by go_num, by rw [HS.out, HE.out]; try rw [e2]⟩
        case measure => simp [intOf]; omega
      | false =>
        have e3 := sh_none hb
        have e1 : bits .and .u32 (un x) 1 = 0 := by rw [un_and, hb]; rfl
        have HE := Lib.hid e3; clear e3 hb
        go_wp2
        go_round
        case rel => exact ⟨k + 1, by omega, by go_num, by rw [HS.out, HE.out]; try rw [e2]⟩
        case measure => simp [intOf]; omega
    · obtain rfl : k = 8 := by omega
      go_wp2
      go_ret
      exact ⟨rfl, rfl⟩

end Go.Proofs.YtdcpibglbanchaaDoor

set_option linter.unusedVariables false
set_option maxRecDepth 100000
namespace Go.Proofs.YtdcpibglbanchaaDoor
open Go.RowKit

theorem shiftedAt (k : Nat) (hk : k < 256) (w : World) : Calls Tryd.prog 31 #[.int .u32 (k : Int)] w fun e w' => e = .returned (.int .u32 (un (tab k))) ∧ w = w' := by
  have h : (k : Int) = un (reg k) := by unfold reg; rw [un_of]; omega
  have := sumShifted (reg k) w
  rw [← h] at this
  exact this
/-- block g is a table -/
def IsTab (w : World) (g : Nat) : Prop := ∃ cs : Array Value, w.heap[g]? = some (.cells cs 85 (0, 0)) ∧ ∀ i : Nat, i < 256 → cs[i]? = some (.int .u32 (un (tab i)))
def NewTab (w : World) (e : Ending) (w' : World) : Prop := ∃ g, e = .returned (.pointer (some ⟨g, 0, none⟩)) ∧ w.heap.size ≤ g ∧ IsTab w' g ∧ Below w.heap.size w w'
theorem IsTab.at_ {w : World} {g : Nat} (h : IsTab w g) {i : Nat} (hi : i < 256) : w.cell? ⟨g, i, none⟩ = some (.int .u32 (un (tab i))) := by
  obtain ⟨cs, hh, hc⟩ := h
  rw [blk_cell hh]; exact hc i hi

theorem IsTab.below {w w' : World} {g : Nat} (h : IsTab w g) (hb : Below w.heap.size w w') : IsTab w' g := by
  obtain ⟨cs, hh, hc⟩ := h
  exact ⟨cs, (hb.block g (blk_lt hh)).trans hh, hc⟩
def zeros : Array Value := Array.replicate 256 (.int .u32 0)
theorem zeroTab (W : World) : (zeroValue 85).run Tryd.prog W = .ok (.agg zeros) W := by kernel_rfl
set_option maxRecDepth 100000 in
set_option maxHeartbeats 1000000 in
theorem sumNew (w : World) : Calls Tryd.prog 23 #[] w (NewTab w) := by
  have hz := zeroTab
  go_enter Tryd.func23, Tryd.ntmps23
  go_wp2_with fail
  clear hz
  go_loopw [2, 5] (fun _ i wr => ∃ k : Nat, ∃ cs : Array Value, k ≤ 256 ∧ i = .int .i64 k ∧ wr.heap[w.heap.size]? = some (.cells cs 85 (0, 0)) ∧ cs.size = 256 ∧ (∀ j, j < k → cs[j]? = some (.int .u32 (un (tab j)))) ∧ Below w.heap.size w wr) (fun _ i _ => 256 - (intOf i).toNat)
  case atStart => exact ⟨0, zeros, Nat.zero_le _, rfl, heap_alloc_new w _, by simp [zeros], fun j hj => absurd hj (by omega), (Below.refl _ _).alloc (Nat.le_refl _) _⟩
  case round =>
    obtain ⟨k, cs, hk, rfl, hh, hs, hcs, hbel⟩ := hrel
    by_cases hlt : k < 256
    · obtain ⟨u, hc⟩ : ∃ u, wr.cell? ⟨w.heap.size, k, none⟩ = some u := ⟨cs[k]'(by omega), by rw [blk_cell hh]; simp [hs, hlt]⟩
      have hf := blk_free hh k
      have hset := blk_set hh k (.int .u32 (un (tab k)))
      have hB := blk_lt hh
      have HS := Lib.hid hset; clear hset
      have HC := Lib.hid hcs; clear hcs
      have HZ := Lib.hid hs; clear hs
      clear hh
      have i0 : (0 : Int) ≤ (k : Int) := by omega
      have i1 : (k : Int) < 256 := by omega
      have i2 : IntKind.u32.wrap (k : Int) = k := by rw [u32_wrap]; omega
      go_wp2_with fail
      go_region_with ((go_at_call 31; (with_reducible refine (shiftedAt k hlt _).mono ?_); rintro e w' ⟨rfl, rfl⟩))
      go_wp2
      go_roundw
      case rel => exact ⟨k + 1, _, by omega, by go_num, HS.out, by simpa using HZ.out, fun j hj => by
        by_cases hjk : j = k
        · subst hjk; simp [HZ.out, hlt]
        · rw [Array.getElem?_setIfInBounds_ne (by omega)]; exact HC.out j (by omega), (low_drewN hbel 1).setCell (Nat.le_refl _) _⟩
      case measure => simp [intOf]; omega
    · obtain rfl : k = 256 := by omega
      have HT : IsTab wr w.heap.size := ⟨cs, hh, hcs⟩
      have HI := Lib.hid HT
      clear hh hs hcs HT
      go_wp2
      go_ret
      exact ⟨_, rfl, Nat.le_refl _, HI.out, hbel⟩

/-- the register behind bytes that have a sum -/
def start (s : Int) : BitVec 32 := ~~~ (BitVec.ofInt 32 s)
def sumOf (s : Int) (l : List Int) : Int := un (~~~ (crc (start s) l))
theorem tab_one : (un (tab 1) == 0) = false := by decide +kernel
theorem reg_un (x : BitVec 32) : reg (un x) = x := of_un x
theorem low_bd (r : BitVec 32) (b : Int) : 0 ≤ un (low r b) ∧ un (low r b) < 256 := by
  refine ⟨(un_bd _).1, ?_⟩
  have h := Nat.and_le_right (n := (r ^^^ reg b).toNat) (m := 255)
  unfold un low
  rw [BitVec.toNat_and]
  show (((r ^^^ reg b).toNat &&& 255 : Nat) : Int) < 256
  omega
theorem low_ix (r : BitVec 32) (b : Int) (hb : 0 ≤ b ∧ b ≤ 255) : bits .xor .u8 (IntKind.u8.wrap (un r)) b = un (low r b) := by
  have hl := low_bd r b
  have h0 : BitVec.ofInt 8 (IntKind.u8.wrap (un r)) = r.setWidth 8 := by
    apply BitVec.eq_of_toNat_eq
    have h := ofInt_toNat 8 (IntKind.u8.wrap (un r))
    rw [u8_wrap] at h ⊢
    rw [BitVec.toNat_setWidth]
    unfold un at h ⊢
    omega
  have h1 : BitVec.ofInt 8 b = (reg b).setWidth 8 := by
    apply BitVec.eq_of_toNat_eq
    have h := ofInt_toNat 8 b
    have h2 := reg_get b hb
    rw [BitVec.toNat_setWidth]
    omega
  rw [xor8u_is, h0, h1]
  have h2 : (((r.setWidth 8) ^^^ ((reg b).setWidth 8)).toNat : Int) = un (low r b) := by
    unfold un low
    rw [BitVec.toNat_xor, BitVec.toNat_and, BitVec.toNat_setWidth, BitVec.toNat_setWidth, BitVec.toNat_xor]
    have e : (255#32).toNat = 2 ^ 8 - 1 := rfl
    rw [e, Nat.and_two_pow_sub_one_eq_mod, Nat.xor_mod_two_pow]
  rw [h2, u8_wrap]; omega
theorem add_step (r : BitVec 32) (b : Int) (hb : 0 ≤ b ∧ b ≤ 255) : ∃ j : Nat, j < 256 ∧ bits .xor .u8 (IntKind.u8.wrap (un r)) b = (j : Int) ∧ bits .xor .u32 (un (r >>> 8)) (un (tab j)) = un (step r b) := by
  have hl := low_bd r b
  refine ⟨(un (low r b)).toNat, by omega, by rw [low_ix r b hb]; omega, ?_⟩
  rw [un_xor, step_tab r b hb, Int.toNat_of_nonneg hl.1]
  unfold tab
  rw [reg_un]
theorem un_not (r : BitVec 32) : bits .xor .u32 IntKind.u32.max (un r) = un (~~~ r) := by
  have h : IntKind.u32.max = un (BitVec.allOnes 32) := by decide
  rw [h, un_xor, BitVec.allOnes_xor]
theorem start_is (s : Int) : bits .xor .u32 IntKind.u32.max (s % 4294967296) = un (start s) := by
  rw [← un_of, un_not]; rfl

set_option maxRecDepth 100000 in
set_option maxHeartbeats 1000000 in
theorem sumAdd (g : Nat) (s : Int) (a : Option Addr) (n c : Nat) (l : List Int) (hn : l.length = n) (hm : n ≤ 140737488355328) (w : World) (B : Nat) (hg : IsTab w g) (hb : Bs w B a l) :
    Calls Tryd.prog 24 #[.pointer (some ⟨g, 0, none⟩), .int .i64 s, .slice a n c] w fun e w' => e = .returned (.int .i64 (sumOf s l)) ∧ w = w' := by
  subst hn
  have h1 := hg.at_ (i := 1) (by decide)
  have ht := tab_one
  have HG := Lib.hid hg; clear hg
  have hst := start_is s
  go_enter Tryd.func24, Tryd.ntmps24
  go_wp2_with fail
  clear hst h1 ht
  go_loop [7, 9, 24] (fun r _ i => ∃ k : Nat, k ≤ l.length ∧ i = .int .i64 k ∧ r = .int .u32 (un (crc (start s) (l.take k)))) (fun _ _ i => l.length - (intOf i).toNat)
  case atStart => exact ⟨0, Nat.zero_le _, rfl, rfl⟩
  case round =>
    obtain ⟨k, hk, rfl, rfl⟩ := hrel
    by_cases hlt : k < l.length
    · obtain ⟨b, off, rfl, hbl, hc⟩ := hb.at_ hlt
      have hv := hb.1.at_ k
      have hs : crc (start s) (l.take (k + 1)) = step (crc (start s) (l.take k)) (l.getD k 0) := by rw [take_succ' l k hlt, crc_snoc]
      have HS := Lib.hid hs; clear hs
      generalize l.getD k 0 = x at *
      generalize crc (start s) (l.take k) = r at *
      obtain ⟨j, hj, e1, e2⟩ := add_step r x hv
      have e3 := un_256 r
      have hcell := HG.out.at_ hj
      have HE := Lib.hid e2; clear e2
      have j0 : (0 : Int) ≤ (j : Int) := by omega
      have j1 : (j : Int) < 256 := by omega
      have hbd := un_bd r
      rw [u8_wrap] at e1
      go_wp2_with fail
      go_round
      case rel => exact ⟨k + 1, by omega, by go_num, by rw [HS.out, ← HE.out]⟩
      case measure => simp [intOf]; omega
    · obtain rfl : k = l.length := by omega
      rw [List.take_length]
      have e := un_not (crc (start s) l)
      have hbd := un_bd (~~~ (crc (start s) l))
      have hr : sumOf s l = un (~~~ (crc (start s) l)) := rfl
      have HR := Lib.hid hr; clear hr
      generalize un (~~~ (crc (start s) l)) = v at *
      go_wp2_with fail
      go_ret
      exact ⟨ret1 HR.out.symm, rfl⟩

theorem start_not (r : BitVec 32) : start (un (~~~ r)) = r := by
  unfold start; rw [of_un, BitVec.not_not]
theorem sumOf_app (s : Int) (l m : List Int) : sumOf (sumOf s l) m = sumOf s (l ++ m) := by
  unfold sumOf; rw [start_not, crc_app]

end Go.Proofs.YtdcpibglbanchaaDoor

set_option linter.unusedVariables false
set_option maxRecDepth 100000
namespace Go.Proofs.YtdcpibglbanchaaDoor
open Go.RowKit

/-- the slice that begins at a holds slices of bytes, all below B -/
def Parts (w : World) (B : Nat) (a : Option Addr) (ps : List (List Int)) : Prop :=
  (∀ p ∈ ps, p.length ≤ 140737488355328) ∧ (0 < ps.length → ∃ b off, a = some ⟨b, off, none⟩ ∧ b < B ∧ ∀ i, i < ps.length → ∃ ai ci, w.cell? ⟨b, off + i, none⟩ = some (.slice ai (ps.getD i []).length ci) ∧ Bs w B ai (ps.getD i []))
theorem Parts.below {w w' : World} {B : Nat} {a : Option Addr} {ps : List (List Int)} (h : Parts w B a ps) (hb : Below B w w') : Parts w' B a ps :=
  ⟨h.1, fun hn => by
    obtain ⟨b, off, e, hlt, hc⟩ := h.2 hn
    refine ⟨b, off, e, hlt, fun i hi => ?_⟩
    obtain ⟨ai, ci, h1, h2⟩ := hc i hi
    exact ⟨ai, ci, (hb.cell (p := ⟨b, _, none⟩) hlt).trans h1, h2.below hb⟩⟩
theorem Parts.at_ {w : World} {B : Nat} {a : Option Addr} {ps : List (List Int)} (h : Parts w B a ps) {i : Nat} (hi : i < ps.length) : ∃ b off ai ci, a = some ⟨b, off, none⟩ ∧ b < B ∧ w.cell? ⟨b, off + i, none⟩ = some (.slice ai (ps.getD i []).length ci) ∧ Bs w B ai (ps.getD i []) ∧ (ps.getD i []).length ≤ 140737488355328 := by
  obtain ⟨b, off, e, hlt, hc⟩ := h.2 (by omega)
  obtain ⟨ai, ci, h1, h2⟩ := hc i hi
  refine ⟨b, off, ai, ci, e, hlt, h1, h2, h.1 _ ?_⟩
  rw [List.getD_eq_getElem?_getD, List.getElem?_eq_getElem hi]; exact List.getElem_mem hi
theorem Parts.nil_ (w : World) (B : Nat) (a : Option Addr) : Parts w B a [] := ⟨fun p hp => by (cases hp), fun h => absurd h (by simp)⟩
theorem take_succL (l : List (List Int)) (k : Nat) (h : k < l.length) : (l.take (k + 1)).flatten = (l.take k).flatten ++ l.getD k [] := by
  rw [List.take_succ_eq_append_getElem h, List.getD_eq_getElem?_getD, List.getElem?_eq_getElem h, List.flatten_append]; simp [-List.take_append_getElem]

set_option maxHeartbeats 1000000 in
theorem sumOfCall (a : Option Addr) (n c : Nat) (ps : List (List Int)) (hn : ps.length = n) (hm : n ≤ 140737488355328) (w : World) (hp : Parts w w.heap.size a ps) :
    Calls Tryd.prog 16 #[.slice a n c] w fun e w' => e = .returned (.int .i64 (sumOf 0 ps.flatten)) ∧ Below w.heap.size w w' := by
  subst hn
  go_enter Tryd.func16, Tryd.ntmps16
  go_wp2_with fail
  refine (sumNew _).mono ?_
  rintro e w1 ⟨g, rfl, hg, ht, hbel⟩
  have hp1 := hp.below hbel
  have HT := Lib.hid ht; clear ht hp
  go_wp2_with fail
  go_loop [4, 6, 10] (fun s _ i => ∃ k : Nat, k ≤ ps.length ∧ i = .int .i64 k ∧ s = .int .i64 (sumOf 0 (ps.take k).flatten)) (fun _ _ i => ps.length - (intOf i).toNat)
  case atStart => exact ⟨0, Nat.zero_le _, rfl, by simp [sumOf, crc, start]; decide⟩
  case round =>
    obtain ⟨k, hk, rfl, rfl⟩ := hrel
    by_cases hlt : k < ps.length
    · obtain ⟨b, off, ai, ci, rfl, hbl, hc, hbs, hl⟩ := hp1.at_ hlt
      have hs : sumOf 0 (ps.take (k + 1)).flatten = sumOf (sumOf 0 (ps.take k).flatten) (ps.getD k []) := by rw [take_succL ps k hlt, sumOf_app]
      have HS := Lib.hid hs; clear hs
      generalize ps.getD k [] = p at *
      generalize sumOf 0 (ps.take k).flatten = s at *
      go_wp2_with fail
      refine (sumAdd g s ai _ ci p rfl hl _ _ HT.out hbs).mono ?_
      rintro e w' ⟨rfl, rfl⟩
      go_wp2_with fail
      go_round
      case rel => exact ⟨k + 1, by omega, by go_num, by rw [HS.out]⟩
      case measure => simp [intOf]; omega
    · obtain rfl : k = ps.length := by omega
      go_wp2_with fail
      go_ret
      exact ⟨by simp, hbel⟩

/-- a literal of one part -/
theorem parts_one {w : World} {a : Option Addr} {n c : Nat} {l : List Int} {t : TypeId} (hb : Bs w w.heap.size a l) (hn : l.length = n) (hm : n ≤ 140737488355328) :
    Parts (w.alloc (.cells #[.slice a n c] t)) (w.heap.size + 1) (some ⟨w.heap.size, 0, none⟩) [l] := by
  subst hn
  refine ⟨fun p hp => by simp at hp; subst hp; exact hm, fun _ => ⟨w.heap.size, 0, rfl, by omega, fun i hi => ?_⟩⟩
  have hi0 : i = 0 := by simpa using hi
  subst hi0
  refine ⟨a, c, ?_, (hb.alloc (Nat.le_refl _) _).more (by omega)⟩
  rw [blk_cell (heap_alloc_new w _)]; rfl
theorem sumOne {w : World} {a : Option Addr} {n c : Nat} {l : List Int} {t : TypeId} {b : Nat} (hbk : b = w.heap.size) (hb : Bs w w.heap.size a l) (hn : l.length = n) (hm : n ≤ 140737488355328) :
    Calls Tryd.prog 16 #[.slice (some ⟨b, 0, none⟩) 1 1] (w.alloc (.cells #[.slice a n c] t)) fun e w' => e = .returned (.int .i64 (sumOf 0 l)) ∧ Below w.heap.size w w' := by
  subst hbk
  have hp := parts_one (t := t) (c := c) hb hn hm
  have := sumOfCall (some ⟨w.heap.size, 0, none⟩) 1 1 [l] rfl (by decide) (w.alloc (.cells #[.slice a n c] t)) (by simpa using hp)
  refine this.mono fun e w' ⟨h1, h2⟩ => ⟨by simpa using h1, ((Below.refl _ _).alloc (Nat.le_refl _) _).trans (h2.mono (by simp))⟩
theorem sumNone (w : World) : Calls Tryd.prog 16 #[.slice none 0 0] w fun e w' => e = .returned (.int .i64 0) ∧ Below w.heap.size w w' :=
  (sumOfCall none 0 0 [] rfl (by decide) w (Parts.nil_ _ _ _)).mono fun e w' ⟨h1, h2⟩ => ⟨by rw [h1]; exact ret1 (by decide), h2⟩

def digits : List Int := [49, 50, 51, 52, 53, 54, 55, 56, 57]
theorem fx_digits : sumOf 0 digits = 3421780262 := by decide +kernel
theorem fx_a : sumOf 0 [97] = 3904355907 := by decide +kernel
theorem bs_lit (w : World) (t : TypeId) (l : List Int) (z : Nat × Nat) (hl : Bytes l) : Bs (w.alloc (.cells (l.map (Value.int .u8)).toArray t z)) (w.heap.size + 1) (some ⟨w.heap.size, 0, none⟩) l := by
  refine ⟨hl, fun hn => ⟨w.heap.size, 0, rfl, by omega, fun i hi => ?_⟩⟩
  have h := heap_alloc_new w (.cells (l.map (Value.int .u8)).toArray t z)
  rw [cell_of_row _ _ _ _ _ _ h]
  simp [hi]
end Go.Proofs.YtdcpibglbanchaaDoor
