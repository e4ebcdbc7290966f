/- What the directory of an archive is, as plain mathematics: central records by their places, local headers, overlaps. No condition. -/
import Derived.Test.YtdcpibglbanchaaDoorDe
import Derived.Test.YtdcpibglbanchaaDoorNc
import Derived.Laws.BytesArg
set_option linter.unusedVariables false
set_option maxRecDepth 100000
namespace Go.Proofs.YtdcpibglbanchaaDoor
open Go.RowKit

/-- how long the name is that a central record tells -/
def nmN (l : List Int) (p : Nat) : Nat := (numL l ((p : Int) + 28) 2).toNat
/-- where a central record's local header is -/
def hdL (l : List Int) (p : Nat) : Nat := (numL l ((p : Int) + 42) 4).toNat
def pkL (l : List Int) (p : Nat) : Nat := (numL l ((p : Int) + 20) 4).toNat
/-- the name that a central record tells -/
def nmT (l : List Int) (p : Nat) : ByteArray := strOfNums (cutOf l (p + 46) (p + 46 + nmN l p))
def nmU (l : List Int) (p : Nat) : List UInt8 := (nmT l p).data.toList
/-- how long a central record is -/
def szL (l : List Int) (p : Nat) : Nat := 46 + nmN l p + (numL l ((p : Int) + 30) 2).toNat + (numL l ((p : Int) + 32) 2).toNat
/-- are these flags that may be? -/
def flagB (f : Int) : Bool := (Go.bits .andNot .i64 f 2054) == 0
def flN (f : Nat) : Nat :=
  let a := if f / 2 % 2 = 1 then f - 2 else f
  let b := if a / 4 % 2 = 1 then a - 4 else a
  if b / 2048 % 2 = 1 then b - 2048 else b
theorem fl_all : (List.range 256).all (fun a => (List.range 256).all fun b => ((a * 256 + b) &&& 18446744073709549561 == 0) == (flN (a * 256 + b) == 0)) = true := by decide +kernel
theorem fl_nat (f : Nat) (h : f < 65536) : (f &&& 18446744073709549561 == 0) = (flN f == 0) := by
  have h1 := List.all_eq_true.1 fl_all (f / 256) (List.mem_range.2 (by omega))
  have h2 := List.all_eq_true.1 h1 (f % 256) (List.mem_range.2 (by omega))
  rw [show f / 256 * 256 + f % 256 = f by omega] at h2
  exact eq_of_beq h2
theorem fl_word (f : Nat) (h : f < 65536) : Go.bits .andNot .i64 (f : Int) 2054 = ((f &&& 18446744073709549561 : Nat) : Int) := by
  have h1 : (BitVec.ofInt 64 (f : Int)).toNat = f := by rw [BitVec.ofInt_natCast, BitVec.toNat_ofNat]; exact Nat.mod_eq_of_lt (by omega)
  have h2 : (~~~ (BitVec.ofInt 64 2054)).toNat = 18446744073709549561 := by decide
  have h3 : f &&& 18446744073709549561 ≤ f := Nat.and_le_left
  show IntKind.i64.wrap (((BitVec.ofInt 64 (f : Int) &&& ~~~ (BitVec.ofInt 64 2054)).toNat : Nat) : Int) = _
  rw [BitVec.toNat_and, h1, h2]
  simp only [IntKind.wrap, IntKind.bits, IntKind.signed]
  generalize f &&& 18446744073709549561 = n at *
  simp
  omega
theorem flagB_is (f : Nat) (h : f < 65536) : flagB f = (flN f == 0) := by
  unfold flagB
  rw [fl_word f h, ← fl_nat f h]
  generalize f &&& 18446744073709549561 = n
  by_cases e : n = 0
  · subst e; rfl
  · rw [show (n == 0) = false by simp [e], show ((n : Int) == 0) = false by simp; omega]
/-- what is wrong with the central record at a place; 0: nothing -/
def recS (l : List Int) (tt at_ : Nat) (ns : List (List UInt8)) : Int :=
  if tt < at_ + 46 ∨ kindL l at_ ≠ 2 then 11
  else if tt < at_ + szL l at_ ∨ numL l ((at_ : Int) + 34) 2 ≠ 0 then 11
  else if numL l ((at_ : Int) + 6) 2 > 20 ∨ flagB (numL l ((at_ : Int) + 8) 2) = false ∨ (numL l ((at_ : Int) + 10) 2 ≠ 0 ∧ numL l ((at_ : Int) + 10) 2 ≠ 8) then 12
  else if nameB (nmT l at_) = false then 13
  else if nmU l at_ ∈ ns then 14 else 0
theorem recS_ne (l : List Int) (tt at_ : Nat) (ns : List (List UInt8)) : recS l tt at_ ns = 0 ∨ (11 ≤ recS l tt at_ ns ∧ recS l tt at_ ns ≤ 14) := by
  unfold recS; repeat' split
  all_goals omega
theorem recS_ok {l : List Int} {tt at_ : Nat} {ns : List (List UInt8)} (h : recS l tt at_ ns = 0) :
    at_ + 46 ≤ tt ∧ kindL l at_ = 2 ∧ at_ + szL l at_ ≤ tt ∧ nameB (nmT l at_) = true ∧ nmU l at_ ∉ ns ∧ (numL l ((at_ : Int) + 10) 2 = 0 ∨ numL l ((at_ : Int) + 10) 2 = 8) := by
  unfold recS at h
  split at h
  · cases h
  · split at h
    · cases h
    · split at h
      · cases h
      · split at h
        · cases h
        · split at h
          · cases h
          · rename_i h1 h2 h3 h4 h5
            simp only [not_or, Decidable.not_not] at h1 h2 h3
            refine ⟨by omega, h1.2, by omega, by simpa using h4, h5, ?_⟩
            obtain ⟨_, _, h3⟩ := h3
            by_cases e : numL l ((at_ : Int) + 10) 2 = 0
            · exact .inl e
            · by_cases e2 : numL l ((at_ : Int) + 10) 2 = 8
              · exact .inr e2
              · exact absurd ⟨e, e2⟩ h3
theorem szL_ge (l : List Int) (p : Nat) : 46 + nmN l p ≤ szL l p := by unfold szL; omega
/-- the central records: their places, or what is wrong -/
def cenS (l : List Int) (tt : Nat) : Nat → Nat → List Nat → Except Int (List Nat)
  | 0, at_, ps => if at_ < tt then .error 11 else .ok ps
  | n + 1, at_, ps => if recS l tt at_ (ps.map (nmU l)) ≠ 0 then .error (recS l tt at_ (ps.map (nmU l))) else cenS l tt n (at_ + szL l at_) (ps ++ [at_])
theorem cenS_err {l : List Int} {tt : Nat} : ∀ {n at_ : Nat} {ps : List Nat} {er : Int}, cenS l tt n at_ ps = .error er → 11 ≤ er ∧ er ≤ 14
  | 0, at_, ps, er, h => by
    unfold cenS at h
    split at h
    · injection h with h; omega
    · cases h
  | n + 1, at_, ps, er, h => by
    unfold cenS at h
    split at h
    · injection h with h
      have := recS_ne l tt at_ (ps.map (nmU l))
      omega
    · exact cenS_err h
/-- where the packed bytes of an entry begin; none: its local header disagrees -/
def locS (l : List Int) (fr p : Nat) : Option Nat :=
  if fr < hdL l p + 30 ∨ kindL l (hdL l p) ≠ 1 then none
  else if cutOf l (hdL l p + 4) (hdL l p + 28) ≠ cutOf l (p + 6) (p + 30) then none
  else if fr < hdL l p + 30 + nmN l p + (numL l ((hdL l p : Int) + 28) 2).toNat + pkL l p ∨ strOfNums (cutOf l (hdL l p + 30) (hdL l p + 30 + nmN l p)) ≠ nmT l p then none
  else some (hdL l p + 30 + nmN l p + (numL l ((hdL l p : Int) + 28) 2).toNat)
/-- the local headers of the first entries: where their packed bytes begin -/
def locsS (l : List Int) (fr : Nat) : List Nat → Option (List Nat)
  | [] => some []
  | p :: ps => match locS l fr p with
    | none => none
    | some a => (locsS l fr ps).map (a :: ·)
/-- have two entries a byte in common? e: their beginnings and ends -/
def onOne (l : List Int) (a b : Nat × Nat) : Bool := decide (hdL l a.1 < b.2 + pkL l b.1) && decide (hdL l b.1 < a.2 + pkL l a.1)
def ovS (l : List Int) : List (Nat × Nat) → List (Nat × Nat) → Bool
  | _, [] => false
  | dn, e :: es => dn.any (fun d => onOne l e d) || ovS l (dn ++ [e]) es
/-- the directory: of each entry the place of its central record, and where its packed bytes begin -/
def dirS (l : List Int) : Except Int (List (Nat × Nat)) :=
  match endS l with
  | .error e => .error e
  | .ok (fr, tt, ct) => match cenS l tt ct.toNat fr.toNat [] with
    | .error e => .error e
    | .ok ps => match locsS l fr.toNat ps with
      | none => .error 15
      | some bs => if ovS l [] (ps.zip bs) then .error 16 else .ok (ps.zip bs)
/-- a record's cells -/
def recC (l : List Int) (e : Nat × Nat) : List Value := [.string (nmT l e.1), .int .i64 (numL l ((e.1 : Int) + 10) 2), .int .i64 (pkL l e.1), .int .i64 (numL l ((e.1 : Int) + 24) 4), .int .i64 (numL l ((e.1 : Int) + 16) 4), .int .i64 e.2, .int .i64 (hdL l e.1)]
/-- the cells of what was found, ahead of the look at its local header and behind it -/
def fndC (l : List Int) (e : Nat × Nat) (en : Nat) : List Value := recC l e ++ (cutOf l (e.1 + 6) (e.1 + 30)).map (Value.int .u8) ++ [.int .i64 en]
theorem recC_len (l : List Int) (e : Nat × Nat) : (recC l e).length = 7 := rfl
theorem fndC_len {l : List Int} {e : Nat × Nat} {en : Nat} (h : e.1 + 30 ≤ l.length) : (fndC l e en).length = 32 := by
  unfold fndC
  rw [List.length_append, List.length_append, List.length_map, cutOf_len h, recC_len]
  simp
end Go.Proofs.YtdcpibglbanchaaDoor
