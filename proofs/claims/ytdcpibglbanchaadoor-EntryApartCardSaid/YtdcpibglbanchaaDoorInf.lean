/- What squeezed bytes are, as plain mathematics: symbols, copies, told lengths, blocks. No condition; no program is named. -/
import Derived.Test.YtdcpibglbanchaaDoorRef
set_option linter.unusedVariables false
set_option maxRecDepth 100000
namespace Go.Proofs.YtdcpibglbanchaaDoor
open Go.RowKit

/-- a number of n bits at the bit p, and the place behind -/
def takeS (l : List Int) (p n : Nat) : Except Int (Int × Nat) := if p + n ≤ 8 * l.length then .ok (tk l p n, p + n) else .error 2
/-- the next symbol, and the place behind -/
def nxS (ns : List Nat) (l : List Int) (p : Nat) : Except Int (Int × Nat) := if (nxt ns l p).2.1 = 0 then .ok ((nxt ns l p).1, (nxt ns l p).2.2) else .error (nxt ns l p).2.1
/-- the length that a symbol above 256 begins to tell -/
def lenS (l : List Int) (p : Nat) (s : Int) : Except Int (Int × Nat) :=
  if 285 < s then .error 6 else if s = 285 then .ok (258, p) else do
    let (v, p1) ← takeS l p (moreL (s - 257).toNat)
    .ok ((leastL (s - 257).toNat : Int) + v, p1)
/-- the distance that the next symbol tells -/
def disS (ns : List Nat) (l : List Int) (p : Nat) : Except Int (Int × Nat) := do
  let (t, p1) ← nxS ns l p
  if 29 < t then .error 6 else do
    let (v, p2) ← takeS l p1 (moreD t.toNat)
    .ok ((leastD t.toNat : Int) + v, p2)
/-- n bytes laid, each of them as the one so far ahead -/
def copyN (out : List Int) (far : Nat) : Nat → List Int
  | 0 => out
  | n + 1 => copyN (out ++ [out.getD (out.length - far) 0]) far n
/-- what one symbol makes: nothing more, or bytes behind out -/
def symS (nl nd : List Nat) (l : List Int) (limit p : Nat) (out : List Int) : Except Int (Nat × Option (List Int)) := do
  let (s, p1) ← nxS nl l p
  if s = 256 then .ok (p1, none)
  else if s < 256 then (if limit ≤ out.length then .error 8 else .ok (p1, some (out ++ [s])))
  else do
    let (n, p2) ← lenS l p1 s
    let (far, p3) ← disS nd l p2
    if (out.length : Int) < far then .error 7
    else if (limit : Int) - out.length < n then .error 8
    else .ok (p3, some (copyN out far.toNat n.toNat))
/-- a block's symbols -/
def symsS (nl nd : List Nat) (l : List Int) (limit : Nat) : Nat → Nat → List Int → Except Int (Nat × List Int)
  | 0, _, _ => .error 99
  | f + 1, p, out => match symS nl nd l limit p out with
    | .error e => .error e
    | .ok (p', none) => .ok (p', out)
    | .ok (p', some o) => symsS nl nd l limit f p' o
/-- in which order the lengths of the code of lengths are told -/
def tellO : List Nat := [16, 17, 18, 0, 8, 7, 9, 6, 10, 5, 11, 4, 12, 3, 13, 2, 14, 1, 15]
/-- the code of lengths: of symbol j what is told at its place, if that is among the first n -/
def someS (l : List Int) (p n : Nat) : List Int := (List.range 19).map fun j => if tellO.idxOf j < n then tk l (p + 3 * tellO.idxOf j) 3 else 0
/-- what a symbol of the code of lengths stands for behind a row: which length, at least how often, and how many bits tell of more -/
def repS (row : List Int) (s : Int) : Except Int (Int × Int × Nat) :=
  if s = 16 then (if row.length = 0 then .error 6 else .ok (row.getD (row.length - 1) 0, 3, 2)) else if s = 17 then .ok (0, 3, 3) else if s = 18 then .ok (0, 11, 7) else .ok (s, 1, 0)
/-- one symbol of the code of lengths, behind a row -/
def lenStep (ns : List Nat) (l : List Int) (n p : Nat) (row : List Int) : Except Int (Nat × List Int) := do
  let (s, p1) ← nxS ns l p
  let (v, least, width) ← repS row s
  let (more, p2) ← takeS l p1 width
  if (n : Int) - row.length < least + more then .error 6 else .ok (p2, row ++ List.replicate (least + more).toNat v)
/-- n lengths -/
def lensS (ns : List Nat) (l : List Int) (n : Nat) : Nat → Nat → List Int → Except Int (Nat × List Int)
  | 0, _, _ => .error 99
  | f + 1, p, row => if row.length < n then (match lenStep ns l n p row with
    | .error e => .error e
    | .ok (p', r) => lensS ns l n f p' r) else .ok (p, row)
/-- a code that may be refused -/
def codeS (q : List Int) (lone : Bool) : Except Int (List Nat) := if errN q lone = 0 then .ok (nsOf q) else .error (errN q lone)
/-- the two codes that a block tells -/
def toldS (l : List Int) (p : Nat) : Except Int (Nat × List Nat × List Nat) := do
  let (a, p1) ← takeS l p 5
  let (b, p2) ← takeS l p1 5
  let (c, p3) ← takeS l p2 4
  if 286 < a + 257 ∨ 30 < b + 1 then .error 5 else do
    let (_, p4) ← takeS l p3 (3 * (c.toNat + 4))
    let ns ← codeS (someS l p3 (c.toNat + 4)) false
    let n := a.toNat + 257 + (b.toNat + 1)
    let (p5, row) ← lensS ns l n (n + 1) p4 []
    if row.getD 256 0 = 0 then .error 5 else do
      let nl ← codeS (row.take (a.toNat + 257)) false
      let nd ← codeS (row.drop (a.toNat + 257)) true
      .ok (p5, nl, nd)
/-- the lengths of the fixed codes -/
def fixL : List Int := List.replicate 144 8 ++ List.replicate 112 9 ++ List.replicate 24 7 ++ List.replicate 8 8
def fixD : List Int := List.replicate 32 5
/-- a block whose bytes stand as they are, from the byte q on -/
def storedS (l : List Int) (limit q : Nat) (out : List Int) : Except Int (Nat × List Int) := do
  let (n, p1) ← takeS l (8 * q) 16
  let (m, p2) ← takeS l p1 16
  if n + m ≠ 65535 then .error 4
  else if (limit : Int) - out.length < n then .error 8
  else if l.length < q + 4 + n.toNat then .error 2
  else .ok (8 * (q + 4 + n.toNat), out ++ cutOf l (q + 4) (q + 4 + n.toNat))
/-- a block: is it the last, the place behind, what is unpacked -/
def blockS (l : List Int) (limit p : Nat) (out : List Int) : Except Int (Bool × Nat × List Int) := do
  let (last, p1) ← takeS l p 1
  let (kind, p2) ← takeS l p1 2
  if kind = 0 then do
    let (p3, o) ← storedS l limit ((p2 + 7) / 8) out
    .ok (last == 1, p3, o)
  else if kind = 1 then do
    let (p3, o) ← symsS (nsOf fixL) (nsOf fixD) l limit (8 * l.length + 1 - p2) p2 out
    .ok (last == 1, p3, o)
  else if kind = 2 then do
    let (p3, nl, nd) ← toldS l p2
    let (p4, o) ← symsS nl nd l limit (8 * l.length + 1 - p3) p3 out
    .ok (last == 1, p4, o)
  else .error 3
/-- all blocks -/
def blocksS (l : List Int) (limit : Nat) : Nat → Nat → List Int → Except Int (List Int × Nat)
  | 0, _, _ => .error 99
  | f + 1, p, out => match blockS l limit p out with
    | .error e => .error e
    | .ok (true, p', o) => .ok (o, (p' + 7) / 8)
    | .ok (false, p', o) => blocksS l limit f p' o
/-- what bytes unpack to within a limit -/
def inflS (l : List Int) (limit : Int) : Except Int (List Int × Nat) := if limit < 0 ∨ 32768 < limit then .error 1 else blocksS l limit.toNat (8 * l.length + 1) 0 []
end Go.Proofs.YtdcpibglbanchaaDoor
