/- What New of package bits makes: a reader of a copy of the bytes. No condition. -/
import Derived.Test.YtpnnfekfoomgaaaDoorRdB
import Derived.Test.YtpnnfekfoomgaaaDoorClone
set_option linter.unusedVariables false
set_option maxRecDepth 100000
namespace Go.Proofs.YtpnnfekfoomgaaaDoor
open Go.RowKit

/-- what New has made, with the row that the reader goes through -/
def NewBit (w : World) (l : List Int) (e : Ending) (w' : World) : Prop := ∃ g a c, e = .returned (.pointer (some ⟨g, 0, none⟩)) ∧ w.heap.size ≤ g ∧
  w'.heap[g]? = some (.cells #[.slice a l.length c, .int .i64 0] 81 (0, 0)) ∧ w'.ownsRow w.heap.size 5 1 (.slice a l.length c) l.length (l.map (Value.int .u8)) ∧ (∀ k, (Value.slice a l.length c).ownBlock = some k → k < g) ∧ Below w.heap.size w w'
theorem bitNew (a : Option Addr) (n c : Nat) (l : List Int) (hn : l.length = n) (hm : n ≤ 140737488355328) (w : World) (hb : Bs w w.heap.size a l) :
    Calls Tryd.prog 19 #[.slice a n c] w (NewBit w l) := by
  have HC := Lib.hid (clone_any a n c l hn hm w hb)
  subst hn
  go_enter Tryd.func19, Tryd.ntmps19
  go_wp2_with fail
  refine HC.out.mono ?_
  rintro e w1 ⟨a1, c1, rfl, hown, hbel⟩
  go_wp2_with fail
  go_ret
  exact ⟨w1.heap.size, a1, c1, rfl, hbel.size, by simpa using heap_alloc_new w1 (.cells #[.slice a1 l.length c1, .int .i64 0] 81), hown.alloc _, fun k e => (hown.lt k e).2, hbel.alloc hbel.size _⟩
theorem rdr_of_row {T : TypeId} {w : World} {base g : Nat} {t : TypeId} {a : Option Addr} {c : Nat} {l : List Int} {p : Nat} (hh : w.heap[g]? = some (.cells #[.slice a l.length c, .int .i64 p] T (0, 0))) (ho : w.ownsRow base t 1 (.slice a l.length c) l.length (l.map (Value.int .u8))) (hl : Bytes l) (hm : l.length ≤ 140737488355328)
    (hlt : ∀ k, (Value.slice a l.length c).ownBlock = some k → k < g) (hp : p ≤ 8 * l.length) : Rdr T w g l p :=
  ⟨a, c, hh, (own_cap ho).1, hm, bs_under ho hl hlt, hp, own_none ho⟩
end Go.Proofs.YtpnnfekfoomgaaaDoor
