/- What a reader of package bits does with whole bytes: contracts of next and Align. Condition: the numbers fit their kinds. -/
import Derived.Test.YtpnnfekfoomgaaaDoorRdB
set_option linter.unusedVariables false
set_option maxRecDepth 100000
namespace Go.Proofs.YtpnnfekfoomgaaaDoor
open Go.RowKit

theorem bitNext {w : World} {g : Nat} {l : List Int} {p : Nat} (h : Rdr 81 w g l p) :
    Calls Tryd.prog 71 #[.pointer (some ⟨g, 0, none⟩)] w fun e w' => e = .returned (.int .i64 (((p + 7) / 8 : Nat))) ∧ w = w' := by
  obtain ⟨a, c, hh, _, _, _, hp, _⟩ := h
  have h2 : w.cell? ⟨g, 1, none⟩ = some (.int .i64 p) := blk_cell hh 1
  clear hh
  go_enter Tryd.func71, Tryd.ntmps71
  go_wp2
  go_ret
  exact ⟨by simp, rfl⟩
def upT (p : Nat) : Nat := 8 * ((p + 7) / 8)
theorem bitAlign {w : World} {g : Nat} {l : List Int} {p : Nat} (h : Rdr 81 w g l p) :
    Calls Tryd.prog 54 #[.pointer (some ⟨g, 0, none⟩)] w fun e w' => e = .returned (.tuple #[]) ∧ Rdr 81 w' g l (upT p) ∧ Only g w w' := by
  have hn := bitNext h
  obtain ⟨a, c, hh, hlc, hc, hbs, hp, ha⟩ := h
  have h2 : w.cell? ⟨g, 1, none⟩ = some (.int .i64 p) := blk_cell hh 1
  have hf := blk_free hh 1
  have hlt := blk_lt hh
  have hset := blk_set hh 1 (.int .i64 (8 * (((p + 7) / 8 : Nat) : Int)))
  have hup : upT p ≤ 8 * l.length := by unfold upT; omega
  have hu : ((upT p : Nat) : Int) = 8 * (((p + 7) / 8 : Nat) : Int) := by unfold upT; omega
  have HN := Lib.hid hn; clear hn
  have HS := Lib.hid hset; clear hset hh
  have HU := Lib.hid hu; clear hu
  have hq : (p + 7) / 8 ≤ l.length := by omega
  generalize (p + 7) / 8 = q at *
  go_enter Tryd.func54, Tryd.ntmps54
  go_wp2_with fail
  refine HN.out.mono ?_
  rintro e w' ⟨rfl, rfl⟩
  go_wp2_with fail
  go_end0
  exact ⟨rfl, rdr_mk (w := w) (by rw [HU.out]; simpa using HS.out) hlc hc hbs ha (only_set (only_refl _ _) _ _) (Nat.le_of_lt hlt) hup, only_set (only_refl _ _) _ _⟩
end Go.Proofs.YtpnnfekfoomgaaaDoor
