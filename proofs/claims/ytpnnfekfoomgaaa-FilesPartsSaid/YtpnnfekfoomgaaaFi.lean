/- Files in memory: contracts of New, isName, Reads, Fail and count. No condition but what the words say. -/
import Derived.Test.YtpnnfekfoomgaaaApp
import Derived.Test.YtpnnfekfoomgaaaClone
import Derived.Test.YtpnnfekfoomgaaaCut
import Derived.Maps.OwnSet
import Derived.Deep.RegionLaw
import Derived.Lib.Bytealg
set_option linter.unusedVariables false
set_option maxRecDepth 100000
namespace Go.Proofs.Ytpnnfekfoomgaaa
open Go.RowKit Go.Maps Go.ChangeMaps

theorem strK : Keyed Try.prog 9 := string_keyed Try.underlying9
theorem intK : Keyed Try.prog 3 := int_keyed Try.underlying3
theorem mapS : Try.prog.underlying 44 = some (.map 9 22) := Try.underlying44
theorem mapU : Try.prog.underlying 45 = some (.map 3 51) := Try.underlying45
theorem zeroS (w : World) : (zeroValue 22).run Try.prog w = .ok (.slice none 0 0) w := by kernel_rfl
theorem zeroU (w : World) : (zeroValue 51).run Try.prog w = .ok (.agg #[]) w := by kernel_rfl
/-- an element that is kept as it is -/
def keepR (v : Value) : Option (DataW Value × List MemPlace) := some (.held v, [])
theorem i64wf {i : Int} (h : -9223372036854775808 ≤ i ∧ i ≤ 9223372036854775807) : (Lit.int .i64 i).wf = true := by
  simp [Lit.wf, IntKind.min, IntKind.max, IntKind.signed, IntKind.bits]; omega
/-- the reads that are to fail -/
def UM (w : World) (b n : Nat) (fs : Int → Bool) : Prop := ∃ D : DataW Unit, w.ownsMap Try.prog 3 unitElem b n D ∧ ∀ i : Int, Maps.has D (.int .i64 i) = fs i
/-- the file of a name, if there is one -/
def RM (w : World) (b n : Nat) (kl : Lit) (v? : Option Value) : Prop := ∃ D : DataW Value, w.ownsMap Try.prog 9 keepR b n D ∧ match v? with | none => Maps.has D kl = false | some v => Maps.has D kl = true ∧ ∀ z, D.atKey kl z = .held v
theorem UM.keep {w w' : World} {b n : Nat} {fs : Int → Bool} (h : UM w b n fs) (hg : w'.heap[b]? = w.heap[b]?) : UM w' b n fs := by
  obtain ⟨D, ⟨es, clock, hb, hr⟩, hf⟩ := h
  exact ⟨D, ⟨es, clock, hg.trans hb, hr⟩, hf⟩
theorem RM.keep {w w' : World} {b n : Nat} {kl : Lit} {v? : Option Value} (h : RM w b n kl v?) (hg : w'.heap[b]? = w.heap[b]?) : RM w' b n kl v? := by
  obtain ⟨D, ⟨es, clock, hb, hr⟩, hf⟩ := h
  exact ⟨D, ⟨es, clock, hg.trans hb, hr⟩, hf⟩
theorem UM.lt {w : World} {b n : Nat} {fs : Int → Bool} (h : UM w b n fs) : b < w.heap.size := by obtain ⟨D, h, _⟩ := h; exact h.lt
theorem RM.lt {w : World} {b n : Nat} {kl : Lit} {v? : Option Value} (h : RM w b n kl v?) : b < w.heap.size := by obtain ⟨D, h, _⟩ := h; exact h.lt
theorem UM.look {w : World} {b n : Nat} {fs : Int → Bool} (h : UM w b n fs) {i : Int} (hi : -9223372036854775808 ≤ i ∧ i ≤ 9223372036854775807) {W : World} (hW : W.heap[b]? = w.heap[b]?) :
    (Instr.lookup 45 (.map (some b)) (.int .i64 i) true).run Try.prog W = .ok (.tuple #[.agg #[], .bool (fs i)]) W := by
  obtain ⟨D, h, hf⟩ := h.keep hW
  obtain ⟨v, ps, hr, hv⟩ := h.look_ok intK mapU (zeroU W) (zd := .agg []) (zp := []) unitElem_mk (keyOf_int_mk Try.underlying3 (i64wf hi))
  obtain ⟨rfl, _⟩ := unitElem_inv hv
  rw [hf] at hr
  exact hr
theorem UM.put {w : World} {b n : Nat} {fs : Int → Bool} (h : UM w b n fs) (hn : n < maxLen) {i : Int} (hi : -9223372036854775808 ≤ i ∧ i ≤ 9223372036854775807) {W : World} (hW : W.heap[b]? = w.heap[b]?) :
    ∃ w', (Instr.mapUpdate 45 (.map (some b)) (.int .i64 i) (.agg #[])).run Try.prog W = .ok () w' ∧ UM w' b (n + 1) (fun j => decide (j = i) || fs j) ∧ W.grownBy w' (some b) := by
  obtain ⟨D, h, hf⟩ := h.keep hW
  obtain ⟨w', hr, ho, ht⟩ := h.store intK mapU hn (keyOf_int_mk Try.underlying3 (i64wf hi)) unitElem_mk
  refine ⟨w', hr, ⟨_, ho, fun j => ?_⟩, ht.grown⟩
  by_cases hj : j = i
  · subst hj
    rw [has_put_same h.isMap (by trivial)]
    simp
  · rw [has_put_other (by intro e; injection e with _ e; exact hj e), hf]
    simp [hj]
theorem UM.del {w : World} {b n : Nat} {fs : Int → Bool} (h : UM w b n fs) {i : Int} (hi : -9223372036854775808 ≤ i ∧ i ≤ 9223372036854775807) (ty : TypeId) {W : World} (hW : W.heap[b]? = w.heap[b]?) :
    ∃ w', (Builtin.delete_ #[45, 3] ty #[.map (some b), .int .i64 i]).run Try.prog W = .ok (.tuple #[]) w' ∧ UM w' b n (fun j => !decide (j = i) && fs j) ∧ W.grownBy w' (some b) := by
  obtain ⟨D, h, hf⟩ := h.keep hW
  obtain ⟨w', hr, ho, ht⟩ := h.drop intK mapU (keyOf_int_mk Try.underlying3 (i64wf hi)) ty
  refine ⟨w', hr, ⟨_, ho, fun j => ?_⟩, ht.grown⟩
  by_cases hj : j = i
  · subst hj
    rw [has_del_same]
    simp
  · rw [has_del_other (by intro e; injection e with _ e; exact hj e), hf]
    simp [hj]
theorem UM.made (w : World) : UM (w.alloc (.map #[] 0)) w.heap.size 0 (fun _ => false) := ⟨_, World.ownsMap_made _ _ _ _, fun i => rfl⟩
theorem RM.made (w : World) (kl : Lit) : RM (w.alloc (.map #[] 0)) w.heap.size 0 kl none := ⟨_, World.ownsMap_made _ _ _ _, rfl⟩
theorem RM.look {w : World} {b n : Nat} {s : ByteArray} {kl : Lit} {v? : Option Value} (h : RM w b n kl v?) (hk : keyOf Try.prog 9 (.string s) = some kl) {W : World} (hW : W.heap[b]? = w.heap[b]?) :
    (Instr.lookup 44 (.map (some b)) (.string s) true).run Try.prog W = .ok (.tuple #[v?.getD (.slice none 0 0), .bool v?.isSome]) W := by
  obtain ⟨D, h, hf⟩ := h.keep hW
  obtain ⟨v, ps, hr, hv⟩ := h.look_ok strK mapS (zeroS W) (zd := .held (.slice none 0 0)) (zp := []) rfl hk
  injection hv with hv
  injection hv with hv _
  cases v? with
  | none =>
    simp only at hf
    rw [hf] at hr
    rw [atKey_of_not_has hf] at hv
    injection hv with hv
    rw [hv] at hr
    exact hr
  | some u =>
    simp only at hf
    rw [hf.1] at hr
    rw [hf.2] at hv
    injection hv with hv
    rw [hv] at hr
    exact hr
theorem RM.put {w : World} {b n : Nat} {s : ByteArray} {kl : Lit} {v? : Option Value} (h : RM w b n kl v?) (hn : n < maxLen) (hk : keyOf Try.prog 9 (.string s) = some kl) (hkl : WideAt.IsKeyLit kl) (v : Value) {W : World} (hW : W.heap[b]? = w.heap[b]?) :
    ∃ w', (Instr.mapUpdate 44 (.map (some b)) (.string s) v).run Try.prog W = .ok () w' ∧ RM w' b (n + 1) kl (some v) ∧ W.grownBy w' (some b) := by
  obtain ⟨D, h, hf⟩ := h.keep hW
  obtain ⟨w', hr, ho, ht⟩ := h.store strK mapS hn (key := .string s) (val := v) (d := .held v) (ps := []) hk rfl
  exact ⟨w', hr, ⟨_, ho, has_put_same h.isMap hkl _, fun z => atKey_put_same h.isMap hkl _ z⟩, ht.grown⟩
theorem RM.len {w : World} {b n : Nat} {kl : Lit} {v? : Option Value} (h : RM w b n kl v?) (ty : TypeId) {W : World} (hW : W.heap[b]? = w.heap[b]?) :
    ∃ m : Nat, m ≤ n ∧ (Builtin.len_ #[44] ty #[.map (some b)]).run Try.prog W = .ok (.int .i64 m) W := by
  obtain ⟨D, h, hf⟩ := h.keep hW
  exact ⟨Maps.size D, h.size_le, h.len mapS ty⟩

def rowsOf (w : World) (g n : Nat) (kl : Lit) (v? : Option Value) : Option Nat → Prop
  | none => v? = none
  | some b => b ≠ g ∧ RM w b n kl v?
def failsOf (w : World) (g : Nat) (rv : Option Nat) (n : Nat) (fs : Int → Bool) : Option Nat → Prop
  | none => ∀ i, fs i = false
  | some b => b ≠ g ∧ rv ≠ some b ∧ UM w b n fs
/-- the files: where they stand, how many reads there were, which are to fail; the file of one name -/
structure FS (w : World) (g : Nat) (rv fv : Option Nat) (n : Nat) (reads : Nat) (kl : Lit) (v? : Option Value) (fs : Int → Bool) : Prop where
  blk : w.heap[g]? = some (.cells #[.map rv, .int .i64 reads, .map fv] 47 (0, 0))
  rows : rowsOf w g n kl v? rv
  fails : failsOf w g rv n fs fv
theorem FS.keep {w w' : World} {g : Nat} {rv fv : Option Nat} {n reads : Nat} {kl : Lit} {v? : Option Value} {fs : Int → Bool} (h : FS w g rv fv n reads kl v? fs) (hb : Below w.heap.size w w') : FS w' g rv fv n reads kl v? fs := by
  obtain ⟨h1, h2, h3⟩ := h
  refine ⟨(hb.block g (blk_lt h1)).trans h1, ?_, ?_⟩
  · cases rv with
    | none => exact h2
    | some b => exact ⟨h2.1, h2.2.keep (hb.block b h2.2.lt)⟩
  · cases fv with
    | none => exact h3
    | some b => exact ⟨h3.1, h3.2.1, h3.2.2.keep (hb.block b h3.2.2.lt)⟩
theorem filesNew (w : World) (kl : Lit) : Calls Try.prog 7 #[] w fun e w' => e = .returned (.pointer (some ⟨w.heap.size, 0, none⟩)) ∧ Below w.heap.size w w' ∧ w'.heap.size = w.heap.size + 1 ∧ FS w' w.heap.size none none 0 0 kl none (fun _ => false) := by
  go_enter Try.func7, Try.ntmps7
  go_wp2_with fail
  go_ret
  exact ⟨rfl, (Below.refl _ _).alloc (Nat.le_refl _) _, by simp, ⟨heap_alloc_new w _, rfl, fun _ => rfl⟩⟩
theorem filesReads {w : World} {g : Nat} {rv fv : Option Nat} {n reads : Nat} {kl : Lit} {v? : Option Value} {fs : Int → Bool} (h : FS w g rv fv n reads kl v? fs) : Calls Try.prog 13 #[.pointer (some ⟨g, 0, none⟩)] w fun e w' => e = .returned (.int .i64 reads) ∧ w' = w := by
  have c1 : w.cell? ⟨g, 1, none⟩ = some (.int .i64 reads) := blk_cell h.blk 1
  clear h
  go_enter Try.func13, Try.ntmps13
  go_wp2_with fail
  go_ret
  exact ⟨rfl, rfl⟩
end Go.Proofs.Ytpnnfekfoomgaaa
