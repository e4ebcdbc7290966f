/- From a walk of a law where the variable internal/bytealg.MaxLen has a value (the call returns true and turns nothing that was there) to what its row asks. Condition: the walk's own. -/
import Derived.Test.YtbeekjfjfcaobaaDoorFr
import Derived.Test.YtbeekjfjfcaobaaDoorTie
import Derived.Test.YtbeekjfjfcaobaaDoorCards
import Derived.Test.YtbeekjfjfcaobaaDoorPc
import Derived.Shelf.Vars
import Derived.Lib.LaidTab
import Derived.LaidMore
import Derived.MakeChecks
import Derived.LaidSub
import Derived.Lay
set_option linter.unusedVariables false
set_option maxRecDepth 100000
namespace Go.Proofs.YtbeekjfjfcaobaaDoor
open Go.ChangeShapes Go.WideShapes Go.ChangeAt Go.RowKit

def laidN : List (String × DataW Unit) := [("unicode/utf8.acceptRanges", Rows.laid_unicode_utf8_acceptRanges), ("unicode/utf8.first", Rows.laid_unicode_utf8_first)]
theorem mx_of_shape {W : World} (h : W.ShapedOpen Tryd.prog) : Mx W := by
  obtain ⟨m, hm⟩ := cell_of_shapedOpen_int (k := .i64) (g := 0) (t := 3) (zero := #[.int .i64 0]) h (of_decide_eq_true (by kernel_rfl)) (by kernel_rfl) rfl (by kernel_rfl) (by kernel_rfl) Tryd.underlying3
  refine ⟨?_, m, hm⟩
  rcases Nat.lt_or_ge 0 W.heap.size with h1 | h1
  · exact h1
  · simp [World.cell?, Array.getElem?_eq_none h1] at hm

theorem law_tiedN {s : ChangeSpec} {n : FuncId} {fn : Func} {tb : TypeId} (hfn : Tryd.prog.funcs[n]? = some fn) (hinit : Tryd.prog.inits.idxOf? n = none)
    (hs : ∀ (H : Type) (ds : List (DataW H)), ds.length = fn.params.size → s.fn H ds = { results := [.lit (.bool true)], args := ds }) (hvars : s.vars = [])
    (hres : fn.resultTypes.toList = [tb]) (hsz : fn.resultTypes.size = 1) (htb : Tryd.prog.underlying tb = some .bool)
    (hts : fn.params.toList.all (fun t => Tryd.prog.readableRec t && decide (t < Tryd.prog.types.size)) = true)
    (os : Os) (started : os.Started) (H : Type) (enc : TypeId × Value → H)
    (wit : ∃ (w : World) (tape : Tape) (i : Input), w.os = os ∧ (w.forCall tape i).Shaped Tryd.prog ∧ i.vars = [] ∧ Input.okWide Tryd.prog (w.forCall tape i) .any w.heap.size n i ∧
      ((s.pre enc Tryd.prog fn [] false (w.forCall tape i).memory i.args ∧ laidMetH Tryd.prog laidN (w.forCall tape i).memory) ∧ sizedMet enc Tryd.prog fn (OpenSpec.ofChange s) false (w.forCall tape i).memory i.args) ∧ ({} : Assume).holds Tryd.prog (lone (Frame.enter Tryd.prog n i.args .normal) [] (w.forCall tape i)))
    (walk : ∀ (W : World) (args : Array Value) (ds : List (DataW H)) (ps : List MemPlace), Given H enc none W fn.params.toList args.toList ds ps → Mx W →
      Calls Tryd.prog n args W fun e w' => e = .returned (.bool true) ∧ Below W.heap.size W w') :
    ReturnsInHanded {} Tryd.checked os n .any (fun w args => (s.pre enc Tryd.prog fn [] false w args ∧ laidMetH Tryd.prog laidN w) ∧ sizedMet enc Tryd.prog fn (OpenSpec.ofChange s) false w args) (s.post enc Tryd.prog fn false true false false) := by
  refine returnsInHanded_of_calls own started hinit wit ?_
  intro w0 tape inp _ hsh _ hok hpre hholds
  obtain ⟨_, _, _, fn', hfn', _, _, _, _, hval⟩ := hok
  have e0 : fn = fn' := Option.some.inj (hfn.symm.trans hfn')
  subst e0
  obtain ⟨⟨⟨ds, gs, before, hw0, hc0⟩, _⟩, hz0⟩ := hpre
  have hW := DataW.Whole.of_heap (w' := w0.forCall tape inp) (by rfl) hw0
  have hsz0 := hz0.weights hw0
  have hmx := mx_of_shape hsh
  suffices hcon : Calls Tryd.prog n inp.args (w0.forCall tape inp) fun e W' => ∃ v, e = .returned v ∧ s.post enc Tryd.prog fn false true false false (w0.forCall tape inp) inp.args v W' by
    refine hcon.mono fun e W' ⟨v, he, hp⟩ => ?_
    subst he
    exact ChangeSpec.post_blind hp
  generalize inp.args = args at *
  obtain ⟨base, hbase⟩ : ∃ base, w0.heap.size = base := ⟨_, rfl⟩
  rw [hbase] at hval
  generalize w0.forCall tape inp = W at *
  have hW' := hW
  obtain ⟨p, q, hA, hV, rfl, hfz, hnd⟩ := hW
  rw [hvars] at hV
  have hg : gs = [] ∧ q = [] := trodVars_none hV
  obtain ⟨rfl, rfl⟩ := hg
  have hvt : s.plain.varTypes Tryd.prog = [] := by
    have h : s.plain.vars = [] := hvars
    simp [DataSpec.varTypes, h]
  have hsz1 : (DataW.weightsEach Tryd.prog (fn.params.toList ++ DataSpec.varTypes Tryd.prog s.plain) (ds ++ [])).all (· ≤ reachBytes) = true := hsz0
  rw [hvt, List.append_nil, List.append_nil] at hsz1
  have hlen := trodAll_len hA
  have hlt : ∀ x ∈ p, x.block < W.heap.size := fun x hx => hW'.lt x (by simp [hx])
  have hty : ∀ t ∈ fn.params.toList, Tryd.prog.readableRec t = true ∧ t < Tryd.prog.types.size := fun t ht => by
    have := List.all_eq_true.1 hts t ht
    simpa using this
  refine (walk W args ds p ⟨hA, hlt, fun j t v h1 h2 => ⟨base, hval j t v (by simpa using h1) (by simpa using h2)⟩, hsz1, fun k h => by cases h⟩ hmx).mono fun e W' ⟨he, bel⟩ => ?_
  subst he
  have hspec : s.fn H (ds ++ []) = { results := [.lit (.bool true)], args := ds } := by rw [List.append_nil]; exact hs H ds (by simpa using hlen)
  refine ⟨_, rfl, ds, [], p ++ [], [], p, [], hW', ?_, ?_, ?_, bel.frame _, fun h => by cases h⟩
  · rw [hspec, hres, hsz]
    exact trodAll_mk1 (shut_bool htb _)
  · rw [hspec]
    exact trodAll_below laidOut bel hty hA hlt
  · rw [hspec, hvars]; rfl
end Go.Proofs.YtbeekjfjfcaobaaDoor
