/- From a walk of a law over listed rows and tables (the call returns true and turns nothing that was there) to what its row asks. Condition: the walk's own; the rows and tables are listed. -/
import Derived.Test.YtdcpibglbanchaaDoorFr
import Derived.Test.YtdcpibglbanchaaDoorTie
import Derived.Test.YtdcpibglbanchaaDoorCards
import Derived.Test.YtdcpibglbanchaaDoorId
import Derived.Lib.LaidTab
import Derived.LaidMore
import Derived.MakeChecks
import Derived.LaidSub
import Derived.Lay
set_option linter.unusedVariables false
set_option maxRecDepth 100000
namespace Go.Proofs.YtdcpibglbanchaaDoor
open Go.ChangeShapes Go.WideShapes Go.ChangeAt Go.RowKit

def laidE : List (String × DataW Unit) := [("unicode/utf8.acceptRanges", Rows.laid_unicode_utf8_acceptRanges), ("samovar/inflate.order", Rows.laid_samovar_inflate_order), ("unicode/utf8.first", Rows.laid_unicode_utf8_first)]
theorem laidE_global : Tryd.prog.globalNamed "samovar/inflate.order" = some 0 := by kernel_rfl
theorem laidE_type : (Tryd.prog.globals[0]?).map (·.type) = some 131 := by kernel_rfl
theorem laidE_e : Tryd.prog.cellsOf 3 = 1 := by kernel_rfl
theorem laidE_t : Tryd.prog.cellsOf 131 = 19 := by kernel_rfl
theorem ord_of_laidE {W : World} (h : laidMetH Tryd.prog laidE W) : Ord W := by
  rw [MakeChecks.laidMetH_plain _ _ _ (by kernel_rfl)] at h
  have h0 := laidMet.filter (fun x => x.1 == "samovar/inflate.order") h
  have h1 : laidMet Tryd.prog (("samovar/inflate.order", Lib.tabData .i64 [16, 17, 18, 0, 8, 7, 9, 6, 10, 5, 11, 4, 12, 3, 13, 2, 14, 1, 15]) :: []) W := h0
  have h2 := Lib.tabIs_of_head laidE_global laidE_type Tryd.underlying131 Tryd.underlying3 laidE_e laidE_t h1
  unfold Lib.TabIs World.var? at h2
  rw [laidE_global] at h2
  simp only [Option.bind_some] at h2
  split at h2
  · rename_i cs t fr hc
    injection h2 with h2
    subst h2
    exact ⟨(t, fr), hc⟩
  · cases h2

theorem law_tiedE {s : ChangeSpec} {n : FuncId} {fn : Func} {tb : TypeId} (hfn : Tryd.prog.funcs[n]? = some fn) (hinit : Tryd.prog.inits.idxOf? n = none)
    (hs : ∀ (H : Type) (ds : List (DataW H)), ds.length = fn.params.size → s.fn H ds = { results := [.lit (.bool true)], args := ds }) (hvars : s.vars = [])
    (hres : fn.resultTypes.toList = [tb]) (hsz : fn.resultTypes.size = 1) (htb : Tryd.prog.underlying tb = some .bool)
    (hts : fn.params.toList.all (fun t => Tryd.prog.readableRec t && decide (t < Tryd.prog.types.size)) = true)
    (os : Os) (started : os.Started) (H : Type) (enc : TypeId × Value → H)
    (wit : ∃ (w : World) (tape : Tape) (i : Input), w.os = os ∧ (w.forCall tape i).Shaped Tryd.prog ∧ i.vars = [] ∧ Input.okWide Tryd.prog (w.forCall tape i) .any w.heap.size n i ∧
      ((s.pre enc Tryd.prog fn [] false (w.forCall tape i).memory i.args ∧ laidMetH Tryd.prog laidE (w.forCall tape i).memory) ∧ sizedMet enc Tryd.prog fn (OpenSpec.ofChange s) false (w.forCall tape i).memory i.args) ∧ ({} : Assume).holds Tryd.prog (lone (Frame.enter Tryd.prog n i.args .normal) [] (w.forCall tape i)))
    (walk : ∀ (W : World) (args : Array Value) (ds : List (DataW H)) (ps : List MemPlace), Given H enc none W fn.params.toList args.toList ds ps → Ord W →
      Calls Tryd.prog n args W fun e w' => e = .returned (.bool true) ∧ Below W.heap.size W w') :
    ReturnsInHanded {} Tryd.checked os n .any (fun w args => (s.pre enc Tryd.prog fn [] false w args ∧ laidMetH Tryd.prog laidE w) ∧ sizedMet enc Tryd.prog fn (OpenSpec.ofChange s) false w args) (s.post enc Tryd.prog fn false true false false) := by
  refine returnsInHanded_of_change_and (C := Tryd.checked) (X := fun w _ => laidMetH Tryd.prog laidE w) (fun _ _ _ hh h => h.of_heap hh) own started hinit hfn wit ?_
  intro W base args ds gs before hval hW _ hsz0 hL _
  have hW' := hW
  obtain ⟨p, q, hA, hV, rfl, hfz, hnd⟩ := hW
  rw [hvars] at hV
  have hg : gs = [] ∧ q = [] := trodVars_none hV
  obtain ⟨rfl, rfl⟩ := hg
  have hvt : s.plain.varTypes Tryd.prog = [] := by
    have h : s.plain.vars = [] := hvars
    simp [DataSpec.varTypes, h]
  have hsz1 : (DataW.weightsEach Tryd.prog (fn.params.toList ++ DataSpec.varTypes Tryd.prog s.plain) (ds ++ [])).all (· ≤ reachBytes) = true := hsz0
  rw [hvt, List.append_nil, List.append_nil] at hsz1
  have hlen := trodAll_len hA
  have hlt : ∀ x ∈ p, x.block < W.heap.size := fun x hx => hW'.lt x (by simp [hx])
  have hty : ∀ t ∈ fn.params.toList, Tryd.prog.readableRec t = true ∧ t < Tryd.prog.types.size := fun t ht => by
    have := List.all_eq_true.1 hts t ht
    simpa using this
  refine (walk W args ds p ⟨hA, hlt, fun j t v h1 h2 => ⟨base, hval j t v (by simpa using h1) (by simpa using h2)⟩, hsz1, fun k h => by cases h⟩ (ord_of_laidE hL)).mono fun e W' ⟨he, bel⟩ => ?_
  subst he
  have hspec : s.fn H (ds ++ []) = { results := [.lit (.bool true)], args := ds } := by rw [List.append_nil]; exact hs H ds (by simpa using hlen)
  refine ⟨_, rfl, ds, [], p ++ [], [], p, [], hW', ?_, ?_, ?_, bel.frame _, fun h => by cases h⟩
  · rw [hspec, hres, hsz]
    exact trodAll_mk1 (shut_bool htb _)
  · rw [hspec]
    exact trodAll_below laidOut bel hty hA hlt
  · rw [hspec, hvars]; rfl
end Go.Proofs.YtdcpibglbanchaaDoor
