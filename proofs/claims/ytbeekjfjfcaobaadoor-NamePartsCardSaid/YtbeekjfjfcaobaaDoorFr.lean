/- From a walk of a law (the call returns true and turns nothing that was there) to what its row asks: that every argument reads behind the call as it read before. Condition: the walk's own. Arguments of whatever type that a law is handed: one by one, opened as slices of integers, arrays of integers, slices of structs. Condition: none. -/
import Derived.Test.YtbeekjfjfcaobaaDoorRows
import Derived.Test.YtbeekjfjfcaobaaDoorMem
import Derived.Test.YtbeekjfjfcaobaaDoorNum
import Derived.SizedLaws
import Derived.JoinedCond
import Derived.Deep.CondSized
import Derived.ShutString
import Derived.ChangeOld
import Derived.Carry
import Derived.Deep.Slices
set_option linter.unusedVariables false
set_option maxRecDepth 100000
namespace Go.Proofs.YtbeekjfjfcaobaaDoor
open Go.ChangeShapes Go.WideShapes Go.ChangeAt Go.RowKit
open Go.ChangeMaps (open_string shut_string)

theorem own : ownKnob Tryd.prog.godebug = none := by kernel_rfl
theorem laidOut : laidOutB Tryd.prog = true := by kernel_rfl

theorem trodAll_below {H : Type} {enc : TypeId × Value → H} {P : Program} (hl : laidOutB P = true) {W W' : World} (hb : Below W.heap.size W W') : ∀ {ts : List TypeId} {vs : List Value} {ds : List (DataW H)} {ps : List MemPlace},
    (∀ t ∈ ts, P.readableRec t = true ∧ t < P.types.size) → DataW.TrodAll enc P W 0 (fun _ => true) true ts vs ds ps → (∀ x ∈ ps, x.block < W.heap.size) → DataW.TrodAll enc P W' 0 (fun b => decide (b < W.heap.size)) true ts vs ds ps
  | [], vs, ds, ps, _, h, _ => by
    obtain ⟨rfl, rfl, rfl⟩ := trodAll_nil h
    exact trodAll_mk0
  | t :: ts, vs, ds, ps, ht, h, hlt => by
    obtain ⟨v, vs', d, ds', p, q, rfl, rfl, rfl, h0, r0⟩ := trodAll_cons h
    obtain ⟨h1, h2⟩ := ht t (by simp)
    exact trodAll_cons_mk (Below.trod hl h1 h2 h0 hb fun x hx => hlt x (by simp [hx])) (trodAll_below hl hb (fun t' h' => ht t' (by simp [h'])) r0 fun x hx => hlt x (by simp [hx]))

theorem trodAll_len {H : Type} {enc : TypeId × Value → H} {P : Program} {w : World} {base : Nat} {spare : Nat → Bool} {held : Bool} : ∀ {ts : List TypeId} {vs : List Value} {ds : List (DataW H)} {ps : List MemPlace},
    DataW.TrodAll enc P w base spare held ts vs ds ps → ds.length = ts.length
  | [], vs, ds, ps, h => by obtain ⟨_, rfl, _⟩ := trodAll_nil h; rfl
  | t :: ts, vs, ds, ps, h => by
    obtain ⟨v, vs', d, ds', p, q, rfl, rfl, rfl, h0, r0⟩ := trodAll_cons h
    simp [trodAll_len r0]
/-- what a law's walk is handed of its arguments; K: a bound on what they hold together, where there is one -/
structure Given (H : Type) (enc : TypeId × Value → H) (K : Option Nat) (W : World) (ts : List TypeId) (vs : List Value) (ds : List (DataW H)) (ps : List MemPlace) : Prop where
  read : DataW.TrodAll enc Tryd.prog W 0 (fun _ => true) true ts vs ds ps
  low : ∀ x ∈ ps, x.block < W.heap.size
  size : ∀ (j : Nat) t v, ts[j]? = some t → vs[j]? = some v → ∃ base, Value.okWide Tryd.prog W .any base t v
  reach : (DataW.weightsEach Tryd.prog ts ds).all (· ≤ reachBytes) = true
  bulk : ∀ k, K = some k → Rows.uptoBulkAll ds ≤ k

theorem law_lifted {s : ChangeSpec} {n : FuncId} {fn : Func} {tb : TypeId} (hfn : Tryd.prog.funcs[n]? = some fn) (hinit : Tryd.prog.inits.idxOf? n = none)
    (hs : ∀ (H : Type) (ds : List (DataW H)), ds.length = fn.params.size → s.fn H ds = { results := [.lit (.bool true)], args := ds }) (hvars : s.vars = [])
    (hres : fn.resultTypes.toList = [tb]) (hsz : fn.resultTypes.size = 1) (htb : Tryd.prog.underlying tb = some .bool)
    (hts : fn.params.toList.all (fun t => Tryd.prog.readableRec t && decide (t < Tryd.prog.types.size)) = true)
    (os : Os) (started : os.Started) (H : Type) (enc : TypeId × Value → H)
    (wit : ∃ (w : World) (tape : Tape) (i : Input), w.os = os ∧ (w.forCall tape i).Shaped Tryd.prog ∧ i.vars = [] ∧ Input.okWide Tryd.prog (w.forCall tape i) .any w.heap.size n i ∧
      s.pre6 enc Tryd.prog fn [] false (w.forCall tape i).memory i.args ∧ ({} : Assume).holds Tryd.prog (lone (Frame.enter Tryd.prog n i.args .normal) [] (w.forCall tape i)))
    (walk : ∀ (W : World) (args : Array Value) (ds : List (DataW H)) (ps : List MemPlace), Given H enc none W fn.params.toList args.toList ds ps →
      Calls Tryd.prog n args W fun e w' => e = .returned (.bool true) ∧ Below W.heap.size W w') :
    ReturnsInHanded {} Tryd.checked os n .any (s.pre6 enc Tryd.prog fn [] false) (s.post enc Tryd.prog fn false true false false) := by
  refine returnsInHanded_of_change_sized (C := Tryd.checked) own started hinit hfn wit ?_
  intro W base args ds gs before hval hW _ hsz0 _
  have hW' := hW
  obtain ⟨p, q, hA, hV, rfl, hfz, hnd⟩ := hW
  rw [hvars] at hV
  have hg : gs = [] ∧ q = [] := trodVars_none hV
  obtain ⟨rfl, rfl⟩ := hg
  have hvt : s.plain.varTypes Tryd.prog = [] := by
    have h : s.plain.vars = [] := hvars
    simp [DataSpec.varTypes, h]
  have hsz1 : (DataW.weightsEach Tryd.prog (fn.params.toList ++ DataSpec.varTypes Tryd.prog s.plain) (ds ++ [])).all (· ≤ reachBytes) = true := hsz0
  rw [hvt, List.append_nil, List.append_nil] at hsz1
  have hlen := trodAll_len hA
  have hlt : ∀ x ∈ p, x.block < W.heap.size := fun x hx => hW'.lt x (by simp [hx])
  have hty : ∀ t ∈ fn.params.toList, Tryd.prog.readableRec t = true ∧ t < Tryd.prog.types.size := fun t ht => by
    have := List.all_eq_true.1 hts t ht
    simpa using this
  refine (walk W args ds p ⟨hA, hlt, fun j t v h1 h2 => ⟨base, hval j t v (by simpa using h1) (by simpa using h2)⟩, hsz1, fun k h => by cases h⟩).mono fun e W' ⟨he, bel⟩ => ?_
  subst he
  have hspec : s.fn H (ds ++ []) = { results := [.lit (.bool true)], args := ds } := by rw [List.append_nil]; exact hs H ds (by simpa using hlen)
  refine ⟨_, rfl, ds, [], p ++ [], [], p, [], hW', ?_, ?_, ?_, bel.frame _, fun h => by cases h⟩
  · rw [hspec, hres, hsz]
    exact trodAll_mk1 (shut_bool htb _)
  · rw [hspec]
    exact trodAll_below laidOut bel hty hA hlt
  · rw [hspec, hvars]; rfl

theorem bulk_one {H : Type} (d : DataW H) : 1 ≤ Rows.uptoBulk d := by
  cases d with
  | lit l => cases l <;> simp [Rows.uptoBulk]
  | _ => simp [Rows.uptoBulk]
theorem bulk_len {H : Type} (l : List (DataW H)) : l.length ≤ Rows.uptoBulkAll l := by
  induction l with
  | nil => simp
  | cons x r ih => have := bulk_one x; simp only [Rows.uptoBulkAll, List.length_cons]; omega
theorem law_lifted_upto {s : ChangeSpec} {n : FuncId} {fn : Func} {tb : TypeId} (hfn : Tryd.prog.funcs[n]? = some fn) (hinit : Tryd.prog.inits.idxOf? n = none)
    (hs : ∀ (H : Type) (ds : List (DataW H)), ds.length = fn.params.size → s.fn H ds = { results := [.lit (.bool true)], args := ds }) (hvars : s.vars = [])
    (hres : fn.resultTypes.toList = [tb]) (hsz : fn.resultTypes.size = 1) (htb : Tryd.prog.underlying tb = some .bool)
    (hts : fn.params.toList.all (fun t => Tryd.prog.readableRec t && decide (t < Tryd.prog.types.size)) = true)
    (os : Os) (started : os.Started) (H : Type) (enc : TypeId × Value → H) (F : Stop.Interp)
    (wit : ∃ (w : World) (tape : Tape) (i : Input), w.os = os ∧ (w.forCall tape i).Shaped Tryd.prog ∧ i.vars = [] ∧ Input.okWide Tryd.prog (w.forCall tape i) .any w.heap.size n i ∧
      (Rows.OpenSpec.upto s).pre6 enc Tryd.prog fn [] false (w.forCall tape i).memory i.args ∧ ({} : Assume).holds Tryd.prog (lone (Frame.enter Tryd.prog n i.args .normal) [] (w.forCall tape i)))
    (walk : ∀ (W : World) (args : Array Value) (ds : List (DataW H)) (ps : List MemPlace), Given H enc (some 1048576) W fn.params.toList args.toList ds ps →
      Calls Tryd.prog n args W fun e w' => e = .returned (.bool true) ∧ Below W.heap.size W w') :
    ReturnsInHanded {} Tryd.checked os n .any ((Rows.OpenSpec.upto s).pre6 enc Tryd.prog fn [] false) (((Rows.OpenSpec.upto s).at F).post enc Tryd.prog fn false true false false) := by
  refine returnsInHanded_of_cond_sized (C := Tryd.checked) (s := Rows.OpenSpec.upto s) (k := Rows.uptoSmall) rfl own started hinit hfn wit ?_
  intro W base args ds gs before hval hW _ hk hsz0 _
  have hW' := hW
  obtain ⟨p, q, hA, hV, rfl, hfz, hnd⟩ := hW
  have hvars' : (Rows.OpenSpec.upto s).vars = [] := hvars
  rw [hvars'] at hV
  have hg : gs = [] ∧ q = [] := trodVars_none hV
  obtain ⟨rfl, rfl⟩ := hg
  have hvt : DataSpec.varTypes Tryd.prog (Rows.OpenSpec.upto s).bare.plain = [] := by
    have h : (Rows.OpenSpec.upto s).bare.plain.vars = [] := hvars
    simp [DataSpec.varTypes, h]
  have hsz1 : (DataW.weightsEach Tryd.prog (fn.params.toList ++ DataSpec.varTypes Tryd.prog (Rows.OpenSpec.upto s).bare.plain) (ds ++ [])).all (· ≤ reachBytes) = true := hsz0
  rw [hvt, List.append_nil, List.append_nil] at hsz1
  rw [List.append_nil] at hk
  have hk' : Rows.uptoBulkAll ds ≤ 1048576 := of_decide_eq_true hk
  have hlen := trodAll_len hA
  have hlt : ∀ x ∈ p, x.block < W.heap.size := fun x hx => hW'.lt x (by simp [hx])
  have hty : ∀ t ∈ fn.params.toList, Tryd.prog.readableRec t = true ∧ t < Tryd.prog.types.size := fun t ht => by
    have := List.all_eq_true.1 hts t ht
    simpa using this
  refine (walk W args ds p ⟨hA, hlt, fun j t v h1 h2 => ⟨base, hval j t v (by simpa using h1) (by simpa using h2)⟩, hsz1, fun k h => by injection h with h; omega⟩).mono fun e W' ⟨he, bel⟩ => ?_
  subst he
  have hspec : s.fn H (ds ++ []) = { results := [.lit (.bool true)], args := ds } := by rw [List.append_nil]; exact hs H ds (by simpa using hlen)
  have hspec' : ((Rows.OpenSpec.upto s).at F).fn H (ds ++ []) = { results := [.lit (.bool true)], args := ds } := hspec
  refine ⟨_, rfl, ds, [], p ++ [], [], p, [], hW', ?_, ?_, ?_, bel.frame _, fun h => by cases h⟩
  · rw [hspec', hres, hsz]
    exact trodAll_mk1 (shut_bool htb _)
  · rw [hspec']
    exact trodAll_below laidOut bel hty hA hlt
  · rw [hspec']
    have hv2 : ((Rows.OpenSpec.upto s).at F).vars = [] := hvars
    rw [hv2]; rfl

theorem cell_lt {w : World} {b o : Nat} {v : Value} (h : w.cell? ⟨b, o, none⟩ = some v) : b < w.heap.size := by
  rcases Nat.lt_or_ge b w.heap.size with h1 | h1
  · exact h1
  · have : w.heap[b]? = none := Array.getElem?_eq_none h1
    simp [World.cell?, this] at h
section
variable {H : Type} {enc : TypeId × Value → H} {K : Option Nat} {W : World} {t : TypeId} {ts : List TypeId} {vs : List Value} {ds : List (DataW H)} {ps : List MemPlace}
theorem Given.nil_ (h : Given H enc K W [] vs ds ps) : vs = [] := (trodAll_nil h.read).1
theorem reach_tail {d : DataW H} {ds : List (DataW H)} (h : (DataW.weightsEach Tryd.prog (t :: ts) (d :: ds)).all (· ≤ reachBytes) = true) : (DataW.weightsEach Tryd.prog ts ds).all (· ≤ reachBytes) = true := by
  simp only [DataW.weightsEach, List.all_append, Bool.and_eq_true] at h
  exact h.2
theorem Given.cons_ (h : Given H enc K W (t :: ts) vs ds ps) : ∃ v vs' d ds' p q, vs = v :: vs' ∧ ds = d :: ds' ∧ ps = p ++ q ∧ DataW.Trod enc Tryd.prog W 0 (fun _ => true) true t v d p ∧ (∃ base, Value.okWide Tryd.prog W .any base t v) ∧
    (DataW.weightsEach Tryd.prog (t :: ts) (d :: ds')).all (· ≤ reachBytes) = true ∧ (∀ x ∈ p, x.block < W.heap.size) ∧ Given H enc K W ts vs' ds' q ∧ (∀ k, K = some k → Rows.uptoBulk d ≤ k) := by
  obtain ⟨v, vs', d, ds', p, q, rfl, rfl, rfl, h0, r0⟩ := trodAll_cons h.read
  exact ⟨v, vs', d, ds', p, q, rfl, rfl, rfl, h0, h.size 0 t v rfl rfl, h.reach, fun x hx => h.low x (by simp [hx]), ⟨r0, fun x hx => h.low x (by simp [hx]), fun j t' v' h1 h2 => h.size (j + 1) t' v' (by simpa using h1) (by simpa using h2), reach_tail h.reach, fun k hk => by have := h.bulk k hk; simp only [Rows.uptoBulkAll] at this; omega⟩, fun k hk => by have := h.bulk k hk; simp only [Rows.uptoBulkAll] at this; omega⟩
theorem Given.int_ {k : IntKind} (h : Given H enc K W (t :: ts) vs ds ps) (hu : Tryd.prog.underlying t = some (.int k)) :
    ∃ a vs' ds' q, vs = .int k a :: vs' ∧ (Lit.int k a).wf = true ∧ Given H enc K W ts vs' ds' q := by
  obtain ⟨v, vs', d, ds', p, q, rfl, rfl, rfl, h0, ⟨base, hv⟩, _, _, r, _⟩ := h.cons_
  obtain ⟨a, rfl, rfl, rfl, wf⟩ := open_int hu hv h0
  exact ⟨a, vs', ds', q, rfl, wf, r⟩
theorem Given.bool_ (h : Given H enc K W (t :: ts) vs ds ps) (hu : Tryd.prog.underlying t = some .bool) :
    ∃ a vs' ds' q, vs = .bool a :: vs' ∧ Given H enc K W ts vs' ds' q := by
  obtain ⟨v, vs', d, ds', p, q, rfl, rfl, rfl, h0, ⟨base, hv⟩, _, _, r, _⟩ := h.cons_
  obtain ⟨a, rfl, rfl, rfl⟩ := open_bool hu hv h0
  exact ⟨a, vs', ds', q, rfl, r⟩
theorem Given.bytes_ {e : TypeId} (h : Given H enc K W (t :: ts) vs ds ps) (hu : Tryd.prog.underlying t = some (.slice e)) (he : Tryd.prog.underlying e = some (.int .u8)) (hc : Tryd.prog.cellsOf e = 1) (hb : Tryd.prog.bytesOf e = 1) :
    ∃ a n c l vs' ds' q, vs = .slice a n c :: vs' ∧ l.length = n ∧ n ≤ c ∧ c ≤ 140737488351232 ∧ (a = none → c = 0) ∧ (∀ k, K = some k → c ≤ k) ∧ Bs W W.heap.size a l ∧ Given H enc K W ts vs' ds' q := by
  obtain ⟨v, vs', d, ds', p, q, rfl, rfl, rfl, h0, ⟨base, hv⟩, hreach, _, r, hbulk⟩ := h.cons_
  obtain ⟨a, n, c, rfl⟩ := okWide_slice hu hv
  obtain ⟨fuel, hf⟩ := h0
  rcases open_ints hu he hc hf with ⟨hcs, _⟩ | ⟨x, n', c', zs, hcs, _, hl, hm, hz, hd, hcell, hwz⟩
  · simp [Value.cells] at hcs
    obtain ⟨rfl, rfl, rfl⟩ := hcs
    exact ⟨none, 0, 0, [], vs', ds', q, rfl, rfl, Nat.le_refl _, by decide, fun _ => rfl, fun _ _ => Nat.zero_le _, Bs.nil_ _ _ _, r⟩
  · simp [Value.cells] at hcs
    obtain ⟨rfl, rfl, rfl⟩ := hcs
    have hz' : zs.length = c := by simpa using hz
    have hd' : d = .slice (lits .u8 (zs.take n)) (lits .u8 (zs.drop n)) := congrArg Prod.fst hd
    have hr := sized_slice hreach (j := 0) (t := t) (e := e) rfl (by rw [hd']; rfl) hu
    rw [hb] at hr
    have hlens : (lits (H := H) .u8 (zs.take n)).length + (lits (H := H) .u8 (zs.drop n)).length = zs.length := by simp [lits]; omega
    rw [hlens, hz'] at hr
    have hR : reachBytes = 140737488351232 := by decide
    refine ⟨some x, n, c, zs.take n, vs', ds', q, rfl, by rw [List.length_take]; omega, hl, by omega, fun h => (by cases h), fun k hk => by have := hbulk k hk; rw [hd'] at this; simp only [Rows.uptoBulk] at this; have h1 := bulk_len (H := H) (lits (H := H) .u8 (zs.take n)); have h2 := bulk_len (H := H) (lits (H := H) .u8 (zs.drop n)); omega, ⟨fun b hb => bd_u8 (hwz b (List.mem_of_mem_take hb)), fun hp => ?_⟩, r⟩
    have hn : n ≤ zs.length := by omega
    have hlen : (zs.take n).length = n := by rw [List.length_take]; omega
    have h00 := hcell 0 (by omega)
    have hspot : x.spot = none := by simpa [Addr.add] using World.cell?_spot h00
    obtain ⟨b, off, spot⟩ := x
    simp only at hspot
    subst hspot
    have e1 : ∀ i, (⟨b, off, none⟩ : Addr).add i = ⟨b, off + i, none⟩ := fun i => by unfold Addr.add; split <;> simp_all
    refine ⟨b, off, rfl, cell_lt (by rw [e1] at h00; exact h00), fun i hi => ?_⟩
    rw [hlen] at hi
    have := hcell i (by omega)
    rw [e1] at this
    rw [this]
    simp [List.getD_eq_getElem?_getD, hi]
end
end Go.Proofs.YtbeekjfjfcaobaaDoor

set_option linter.unusedVariables false
set_option maxRecDepth 100000
namespace Go.Proofs.YtbeekjfjfcaobaaDoor
open Go.ChangeShapes Go.WideShapes Go.ChangeAt Go.RowKit

/-- one argument -/
structure One (H : Type) (enc : TypeId × Value → H) (K : Option Nat) (W : World) (t : TypeId) (v : Value) (d : DataW H) (p : List MemPlace) : Prop where
  read : DataW.Trod enc Tryd.prog W 0 (fun _ => true) true t v d p
  size : ∃ base, Value.okWide Tryd.prog W .any base t v
  reach : (DataW.weightsEach Tryd.prog [t] [d]).all (· ≤ reachBytes) = true
  low : ∀ x ∈ p, x.block < W.heap.size
  bulk : ∀ k, K = some k → Rows.uptoBulk d ≤ k
section
variable {H : Type} {enc : TypeId × Value → H} {K : Option Nat} {W : World} {t : TypeId} {ts : List TypeId} {v : Value} {d : DataW H} {p : List MemPlace} {vs : List Value} {ds : List (DataW H)} {ps : List MemPlace}
theorem Given.one_ (h : Given H enc K W (t :: ts) vs ds ps) : ∃ v vs' d ds' p q, vs = v :: vs' ∧ One H enc K W t v d p ∧ Given H enc K W ts vs' ds' q := by
  obtain ⟨v, vs', d, ds', p, q, rfl, rfl, rfl, h0, hv, hr, hl, r, hb⟩ := h.cons_
  refine ⟨v, vs', d, ds', p, q, rfl, ⟨h0, hv, ?_, hl, hb⟩, r⟩
  simp only [DataW.weightsEach, List.all_append, Bool.and_eq_true] at hr ⊢
  exact ⟨hr.1, by simp⟩
theorem cell_addr {x : Addr} {u : Value} {w : World} (h : w.cell? (x.add 0) = some u) : ∃ b off, x = ⟨b, off, none⟩ := by
  have hspot : x.spot = none := by simpa [Addr.add] using World.cell?_spot h
  obtain ⟨b, off, spot⟩ := x
  simp only at hspot
  subst hspot
  exact ⟨b, off, rfl⟩
theorem add_off (b off i : Nat) : (⟨b, off, none⟩ : Addr).add i = ⟨b, off + i, none⟩ := by unfold Addr.add; split <;> simp_all
end

/-- the slice that begins at a holds the integers l, in a block below B -/
def Ints (k : IntKind) (w : World) (B : Nat) (a : Option Addr) (l : List Int) : Prop :=
  (∀ n ∈ l, (Lit.int k n).wf = true) ∧ (0 < l.length → ∃ b off, a = some ⟨b, off, none⟩ ∧ b < B ∧ ∀ i, i < l.length → w.cell? ⟨b, off + i, none⟩ = some (.int k (l.getD i 0)))
theorem Ints.below {k : IntKind} {w w' : World} {B : Nat} {a : Option Addr} {l : List Int} (h : Ints k w B a l) (hb : Below B w w') : Ints k w' B a l :=
  ⟨h.1, fun hn => by
    obtain ⟨b, off, e, hlt, hc⟩ := h.2 hn
    exact ⟨b, off, e, hlt, fun i hi => (hb.cell (p := ⟨b, _, none⟩) hlt).trans (hc i hi)⟩⟩
theorem Ints.at_ {k : IntKind} {w : World} {B : Nat} {a : Option Addr} {l : List Int} (h : Ints k w B a l) {i : Nat} (hi : i < l.length) : ∃ b off, a = some ⟨b, off, none⟩ ∧ b < B ∧ w.cell? ⟨b, off + i, none⟩ = some (.int k (l.getD i 0)) ∧ (Lit.int k (l.getD i 0)).wf = true := by
  obtain ⟨b, off, e, hlt, hc⟩ := h.2 (by omega)
  have hm : l.getD i 0 ∈ l := by rw [List.getD_eq_getElem?_getD, List.getElem?_eq_getElem hi]; exact List.getElem_mem hi
  exact ⟨b, off, e, hlt, hc i hi, h.1 _ hm⟩
theorem bd_u16 {n : Int} (h : (Lit.int .u16 n).wf = true) : 0 ≤ n ∧ n ≤ 65535 := by
  simp [Lit.wf, IntKind.min, IntKind.max, IntKind.signed, IntKind.bits] at h; omega

section
variable {H : Type} {enc : TypeId × Value → H} {K : Option Nat} {W : World} {t e : TypeId} {v : Value} {d : DataW H} {p : List MemPlace}
theorem One.ints {k : IntKind} (h : One H enc K W t v d p) (hu : Tryd.prog.underlying t = some (.slice e)) (he : Tryd.prog.underlying e = some (.int k)) (hc : Tryd.prog.cellsOf e = 1) {eb : Nat} (hb : Tryd.prog.bytesOf e = eb) :
    ∃ a n c l, v = .slice a n c ∧ l.length = n ∧ n ≤ c ∧ c * eb ≤ 140737488351232 ∧ (∀ q, K = some q → c ≤ q) ∧ (a = none → c = 0) ∧ Ints k W W.heap.size a l := by
  obtain ⟨base, hv⟩ := h.size
  obtain ⟨a, n, c, rfl⟩ := okWide_slice hu hv
  obtain ⟨fuel, hf⟩ := h.read
  have hbulk := h.bulk
  rcases open_ints hu he hc hf with ⟨hcs, _⟩ | ⟨x, n', c', zs, hcs, _, hl, hm, hz, hd, hcell, hwz⟩
  · simp [Value.cells] at hcs
    obtain ⟨rfl, rfl, rfl⟩ := hcs
    exact ⟨none, 0, 0, [], rfl, rfl, Nat.le_refl _, by simp, fun _ _ => Nat.zero_le _, fun _ => rfl, ⟨fun n hn => (by cases hn), fun hn => absurd hn (by simp)⟩⟩
  · simp [Value.cells] at hcs
    obtain ⟨rfl, rfl, rfl⟩ := hcs
    have hz' : zs.length = c := by simpa using hz
    have hd' : d = .slice (lits k (zs.take n)) (lits k (zs.drop n)) := congrArg Prod.fst hd
    have hr := sized_slice h.reach (j := 0) (t := t) (e := e) rfl (by rw [hd']; rfl) hu
    rw [hb] at hr
    have hlens : (lits (H := H) k (zs.take n)).length + (lits (H := H) k (zs.drop n)).length = zs.length := by simp [lits]; omega
    rw [hlens, hz'] at hr
    have hR : reachBytes = 140737488351232 := by decide
    refine ⟨some x, n, c, zs.take n, rfl, by rw [List.length_take]; omega, hl, by omega, fun q hq => ?_, fun hq => (by cases hq), ⟨fun b hb => hwz b (List.mem_of_mem_take hb), fun hp => ?_⟩⟩
    · have := hbulk q hq
      rw [hd'] at this
      simp only [Rows.uptoBulk] at this
      have h1 := bulk_len (H := H) (lits (H := H) k (zs.take n)); have h2 := bulk_len (H := H) (lits (H := H) k (zs.drop n)); omega
    have hn : n ≤ zs.length := by omega
    have hlen : (zs.take n).length = n := by rw [List.length_take]; omega
    have h00 := hcell 0 (by omega)
    obtain ⟨b, off, rfl⟩ := cell_addr h00
    refine ⟨b, off, rfl, cell_lt (by rw [add_off] at h00; exact h00), fun i hi => ?_⟩
    rw [hlen] at hi
    have := hcell i (by omega)
    rw [add_off] at this
    rw [this]
    simp [List.getD_eq_getElem?_getD, hi]

theorem mapM_ints {k : IntKind} {fuel base : Nat} {sp : Nat → Bool} {held : Bool} {e : TypeId} (he : Tryd.prog.underlying e = some (.int k)) : ∀ (cs : List Value) (L : List Nat) (xs : List (DataW H × List MemPlace)),
    (L.mapM fun i => DataW.trod enc Tryd.prog W base sp held fuel e ((cs.drop (i * 1)).take 1)) = some xs → ∀ i ∈ L, ∃ n, cs[i]? = some (.int k n) ∧ (Lit.int k n).wf = true
  | cs, [], xs, h => by simp
  | cs, i :: L, xs, h => by
    rw [List.mapM_cons] at h
    simp only [bind, Option.bind_eq_some_iff, pure, Option.some.injEq] at h
    obtain ⟨y, hy, ys, hys, rfl⟩ := h
    intro j hj
    rcases List.mem_cons.1 hj with rfl | hj
    · obtain ⟨a, ea, _, wa⟩ := DataW.trod_int he hy
      refine ⟨a, ?_, wa⟩
      have h1 : ((cs.drop (j * 1)).take 1)[0]? = some (.int k a) := by rw [ea]; rfl
      simpa using h1
    · exact mapM_ints he cs L ys hys j hj
theorem One.arr {k : IntKind} {n : Nat} (h : One H enc K W t v d p) (hu : Tryd.prog.underlying t = some (.array n e)) (he : Tryd.prog.underlying e = some (.int k)) (hc : Tryd.prog.cellsOf e = 1) (ht : Tryd.prog.cellsOf t = n) :
    ∃ l : List Int, v = .agg (l.map (Value.int k)).toArray ∧ l.length = n ∧ ∀ x ∈ l, (Lit.int k x).wf = true := by
  obtain ⟨base, hv⟩ := h.size
  simp only [Value.okWide, hu] at hv
  obtain ⟨cs, rfl, hcs, _⟩ := hv
  rw [ht] at hcs
  obtain ⟨fuel, hf⟩ := h.read
  cases fuel with
  | zero => simp [DataW.trod] at hf
  | succ m =>
    rw [DataW.trod_step] at hf
    unfold DataW.trodStep at hf
    simp only [hu, Value.cells, hc] at hf
    rw [if_pos (by rw [ht]; simpa using hcs)] at hf
    simp only [Option.map_eq_some_iff] at hf
    obtain ⟨ys, hy, _⟩ := hf
    have hall := mapM_ints he cs.toList _ ys hy
    have hget : ∀ i, i < n → ∃ x, cs.toList[i]? = some (.int k x) ∧ (Lit.int k x).wf = true := fun i hi => hall i (List.mem_range.2 hi)
    obtain ⟨f, hf⟩ := Go.Deep.choose_lt (n := n) (p := fun i x => cs.toList[i]? = some (.int k x) ∧ (Lit.int k x).wf = true) hget
    refine ⟨(List.range n).map f, ?_, by simp, fun x hx => ?_⟩
    · congr 1
      apply Array.ext'
      simp only [List.map_map]
      apply List.ext_getElem?
      intro i
      by_cases hi : i < n
      · rw [(hf i hi).1]; simp [hi]
      · rw [List.getElem?_eq_none (by simp; omega), List.getElem?_eq_none (by simp; omega)]
    · obtain ⟨i, hi, rfl⟩ := List.mem_map.1 hx
      exact (hf i (List.mem_range.1 hi)).2
end
end Go.Proofs.YtbeekjfjfcaobaaDoor
