/- A region that draws its order, gone through by what each operation's value is good for: one case an operation, whatever the order. No condition; no program is named. A region that draws its order, gone through by what each operation's value is and by which operations have been done: one case an operation, whatever the order. No condition; no program is named. A key that is not in a map is put into it by two operations: an entry is made, then its value is stored; whatever happens between them to other blocks. No condition; no program is named. -/
import Derived.Orders
import Derived.WalkKit
import Derived.WideKeyEntry
import Derived.Maps.OwnSet
set_option linter.unusedVariables false
set_option maxRecDepth 100000
namespace Go.Proofs.YtdcpibglbanchaaDoor
open Go.RowKit

section
variable {P : Program} {ops : Array Oper} {Q : Exit → Act → World → Prop}

theorem act_put_at (a : Act) (d t : Nat) (v : Value) (h : d < a.tmps.size) : (a.put (some d) v).eval (.tmp t) = if t = d then v else a.eval (.tmp t) := by
  simp only [Act.put, Act.eval, Array.getD_eq_getD_getElem?]
  split
  · rename_i e; subst e; simp [h]
  · rename_i e; rw [Array.getElem?_setIfInBounds_ne (fun q => e q.symm)]
theorem act_put_size (a : Act) (o : Option Tmp) (v : Value) : (a.put o v).tmps.size = a.tmps.size := by cases o <;> simp [Act.put]
theorem act_put_defers (a : Act) (o : Option Tmp) (v : Value) : (a.put o v).defers = a.defers := by cases o <;> rfl

/-- where the listed operations have come to -/
structure St (ops : Array Oper) (a0 : Act) (C : World → Prop) (G : Nat → Value → World → Prop) (listed : Array Bool) (a : Act) (w : World) : Prop where
  world : C w
  size : a.tmps.size = a0.tmps.size
  defers : a.defers = a0.defers
  good : ∀ (i : Nat) (o : Oper) (d : Tmp), ops[i]? = some o → listed[i]? = some true → o.dst = some d → G i (a.eval (.tmp d)) w
  same : ∀ t, (∀ (i : Nat) (o : Oper), ops[i]? = some o → o.dst ≠ some t) → a.eval (.tmp t) = a0.eval (.tmp t)

theorem count_set : ∀ (l : List Bool) (i : Nat), l[i]? = some false → ((l.set i true).filter (!·)).length + 1 = (l.filter (!·)).length
  | [], i, h => by simp at h
  | b :: l, 0, h => by simp at h; subst h; simp
  | b :: l, i + 1, h => by
    have ih := count_set l i (by simpa using h)
    cases b <;> simp <;> omega
theorem all_listed {listed : Array Bool} (hs : listed.size = ops.size) (hord : ∀ (i : Nat) (o : Oper), ops[i]? = some o → ∀ e ∈ o.after, e.on < i) (h : Region.ready .any ops listed = []) : ∀ n i, i < n → i < ops.size → listed[i]? = some true := by
  intro n
  induction n with
  | zero => intro i hi; omega
  | succ n ih =>
    intro i hi hn
    by_cases hlt : i < n
    · exact ih i hlt hn
    · have hin : i = n := by omega
      subst hin
      have hil : i < listed.size := by omega
      cases hb : listed[i] with
      | true => rw [Array.getElem?_eq_getElem hil, hb]
      | false =>
        exfalso
        have : i ∈ Region.ready .any ops listed := mem_ready.2 ⟨by simp [hil, hb], ops[i], by simp [hn], fun e he _ => by
          have h1 := hord i ops[i] (by simp [hn]) e he
          have h2 := ih e.on h1 (by omega)
          simp [h2]⟩
        rw [h] at this; cases this
theorem no_ready {listed : Array Bool} (h : ∀ i : Nat, i < ops.size → listed[i]? = some true) : Region.ready .any ops listed = [] := by
  rw [List.eq_nil_iff_forall_not_mem]
  intro i hi
  obtain ⟨h1, o, ho, _⟩ := mem_ready.1 hi
  have hlt : i < ops.size := by
    rcases Nat.lt_or_ge i ops.size with q | q
    · exact q
    · rw [Array.getElem?_eq_none q] at ho; cases ho
  have := h i hlt
  simp [this] at h1

theorem wpAny_inv {a0 : Act} {C : World → Prop} {G : Nat → Value → World → Prop} {R : World → World → Prop}
    (hord : ∀ (i : Nat) (o : Oper), ops[i]? = some o → ∀ e ∈ o.after, e.on < i)
    (hdst : ∀ (i j : Nat) (oi oj : Oper) (d : Tmp), ops[i]? = some oi → ops[j]? = some oj → oi.dst = some d → oj.dst = some d → i = j)
    (hin : ∀ (i : Nat) (o : Oper) (d : Tmp), ops[i]? = some o → o.dst = some d → d < a0.tmps.size)
    (hstab : ∀ i v w w', G i v w → R w w' → G i v w')
    (hstep : ∀ (i : Nat) (o : Oper) (a : Act) (w : World), ops[i]? = some o → C w → (∀ e ∈ o.after, Region.binds .any e = true → ∀ (oj : Oper) (d : Tmp), ops[e.on]? = some oj → oj.dst = some d → G e.on (a.eval (.tmp d)) w) → (∀ t : Tmp, (∀ (i : Nat) (o : Oper), ops[i]? = some o → o.dst ≠ some t) → a.eval (.tmp t) = a0.eval (.tmp t)) →
      wpOp P ops Q i (fun a' w' => ∃ v, a' = a.put o.dst v ∧ (∀ d, o.dst = some d → G i v w') ∧ C w' ∧ R w w') a w)
    (hfin : ∀ (a : Act) (w : World), C w → (∀ (i : Nat) (o : Oper) (d : Tmp), ops[i]? = some o → o.dst = some d → G i (a.eval (.tmp d)) w) → (∀ t : Tmp, (∀ (i : Nat) (o : Oper), ops[i]? = some o → o.dst ≠ some t) → a.eval (.tmp t) = a0.eval (.tmp t)) → a.tmps.size = a0.tmps.size → a.defers = a0.defers → Q .normal a w) :
    ∀ (fuel : Nat) (listed : Array Bool) (a : Act) (w : World), listed.size = ops.size → (listed.toList.filter (!·)).length ≤ fuel → St ops a0 C G listed a w → wpAny P .any ops Q fuel listed a w := by
  have fin : ∀ (listed : Array Bool) (a : Act) (w : World), (∀ i : Nat, i < ops.size → listed[i]? = some true) → St ops a0 C G listed a w → Q .normal a w := fun listed a w hall h =>
    hfin a w h.world (fun i o d ho hd => h.good i o d ho (hall i (by
      rcases Nat.lt_or_ge i ops.size with q | q
      · exact q
      · rw [Array.getElem?_eq_none q] at ho; cases ho)) hd) h.same h.size h.defers
  intro fuel
  induction fuel with
  | zero =>
    intro listed a w hs hc h
    have hall : ∀ i : Nat, i < ops.size → listed[i]? = some true := fun i hi => by
      have hil : i < listed.size := by omega
      cases hb : listed[i] with
      | true => rw [Array.getElem?_eq_getElem hil, hb]
      | false =>
        exfalso
        have hmem : false ∈ listed.toList.filter (!·) := by rw [List.mem_filter]; exact ⟨by rw [← hb]; simp, rfl⟩
        have := List.length_pos_of_mem hmem
        omega
    exact ⟨no_ready hall, fin listed a w hall h⟩
  | succ fuel ih =>
    intro listed a w hs hc h
    refine ⟨fun hr => fin listed a w (fun i hi => all_listed hs hord hr (i + 1) i (by omega) hi) h, fun i hi => ?_⟩
    obtain ⟨h1, o, ho, hpre⟩ := mem_ready.1 hi
    have hlt : i < listed.size := by
      rcases Nat.lt_or_ge i ops.size with q | q
      · omega
      · rw [Array.getElem?_eq_none q] at ho; cases ho
    have hfi : listed[i]? = some false := by
      rw [Array.getElem?_eq_getElem hlt]
      simp [hlt] at h1
      rw [h1]
    have hst := hstep i o a w ho h.world (fun e he hb oj d hoj hd => h.good e.on oj d hoj (by
      have h2 := hpre e he hb
      rcases Nat.lt_or_ge e.on listed.size with q | q
      · simp [q] at h2; rw [Array.getElem?_eq_getElem q, h2]
      · have : e.on < ops.size := by have := hord i o ho e he; omega
        omega) hd) h.same
    refine wpOp_mono (fun a' w' hk => ?_) hst
    obtain ⟨v, rfl, hv, hC, hR⟩ := hk
    refine ih (listed.setIfInBounds i true) _ w' (by simpa using hs) ?_ ⟨hC, by rw [act_put_size]; exact h.size, by rw [act_put_defers]; exact h.defers, fun j oj d hoj hl hd => ?_, fun t ht => ?_⟩
    · have := count_set listed.toList i (by simpa using hfi)
      rw [Array.toList_setIfInBounds]
      omega
    · by_cases hji : j = i
      · subst hji
        rw [ho] at hoj; injection hoj with hoj; subst hoj
        rw [hd, act_put_at _ _ _ _ (by rw [h.size]; exact hin _ _ _ ho hd), if_pos rfl]
        exact hv d hd
      · rw [Array.getElem?_setIfInBounds_ne (fun e => hji e.symm)] at hl
        have hg := h.good j oj d hoj hl hd
        cases hdo : o.dst with
        | none => exact hstab j _ w w' (by simpa [Act.put] using hg) hR
        | some d' =>
          rw [act_put_at _ _ _ _ (by rw [h.size]; exact hin _ _ _ ho hdo), if_neg (fun e => hji (hdst j i oj o d hoj ho hd (by rw [hdo, e])))]
          exact hstab j _ w w' hg hR
    · cases hdo : o.dst with
      | none => simpa [Act.put] using h.same t ht
      | some d' =>
        rw [act_put_at _ _ _ _ (by rw [h.size]; exact hin _ _ _ ho hdo), if_neg (fun e => ht i o ho (by rw [hdo, e]))]
        exact h.same t ht
theorem wpOp_plain {i : Nat} {o : Oper} {a : Act} {w : World} {K : Act → World → Prop} (ho : ops[i]? = some o) (hg : o.guard = none) (h : o.wp P a w K Q) : wpOp P ops Q i K a w := by
  unfold wpOp
  simp only [ho, Region.wanted, hg, if_true]
  exact .inl h
theorem op_value {o : Oper} {a : Act} {w w' : World} {K : Act → World → Prop} {v : Value} (h : (execOp a.eval o).run P w = .ok (.value v) w') (hK : K (a.put o.dst v) w') : o.wp P a w K Q := by
  unfold Oper.wp; rw [h]; exact hK
theorem op_call {o : Oper} {a : Act} {w : World} {K : Act → World → Prop} {f : FuncId} {args : Array Value} {R : Value → World → Prop} (h : (execOp a.eval o).run P w = .ok (.enter f args) w) (hc : Calls P f args w fun e w' => ∃ v, e = .returned v ∧ R v w') (hK : ∀ v w', R v w' → K (a.put o.dst v) w') : o.wp P a w K Q := by
  unfold Oper.wp; rw [h, Oper.upon_enter]
  refine hc.mono fun e w' ⟨v, he, hr⟩ => ?_
  subst he
  exact hK v w' hr
/-- the region itself -/
theorem wp_region_inv {id : Nat} {a0 : Act} {w0 : World} {C : World → Prop} {G : Nat → Value → World → Prop} {R : World → World → Prop} (hm : P.follows .mixedOrders = true)
    (hord : ∀ (i : Nat) (o : Oper), ops[i]? = some o → ∀ e ∈ o.after, e.on < i)
    (hdst : ∀ (i j : Nat) (oi oj : Oper) (d : Tmp), ops[i]? = some oi → ops[j]? = some oj → oi.dst = some d → oj.dst = some d → i = j)
    (hin : ∀ (i : Nat) (o : Oper) (d : Tmp), ops[i]? = some o → o.dst = some d → d < a0.tmps.size) (hC : C { w0 with drawn := w0.drawn + 1 })
    (hstab : ∀ i v w w', G i v w → R w w' → G i v w')
    (hstep : ∀ (i : Nat) (o : Oper) (a : Act) (w : World), ops[i]? = some o → C w → (∀ e ∈ o.after, Region.binds .any e = true → ∀ (oj : Oper) (d : Tmp), ops[e.on]? = some oj → oj.dst = some d → G e.on (a.eval (.tmp d)) w) → (∀ t : Tmp, (∀ (i : Nat) (o : Oper), ops[i]? = some o → o.dst ≠ some t) → a.eval (.tmp t) = a0.eval (.tmp t)) →
      wpOp P ops Q i (fun a' w' => ∃ v, a' = a.put o.dst v ∧ (∀ d, o.dst = some d → G i v w') ∧ C w' ∧ R w w') a w)
    (hfin : ∀ (a : Act) (w : World), C w → (∀ (i : Nat) (o : Oper) (d : Tmp), ops[i]? = some o → o.dst = some d → G i (a.eval (.tmp d)) w) → (∀ t : Tmp, (∀ (i : Nat) (o : Oper), ops[i]? = some o → o.dst ≠ some t) → a.eval (.tmp t) = a0.eval (.tmp t)) → a.tmps.size = a0.tmps.size → a.defers = a0.defers → Q .normal a w) :
    (Code.region id ops true).wp P Q a0 w0 :=
  wp_region_any hm (wpAny_inv hord hdst hin hstab hstep hfin ops.size (Array.replicate ops.size false) a0 _ (by simp) (by
    simp) ⟨hC, rfl, rfl, fun i o d ho hl _ => by
      have hlt : i < ops.size := by
        rcases Nat.lt_or_ge i ops.size with q | q
        · exact q
        · rw [Array.getElem?_eq_none q] at ho; cases ho
      simp [hlt] at hl, fun t _ => rfl⟩)
/-- an operation that yields a value and leaves the world -/
theorem step_pure {C : World → Prop} {G : Nat → Value → World → Prop} {R : World → World → Prop} {i : Nat} {o : Oper} {a : Act} {w : World} {v : Value} (ho : ops[i]? = some o) (hg : o.guard = none) (hrun : (execOp a.eval o).run P w = .ok (.value v) w) (hG : G i v w) (hC : C w) (hR : R w w) :
    wpOp P ops Q i (fun a' w' => ∃ v, a' = a.put o.dst v ∧ (∀ d, o.dst = some d → G i v w') ∧ C w' ∧ R w w') a w :=
  wpOp_plain ho hg (op_value hrun ⟨v, rfl, fun _ _ => hG, hC, hR⟩)
/-- an operation that yields a value and makes memory -/
theorem step_mem {C : World → Prop} {G : Nat → Value → World → Prop} {R : World → World → Prop} {i : Nat} {o : Oper} {a : Act} {w w' : World} {v : Value} (ho : ops[i]? = some o) (hg : o.guard = none) (hrun : (execOp a.eval o).run P w = .ok (.value v) w') (hG : G i v w') (hC : C w') (hR : R w w') :
    wpOp P ops Q i (fun a' w' => ∃ v, a' = a.put o.dst v ∧ (∀ d, o.dst = some d → G i v w') ∧ C w' ∧ R w w') a w :=
  wpOp_plain ho hg (op_value hrun ⟨v, rfl, fun _ _ => hG, hC, hR⟩)
/-- a call -/
theorem step_call {C : World → Prop} {G : Nat → Value → World → Prop} {R : World → World → Prop} {i : Nat} {o : Oper} {a : Act} {w : World} {f : FuncId} {args : Array Value} {v : Value} (ho : ops[i]? = some o) (hg : o.guard = none) (hrun : (execOp a.eval o).run P w = .ok (.enter f args) w)
    (hc : Calls P f args w fun e w' => e = .returned v ∧ G i v w' ∧ C w' ∧ R w w') :
    wpOp P ops Q i (fun a' w' => ∃ v, a' = a.put o.dst v ∧ (∀ d, o.dst = some d → G i v w') ∧ C w' ∧ R w w') a w :=
  wpOp_plain ho hg (op_call (R := fun u w' => u = v ∧ G i v w' ∧ C w' ∧ R w w') hrun (hc.mono fun e w' h => ⟨v, h.1, rfl, h.2⟩) fun u w' h => by
    obtain ⟨rfl, h1, h2, h3⟩ := h
    exact ⟨u, rfl, fun _ _ => h1, h2, h3⟩)

def ordB (ops : Array Oper) : Bool := (List.range ops.size).all fun i => match ops[i]? with | some o => o.after.all fun e => decide (e.on < i) | none => true
theorem ordB_spec (h : ordB ops = true) : ∀ (i : Nat) (o : Oper), ops[i]? = some o → ∀ e ∈ o.after, e.on < i := fun i o ho e he => by
  have hlt : i < ops.size := by
    rcases Nat.lt_or_ge i ops.size with q | q
    · exact q
    · rw [Array.getElem?_eq_none q] at ho; cases ho
  have h1 := List.all_eq_true.1 h i (List.mem_range.2 hlt)
  rw [ho] at h1
  have h2 := Array.all_eq_true'.1 h1 e he
  simpa using h2
def dstB (ops : Array Oper) : Bool := (List.range ops.size).all fun i => (List.range ops.size).all fun j => i == j || (match ops[i]?.bind (·.dst), ops[j]?.bind (·.dst) with | some d, some d' => d != d' | _, _ => true)
theorem lt_of_some {i : Nat} {o : Oper} (ho : ops[i]? = some o) : i < ops.size := by
  rcases Nat.lt_or_ge i ops.size with q | q
  · exact q
  · rw [Array.getElem?_eq_none q] at ho; cases ho
theorem dstB_spec (h : dstB ops = true) : ∀ (i j : Nat) (oi oj : Oper) (d : Tmp), ops[i]? = some oi → ops[j]? = some oj → oi.dst = some d → oj.dst = some d → i = j := fun i j oi oj d hi hj di dj => by
  have h1 := List.all_eq_true.1 (List.all_eq_true.1 h i (List.mem_range.2 (lt_of_some hi))) j (List.mem_range.2 (lt_of_some hj))
  rw [hi, hj] at h1
  simp [di, dj] at h1
  exact h1
def inB (ops : Array Oper) (n : Nat) : Bool := ops.all fun o => match o.dst with | some d => decide (d < n) | none => true
theorem inB_spec {n : Nat} (h : inB ops n = true) : ∀ (i : Nat) (o : Oper) (d : Tmp), ops[i]? = some o → o.dst = some d → d < n := fun i o d ho hd => by
  have h1 := Array.all_eq_true'.1 h o (Array.mem_of_getElem? ho)
  rw [hd] at h1
  simpa using h1
def notB (ops : Array Oper) (t : Tmp) : Bool := ops.all fun o => o.dst != some t
theorem notB_spec {t : Tmp} (h : notB ops t = true) : ∀ (i : Nat) (o : Oper), ops[i]? = some o → o.dst ≠ some t := fun i o ho => by
  have h1 := Array.all_eq_true'.1 h o (Array.mem_of_getElem? ho)
  simpa using h1
end
end Go.Proofs.YtdcpibglbanchaaDoor

set_option linter.unusedVariables false
set_option maxRecDepth 100000
namespace Go.Proofs.YtdcpibglbanchaaDoor
open Go.RowKit

section
variable {P : Program} {ops : Array Oper} {Q : Exit → Act → World → Prop}

/-- where the listed operations have come to -/
structure StL (ops : Array Oper) (a0 : Act) (C : Array Bool → World → Prop) (G : Nat → Value → Prop) (listed : Array Bool) (a : Act) (w : World) : Prop where
  world : C listed w
  size : a.tmps.size = a0.tmps.size
  defers : a.defers = a0.defers
  good : ∀ (i : Nat) (o : Oper) (d : Tmp), ops[i]? = some o → listed[i]? = some true → o.dst = some d → G i (a.eval (.tmp d))
  same : ∀ t, (∀ (i : Nat) (o : Oper), ops[i]? = some o → o.dst ≠ some t) → a.eval (.tmp t) = a0.eval (.tmp t)

theorem all_listedL {listed : Array Bool} (hs : listed.size = ops.size) (hord : ∀ (i : Nat) (o : Oper), ops[i]? = some o → ∀ e ∈ o.after, Region.binds .any e = true → e.on < i) (h : Region.ready .any ops listed = []) : ∀ n i, i < n → i < ops.size → listed[i]? = some true := by
  intro n
  induction n with
  | zero => intro i hi; omega
  | succ n ih =>
    intro i hi hn
    by_cases hlt : i < n
    · exact ih i hlt hn
    · have hin : i = n := by omega
      subst hin
      have hil : i < listed.size := by omega
      cases hb : listed[i] with
      | true => rw [Array.getElem?_eq_getElem hil, hb]
      | false =>
        exfalso
        have : i ∈ Region.ready .any ops listed := mem_ready.2 ⟨by simp [hil, hb], ops[i], by simp [hn], fun e he hbi => by
          have h1 := hord i ops[i] (by simp [hn]) e he hbi
          have h2 := ih e.on h1 (by omega)
          simp [h2]⟩
        rw [h] at this; cases this
def ordL (ops : Array Oper) : Bool := (List.range ops.size).all fun i => match ops[i]? with | some o => o.after.all fun e => !(Region.binds .any e) || decide (e.on < i) | none => true
theorem ordL_spec (h : ordL ops = true) : ∀ (i : Nat) (o : Oper), ops[i]? = some o → ∀ e ∈ o.after, Region.binds .any e = true → e.on < i := fun i o ho e he hb => by
  have hlt : i < ops.size := by
    rcases Nat.lt_or_ge i ops.size with q | q
    · exact q
    · rw [Array.getElem?_eq_none q] at ho; cases ho
  have h1 := List.all_eq_true.1 h i (List.mem_range.2 hlt)
  rw [ho] at h1
  have h2 := Array.all_eq_true'.1 h1 e he
  rw [hb] at h2
  simpa using h2
theorem wpAny_listed {a0 : Act} {C : Array Bool → World → Prop} {G : Nat → Value → Prop}
    (hord : ∀ (i : Nat) (o : Oper), ops[i]? = some o → ∀ e ∈ o.after, Region.binds .any e = true → e.on < i)
    (hdst : ∀ (i j : Nat) (oi oj : Oper) (d : Tmp), ops[i]? = some oi → ops[j]? = some oj → oi.dst = some d → oj.dst = some d → i = j)
    (hin : ∀ (i : Nat) (o : Oper) (d : Tmp), ops[i]? = some o → o.dst = some d → d < a0.tmps.size)
    (hstep : ∀ (i : Nat) (o : Oper) (a : Act) (listed : Array Bool) (w : World), ops[i]? = some o → listed[i]? = some false → C listed w → (∀ e ∈ o.after, Region.binds .any e = true → listed[e.on]? = some true ∧ ∀ (oj : Oper) (d : Tmp), ops[e.on]? = some oj → oj.dst = some d → G e.on (a.eval (.tmp d))) → (∀ t : Tmp, (∀ (i : Nat) (o : Oper), ops[i]? = some o → o.dst ≠ some t) → a.eval (.tmp t) = a0.eval (.tmp t)) →
      wpOp P ops Q i (fun a' w' => ∃ v, a' = a.put o.dst v ∧ (∀ d, o.dst = some d → G i v) ∧ C (listed.setIfInBounds i true) w') a w)
    (hfin : ∀ (a : Act) (listed : Array Bool) (w : World), (∀ i : Nat, i < ops.size → listed[i]? = some true) → C listed w → (∀ (i : Nat) (o : Oper) (d : Tmp), ops[i]? = some o → o.dst = some d → G i (a.eval (.tmp d))) → (∀ t : Tmp, (∀ (i : Nat) (o : Oper), ops[i]? = some o → o.dst ≠ some t) → a.eval (.tmp t) = a0.eval (.tmp t)) → a.tmps.size = a0.tmps.size → a.defers = a0.defers → Q .normal a w) :
    ∀ (fuel : Nat) (listed : Array Bool) (a : Act) (w : World), listed.size = ops.size → (listed.toList.filter (!·)).length ≤ fuel → StL ops a0 C G listed a w → wpAny P .any ops Q fuel listed a w := by
  have fin : ∀ (listed : Array Bool) (a : Act) (w : World), (∀ i : Nat, i < ops.size → listed[i]? = some true) → StL ops a0 C G listed a w → Q .normal a w := fun listed a w hall h =>
    hfin a listed w hall h.world (fun i o d ho hd => h.good i o d ho (hall i (by
      rcases Nat.lt_or_ge i ops.size with q | q
      · exact q
      · rw [Array.getElem?_eq_none q] at ho; cases ho)) hd) h.same h.size h.defers
  intro fuel
  induction fuel with
  | zero =>
    intro listed a w hs hc h
    have hall : ∀ i : Nat, i < ops.size → listed[i]? = some true := fun i hi => by
      have hil : i < listed.size := by omega
      cases hb : listed[i] with
      | true => rw [Array.getElem?_eq_getElem hil, hb]
      | false =>
        exfalso
        have hmem : false ∈ listed.toList.filter (!·) := by rw [List.mem_filter]; exact ⟨by rw [← hb]; simp, rfl⟩
        have := List.length_pos_of_mem hmem
        omega
    exact ⟨no_ready hall, fin listed a w hall h⟩
  | succ fuel ih =>
    intro listed a w hs hc h
    refine ⟨fun hr => fin listed a w (fun i hi => all_listedL hs hord hr (i + 1) i (by omega) hi) h, fun i hi => ?_⟩
    obtain ⟨h1, o, ho, hpre⟩ := mem_ready.1 hi
    have hlt : i < listed.size := by
      rcases Nat.lt_or_ge i ops.size with q | q
      · omega
      · rw [Array.getElem?_eq_none q] at ho; cases ho
    have hfi : listed[i]? = some false := by
      rw [Array.getElem?_eq_getElem hlt]
      simp [hlt] at h1
      rw [h1]
    have hst := hstep i o a listed w ho hfi h.world (fun e he hb => by
      have hl : listed[e.on]? = some true := by
        have h2 := hpre e he hb
        rcases Nat.lt_or_ge e.on listed.size with q | q
        · simp [q] at h2; rw [Array.getElem?_eq_getElem q, h2]
        · have : e.on < ops.size := by have := hord i o ho e he hb; omega
          omega
      exact ⟨hl, fun oj d hoj hd => h.good e.on oj d hoj hl hd⟩) h.same
    refine wpOp_mono (fun a' w' hk => ?_) hst
    obtain ⟨v, rfl, hv, hC⟩ := hk
    refine ih (listed.setIfInBounds i true) _ w' (by simpa using hs) ?_ ⟨hC, by rw [act_put_size]; exact h.size, by rw [act_put_defers]; exact h.defers, fun j oj d hoj hl hd => ?_, fun t ht => ?_⟩
    · have := count_set listed.toList i (by simpa using hfi)
      rw [Array.toList_setIfInBounds]
      omega
    · by_cases hji : j = i
      · subst hji
        rw [ho] at hoj; injection hoj with hoj; subst hoj
        rw [hd, act_put_at _ _ _ _ (by rw [h.size]; exact hin _ _ _ ho hd), if_pos rfl]
        exact hv d hd
      · rw [Array.getElem?_setIfInBounds_ne (fun e => hji e.symm)] at hl
        have hg := h.good j oj d hoj hl hd
        cases hdo : o.dst with
        | none => simpa [Act.put] using hg
        | some d' =>
          rw [act_put_at _ _ _ _ (by rw [h.size]; exact hin _ _ _ ho hdo), if_neg (fun e => hji (hdst j i oj o d hoj ho hd (by rw [hdo, e])))]
          exact hg
    · cases hdo : o.dst with
      | none => simpa [Act.put] using h.same t ht
      | some d' =>
        rw [act_put_at _ _ _ _ (by rw [h.size]; exact hin _ _ _ ho hdo), if_neg (fun e => ht i o ho (by rw [hdo, e]))]
        exact h.same t ht
/-- the region itself -/
theorem wp_region_listed {id : Nat} {a0 : Act} {w0 : World} {C : Array Bool → World → Prop} {G : Nat → Value → Prop} (hm : P.follows .mixedOrders = true)
    (hord : ∀ (i : Nat) (o : Oper), ops[i]? = some o → ∀ e ∈ o.after, Region.binds .any e = true → e.on < i)
    (hdst : ∀ (i j : Nat) (oi oj : Oper) (d : Tmp), ops[i]? = some oi → ops[j]? = some oj → oi.dst = some d → oj.dst = some d → i = j)
    (hin : ∀ (i : Nat) (o : Oper) (d : Tmp), ops[i]? = some o → o.dst = some d → d < a0.tmps.size) (hC : C (Array.replicate ops.size false) { w0 with drawn := w0.drawn + 1 })
    (hstep : ∀ (i : Nat) (o : Oper) (a : Act) (listed : Array Bool) (w : World), ops[i]? = some o → listed[i]? = some false → C listed w → (∀ e ∈ o.after, Region.binds .any e = true → listed[e.on]? = some true ∧ ∀ (oj : Oper) (d : Tmp), ops[e.on]? = some oj → oj.dst = some d → G e.on (a.eval (.tmp d))) → (∀ t : Tmp, (∀ (i : Nat) (o : Oper), ops[i]? = some o → o.dst ≠ some t) → a.eval (.tmp t) = a0.eval (.tmp t)) →
      wpOp P ops Q i (fun a' w' => ∃ v, a' = a.put o.dst v ∧ (∀ d, o.dst = some d → G i v) ∧ C (listed.setIfInBounds i true) w') a w)
    (hfin : ∀ (a : Act) (listed : Array Bool) (w : World), (∀ i : Nat, i < ops.size → listed[i]? = some true) → C listed w → (∀ (i : Nat) (o : Oper) (d : Tmp), ops[i]? = some o → o.dst = some d → G i (a.eval (.tmp d))) → (∀ t : Tmp, (∀ (i : Nat) (o : Oper), ops[i]? = some o → o.dst ≠ some t) → a.eval (.tmp t) = a0.eval (.tmp t)) → a.tmps.size = a0.tmps.size → a.defers = a0.defers → Q .normal a w) :
    (Code.region id ops true).wp P Q a0 w0 :=
  wp_region_any hm (wpAny_listed hord hdst hin hstep hfin ops.size (Array.replicate ops.size false) a0 _ (by simp) (by
    simp) ⟨hC, rfl, rfl, fun i o d ho hl _ => by
      have hlt : i < ops.size := by
        rcases Nat.lt_or_ge i ops.size with q | q
        · exact q
        · rw [Array.getElem?_eq_none q] at ho; cases ho
      simp [hlt] at hl, fun t _ => rfl⟩)
/-- an operation that yields a value -/
theorem step_val {C : Array Bool → World → Prop} {G : Nat → Value → Prop} {listed : Array Bool} {i : Nat} {o : Oper} {a : Act} {w w' : World} {v : Value} (ho : ops[i]? = some o) (hg : o.guard = none) (hrun : (execOp a.eval o).run P w = .ok (.value v) w') (hG : G i v) (hC : C (listed.setIfInBounds i true) w') :
    wpOp P ops Q i (fun a' w' => ∃ v, a' = a.put o.dst v ∧ (∀ d, o.dst = some d → G i v) ∧ C (listed.setIfInBounds i true) w') a w :=
  wpOp_plain ho hg (op_value hrun ⟨v, rfl, fun _ _ => hG, hC⟩)
theorem op_skip {o : Oper} {a : Act} {w w' : World} {K : Act → World → Prop} (h : (execOp a.eval o).run P w = .ok .skip w') (hK : K (a.put o.dst undef) w') : o.wp P a w K Q := by
  unfold Oper.wp; rw [h]; exact hK
/-- an operation that yields nothing -/
theorem step_none {C : Array Bool → World → Prop} {G : Nat → Value → Prop} {listed : Array Bool} {i : Nat} {o : Oper} {a : Act} {w w' : World} (ho : ops[i]? = some o) (hg : o.guard = none) (hd : o.dst = none) (hrun : (execOp a.eval o).run P w = .ok .skip w') (hC : C (listed.setIfInBounds i true) w') :
    wpOp P ops Q i (fun a' w' => ∃ v, a' = a.put o.dst v ∧ (∀ d, o.dst = some d → G i v) ∧ C (listed.setIfInBounds i true) w') a w :=
  wpOp_plain ho hg (op_skip hrun ⟨undef, rfl, fun d h => (by rw [hd] at h; cases h), hC⟩)
/-- a call -/
theorem step_calls {C : Array Bool → World → Prop} {G : Nat → Value → Prop} {listed : Array Bool} {i : Nat} {o : Oper} {a : Act} {w : World} {f : FuncId} {args : Array Value} (ho : ops[i]? = some o) (hg : o.guard = none) (hrun : (execOp a.eval o).run P w = .ok (.enter f args) w)
    (hc : Calls P f args w fun e w' => ∃ v, e = .returned v ∧ G i v ∧ C (listed.setIfInBounds i true) w') :
    wpOp P ops Q i (fun a' w' => ∃ v, a' = a.put o.dst v ∧ (∀ d, o.dst = some d → G i v) ∧ C (listed.setIfInBounds i true) w') a w :=
  wpOp_plain ho hg (op_call (R := fun u w' => G i u ∧ C (listed.setIfInBounds i true) w') hrun (hc.mono fun e w' ⟨v, h⟩ => ⟨v, h.1, h.2⟩) fun u w' h => ⟨u, rfl, fun _ _ => h.1, h.2⟩)

section
variable {ρ : Operand → Value} {w w' : World}
theorem y_move {o : Oper} {x : Operand} {v : Value} (ho : o.op = .move x) (hx : ρ x = v) : (execOp ρ o).run P w = .ok (.value v) w := by simp [execOp, ho, hx]
theorem y_assign {o : Oper} {x : Operand} {v : Value} (ho : o.op = .assign x) (hx : ρ x = v) : (execOp ρ o).run P w = .ok (.value v) w := by simp [execOp, ho, hx]
theorem y_nil {o : Oper} {x : Operand} {g : Addr} (ho : o.op = .nilCheck x) (hx : ρ x = .pointer (some g)) : (execOp ρ o).run P w = .ok (.value (.pointer (some g))) w := by simp [execOp, ho, hx]
theorem y_extract {o : Oper} {x : Operand} {k : Nat} {vs : Array Value} {v : Value} (ho : o.op = .extract x k) (hx : ρ x = .tuple vs) (hr : ∀ u : World, (Instr.extract (.tuple vs) k).run P u = .ok v u) : (execOp ρ o).run P w = .ok (.value v) w := by
  simp [execOp, ho, hx, hr, Result.andThen]
theorem y_field {o : Oper} {x : Operand} {t : TypeId} {k : Nat} {v u : Value} (ho : o.op = .fieldAddr t x k) (hx : ρ x = u) (hr : (Instr.fieldAt t u k).run P w = .ok v w) : (execOp ρ o).run P w = .ok (.value v) w := by
  simp [execOp, ho, hx, hr, Result.andThen]
theorem y_index {o : Oper} {x y : Operand} {t : TypeId} {v a b : Value} (ho : o.op = .indexAddr t x y) (hx : ρ x = a) (hy : ρ y = b) (hr : (Instr.indexAt t a b).run P w = .ok v w) : (execOp ρ o).run P w = .ok (.value v) w := by
  simp [execOp, ho, hx, hy, hr, Result.andThen]
theorem y_load {o : Oper} {x : Operand} {t : TypeId} {v a : Value} (ho : o.op = .load t x) (hx : ρ x = a) (hr : (Instr.loadAt t a).run P w = .ok v w) : (execOp ρ o).run P w = .ok (.value v) w := by
  simp [execOp, ho, hx, hr, Result.andThen]
theorem y_store {o : Oper} {x y : Operand} {t : TypeId} {a b : Value} (ho : o.op = .store t x y) (hx : ρ x = a) (hy : ρ y = b) (hr : (Instr.storeAt t a b).run P w = .ok () w') : (execOp ρ o).run P w = .ok .skip w' := by
  simp [execOp, ho, hx, hy, hr, Result.andThen]
theorem y_entry {o : Oper} {x y : Operand} {t : TypeId} {v a b : Value} (ho : o.op = .mapEntry t x y) (hx : ρ x = a) (hy : ρ y = b) (hr : (Instr.mapEntry t a b).run P w = .ok v w') : (execOp ρ o).run P w = .ok (.value v) w' := by
  simp [execOp, ho, hx, hy, hr, Result.andThen]
theorem y_put {o : Oper} {x y z : Operand} {t : TypeId} {a b c : Value} (ho : o.op = .entryStore t x y z) (hx : ρ x = a) (hy : ρ y = b) (hz : ρ z = c) (hr : (Instr.entryStore t a b c).run P w = .ok () w') : (execOp ρ o).run P w = .ok .skip w' := by
  simp [execOp, ho, hx, hy, hz, hr, Result.andThen]
end
end
/-- the slots behind a region: those that it writes, and those as they were -/
theorem act_of_same {a0 a1 : Act} (l : List Nat) (wr : Nat → Bool) (hl : l = List.range a0.tmps.size) (hsame : ∀ t, wr t = false → a1.eval (.tmp t) = a0.eval (.tmp t)) (hsize : a1.tmps.size = a0.tmps.size) (hdef : a1.defers = a0.defers) :
    a1 = { tmps := (l.map fun t => bif wr t then a1.eval (.tmp t) else a0.eval (.tmp t)).toArray, defers := a0.defers } := by
  have e : a1.tmps = (l.map fun t => bif wr t then a1.eval (.tmp t) else a0.eval (.tmp t)).toArray := by
    subst hl
    apply Array.ext
    · simp [hsize]
    · intro i h1 h2
      have h3 : (bif wr i then a1.eval (.tmp i) else a0.eval (.tmp i)) = a1.eval (.tmp i) := by
        cases h : wr i with
        | true => rfl
        | false => exact (hsame i h).symm
      simp only [List.getElem_toArray, List.getElem_map, List.getElem_range, h3]
      simp [Act.eval, Array.getD_eq_getD_getElem?, h1]
  cases a1
  simp only at e hdef
  subst hdef
  rw [← e]
def wrB (ops : Array Oper) (wr : Nat → Bool) : Bool := ops.all fun o => match o.dst with | some d => wr d | none => true
theorem wrB_spec {ops : Array Oper} {wr : Nat → Bool} (h : wrB ops wr = true) {t : Tmp} (ht : wr t = false) : ∀ (i : Nat) (o : Oper), ops[i]? = some o → o.dst ≠ some t := fun i o ho hd => by
  have h1 := Array.all_eq_true'.1 h o (Array.mem_of_getElem? ho)
  rw [hd] at h1
  simp only at h1
  rw [ht] at h1
  cases h1
end Go.Proofs.YtdcpibglbanchaaDoor

set_option linter.unusedVariables false
set_option maxRecDepth 100000
namespace Go.Proofs.YtdcpibglbanchaaDoor
open Go.RowKit Go.Maps Go.ChangeMaps
open Go.WideElems (Fit findIdx_born findIdx_arr modify_last)

section
variable {H : Type} {P : Program} {t k e : TypeId} {R : Value → Option (DataW H × List MemPlace)} {b : Nat} {es : Array MapEntry} {clock : Nat} {z key : Value} {kl : Lit}
theorem born_last (F : Fit P k R es clock) (v : Value) : (es.push ⟨key, v, clock⟩).findIdx? (fun x => ((x.born : Nat) : Int) == ((clock : Nat) : Int)) = some es.size := by
  obtain ⟨s1, s2, _⟩ := F.stamped
  rw [findIdx_arr]
  refine findIdx_born (j := es.size) (e0 := ⟨key, v, clock⟩) ?_ (by simp)
  simp only [Array.toList_push, List.map_append, List.map_cons, List.map_nil]
  refine List.nodup_append.2 ⟨s2, by simp, fun a ha c hc e1 => ?_⟩
  simp only [List.mem_singleton] at hc
  obtain ⟨x, hx, rfl⟩ := List.mem_map.1 ha
  have := s1 x hx
  omega
theorem entry_new (K : WideMaps.KeyLaw P k) (ht : P.underlying t = some (.map k e)) (hz : ∀ u : World, (zeroValue e).run P u = .ok z u) (F : Fit P k R es clock) (hkey : keyOf P k key = some kl) (hne : ∀ x ∈ es.toList, x.key ≠ key) (W : World) (hb : W.heap[b]? = some (.map es clock)) :
    (Instr.mapEntry t (.map (some b)) key).run P W = .ok (.tuple #[z, goInt clock]) (setBlock W b (.map (es.push ⟨key, z, clock⟩) (clock + 1))) := by
  rcases K.find W hkey es.toList F.keys with ⟨h1, _⟩ | ⟨j, e0, _, h2, h3⟩
  · simp [Instr.mapEntry, run_underlying ht, MapKept.run_getObj_map hb, K.check W false hkey, h1, hz, MapKept.run_setObj_map _ hb, Result.andThen, setBlock]
  · exact absurd h3 (hne e0 (List.mem_of_getElem? h2))
theorem update_new (K : WideMaps.KeyLaw P k) (ht : P.underlying t = some (.map k e)) (F : Fit P k R es clock) (hkey : keyOf P k key = some kl) (hne : ∀ x ∈ es.toList, x.key ≠ key) (val : Value) (W : World) (hb : W.heap[b]? = some (.map es clock)) :
    (Instr.mapUpdate t (.map (some b)) key val).run P W = .ok () (setBlock W b (.map (es.push ⟨key, val, clock⟩) (clock + 1))) := by
  rcases K.find W hkey es.toList F.keys with ⟨h1, _⟩ | ⟨j, e0, _, h2, h3⟩
  · simp [Instr.mapUpdate, run_underlying ht, MapKept.run_getObj_map hb, K.check W false hkey, h1, MapKept.run_setObj_map _ hb, Result.andThen, setBlock]
  · exact absurd h3 (hne e0 (List.mem_of_getElem? h2))
theorem entry_value (F : Fit P k R es clock) (val : Value) (W : World) (hb : W.heap[b]? = some (.map (es.push ⟨key, z, clock⟩) (clock + 1))) :
    (Instr.entryStore t (.map (some b)) (goInt clock) val).run P W = .ok () (setBlock W b (.map (es.push ⟨key, val, clock⟩) (clock + 1))) := by
  have hmod : (es.push ⟨key, z, clock⟩).modify es.size (fun x => { x with val := val }) = es.push ⟨key, val, clock⟩ := by
    apply Array.ext'
    rw [Array.toList_modify, Array.toList_push, Array.toList_push, ← Array.length_toList, modify_last]
  simp [Instr.entryStore, MapKept.run_getObj_map hb, asInt, asIntOf, goInt, born_last F z, hmod, MapKept.run_setObj_map _ hb, Result.andThen, setBlock]
/-- what the map reads as behind both -/
theorem owns_new {w : World} {n : Nat} {D : DataW H} (K : WideMaps.KeyLaw P k) (ht : P.underlying t = some (.map k e)) (hz : ∀ u : World, (zeroValue e).run P u = .ok z u) (h : w.ownsMap P k R b n D) (hn : n < maxLen) (hkey : keyOf P k key = some kl) (hnew : Maps.has D kl = false) {val : Value} {d : DataW H} {ps : List MemPlace} (hv : R val = some (d, ps)) :
    ∃ es clock, w.heap[b]? = some (.map es clock) ∧ (∀ W : World, W.heap[b]? = some (.map es clock) → (Instr.mapEntry t (.map (some b)) key).run P W = .ok (.tuple #[z, goInt clock]) (setBlock W b (.map (es.push ⟨key, z, clock⟩) (clock + 1)))) ∧
      (∀ W : World, W.heap[b]? = some (.map (es.push ⟨key, z, clock⟩) (clock + 1)) → (Instr.entryStore t (.map (some b)) (goInt clock) val).run P W = .ok () (setBlock W b (.map (es.push ⟨key, val, clock⟩) (clock + 1)))) ∧
      ∀ W : World, W.heap[b]? = some (.map (es.push ⟨key, val, clock⟩) (clock + 1)) → W.ownsMap P k R b (n + 1) (D.put kl d) := by
  have hup := h.update (Keyed.of_law K) ht hn hkey hv
  obtain ⟨es, clock, hb, F, hs, hD⟩ := h
  have hne : ∀ x ∈ es.toList, x.key ≠ key := by
    rcases Maps.fit_look true (Keyed.of_law K) ht (hz w) hb F hkey with ⟨_, h2, _⟩ | ⟨e0, y, _, _, _, _, hat, _⟩
    · exact h2
    · exfalso
      have := Maps.has_true_of_atKey hat
      rw [← hD, hnew] at this
      cases this
  refine ⟨es, clock, hb, entry_new K ht hz F hkey hne, entry_value F val, fun W hW => ?_⟩
  obtain ⟨w', hr, ho, _⟩ := hup
  rw [update_new K ht F hkey hne val w hb] at hr
  injection hr with _ hr
  subst hr
  obtain ⟨es2, cl2, h1, h2⟩ := ho
  refine ⟨es2, cl2, ?_, h2⟩
  rw [hW, ← h1]
  unfold setBlock
  simp [(Array.getElem?_eq_some_iff.1 hb).1]
end
end Go.Proofs.YtdcpibglbanchaaDoor
