/- A region that draws its order, gone through by what each operation's value is good for: one case an operation, whatever the order. No condition; no program is named. -/
import Derived.Orders
import Derived.WalkKit
set_option linter.unusedVariables false
set_option maxRecDepth 100000
namespace Go.Proofs.YtpnnfekfoomgaaaDoor
open Go.RowKit

section
variable {P : Program} {ops : Array Oper} {Q : Exit → Act → World → Prop}

theorem act_put_at (a : Act) (d t : Nat) (v : Value) (h : d < a.tmps.size) : (a.put (some d) v).eval (.tmp t) = if t = d then v else a.eval (.tmp t) := by
  simp only [Act.put, Act.eval, Array.getD_eq_getD_getElem?]
  split
  · rename_i e; subst e; simp [h]
  · rename_i e; rw [Array.getElem?_setIfInBounds_ne (fun q => e q.symm)]
theorem act_put_size (a : Act) (o : Option Tmp) (v : Value) : (a.put o v).tmps.size = a.tmps.size := by cases o <;> simp [Act.put]
theorem act_put_defers (a : Act) (o : Option Tmp) (v : Value) : (a.put o v).defers = a.defers := by cases o <;> rfl

/-- where the listed operations have come to -/
structure St (ops : Array Oper) (a0 : Act) (C : World → Prop) (G : Nat → Value → World → Prop) (listed : Array Bool) (a : Act) (w : World) : Prop where
  world : C w
  size : a.tmps.size = a0.tmps.size
  defers : a.defers = a0.defers
  good : ∀ (i : Nat) (o : Oper) (d : Tmp), ops[i]? = some o → listed[i]? = some true → o.dst = some d → G i (a.eval (.tmp d)) w
  same : ∀ t, (∀ (i : Nat) (o : Oper), ops[i]? = some o → o.dst ≠ some t) → a.eval (.tmp t) = a0.eval (.tmp t)

theorem count_set : ∀ (l : List Bool) (i : Nat), l[i]? = some false → ((l.set i true).filter (!·)).length + 1 = (l.filter (!·)).length
  | [], i, h => by simp at h
  | b :: l, 0, h => by simp at h; subst h; simp
  | b :: l, i + 1, h => by
    have ih := count_set l i (by simpa using h)
    cases b <;> simp <;> omega
theorem all_listed {listed : Array Bool} (hs : listed.size = ops.size) (hord : ∀ (i : Nat) (o : Oper), ops[i]? = some o → ∀ e ∈ o.after, e.on < i) (h : Region.ready .any ops listed = []) : ∀ n i, i < n → i < ops.size → listed[i]? = some true := by
  intro n
  induction n with
  | zero => intro i hi; omega
  | succ n ih =>
    intro i hi hn
    by_cases hlt : i < n
    · exact ih i hlt hn
    · have hin : i = n := by omega
      subst hin
      have hil : i < listed.size := by omega
      cases hb : listed[i] with
      | true => rw [Array.getElem?_eq_getElem hil, hb]
      | false =>
        exfalso
        have : i ∈ Region.ready .any ops listed := mem_ready.2 ⟨by simp [hil, hb], ops[i], by simp [hn], fun e he _ => by
          have h1 := hord i ops[i] (by simp [hn]) e he
          have h2 := ih e.on h1 (by omega)
          simp [h2]⟩
        rw [h] at this; cases this
theorem no_ready {listed : Array Bool} (h : ∀ i : Nat, i < ops.size → listed[i]? = some true) : Region.ready .any ops listed = [] := by
  rw [List.eq_nil_iff_forall_not_mem]
  intro i hi
  obtain ⟨h1, o, ho, _⟩ := mem_ready.1 hi
  have hlt : i < ops.size := by
    rcases Nat.lt_or_ge i ops.size with q | q
    · exact q
    · rw [Array.getElem?_eq_none q] at ho; cases ho
  have := h i hlt
  simp [this] at h1

theorem wpAny_inv {a0 : Act} {C : World → Prop} {G : Nat → Value → World → Prop} {R : World → World → Prop}
    (hord : ∀ (i : Nat) (o : Oper), ops[i]? = some o → ∀ e ∈ o.after, e.on < i)
    (hdst : ∀ (i j : Nat) (oi oj : Oper) (d : Tmp), ops[i]? = some oi → ops[j]? = some oj → oi.dst = some d → oj.dst = some d → i = j)
    (hin : ∀ (i : Nat) (o : Oper) (d : Tmp), ops[i]? = some o → o.dst = some d → d < a0.tmps.size)
    (hstab : ∀ i v w w', G i v w → R w w' → G i v w')
    (hstep : ∀ (i : Nat) (o : Oper) (a : Act) (w : World), ops[i]? = some o → C w → (∀ e ∈ o.after, Region.binds .any e = true → ∀ (oj : Oper) (d : Tmp), ops[e.on]? = some oj → oj.dst = some d → G e.on (a.eval (.tmp d)) w) → (∀ t : Tmp, (∀ (i : Nat) (o : Oper), ops[i]? = some o → o.dst ≠ some t) → a.eval (.tmp t) = a0.eval (.tmp t)) →
      wpOp P ops Q i (fun a' w' => ∃ v, a' = a.put o.dst v ∧ (∀ d, o.dst = some d → G i v w') ∧ C w' ∧ R w w') a w)
    (hfin : ∀ (a : Act) (w : World), C w → (∀ (i : Nat) (o : Oper) (d : Tmp), ops[i]? = some o → o.dst = some d → G i (a.eval (.tmp d)) w) → (∀ t : Tmp, (∀ (i : Nat) (o : Oper), ops[i]? = some o → o.dst ≠ some t) → a.eval (.tmp t) = a0.eval (.tmp t)) → a.tmps.size = a0.tmps.size → a.defers = a0.defers → Q .normal a w) :
    ∀ (fuel : Nat) (listed : Array Bool) (a : Act) (w : World), listed.size = ops.size → (listed.toList.filter (!·)).length ≤ fuel → St ops a0 C G listed a w → wpAny P .any ops Q fuel listed a w := by
  have fin : ∀ (listed : Array Bool) (a : Act) (w : World), (∀ i : Nat, i < ops.size → listed[i]? = some true) → St ops a0 C G listed a w → Q .normal a w := fun listed a w hall h =>
    hfin a w h.world (fun i o d ho hd => h.good i o d ho (hall i (by
      rcases Nat.lt_or_ge i ops.size with q | q
      · exact q
      · rw [Array.getElem?_eq_none q] at ho; cases ho)) hd) h.same h.size h.defers
  intro fuel
  induction fuel with
  | zero =>
    intro listed a w hs hc h
    have hall : ∀ i : Nat, i < ops.size → listed[i]? = some true := fun i hi => by
      have hil : i < listed.size := by omega
      cases hb : listed[i] with
      | true => rw [Array.getElem?_eq_getElem hil, hb]
      | false =>
        exfalso
        have hmem : false ∈ listed.toList.filter (!·) := by rw [List.mem_filter]; exact ⟨by rw [← hb]; simp, rfl⟩
        have := List.length_pos_of_mem hmem
        omega
    exact ⟨no_ready hall, fin listed a w hall h⟩
  | succ fuel ih =>
    intro listed a w hs hc h
    refine ⟨fun hr => fin listed a w (fun i hi => all_listed hs hord hr (i + 1) i (by omega) hi) h, fun i hi => ?_⟩
    obtain ⟨h1, o, ho, hpre⟩ := mem_ready.1 hi
    have hlt : i < listed.size := by
      rcases Nat.lt_or_ge i ops.size with q | q
      · omega
      · rw [Array.getElem?_eq_none q] at ho; cases ho
    have hfi : listed[i]? = some false := by
      rw [Array.getElem?_eq_getElem hlt]
      simp [hlt] at h1
      rw [h1]
    have hst := hstep i o a w ho h.world (fun e he hb oj d hoj hd => h.good e.on oj d hoj (by
      have h2 := hpre e he hb
      rcases Nat.lt_or_ge e.on listed.size with q | q
      · simp [q] at h2; rw [Array.getElem?_eq_getElem q, h2]
      · have : e.on < ops.size := by have := hord i o ho e he; omega
        omega) hd) h.same
    refine wpOp_mono (fun a' w' hk => ?_) hst
    obtain ⟨v, rfl, hv, hC, hR⟩ := hk
    refine ih (listed.setIfInBounds i true) _ w' (by simpa using hs) ?_ ⟨hC, by rw [act_put_size]; exact h.size, by rw [act_put_defers]; exact h.defers, fun j oj d hoj hl hd => ?_, fun t ht => ?_⟩
    · have := count_set listed.toList i (by simpa using hfi)
      rw [Array.toList_setIfInBounds]
      omega
    · by_cases hji : j = i
      · subst hji
        rw [ho] at hoj; injection hoj with hoj; subst hoj
        rw [hd, act_put_at _ _ _ _ (by rw [h.size]; exact hin _ _ _ ho hd), if_pos rfl]
        exact hv d hd
      · rw [Array.getElem?_setIfInBounds_ne (fun e => hji e.symm)] at hl
        have hg := h.good j oj d hoj hl hd
        cases hdo : o.dst with
        | none => exact hstab j _ w w' (by simpa [Act.put] using hg) hR
        | some d' =>
          rw [act_put_at _ _ _ _ (by rw [h.size]; exact hin _ _ _ ho hdo), if_neg (fun e => hji (hdst j i oj o d hoj ho hd (by rw [hdo, e])))]
          exact hstab j _ w w' hg hR
    · cases hdo : o.dst with
      | none => simpa [Act.put] using h.same t ht
      | some d' =>
        rw [act_put_at _ _ _ _ (by rw [h.size]; exact hin _ _ _ ho hdo), if_neg (fun e => ht i o ho (by rw [hdo, e]))]
        exact h.same t ht
theorem wpOp_plain {i : Nat} {o : Oper} {a : Act} {w : World} {K : Act → World → Prop} (ho : ops[i]? = some o) (hg : o.guard = none) (h : o.wp P a w K Q) : wpOp P ops Q i K a w := by
  unfold wpOp
  simp only [ho, Region.wanted, hg, if_true]
  exact .inl h
theorem op_value {o : Oper} {a : Act} {w w' : World} {K : Act → World → Prop} {v : Value} (h : (execOp a.eval o).run P w = .ok (.value v) w') (hK : K (a.put o.dst v) w') : o.wp P a w K Q := by
  unfold Oper.wp; rw [h]; exact hK
theorem op_call {o : Oper} {a : Act} {w : World} {K : Act → World → Prop} {f : FuncId} {args : Array Value} {R : Value → World → Prop} (h : (execOp a.eval o).run P w = .ok (.enter f args) w) (hc : Calls P f args w fun e w' => ∃ v, e = .returned v ∧ R v w') (hK : ∀ v w', R v w' → K (a.put o.dst v) w') : o.wp P a w K Q := by
  unfold Oper.wp; rw [h, Oper.upon_enter]
  refine hc.mono fun e w' ⟨v, he, hr⟩ => ?_
  subst he
  exact hK v w' hr
/-- the region itself -/
theorem wp_region_inv {id : Nat} {a0 : Act} {w0 : World} {C : World → Prop} {G : Nat → Value → World → Prop} {R : World → World → Prop} (hm : P.follows .mixedOrders = true)
    (hord : ∀ (i : Nat) (o : Oper), ops[i]? = some o → ∀ e ∈ o.after, e.on < i)
    (hdst : ∀ (i j : Nat) (oi oj : Oper) (d : Tmp), ops[i]? = some oi → ops[j]? = some oj → oi.dst = some d → oj.dst = some d → i = j)
    (hin : ∀ (i : Nat) (o : Oper) (d : Tmp), ops[i]? = some o → o.dst = some d → d < a0.tmps.size) (hC : C { w0 with drawn := w0.drawn + 1 })
    (hstab : ∀ i v w w', G i v w → R w w' → G i v w')
    (hstep : ∀ (i : Nat) (o : Oper) (a : Act) (w : World), ops[i]? = some o → C w → (∀ e ∈ o.after, Region.binds .any e = true → ∀ (oj : Oper) (d : Tmp), ops[e.on]? = some oj → oj.dst = some d → G e.on (a.eval (.tmp d)) w) → (∀ t : Tmp, (∀ (i : Nat) (o : Oper), ops[i]? = some o → o.dst ≠ some t) → a.eval (.tmp t) = a0.eval (.tmp t)) →
      wpOp P ops Q i (fun a' w' => ∃ v, a' = a.put o.dst v ∧ (∀ d, o.dst = some d → G i v w') ∧ C w' ∧ R w w') a w)
    (hfin : ∀ (a : Act) (w : World), C w → (∀ (i : Nat) (o : Oper) (d : Tmp), ops[i]? = some o → o.dst = some d → G i (a.eval (.tmp d)) w) → (∀ t : Tmp, (∀ (i : Nat) (o : Oper), ops[i]? = some o → o.dst ≠ some t) → a.eval (.tmp t) = a0.eval (.tmp t)) → a.tmps.size = a0.tmps.size → a.defers = a0.defers → Q .normal a w) :
    (Code.region id ops true).wp P Q a0 w0 :=
  wp_region_any hm (wpAny_inv hord hdst hin hstab hstep hfin ops.size (Array.replicate ops.size false) a0 _ (by simp) (by
    simp) ⟨hC, rfl, rfl, fun i o d ho hl _ => by
      have hlt : i < ops.size := by
        rcases Nat.lt_or_ge i ops.size with q | q
        · exact q
        · rw [Array.getElem?_eq_none q] at ho; cases ho
      simp [hlt] at hl, fun t _ => rfl⟩)
/-- an operation that yields a value and leaves the world -/
theorem step_pure {C : World → Prop} {G : Nat → Value → World → Prop} {R : World → World → Prop} {i : Nat} {o : Oper} {a : Act} {w : World} {v : Value} (ho : ops[i]? = some o) (hg : o.guard = none) (hrun : (execOp a.eval o).run P w = .ok (.value v) w) (hG : G i v w) (hC : C w) (hR : R w w) :
    wpOp P ops Q i (fun a' w' => ∃ v, a' = a.put o.dst v ∧ (∀ d, o.dst = some d → G i v w') ∧ C w' ∧ R w w') a w :=
  wpOp_plain ho hg (op_value hrun ⟨v, rfl, fun _ _ => hG, hC, hR⟩)
/-- an operation that yields a value and makes memory -/
theorem step_mem {C : World → Prop} {G : Nat → Value → World → Prop} {R : World → World → Prop} {i : Nat} {o : Oper} {a : Act} {w w' : World} {v : Value} (ho : ops[i]? = some o) (hg : o.guard = none) (hrun : (execOp a.eval o).run P w = .ok (.value v) w') (hG : G i v w') (hC : C w') (hR : R w w') :
    wpOp P ops Q i (fun a' w' => ∃ v, a' = a.put o.dst v ∧ (∀ d, o.dst = some d → G i v w') ∧ C w' ∧ R w w') a w :=
  wpOp_plain ho hg (op_value hrun ⟨v, rfl, fun _ _ => hG, hC, hR⟩)
/-- a call -/
theorem step_call {C : World → Prop} {G : Nat → Value → World → Prop} {R : World → World → Prop} {i : Nat} {o : Oper} {a : Act} {w : World} {f : FuncId} {args : Array Value} {v : Value} (ho : ops[i]? = some o) (hg : o.guard = none) (hrun : (execOp a.eval o).run P w = .ok (.enter f args) w)
    (hc : Calls P f args w fun e w' => e = .returned v ∧ G i v w' ∧ C w' ∧ R w w') :
    wpOp P ops Q i (fun a' w' => ∃ v, a' = a.put o.dst v ∧ (∀ d, o.dst = some d → G i v w') ∧ C w' ∧ R w w') a w :=
  wpOp_plain ho hg (op_call (R := fun u w' => u = v ∧ G i v w' ∧ C w' ∧ R w w') hrun (hc.mono fun e w' h => ⟨v, h.1, rfl, h.2⟩) fun u w' h => by
    obtain ⟨rfl, h1, h2, h3⟩ := h
    exact ⟨u, rfl, fun _ _ => h1, h2, h3⟩)

def ordB (ops : Array Oper) : Bool := (List.range ops.size).all fun i => match ops[i]? with | some o => o.after.all fun e => decide (e.on < i) | none => true
theorem ordB_spec (h : ordB ops = true) : ∀ (i : Nat) (o : Oper), ops[i]? = some o → ∀ e ∈ o.after, e.on < i := fun i o ho e he => by
  have hlt : i < ops.size := by
    rcases Nat.lt_or_ge i ops.size with q | q
    · exact q
    · rw [Array.getElem?_eq_none q] at ho; cases ho
  have h1 := List.all_eq_true.1 h i (List.mem_range.2 hlt)
  rw [ho] at h1
  have h2 := Array.all_eq_true'.1 h1 e he
  simpa using h2
def dstB (ops : Array Oper) : Bool := (List.range ops.size).all fun i => (List.range ops.size).all fun j => i == j || (match ops[i]?.bind (·.dst), ops[j]?.bind (·.dst) with | some d, some d' => d != d' | _, _ => true)
theorem lt_of_some {i : Nat} {o : Oper} (ho : ops[i]? = some o) : i < ops.size := by
  rcases Nat.lt_or_ge i ops.size with q | q
  · exact q
  · rw [Array.getElem?_eq_none q] at ho; cases ho
theorem dstB_spec (h : dstB ops = true) : ∀ (i j : Nat) (oi oj : Oper) (d : Tmp), ops[i]? = some oi → ops[j]? = some oj → oi.dst = some d → oj.dst = some d → i = j := fun i j oi oj d hi hj di dj => by
  have h1 := List.all_eq_true.1 (List.all_eq_true.1 h i (List.mem_range.2 (lt_of_some hi))) j (List.mem_range.2 (lt_of_some hj))
  rw [hi, hj] at h1
  simp [di, dj] at h1
  exact h1
def inB (ops : Array Oper) (n : Nat) : Bool := ops.all fun o => match o.dst with | some d => decide (d < n) | none => true
theorem inB_spec {n : Nat} (h : inB ops n = true) : ∀ (i : Nat) (o : Oper) (d : Tmp), ops[i]? = some o → o.dst = some d → d < n := fun i o d ho hd => by
  have h1 := Array.all_eq_true'.1 h o (Array.mem_of_getElem? ho)
  rw [hd] at h1
  simpa using h1
def notB (ops : Array Oper) (t : Tmp) : Bool := ops.all fun o => o.dst != some t
theorem notB_spec {t : Tmp} (h : notB ops t = true) : ∀ (i : Nat) (o : Oper), ops[i]? = some o → o.dst ≠ some t := fun i o ho => by
  have h1 := Array.all_eq_true'.1 h o (Array.mem_of_getElem? ho)
  simpa using h1
end
end Go.Proofs.YtpnnfekfoomgaaaDoor
