/- The archive's signatures, as a map of four bytes: contract of signatures. Condition: none. -/
import Derived.Test.YtdcpibglbanchaaDoorPr
import Derived.Test.YtdcpibglbanchaaDoorRg
import Derived.Test.YtdcpibglbanchaaDoorBitK
import Derived.Test.YtdcpibglbanchaaDoorSame
set_option linter.unusedVariables false
set_option maxRecDepth 100000
namespace Go.Proofs.YtdcpibglbanchaaDoor
open Go.RowKit Go.Maps Go.ChangeMaps

/-- four bytes, as a key -/
def key4 (x y z u : Int) : Value := .agg #[.int .u8 x, .int .u8 y, .int .u8 z, .int .u8 u]
noncomputable def kl4 (x y z u : Int) : Lit := (keyOf Tryd.prog 47 (key4 x y z u)).getD (.bool false)
/-- the map reads as this look-up -/
def MapIs4 (D : DataW Unit) (f : Int → Int → Int → Int → Option Nat) : Prop :=
  ∀ x y z u, (0 ≤ x ∧ x ≤ 255) → (0 ≤ y ∧ y ≤ 255) → (0 ≤ z ∧ z ≤ 255) → (0 ≤ u ∧ u ≤ 255) → Maps.has D (kl4 x y z u) = (f x y z u).isSome ∧ ∀ s, f x y z u = some s → D.atKey (kl4 x y z u) (.lit (.int .i64 0)) = .lit (.int .i64 (s : Int))
theorem key4_keys : WideMaps.KeyLaw Tryd.prog 47 := (deep_law_laid (m := 4) (by kernel_rfl) (by decide) (of_decide_eq_true (by kernel_rfl)) (by kernel_rfl) (by kernel_rfl))
theorem key4_law : Keyed Tryd.prog 47 := Keyed.of_law key4_keys
/-- block mb is a map of at most k keys that reads as f -/
def Mp4 (w : World) (mb k : Nat) (f : Int → Int → Int → Int → Option Nat) : Prop := ∃ D : DataW Unit, w.ownsMap Tryd.prog 47 (plainElem Tryd.prog 48) mb k D ∧ MapIs4 D f
theorem Mp4.blk {w w' : World} {mb k : Nat} {f : Int → Int → Int → Int → Option Nat} (h : Mp4 w mb k f) (hb : w'.heap[mb]? = w.heap[mb]?) : Mp4 w' mb k f := by
  obtain ⟨D, h1, h2⟩ := h
  exact ⟨D, ownsMap_blk h1 hb, h2⟩
theorem Mp4.lt {w : World} {mb k : Nat} {f : Int → Int → Int → Int → Option Nat} (h : Mp4 w mb k f) : mb < w.heap.size := by
  obtain ⟨D, ⟨es, cl, h1, _⟩, _⟩ := h
  exact (Array.getElem?_eq_some_iff.1 h1).1
theorem key4_is {x y z u : Int} (hx : 0 ≤ x ∧ x ≤ 255) (hy : 0 ≤ y ∧ y ≤ 255) (hz : 0 ≤ z ∧ z ≤ 255) (hu : 0 ≤ u ∧ u ≤ 255) : keyOf Tryd.prog 47 (key4 x y z u) = some (kl4 x y z u) := by
  have h1 := WalkArith.wf_u8 hx
  have h2 := WalkArith.wf_u8 hy
  have h3 := WalkArith.wf_u8 hz
  have h4 := WalkArith.wf_u8 hu
  have : ∃ l, keyOf Tryd.prog 47 (key4 x y z u) = some l := by
    have hkt : Tryd.prog.keyType 47 = true := by kernel_rfl
    obtain ⟨m, hm⟩ : ∃ m, Tryd.prog.types.size = m + 1 := ⟨Tryd.prog.types.size - 1, by kernel_rfl⟩
    have hc : Tryd.prog.cellsOf 47 = 4 := by kernel_rfl
    have hci : Tryd.prog.cellsOf 5 = 1 := by kernel_rfl
    unfold key4 keyOf
    simp only [Tryd.underlying47]
    rw [if_pos (by simp [hkt, Value.formed, Tryd.underlying47, hc]), hm]
    unfold Program.keyLits
    simp only [Tryd.underlying47, Value.cells]
    rw [if_pos (by rw [hc]; rfl), show List.range 4 = [0, 1, 2, 3] from rfl]
    simp [hci, Program.keyLits, Tryd.underlying5, h1, h2, h3, h4]
  obtain ⟨l, hl⟩ := this
  unfold kl4
  rw [hl]; rfl
theorem zeroKd (W : World) : (zeroValue 48).run Tryd.prog W = .ok (.int .i64 0) W := by kernel_rfl
theorem look4_is {W : World} {mb k : Nat} {D : DataW Unit} {f : Int → Int → Int → Int → Option Nat} (hom : W.ownsMap Tryd.prog 47 (plainElem Tryd.prog 48) mb k D) (hm : MapIs4 D f) {x y z u : Int} (hx : 0 ≤ x ∧ x ≤ 255) (hy : 0 ≤ y ∧ y ≤ 255) (hz : 0 ≤ z ∧ z ≤ 255) (hu : 0 ≤ u ∧ u ≤ 255) :
    (Instr.lookup 37 (.map (some mb)) (key4 x y z u) false).run Tryd.prog W = .ok (.int .i64 (((f x y z u).getD 0 : Nat) : Int)) W := by
  obtain ⟨h1, h2⟩ := hm x y z u hx hy hz hu
  obtain ⟨cv, ps, hlk, hcv⟩ := hom.lookup key4_law Tryd.underlying37 (zeroKd W) (plainElem_int Tryd.underlying48 (by decide : (Lit.int .i64 0).wf = true)) (key4_is hx hy hz hu)
  obtain ⟨c, rfl, hc, _⟩ := plainElem_int_inv Tryd.underlying48 hcv
  have hc := congrArg Prod.fst hc
  rw [hlk]
  cases hp : f x y z u with
  | none =>
    rw [hp] at h1
    have h3 := Maps.atKey_of_not_has (k := kl4 x y z u) (D := D) h1 (.lit (.int .i64 0))
    rw [h3] at hc
    injection hc with hc
    injection hc with _ hc
    rw [← hc]; rfl
  | some s =>
    have h3 := h2 s hp
    rw [h3] at hc
    injection hc with hc
    injection hc with _ hc
    rw [← hc]; rfl
theorem kl4_ne {x y z u x' y' z' u' : Int} (hx : 0 ≤ x ∧ x ≤ 255) (hy : 0 ≤ y ∧ y ≤ 255) (hz : 0 ≤ z ∧ z ≤ 255) (hu : 0 ≤ u ∧ u ≤ 255) (hx' : 0 ≤ x' ∧ x' ≤ 255) (hy' : 0 ≤ y' ∧ y' ≤ 255) (hz' : 0 ≤ z' ∧ z' ≤ 255) (hu' : 0 ≤ u' ∧ u' ≤ 255) (h : ¬ (x = x' ∧ y = y' ∧ z = z' ∧ u = u')) : kl4 x y z u ≠ kl4 x' y' z' u' := fun e => by
  have h1 := key4_is hx hy hz hu
  have h2 := key4_is hx' hy' hz' hu'
  rw [← e] at h2
  have h3 := key4_law.inj h1 h2
  unfold key4 at h3
  simp at h3
  exact h h3
/-- a look-up, a key put in -/
def put4 (f : Int → Int → Int → Int → Option Nat) (x y z u : Int) (s : Nat) : Int → Int → Int → Int → Option Nat := fun a b c d => if a = x ∧ b = y ∧ c = z ∧ d = u then some s else f a b c d
theorem MapIs4.put {D : DataW Unit} {f : Int → Int → Int → Int → Option Nat} (h : MapIs4 D f) (hD : IsMap D) {x y z u : Int} {s : Nat} (hx : 0 ≤ x ∧ x ≤ 255) (hy : 0 ≤ y ∧ y ≤ 255) (hz : 0 ≤ z ∧ z ≤ 255) (hu : 0 ≤ u ∧ u ≤ 255) :
    MapIs4 (D.put (kl4 x y z u) (.lit (.int .i64 (s : Int)))) (put4 f x y z u s) := fun a b c d ha hb hc hd => by
  have hk : WideAt.IsKeyLit (kl4 x y z u) := key4_law.key (key4_is hx hy hz hu)
  unfold put4
  by_cases e : a = x ∧ b = y ∧ c = z ∧ d = u
  · obtain ⟨rfl, rfl, rfl, rfl⟩ := e
    simp only [and_self, if_true]
    exact ⟨has_put_same hD hk _, fun t ht => by injection ht with ht; subst ht; exact atKey_put_same hD hk _ _⟩
  · simp only [e, if_false]
    have hne := kl4_ne ha hb hc hd hx hy hz hu e
    obtain ⟨h1, h2⟩ := h a b c d ha hb hc hd
    exact ⟨by rw [has_put_other hne]; exact h1, fun t ht => by rw [atKey_put_other hne]; exact h2 t ht⟩
theorem Mp4.put {W : World} {mb k : Nat} {f : Int → Int → Int → Int → Option Nat} (h : Mp4 W mb k f) (hk : k ≤ 1000000) {x y z u : Int} {s : Nat} (hs : s ≤ 1000000) (hx : 0 ≤ x ∧ x ≤ 255) (hy : 0 ≤ y ∧ y ≤ 255) (hz : 0 ≤ z ∧ z ≤ 255) (hu : 0 ≤ u ∧ u ≤ 255) :
    ∃ w', (Instr.mapUpdate 37 (.map (some mb)) (key4 x y z u) (.int .i64 s)).run Tryd.prog W = .ok () w' ∧ Mp4 w' mb (k + 1) (put4 f x y z u s) ∧ W.grownBy w' (some mb) := by
  obtain ⟨D, h1, h2⟩ := h
  obtain ⟨w', hr, ho, hg⟩ := h1.update key4_law Tryd.underlying37 (by unfold maxLen; omega) (key4_is hx hy hz hu) (plainElem_int Tryd.underlying48 (wf_nat (n := s) (by omega)))
  exact ⟨w', hr, ⟨_, ho, h2.put h1.isMap hx hy hz hu⟩, hg⟩
/-- what has been put of the three signatures -/
def sigF (p q r : Bool) (x y z u : Int) : Option Nat :=
  if x = 80 ∧ y = 75 ∧ z = 3 ∧ u = 4 then (if p then some 1 else none) else if x = 80 ∧ y = 75 ∧ z = 1 ∧ u = 2 then (if q then some 2 else none) else if x = 80 ∧ y = 75 ∧ z = 5 ∧ u = 6 then (if r then some 3 else none) else none
theorem sigF_p (p q r : Bool) : put4 (sigF p q r) 80 75 3 4 1 = sigF true q r := by
  funext x y z u; unfold put4 sigF
  by_cases h : x = 80 ∧ y = 75 ∧ z = 3 ∧ u = 4
  · rw [if_pos h, if_pos h]; rfl
  · rw [if_neg h, if_neg h, if_neg h]
theorem sigF_q (p q r : Bool) : put4 (sigF p q r) 80 75 1 2 2 = sigF p true r := by
  funext x y z u; unfold put4 sigF
  by_cases h : x = 80 ∧ y = 75 ∧ z = 1 ∧ u = 2
  · rw [if_pos h, if_neg (by omega), if_pos h]; rfl
  · rw [if_neg h, if_neg h, if_neg h]
theorem sigF_r (p q r : Bool) : put4 (sigF p q r) 80 75 5 6 3 = sigF p q true := by
  funext x y z u; unfold put4 sigF
  by_cases h : x = 80 ∧ y = 75 ∧ z = 5 ∧ u = 6
  · rw [if_pos h, if_neg (by omega), if_neg (by omega), if_pos h]; rfl
  · rw [if_neg h, if_neg h, if_neg h]
theorem y_build4 {a : Act} {w : World} {o : Oper} {p q : Int} (ho : o.op = .build 47 #[(0, .const (.int .u8 80)), (1, .const (.int .u8 75)), (2, .const (.int .u8 p)), (3, .const (.int .u8 q))]) : (execOp a.eval o).run Tryd.prog w = .ok (.value (key4 80 75 p q)) w := by
  have hr : (Instr.build 47 #[(0, .int .u8 80), (1, .int .u8 75), (2, .int .u8 p), (3, .int .u8 q)]).run Tryd.prog w = .ok (key4 80 75 p q) w := by kernel_rfl
  have e : (#[(0, Operand.const (.int .u8 80)), (1, .const (.int .u8 75)), (2, .const (.int .u8 p)), (3, .const (.int .u8 q))] : Array (Nat × Operand)).map (fun x => (x.1, a.eval x.2)) = #[(0, .int .u8 80), (1, .int .u8 75), (2, .int .u8 p), (3, .int .u8 q)] := by simp [Act.eval]
  unfold execOp
  simp only [ho]
  simp only [e, Sem.run_bind, hr, Result.andThen_ok, Sem.run_pure]
theorem y_insert {P : Program} {ρ : Operand → Value} {w w' : World} {o : Oper} {x y z : Operand} {t : TypeId} {a b c : Value} (ho : o.op = .insert t x y z) (hx : ρ x = a) (hy : ρ y = b) (hz : ρ z = c) (hr : (Instr.mapUpdate t a b c).run P w = .ok () w') : (execOp ρ o).run P w = .ok .skip w' := by
  simp [execOp, ho, hx, hy, hz, hr, Result.andThen]
theorem y_makeMap {P : Program} {ρ : Operand → Value} {w w' : World} {o : Oper} {t : TypeId} {a : Value} (ho : o.op = .makeMap t none) (hr : (Instr.makeMap t none).run P w = .ok a w') : (execOp ρ o).run P w = .ok (.value a) w' := by
  simp [execOp, ho, hr, Result.andThen]
def cntL (L : Array Bool) : Nat := (if L[2]?.getD false then 1 else 0) + (if L[4]?.getD false then 1 else 0) + (if L[6]?.getD false then 1 else 0)
/-- where the making has come to: L says what is done -/
structure SigC (w : World) (L : Array Bool) (W : World) : Prop where
  low : Below w.heap.size w W
  new : L[0]? = some false → W.heap.size = w.heap.size ∧ L[2]? = some false ∧ L[4]? = some false ∧ L[6]? = some false
  map : L[0]? = some true → ∃ k, k ≤ cntL L ∧ Mp4 W w.heap.size k (sigF (L[2]?.getD false) (L[4]?.getD false) (L[6]?.getD false))
theorem cntL_le (L : Array Bool) : cntL L ≤ 3 := by unfold cntL; split <;> split <;> split <;> omega
theorem SigC.skip {w W : World} {L : Array Bool} (h : SigC w L W) (i : Nat) (h0 : i ≠ 0) (h2 : i ≠ 2) (h4 : i ≠ 4) (h6 : i ≠ 6) : SigC w (L.setIfInBounds i true) W :=
  ⟨h.low, fun e => by
    rw [lst_ne h0] at e
    rw [lst_ne h2, lst_ne h4, lst_ne h6]; exact h.new e, fun e => by
    rw [lst_ne h0] at e
    unfold cntL; rw [lst_ne h2, lst_ne h4, lst_ne h6]; exact h.map e⟩
theorem SigC.put {w W W' : World} {L L' : Array Bool} (h : SigC w L W) (hL : L[0]? = some true) (h0 : L'[0]? = L[0]?) {k : Nat} {F' : Int → Int → Int → Int → Option Nat} (hF : F' = sigF (L'[2]?.getD false) (L'[4]?.getD false) (L'[6]?.getD false)) (hm : Mp4 W' w.heap.size k F') (hk : k ≤ cntL L') (hg : W.grownBy W' (some w.heap.size)) : SigC w L' W' := by
  subst hF
  exact ⟨h.low.grown hg h.low.size (fun q e => by injection e with e; omega), fun e => (by rw [h0, hL] at e; cases e), fun _ => ⟨k, hk, hm⟩⟩
set_option maxHeartbeats 2000000 in
theorem sigs_is (w : World) : Calls Tryd.prog 9 #[] w fun e w' => ∃ k, e = .returned (.map (some w.heap.size)) ∧ Mp4 w' w.heap.size k (sigF true true true) ∧ Below w.heap.size w w' := by
  have hmm := @run_makeMap Tryd.prog
  go_enter Tryd.func9, Tryd.ntmps9
  go_upto_region 1 with (fail)
  rename_i hK
  have hmp := World.ownsMap_made (P := Tryd.prog) (k := 47) (R := plainElem (H := Unit) Tryd.prog 48)
  refine wp_region_listed (C := SigC w) (G := GV [.map (some w.heap.size), key4 80 75 3 4, undef, key4 80 75 1 2, undef, key4 80 75 5 6, undef, .map (some w.heap.size), .map (some w.heap.size)])
    (by kernel_rfl) (ordL_spec (by kernel_rfl)) (dstB_spec (by kernel_rfl)) (inB_spec (by kernel_rfl)) ⟨⟨rfl, rfl, rfl, Nat.le_refl _, fun _ _ => rfl⟩, fun _ => ⟨rfl, rfl, rfl, rfl⟩, fun h => absurd h (by decide)⟩ ?step ?fin
  case step =>
    intro i o a1 listed W ho hli hC hdep hsame
    have hlt9 : i < 9 := lt_of_some ho
    match i, hlt9, ho with
    | 0, _, ho =>
      obtain rfl := Option.some.inj ho
      obtain ⟨hsz, l2, l4, l6⟩ := hC.new hli
      refine step_val ho rfl (y_makeMap rfl (hmm _ W)) (by rw [hsz]; rfl) ⟨hC.low.alloc hC.low.size _, fun h => ?_, fun _ => ⟨0, Nat.zero_le _, ?_⟩⟩
      · rw [lst_eq hli] at h; cases h
      · have h2 := hmp W
        rw [hsz] at h2
        rw [lst_ne (by decide), lst_ne (by decide), lst_ne (by decide), l2, l4, l6]
        exact ⟨_, h2, fun x y z u _ _ _ _ => by
          have e : sigF false false false x y z u = none := by unfold sigF; simp
          show _ = (sigF false false false x y z u).isSome ∧ ∀ s, sigF false false false x y z u = some s → _
          rw [e]; exact ⟨rfl, fun s h => by cases h⟩⟩
    | 1, _, ho =>
      obtain rfl := Option.some.inj ho
      exact step_val ho rfl (y_build4 rfl) rfl (hC.skip 1 (by decide) (by decide) (by decide) (by decide))
    | 2, _, ho =>
      obtain rfl := Option.some.inj ho
      have d0 := hdep ⟨0, .data⟩ (by simp) rfl
      obtain ⟨k, hk, hm⟩ := hC.map d0.1
      obtain ⟨W', hr, hm', hg⟩ := hm.put (by have := cntL_le listed; omega) (s := 1) (by decide) (x := 80) (y := 75) (z := 3) (u := 4) (by decide) (by decide) (by decide) (by decide)
      refine step_none ho rfl rfl (y_insert rfl (d0.2 _ _ rfl rfl) ((hdep ⟨1, .data⟩ (by simp) rfl).2 _ _ rfl rfl) rfl hr) (hC.put d0.1 (lst_ne (by decide)) ?_ hm' ?_ hg)
      · rw [lst_eq hli, lst_ne (by decide), lst_ne (by decide), sigF_p]; rfl
      · unfold cntL at hk ⊢
        rw [hli] at hk
        rw [lst_eq hli, lst_ne (by decide), lst_ne (by decide)]
        simp at hk ⊢
        omega
    | 3, _, ho =>
      obtain rfl := Option.some.inj ho
      exact step_val ho rfl (y_build4 rfl) rfl (hC.skip 3 (by decide) (by decide) (by decide) (by decide))
    | 4, _, ho =>
      obtain rfl := Option.some.inj ho
      have d0 := hdep ⟨0, .data⟩ (by simp) rfl
      obtain ⟨k, hk, hm⟩ := hC.map d0.1
      obtain ⟨W', hr, hm', hg⟩ := hm.put (by have := cntL_le listed; omega) (s := 2) (by decide) (x := 80) (y := 75) (z := 1) (u := 2) (by decide) (by decide) (by decide) (by decide)
      refine step_none ho rfl rfl (y_insert rfl (d0.2 _ _ rfl rfl) ((hdep ⟨3, .data⟩ (by simp) rfl).2 _ _ rfl rfl) rfl hr) (hC.put d0.1 (lst_ne (by decide)) ?_ hm' ?_ hg)
      · rw [lst_eq hli, lst_ne (by decide), lst_ne (by decide), sigF_q]; rfl
      · unfold cntL at hk ⊢
        rw [hli] at hk
        rw [lst_eq hli, lst_ne (by decide), lst_ne (by decide)]
        simp at hk ⊢
        omega
    | 5, _, ho =>
      obtain rfl := Option.some.inj ho
      exact step_val ho rfl (y_build4 rfl) rfl (hC.skip 5 (by decide) (by decide) (by decide) (by decide))
    | 6, _, ho =>
      obtain rfl := Option.some.inj ho
      have d0 := hdep ⟨0, .data⟩ (by simp) rfl
      obtain ⟨k, hk, hm⟩ := hC.map d0.1
      obtain ⟨W', hr, hm', hg⟩ := hm.put (by have := cntL_le listed; omega) (s := 3) (by decide) (x := 80) (y := 75) (z := 5) (u := 6) (by decide) (by decide) (by decide) (by decide)
      refine step_none ho rfl rfl (y_insert rfl (d0.2 _ _ rfl rfl) ((hdep ⟨5, .data⟩ (by simp) rfl).2 _ _ rfl rfl) rfl hr) (hC.put d0.1 (lst_ne (by decide)) ?_ hm' ?_ hg)
      · rw [lst_eq hli, lst_ne (by decide), lst_ne (by decide), sigF_r]; rfl
      · unfold cntL at hk ⊢
        rw [hli] at hk
        rw [lst_eq hli, lst_ne (by decide), lst_ne (by decide)]
        simp at hk ⊢
        omega
    | 7, _, ho =>
      obtain rfl := Option.some.inj ho
      exact step_val ho rfl (y_move rfl ((hdep ⟨0, .data⟩ (by simp) rfl).2 _ _ rfl rfl)) rfl (hC.skip 7 (by decide) (by decide) (by decide) (by decide))
    | 8, _, ho =>
      obtain rfl := Option.some.inj ho
      exact step_val ho rfl (y_assign rfl ((hdep ⟨7, .data⟩ (by simp) rfl).2 _ _ rfl rfl)) rfl (hC.skip 8 (by decide) (by decide) (by decide) (by decide))
    | n + 9, h, _ => exact absurd h (by omega)
  case fin =>
    intro a1 listed W hall hC hgood hsame hsize hdef
    refine hK _ _ (wp_ret ?_)
    obtain ⟨k, hk, hm⟩ := hC.map (hall 0 (by decide))
    rw [hall 2 (by decide), hall 4 (by decide), hall 6 (by decide)] at hm
    have h0 : a1.eval (.tmp 0) = .map (some w.heap.size) := hgood 8 _ _ rfl rfl
    exact bodyPost_ret (results_tmp rfl _ _ _) (hdef.trans rfl) ⟨k, congrArg Ending.returned h0, hm, hC.low⟩
end Go.Proofs.YtdcpibglbanchaaDoor
