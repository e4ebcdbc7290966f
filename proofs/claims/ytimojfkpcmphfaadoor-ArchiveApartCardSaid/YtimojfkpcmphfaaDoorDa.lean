/- A look at an archive in memory: contracts of num and kind. Condition: the bytes are bytes. -/
import Derived.Test.YtimojfkpcmphfaaDoorAa
import Derived.Test.YtimojfkpcmphfaaDoorLt
import Derived.Laws.Cover3
import Derived.Deep.MidRow
set_option linter.unusedVariables false
set_option maxRecDepth 100000
namespace Go.Proofs.YtimojfkpcmphfaaDoor
open Go.RowKit Go.Maps Go.ChangeMaps

/-- the number of k bytes at a place, 0 where there are none -/
def numL (l : List Int) (p k : Int) : Int := (O2.LT l p k).1
/-- what begins at a place -/
def kindL (l : List Int) (p : Nat) : Nat := (sigF true true true (l.getD p 0) (l.getD (p + 1) 0) (l.getD (p + 2) 0) (l.getD (p + 3) 0)).getD 0
theorem byA_getD {l : List Int} (h : Bytes l) (i : Nat) : 0 ≤ l.getD i 0 ∧ l.getD i 0 ≤ 255 := by
  rw [List.getD_eq_getElem?_getD]
  by_cases hi : i < l.length
  · rw [List.getElem?_eq_getElem hi]; exact h _ (List.getElem_mem hi)
  · rw [List.getElem?_eq_none (by omega)]; decide
section
variable {w : World} {g : Nat} {b : Option Addr} {c : Nat} {l : List Int} {x1 x2 x3 x4 x5 x6 : Value} {B : Nat}
theorem lkNum (h : w.heap[g]? = some (.cells #[.slice b l.length c, x1, x2, x3, x4, x5, x6] 46 (0, 0))) (hc : l.length ≤ c) (hm : l.length ≤ 65536) (hb : Bs w B b l) (p k : Int) (hp : -9223372036854775808 ≤ p ∧ p ≤ 9223372036854775807) (hk : -9223372036854775808 ≤ k ∧ k ≤ 9223372036854775807) :
    Calls Tryd.prog 31 #[.pointer (some ⟨g, 0, none⟩), .int .i64 p, .int .i64 k] w fun e w' => e = .returned (.int .i64 (numL l p k)) ∧ w = w' := by
  have c0 : w.cell? ⟨g, 0, none⟩ = some (.slice b l.length c) := by rw [blk_cell h]; rfl
  have hlt := O2.octLittle b l.length c l rfl p k hp hk hc (by omega) w B hb
  clear h
  unfold numL
  go_enter Tryd.func31, Tryd.ntmps31
  go_wp2_with fail
  refine hlt.mono ?_
  rintro e w' ⟨rfl, rfl⟩
  clear hlt
  go_wp2_with fail
  go_ret
  exact ⟨rfl, rfl⟩
def SameC (w : World) (_ : Array Bool) (W : World) : Prop := W = w
theorem sameC (w : World) (L : Array Bool) : SameC w L w := rfl
theorem y_slice2 {P : Program} {ρ : Operand → Value} {w : World} {o : Oper} {x p q : Operand} {t : TypeId} {a b c v : Value} (ho : o.op = .slice t x (some p) (some q) none) (hx : ρ x = a) (hp : ρ p = b) (hq : ρ q = c) (hr : (Instr.sliceAt t a (some b) (some c) none).run P w = .ok v w) : (execOp ρ o).run P w = .ok (.value v) w := by
  simp [execOp, ho, hx, hp, hq, hr, Result.andThen]
theorem y_arr {P : Program} {ρ : Operand → Value} {w : World} {o : Oper} {x : Operand} {t : TypeId} {a v : Value} (ho : o.op = .sliceToArrayPointer t x) (hx : ρ x = a) (hr : (Instr.arrayAt t a).run P w = .ok v w) : (execOp ρ o).run P w = .ok (.value v) w := by
  simp [execOp, ho, hx, hr, Result.andThen]
theorem y_look {P : Program} {ρ : Operand → Value} {w : World} {o : Oper} {x y : Operand} {t : TypeId} {a b v : Value} {ok : Bool} (ho : o.op = .lookup t x y ok) (hx : ρ x = a) (hy : ρ y = b) (hr : (Instr.lookup t a b ok).run P w = .ok v w) : (execOp ρ o).run P w = .ok (.value v) w := by
  simp [execOp, ho, hx, hy, hr, Result.andThen]
theorem y_loadM {P : Program} {ρ : Operand → Value} {w : World} {o : Oper} {x : Operand} {ty : TypeId} {b k : Nat} {cs : List Value} {d : TypeDesc} (ho : o.op = .load ty x) (hx : ρ x = .pointer (some ⟨b, k, none⟩)) (hc : w.rangeAt b k cs) (hu : P.underlying ty = some d) (hd : d.isRow = true) (hi : (P.info? ty).map (·.size) = some cs.length) : (execOp ρ o).run P w = .ok (.value (.agg cs.toArray)) w := by
  have h := run_loadVar_mid w b k ty cs d hc hu hd hi
  simp only [execOp, ho, hx, Instr.loadAt, Instr.sureAddr, Sem.run_bind, Sem.run_pure, Result.andThen_ok, h]
theorem y_addi {a : Act} {w : World} {o : Oper} {x y : Operand} {p q r : Int} {ty : TypeId} (ho : o.op = .binOp .add 3 x y ty) (hx : a.eval x = .int .i64 p) (hy : a.eval y = .int .i64 q) (hr : IntKind.i64.wrap (p + q) = r) : (execOp a.eval o).run Tryd.prog w = .ok (.value (.int .i64 r)) w := by
  subst hr
  unfold execOp
  simp only [ho, hx, hy]
  simp [go_sem]
theorem lk_fa0 (g : Nat) (W : World) : (Instr.fieldAt 46 (.pointer (some ⟨g, 0, none⟩)) 0).run Tryd.prog W = .ok (.pointer (some ⟨g, 0, none⟩)) W := by kernel_rfl
theorem lk_fa1 (g : Nat) (W : World) : (Instr.fieldAt 46 (.pointer (some ⟨g, 0, none⟩)) 1).run Tryd.prog W = .ok (.pointer (some ⟨g, 1, none⟩)) W := by kernel_rfl
set_option maxHeartbeats 4000000 in
theorem lkKind {mb k : Nat} (h : w.heap[g]? = some (.cells #[.slice b l.length c, .map (some mb), x2, x3, x4, x5, x6] 46 (0, 0))) (hmp : Mp4 w mb k (sigF true true true)) (hc : l.length ≤ c) (hm : l.length ≤ 65536) (hb : Bs w B b l) (p : Nat) (hp : p + 4 ≤ l.length) :
    Calls Tryd.prog 41 #[.pointer (some ⟨g, 0, none⟩), .int .i64 p] w fun e w' => e = .returned (.int .i64 (kindL l p)) ∧ ∃ d, w' = w.drewN d := by
  have c0 : w.cell? ⟨g, 0, none⟩ = some (.slice b l.length c) := by rw [blk_cell h]; rfl
  have c1 : w.cell? ⟨g, 1, none⟩ = some (.map (some mb)) := by rw [blk_cell h]; rfl
  have hB := hb.1
  obtain ⟨D, hom, hmi⟩ := hmp
  obtain ⟨T, hT⟩ : ∃ T : Nat, (p : Int) + 4 = T := ⟨p + 4, by omega⟩
  have hT4 : T - p = 4 := by omega
  obtain ⟨a3, c3, r3, _, b3, hc3, _, _⟩ := cut_lh b l.length c l rfl hc (fun e => by
    obtain ⟨_, hcs⟩ := hb
    obtain ⟨b', off, e2, _⟩ := hcs (by omega)
    rw [e] at e2; cases e2) p T (by omega) (by omega)
  rw [hT4] at r3 hc3
  have hlen : (cutOf l p T).length = 4 := by rw [cutOf_len (by omega), hT4]
  have hg4 : ∀ i, i < 4 → (cutOf l p T).getD i 0 = l.getD (p + i) 0 := fun i hi => by
    unfold cutOf
    simp only [List.getD_eq_getElem?_getD]
    rw [List.getElem?_take_of_lt (by omega), List.getElem?_drop]
  obtain ⟨bb, off, rfl, hbl, hcell⟩ := (b3 w B hb).2 (by omega)
  have d0 : w.cell? ⟨bb, off, none⟩ = some (.int .u8 (l.getD p 0)) := by have := hcell 0 (by omega); rw [hg4 0 (by omega)] at this; exact this
  have d1 : w.cell? ⟨bb, off + 1, none⟩ = some (.int .u8 (l.getD (p + 1) 0)) := by have := hcell 1 (by omega); rw [hg4 1 (by omega)] at this; exact this
  have d2 : w.cell? ⟨bb, off + 2, none⟩ = some (.int .u8 (l.getD (p + 2) 0)) := by have := hcell 2 (by omega); rw [hg4 2 (by omega)] at this; exact this
  have d3 : w.cell? ⟨bb, off + 3, none⟩ = some (.int .u8 (l.getD (p + 3) 0)) := by have := hcell 3 (by omega); rw [hg4 3 (by omega)] at this; exact this
  have hx := byA_getD hB p
  have hy := byA_getD hB (p + 1)
  have hz := byA_getD hB (p + 2)
  have hu := byA_getD hB (p + 3)
  have hK : kindL l p = (sigF true true true (l.getD p 0) (l.getD (p + 1) 0) (l.getD (p + 2) 0) (l.getD (p + 3) 0)).getD 0 := rfl
  have hap := fun (W : World) => run_arrayAt (w := W) (P := Tryd.prog) 61 _ 4 (some ⟨bb, off, none⟩) 4 c3 Tryd.underlying61 (by decide)
  generalize l.getD p 0 = x at *
  generalize l.getD (p + 1) 0 = y at *
  generalize l.getD (p + 2) 0 = z at *
  generalize l.getD (p + 3) 0 = u at *
  generalize kindL l p = K at *
  have hlk : (Instr.lookup 41 (.map (some mb)) (key4 x y z u) false).run Tryd.prog w.drew = .ok (.int .i64 (K : Int)) w.drew := by
    rw [hK]; exact look4_is (W := w.drew) (ownsMap_blk hom rfl) hmi hx hy hz hu
  have hrange : w.drew.rangeAt bb off [.int .u8 x, .int .u8 y, .int .u8 z, .int .u8 u] := fun j v hv => by
    match j, hv with
    | 0, hv => injection hv with hv; subst hv; exact d0
    | 1, hv => injection hv with hv; subst hv; exact d1
    | 2, hv => injection hv with hv; subst hv; exact d2
    | 3, hv => injection hv with hv; subst hv; exact d3
  have hwr : IntKind.i64.wrap ((p : Int) + 4) = (T : Int) := by rw [← hT]; exact IntWalk.i64_in _ (by omega)
  clear h hom hmi hb hcell hK hB b3 hg4 hlen
  go_enter Tryd.func41, Tryd.ntmps41
  go_upto_region 1 with (fail)
  rename_i hKK
  refine wp_region_listed (C := SameC w.drew) (G := GV [.pointer (some ⟨g, 0, none⟩), .pointer (some ⟨g, 0, none⟩), .pointer (some ⟨g, 1, none⟩), .map (some mb), .pointer (some ⟨g, 0, none⟩), .pointer (some ⟨g, 0, none⟩), .pointer (some ⟨g, 0, none⟩), .slice b l.length c, .int .i64 p, .int .i64 p, .int .i64 T, .slice (some ⟨bb, off, none⟩) 4 c3, .pointer (some ⟨bb, off, none⟩), key4 x y z u, .int .i64 K, .int .i64 K])
    (by kernel_rfl) (ordL_spec (by kernel_rfl)) (dstB_spec (by kernel_rfl)) (inB_spec (by kernel_rfl)) (sameC _ _) ?step ?fin
  case step =>
    intro i o a1 listed W ho hli hC hdep hsame
    obtain rfl : W = w.drew := hC
    have hlt16 : i < 16 := lt_of_some ho
    match i, hlt16, ho with
    | 0, _, ho =>
      obtain rfl := Option.some.inj ho
      exact step_val ho rfl (y_move rfl (hsame 0 (notB_spec (by kernel_rfl)))) rfl (sameC _ _)
    | 1, _, ho =>
      obtain rfl := Option.some.inj ho
      exact step_val ho rfl (y_nil rfl ((hdep ⟨0, .data⟩ (by simp) rfl).2 _ _ rfl rfl)) rfl (sameC _ _)
    | 2, _, ho =>
      obtain rfl := Option.some.inj ho
      exact step_val ho rfl (y_field rfl ((hdep ⟨1, .data⟩ (by simp) rfl).2 _ _ rfl rfl) (lk_fa1 g _)) rfl (sameC _ _)
    | 3, _, ho =>
      obtain rfl := Option.some.inj ho
      exact step_val ho rfl (y_load rfl ((hdep ⟨2, .data⟩ (by simp) rfl).2 _ _ rfl rfl) (y_ld3 g 1 _ (.map (some mb)) _ (by kernel_rfl) c1)) rfl (sameC _ _)
    | 4, _, ho =>
      obtain rfl := Option.some.inj ho
      exact step_val ho rfl (y_move rfl (hsame 0 (notB_spec (by kernel_rfl)))) rfl (sameC _ _)
    | 5, _, ho =>
      obtain rfl := Option.some.inj ho
      exact step_val ho rfl (y_nil rfl ((hdep ⟨4, .data⟩ (by simp) rfl).2 _ _ rfl rfl)) rfl (sameC _ _)
    | 6, _, ho =>
      obtain rfl := Option.some.inj ho
      exact step_val ho rfl (y_field rfl ((hdep ⟨5, .data⟩ (by simp) rfl).2 _ _ rfl rfl) (lk_fa0 g _)) rfl (sameC _ _)
    | 7, _, ho =>
      obtain rfl := Option.some.inj ho
      exact step_val ho rfl (y_load rfl ((hdep ⟨6, .data⟩ (by simp) rfl).2 _ _ rfl rfl) (y_ld3 g 0 _ (.slice b l.length c) _ (by kernel_rfl) c0)) rfl (sameC _ _)
    | 8, _, ho =>
      obtain rfl := Option.some.inj ho
      exact step_val ho rfl (y_move rfl (hsame 1 (notB_spec (by kernel_rfl)))) rfl (sameC _ _)
    | 9, _, ho =>
      obtain rfl := Option.some.inj ho
      exact step_val ho rfl (y_move rfl (hsame 1 (notB_spec (by kernel_rfl)))) rfl (sameC _ _)
    | 10, _, ho =>
      obtain rfl := Option.some.inj ho
      exact step_val ho rfl (y_addi rfl ((hdep ⟨9, .data⟩ (by simp) rfl).2 _ _ rfl rfl) rfl hwr) rfl (sameC _ _)
    | 11, _, ho =>
      obtain rfl := Option.some.inj ho
      exact step_val ho rfl (y_slice2 rfl ((hdep ⟨7, .data⟩ (by simp) rfl).2 _ _ rfl rfl) ((hdep ⟨8, .data⟩ (by simp) rfl).2 _ _ rfl rfl) ((hdep ⟨10, .data⟩ (by simp) rfl).2 _ _ rfl rfl) (r3 _)) rfl (sameC _ _)
    | 12, _, ho =>
      obtain rfl := Option.some.inj ho
      exact step_val ho rfl (y_arr rfl ((hdep ⟨11, .data⟩ (by simp) rfl).2 _ _ rfl rfl) (hap _)) rfl (sameC _ _)
    | 13, _, ho =>
      obtain rfl := Option.some.inj ho
      exact step_val ho rfl (y_loadM rfl ((hdep ⟨12, .data⟩ (by simp) rfl).2 _ _ rfl rfl) hrange Tryd.underlying61 rfl (by kernel_rfl)) rfl (sameC _ _)
    | 14, _, ho =>
      obtain rfl := Option.some.inj ho
      exact step_val ho rfl (y_look rfl ((hdep ⟨3, .data⟩ (by simp) rfl).2 _ _ rfl rfl) ((hdep ⟨13, .data⟩ (by simp) rfl).2 _ _ rfl rfl) hlk) rfl (sameC _ _)
    | 15, _, ho =>
      obtain rfl := Option.some.inj ho
      exact step_val ho rfl (y_assign rfl ((hdep ⟨14, .data⟩ (by simp) rfl).2 _ _ rfl rfl)) rfl (sameC _ _)
    | n + 16, h, _ => exact absurd h (by omega)
  case fin =>
    intro a1 listed W hall hC hgood hsame hsize hdef
    obtain rfl : W = w.drew := hC
    refine hKK _ _ (wp_ret ?_)
    have h4 : a1.eval (.tmp 4) = .int .i64 K := hgood 15 _ _ rfl rfl
    exact bodyPost_ret (results_tmp rfl _ _ _) (hdef.trans rfl) ⟨congrArg Ending.returned h4, 1, rfl⟩
end
end Go.Proofs.YtimojfkpcmphfaaDoor
