/- A look at an archive in memory: contracts of num and kind. Condition: the bytes are bytes. Where an archive's end record is: contract of endPlace. Condition: the bytes are bytes. The end record is read: contract of end. Condition: the bytes are bytes. Directory where no entries are, and where the end is wrong. Condition: the bytes are bytes. -/
import Derived.Test.YtdcpibglbanchaaDoorAa
import Derived.Test.YtdcpibglbanchaaDoorLt
import Derived.Laws.Cover3
import Derived.Deep.MidRow
set_option linter.unusedVariables false
set_option maxRecDepth 100000
namespace Go.Proofs.YtdcpibglbanchaaDoor
open Go.RowKit Go.Maps Go.ChangeMaps

/-- the number of k bytes at a place, 0 where there are none -/
def numL (l : List Int) (p k : Int) : Int := (O2.LT l p k).1
/-- what begins at a place -/
def kindL (l : List Int) (p : Nat) : Nat := (sigF true true true (l.getD p 0) (l.getD (p + 1) 0) (l.getD (p + 2) 0) (l.getD (p + 3) 0)).getD 0
theorem byA_getD {l : List Int} (h : Bytes l) (i : Nat) : 0 ≤ l.getD i 0 ∧ l.getD i 0 ≤ 255 := by
  rw [List.getD_eq_getElem?_getD]
  by_cases hi : i < l.length
  · rw [List.getElem?_eq_getElem hi]; exact h _ (List.getElem_mem hi)
  · rw [List.getElem?_eq_none (by omega)]; decide
section
variable {w : World} {g : Nat} {b : Option Addr} {c : Nat} {l : List Int} {x1 x2 x3 x4 x5 x6 : Value} {B : Nat}
theorem lkNum (h : w.heap[g]? = some (.cells #[.slice b l.length c, x1, x2, x3, x4, x5, x6] 42 (0, 0))) (hc : l.length ≤ c) (hm : l.length ≤ 65536) (hb : Bs w B b l) (p k : Int) (hp : -9223372036854775808 ≤ p ∧ p ≤ 9223372036854775807) (hk : -9223372036854775808 ≤ k ∧ k ≤ 9223372036854775807) :
    Calls Tryd.prog 18 #[.pointer (some ⟨g, 0, none⟩), .int .i64 p, .int .i64 k] w fun e w' => e = .returned (.int .i64 (numL l p k)) ∧ w = w' := by
  have c0 : w.cell? ⟨g, 0, none⟩ = some (.slice b l.length c) := by rw [blk_cell h]; rfl
  have hlt := O2.octLittle b l.length c l rfl p k hp hk hc (by omega) w B hb
  clear h
  unfold numL
  go_enter Tryd.func18, Tryd.ntmps18
  go_wp2_with fail
  refine hlt.mono ?_
  rintro e w' ⟨rfl, rfl⟩
  clear hlt
  go_wp2_with fail
  go_ret
  exact ⟨rfl, rfl⟩
def SameC (w : World) (_ : Array Bool) (W : World) : Prop := W = w
theorem sameC (w : World) (L : Array Bool) : SameC w L w := rfl
theorem y_slice2 {P : Program} {ρ : Operand → Value} {w : World} {o : Oper} {x p q : Operand} {t : TypeId} {a b c v : Value} (ho : o.op = .slice t x (some p) (some q) none) (hx : ρ x = a) (hp : ρ p = b) (hq : ρ q = c) (hr : (Instr.sliceAt t a (some b) (some c) none).run P w = .ok v w) : (execOp ρ o).run P w = .ok (.value v) w := by
  simp [execOp, ho, hx, hp, hq, hr, Result.andThen]
theorem y_arr {P : Program} {ρ : Operand → Value} {w : World} {o : Oper} {x : Operand} {t : TypeId} {a v : Value} (ho : o.op = .sliceToArrayPointer t x) (hx : ρ x = a) (hr : (Instr.arrayAt t a).run P w = .ok v w) : (execOp ρ o).run P w = .ok (.value v) w := by
  simp [execOp, ho, hx, hr, Result.andThen]
theorem y_look {P : Program} {ρ : Operand → Value} {w : World} {o : Oper} {x y : Operand} {t : TypeId} {a b v : Value} {ok : Bool} (ho : o.op = .lookup t x y ok) (hx : ρ x = a) (hy : ρ y = b) (hr : (Instr.lookup t a b ok).run P w = .ok v w) : (execOp ρ o).run P w = .ok (.value v) w := by
  simp [execOp, ho, hx, hy, hr, Result.andThen]
theorem y_loadM {P : Program} {ρ : Operand → Value} {w : World} {o : Oper} {x : Operand} {ty : TypeId} {b k : Nat} {cs : List Value} {d : TypeDesc} (ho : o.op = .load ty x) (hx : ρ x = .pointer (some ⟨b, k, none⟩)) (hc : w.rangeAt b k cs) (hu : P.underlying ty = some d) (hd : d.isRow = true) (hi : (P.info? ty).map (·.size) = some cs.length) : (execOp ρ o).run P w = .ok (.value (.agg cs.toArray)) w := by
  have h := run_loadVar_mid w b k ty cs d hc hu hd hi
  simp only [execOp, ho, hx, Instr.loadAt, Instr.sureAddr, Sem.run_bind, Sem.run_pure, Result.andThen_ok, h]
theorem y_addi {a : Act} {w : World} {o : Oper} {x y : Operand} {p q r : Int} {ty : TypeId} (ho : o.op = .binOp .add 3 x y ty) (hx : a.eval x = .int .i64 p) (hy : a.eval y = .int .i64 q) (hr : IntKind.i64.wrap (p + q) = r) : (execOp a.eval o).run Tryd.prog w = .ok (.value (.int .i64 r)) w := by
  subst hr
  unfold execOp
  simp only [ho, hx, hy]
  simp [go_sem]
theorem lk_fa0 (g : Nat) (W : World) : (Instr.fieldAt 42 (.pointer (some ⟨g, 0, none⟩)) 0).run Tryd.prog W = .ok (.pointer (some ⟨g, 0, none⟩)) W := by kernel_rfl
theorem lk_fa1 (g : Nat) (W : World) : (Instr.fieldAt 42 (.pointer (some ⟨g, 0, none⟩)) 1).run Tryd.prog W = .ok (.pointer (some ⟨g, 1, none⟩)) W := by kernel_rfl
set_option maxHeartbeats 4000000 in
theorem lkKind {mb k : Nat} (h : w.heap[g]? = some (.cells #[.slice b l.length c, .map (some mb), x2, x3, x4, x5, x6] 42 (0, 0))) (hmp : Mp4 w mb k (sigF true true true)) (hc : l.length ≤ c) (hm : l.length ≤ 65536) (hb : Bs w B b l) (p : Nat) (hp : p + 4 ≤ l.length) :
    Calls Tryd.prog 25 #[.pointer (some ⟨g, 0, none⟩), .int .i64 p] w fun e w' => e = .returned (.int .i64 (kindL l p)) ∧ ∃ d, w' = w.drewN d := by
  have c0 : w.cell? ⟨g, 0, none⟩ = some (.slice b l.length c) := by rw [blk_cell h]; rfl
  have c1 : w.cell? ⟨g, 1, none⟩ = some (.map (some mb)) := by rw [blk_cell h]; rfl
  have hB := hb.1
  obtain ⟨D, hom, hmi⟩ := hmp
  obtain ⟨T, hT⟩ : ∃ T : Nat, (p : Int) + 4 = T := ⟨p + 4, by omega⟩
  have hT4 : T - p = 4 := by omega
  obtain ⟨a3, c3, r3, _, b3, hc3, _, _⟩ := cut_lh b l.length c l rfl hc (fun e => by
    obtain ⟨_, hcs⟩ := hb
    obtain ⟨b', off, e2, _⟩ := hcs (by omega)
    rw [e] at e2; cases e2) p T (by omega) (by omega)
  rw [hT4] at r3 hc3
  have hlen : (cutOf l p T).length = 4 := by rw [cutOf_len (by omega), hT4]
  have hg4 : ∀ i, i < 4 → (cutOf l p T).getD i 0 = l.getD (p + i) 0 := fun i hi => by
    unfold cutOf
    simp only [List.getD_eq_getElem?_getD]
    rw [List.getElem?_take_of_lt (by omega), List.getElem?_drop]
  obtain ⟨bb, off, rfl, hbl, hcell⟩ := (b3 w B hb).2 (by omega)
  have d0 : w.cell? ⟨bb, off, none⟩ = some (.int .u8 (l.getD p 0)) := by have := hcell 0 (by omega); rw [hg4 0 (by omega)] at this; exact this
  have d1 : w.cell? ⟨bb, off + 1, none⟩ = some (.int .u8 (l.getD (p + 1) 0)) := by have := hcell 1 (by omega); rw [hg4 1 (by omega)] at this; exact this
  have d2 : w.cell? ⟨bb, off + 2, none⟩ = some (.int .u8 (l.getD (p + 2) 0)) := by have := hcell 2 (by omega); rw [hg4 2 (by omega)] at this; exact this
  have d3 : w.cell? ⟨bb, off + 3, none⟩ = some (.int .u8 (l.getD (p + 3) 0)) := by have := hcell 3 (by omega); rw [hg4 3 (by omega)] at this; exact this
  have hx := byA_getD hB p
  have hy := byA_getD hB (p + 1)
  have hz := byA_getD hB (p + 2)
  have hu := byA_getD hB (p + 3)
  have hK : kindL l p = (sigF true true true (l.getD p 0) (l.getD (p + 1) 0) (l.getD (p + 2) 0) (l.getD (p + 3) 0)).getD 0 := rfl
  have hap := fun (W : World) => run_arrayAt (w := W) (P := Tryd.prog) 47 _ 4 (some ⟨bb, off, none⟩) 4 c3 Tryd.underlying47 (by decide)
  generalize l.getD p 0 = x at *
  generalize l.getD (p + 1) 0 = y at *
  generalize l.getD (p + 2) 0 = z at *
  generalize l.getD (p + 3) 0 = u at *
  generalize kindL l p = K at *
  have hlk : (Instr.lookup 37 (.map (some mb)) (key4 x y z u) false).run Tryd.prog w.drew = .ok (.int .i64 (K : Int)) w.drew := by
    rw [hK]; exact look4_is (W := w.drew) (ownsMap_blk hom rfl) hmi hx hy hz hu
  have hrange : w.drew.rangeAt bb off [.int .u8 x, .int .u8 y, .int .u8 z, .int .u8 u] := fun j v hv => by
    match j, hv with
    | 0, hv => injection hv with hv; subst hv; exact d0
    | 1, hv => injection hv with hv; subst hv; exact d1
    | 2, hv => injection hv with hv; subst hv; exact d2
    | 3, hv => injection hv with hv; subst hv; exact d3
  have hwr : IntKind.i64.wrap ((p : Int) + 4) = (T : Int) := by rw [← hT]; exact IntWalk.i64_in _ (by omega)
  clear h hom hmi hb hcell hK hB b3 hg4 hlen
  go_enter Tryd.func25, Tryd.ntmps25
  go_upto_region 1 with (fail)
  rename_i hKK
  refine wp_region_listed (C := SameC w.drew) (G := GV [.pointer (some ⟨g, 0, none⟩), .pointer (some ⟨g, 0, none⟩), .pointer (some ⟨g, 1, none⟩), .map (some mb), .pointer (some ⟨g, 0, none⟩), .pointer (some ⟨g, 0, none⟩), .pointer (some ⟨g, 0, none⟩), .slice b l.length c, .int .i64 p, .int .i64 p, .int .i64 T, .slice (some ⟨bb, off, none⟩) 4 c3, .pointer (some ⟨bb, off, none⟩), key4 x y z u, .int .i64 K, .int .i64 K])
    (by kernel_rfl) (ordL_spec (by kernel_rfl)) (dstB_spec (by kernel_rfl)) (inB_spec (by kernel_rfl)) (sameC _ _) ?step ?fin
  case step =>
    intro i o a1 listed W ho hli hC hdep hsame
    obtain rfl : W = w.drew := hC
    have hlt16 : i < 16 := lt_of_some ho
    match i, hlt16, ho with
    | 0, _, ho =>
      obtain rfl := Option.some.inj ho
      exact step_val ho rfl (y_move rfl (hsame 0 (notB_spec (by kernel_rfl)))) rfl (sameC _ _)
    | 1, _, ho =>
      obtain rfl := Option.some.inj ho
      exact step_val ho rfl (y_nil rfl ((hdep ⟨0, .data⟩ (by simp) rfl).2 _ _ rfl rfl)) rfl (sameC _ _)
    | 2, _, ho =>
      obtain rfl := Option.some.inj ho
      exact step_val ho rfl (y_field rfl ((hdep ⟨1, .data⟩ (by simp) rfl).2 _ _ rfl rfl) (lk_fa1 g _)) rfl (sameC _ _)
    | 3, _, ho =>
      obtain rfl := Option.some.inj ho
      exact step_val ho rfl (y_load rfl ((hdep ⟨2, .data⟩ (by simp) rfl).2 _ _ rfl rfl) (y_ld3 g 1 _ (.map (some mb)) _ (by kernel_rfl) c1)) rfl (sameC _ _)
    | 4, _, ho =>
      obtain rfl := Option.some.inj ho
      exact step_val ho rfl (y_move rfl (hsame 0 (notB_spec (by kernel_rfl)))) rfl (sameC _ _)
    | 5, _, ho =>
      obtain rfl := Option.some.inj ho
      exact step_val ho rfl (y_nil rfl ((hdep ⟨4, .data⟩ (by simp) rfl).2 _ _ rfl rfl)) rfl (sameC _ _)
    | 6, _, ho =>
      obtain rfl := Option.some.inj ho
      exact step_val ho rfl (y_field rfl ((hdep ⟨5, .data⟩ (by simp) rfl).2 _ _ rfl rfl) (lk_fa0 g _)) rfl (sameC _ _)
    | 7, _, ho =>
      obtain rfl := Option.some.inj ho
      exact step_val ho rfl (y_load rfl ((hdep ⟨6, .data⟩ (by simp) rfl).2 _ _ rfl rfl) (y_ld3 g 0 _ (.slice b l.length c) _ (by kernel_rfl) c0)) rfl (sameC _ _)
    | 8, _, ho =>
      obtain rfl := Option.some.inj ho
      exact step_val ho rfl (y_move rfl (hsame 1 (notB_spec (by kernel_rfl)))) rfl (sameC _ _)
    | 9, _, ho =>
      obtain rfl := Option.some.inj ho
      exact step_val ho rfl (y_move rfl (hsame 1 (notB_spec (by kernel_rfl)))) rfl (sameC _ _)
    | 10, _, ho =>
      obtain rfl := Option.some.inj ho
      exact step_val ho rfl (y_addi rfl ((hdep ⟨9, .data⟩ (by simp) rfl).2 _ _ rfl rfl) rfl hwr) rfl (sameC _ _)
    | 11, _, ho =>
      obtain rfl := Option.some.inj ho
      exact step_val ho rfl (y_slice2 rfl ((hdep ⟨7, .data⟩ (by simp) rfl).2 _ _ rfl rfl) ((hdep ⟨8, .data⟩ (by simp) rfl).2 _ _ rfl rfl) ((hdep ⟨10, .data⟩ (by simp) rfl).2 _ _ rfl rfl) (r3 _)) rfl (sameC _ _)
    | 12, _, ho =>
      obtain rfl := Option.some.inj ho
      exact step_val ho rfl (y_arr rfl ((hdep ⟨11, .data⟩ (by simp) rfl).2 _ _ rfl rfl) (hap _)) rfl (sameC _ _)
    | 13, _, ho =>
      obtain rfl := Option.some.inj ho
      exact step_val ho rfl (y_loadM rfl ((hdep ⟨12, .data⟩ (by simp) rfl).2 _ _ rfl rfl) hrange Tryd.underlying47 rfl (by kernel_rfl)) rfl (sameC _ _)
    | 14, _, ho =>
      obtain rfl := Option.some.inj ho
      exact step_val ho rfl (y_look rfl ((hdep ⟨3, .data⟩ (by simp) rfl).2 _ _ rfl rfl) ((hdep ⟨13, .data⟩ (by simp) rfl).2 _ _ rfl rfl) hlk) rfl (sameC _ _)
    | 15, _, ho =>
      obtain rfl := Option.some.inj ho
      exact step_val ho rfl (y_assign rfl ((hdep ⟨14, .data⟩ (by simp) rfl).2 _ _ rfl rfl)) rfl (sameC _ _)
    | n + 16, h, _ => exact absurd h (by omega)
  case fin =>
    intro a1 listed W hall hC hgood hsame hsize hdef
    obtain rfl : W = w.drew := hC
    refine hKK _ _ (wp_ret ?_)
    have h4 : a1.eval (.tmp 4) = .int .i64 K := hgood 15 _ _ rfl rfl
    exact bodyPost_ret (results_tmp rfl _ _ _) (hdef.trans rfl) ⟨congrArg Ending.returned h4, 1, rfl⟩
end
end Go.Proofs.YtdcpibglbanchaaDoor

set_option linter.unusedVariables false
set_option maxRecDepth 100000
namespace Go.Proofs.YtdcpibglbanchaaDoor
open Go.RowKit Go.Maps Go.ChangeMaps

/-- does an end record stand there? -/
def endC (l : List Int) (p : Nat) : Prop := numL l ((p : Int) + 20) 2 = (l.length : Int) - 22 - p ∧ kindL l p = 3
instance (l : List Int) (p : Nat) : Decidable (endC l p) := by unfold endC; exact inferInstance
/-- of the first places the last one that has an end record, and how many have one -/
def epS (l : List Int) : Nat → Nat × Nat
  | 0 => (0, 0)
  | k + 1 => if endC l k then (k, (epS l k).2 + 1) else epS l k
theorem epS_le (l : List Int) : ∀ k, (epS l k).1 ≤ k ∧ (epS l k).2 ≤ k
  | 0 => ⟨Nat.le_refl _, Nat.le_refl _⟩
  | k + 1 => by
    have ih := epS_le l k
    unfold epS
    split
    · exact ⟨by show k ≤ k + 1; omega, by show _ + 1 ≤ k + 1; omega⟩
    · omega
section
variable {w : World} {g : Nat} {b : Option Addr} {c : Nat} {l : List Int} {x2 x3 x4 x5 x6 : Value} {B : Nat}
set_option maxHeartbeats 4000000 in
theorem lkEndPlace {mb k : Nat} (h : w.heap[g]? = some (.cells #[.slice b l.length c, .map (some mb), x2, x3, x4, x5, x6] 42 (0, 0))) (hmp : Mp4 w mb k (sigF true true true)) (hc : l.length ≤ c) (hm : l.length ≤ 65536) (hb : Bs w B b l) :
    Calls Tryd.prog 17 #[.pointer (some ⟨g, 0, none⟩)] w fun e w' => e = .returned (.tuple #[.int .i64 ((epS l (l.length - 21)).1 : Nat), .bool ((epS l (l.length - 21)).2 == 1)]) ∧ ∃ d, w' = w.drewN d := by
  have c0 : w.cell? ⟨g, 0, none⟩ = some (.slice b l.length c) := by rw [blk_cell h]; rfl
  have HH := Lib.hid (And.intro h (And.intro hmp hb))
  clear h hmp hb
  obtain ⟨M, hM⟩ : ∃ M : Nat, l.length - 21 = M := ⟨_, rfl⟩
  rw [hM]
  have HM := Lib.hid hM
  clear hM
  go_enter Tryd.func17, Tryd.ntmps17
  go_wp2_with fail
  go_loopw [4, 5, 15] (fun v4 v5 i wr => ∃ q d : Nat, q ≤ M ∧ i = .int .i64 q ∧ v4 = .int .i64 ((epS l q).1 : Nat) ∧ v5 = .int .i64 ((epS l q).2 : Nat) ∧ wr = w.drewN d) (fun _ _ i _ => M - (intOf i).toNat)
  case atStart => exact ⟨0, 0, Nat.zero_le _, rfl, rfl, rfl, rfl⟩
  case round =>
    obtain ⟨q, d, hq, rfl, rfl, rfl, rfl⟩ := hrel
    obtain ⟨hp1, hp2⟩ := epS_le l q
    by_cases hlt : q < M
    · have hq22 : q + 22 ≤ l.length := by have := HM.out; omega
      have c0d : (w.drewN d).cell? ⟨g, 0, none⟩ = some (.slice b l.length c) := c0
      have hn1 := lkNum (w := w.drewN d) (g := g) (B := B) HH.out.1 hc hm (HH.out.2.2.below (low_drewN (Below.refl _ _) d)) ((q : Int) + 20) 2 (by omega) (by decide)
      have hk1 := lkKind (w := w.drewN d) (g := g) (B := B) HH.out.1 (HH.out.2.1.blk rfl) hc hm (HH.out.2.2.below (low_drewN (Below.refl _ _) d)) q (by omega)
      have hstep : epS l (q + 1) = if numL l ((q : Int) + 20) 2 = (l.length : Int) - 22 - q ∧ kindL l q = 3 then (q, (epS l q).2 + 1) else epS l q := rfl
      have HS := Lib.hid hstep
      have hd1 : decide ((q : Int) < (l.length : Int) - 22 + 1) = true := by simp; omega
      clear hstep
      generalize numL l ((q : Int) + 20) 2 = N1 at *
      generalize kindL l q = K1 at *
      obtain ⟨P1, hP1⟩ : ∃ P1, (epS l q).1 = P1 := ⟨_, rfl⟩
      obtain ⟨P2, hP2⟩ : ∃ P2, (epS l q).2 = P2 := ⟨_, rfl⟩
      have HP := Lib.hid (And.intro hP1 hP2)
      rw [hP2] at HS
      rw [hP1] at hp1 ⊢
      rw [hP2] at hp2 ⊢
      clear hP1 hP2
      have hwr : (q : Int) < (l.length : Int) - 22 + 1 := by omega
      by_cases e1 : N1 = (l.length : Int) - 22 - q
      · have t1 : (N1 == (l.length : Int) - 22 - q) = true := by simp [e1]
        by_cases e2 : K1 = 3
        · have t2 : ((K1 : Int) == 3) = true := by simp [e2]
          have hS : epS l (q + 1) = (q, P2 + 1) := by rw [HS.out, if_pos ⟨e1, e2⟩]
          have HS2 := Lib.hid hS
          clear e1 e2 hS
          go_wp2_with fail
          refine hn1.mono ?_
          rintro e w1 ⟨rfl, rfl⟩
          clear hn1
          go_wp2_with fail
          refine hk1.mono ?_
          rintro e w2 ⟨rfl, d2, rfl⟩
          clear hk1
          go_wp2_with fail
          go_roundw
          case rel => exact ⟨q + 1, d + d2, by omega, by go_num, by rw [HS2.out], by rw [HS2.out]; go_num, by simp⟩
          case measure => simp [intOf]; omega
        · have t2 : ((K1 : Int) == 3) = false := by simp; omega
          have hS : epS l (q + 1) = epS l q := by rw [HS.out, if_neg (fun h => e2 h.2)]
          have HS2 := Lib.hid hS
          clear e1 e2 hS
          go_wp2_with fail
          refine hn1.mono ?_
          rintro e w1 ⟨rfl, rfl⟩
          clear hn1
          go_wp2_with fail
          refine hk1.mono ?_
          rintro e w2 ⟨rfl, d2, rfl⟩
          clear hk1
          go_wp2_with fail
          go_roundw
          case rel => exact ⟨q + 1, d + d2, by omega, by go_num, by rw [HS2.out, HP.out.1], by rw [HS2.out, HP.out.2], by simp⟩
          case measure => simp [intOf]; omega
      · have t1 : (N1 == (l.length : Int) - 22 - q) = false := by simp [e1]
        have hS : epS l (q + 1) = epS l q := by rw [HS.out, if_neg (fun h => e1 h.1)]
        have HS2 := Lib.hid hS
        clear e1 hS
        go_wp2_with fail
        refine hn1.mono ?_
        rintro e w1 ⟨rfl, rfl⟩
        clear hn1 hk1
        go_wp2_with fail
        go_roundw
        case rel => exact ⟨q + 1, d, by omega, by go_num, by rw [HS2.out, HP.out.1], by rw [HS2.out, HP.out.2], rfl⟩
        case measure => simp [intOf]; omega
    · obtain rfl : M = q := by omega
      have hd1 : decide ((M : Int) < (l.length : Int) - 22 + 1) = false := by have := HM.out; simp; omega
      have hwr : ¬ (M : Int) < (l.length : Int) - 22 + 1 := by have := HM.out; omega
      have hb : ((((epS l M).2 : Nat) : Int) == 1) = ((epS l M).2 == 1) := by
        by_cases h : (epS l M).2 = 1
        · rw [h]; rfl
        · rw [show ((epS l M).2 == 1) = false by simp [h], show ((((epS l M).2 : Nat) : Int) == 1) = false by simp; omega]
      have HB := Lib.hid hb
      clear hb
      go_wp2_with fail
      go_ret2
      exact ⟨by rw [← HB.out]; rfl, d, rfl⟩
end
end Go.Proofs.YtdcpibglbanchaaDoor

set_option linter.unusedVariables false
set_option maxRecDepth 100000
namespace Go.Proofs.YtdcpibglbanchaaDoor
open Go.RowKit Go.Maps Go.ChangeMaps

theorem numL_bd {l : List Int} (hl : Bytes l) (p k : Int) (hk : k ≤ 4) : 0 ≤ numL l p k ∧ numL l p k ≤ 4294967295 := by
  unfold numL O2.LT
  split
  · exact ⟨by decide, by decide⟩
  · split
    · exact ⟨by decide, by decide⟩
    · rename_i h1 h2
      have hlen := O2.piece_len (l := l) (at_ := p) (n := k) (by omega) (by omega)
      have hby : Bytes (O2.piece l p k).reverse := Bytes.reverse ((hl.drop _).take _)
      have hb := O2.big_bd _ hby
      rw [List.length_reverse, hlen] at hb
      obtain ⟨m, rfl⟩ : ∃ m : Nat, k = m := ⟨k.toNat, by omega⟩
      rw [Int.toNat_natCast] at hb
      rw [O2.pow256] at hb
      have hp := pow_mono2 (show 8 * m ≤ 32 by omega)
      have e : (2 : Int) ^ 32 = 4294967296 := by decide
      unfold O2.numW
      show 0 ≤ wrap64 _ ∧ wrap64 _ ≤ _
      unfold wrap64
      omega
/-- what an archive's end tells: where the directory begins and ends, and how many entries it has -/
def endS (l : List Int) : Except Int (Int × Nat × Int) :=
  if (epS l (l.length - 21)).2 ≠ 1 then .error 9 else
  let p := (epS l (l.length - 21)).1
  if numL l ((p : Int) + 4) 2 ≠ 0 ∨ numL l ((p : Int) + 6) 2 ≠ 0 ∨ numL l ((p : Int) + 8) 2 ≠ numL l ((p : Int) + 10) 2 ∨ numL l ((p : Int) + 10) 2 > 64 ∨ numL l ((p : Int) + 16) 4 + numL l ((p : Int) + 12) 4 ≠ p then .error 10
  else .ok (numL l ((p : Int) + 16) 4, p, numL l ((p : Int) + 10) 2)
section
variable {w : World} {g : Nat} {b : Option Addr} {c : Nat} {l : List Int} {x5 x6 : Value} {B : Nat}
set_option maxHeartbeats 4000000 in
theorem lkEnd {mb k : Nat} (h : w.heap[g]? = some (.cells #[.slice b l.length c, .map (some mb), .int .i64 0, .int .i64 0, .int .i64 0, x5, x6] 42 (0, 0))) (hmp : Mp4 w mb k (sigF true true true)) (hc : l.length ≤ c) (hm : l.length ≤ 65536) (hb : Bs w B b l) (hB : B ≤ g) :
    Calls Tryd.prog 10 #[.pointer (some ⟨g, 0, none⟩)] w fun e w' => Only g w w' ∧ ((∃ er, endS l = .error er ∧ er ≠ 0 ∧ e = .returned (.int .i64 er)) ∨ (∃ fr tt ct, endS l = .ok (fr, (tt : Nat), ct) ∧ e = .returned (.int .i64 0) ∧ w'.heap[g]? = some (.cells #[.slice b l.length c, .map (some mb), .int .i64 fr, .int .i64 tt, .int .i64 ct, x5, x6] 42 (0, 0)))) := by
  have hep := lkEndPlace h hmp hc hm hb
  have hle := epS_le l (l.length - 21)
  have hE : endS l = if (epS l (l.length - 21)).2 ≠ 1 then .error 9 else
    if numL l (((epS l (l.length - 21)).1 : Int) + 4) 2 ≠ 0 ∨ numL l (((epS l (l.length - 21)).1 : Int) + 6) 2 ≠ 0 ∨ numL l (((epS l (l.length - 21)).1 : Int) + 8) 2 ≠ numL l (((epS l (l.length - 21)).1 : Int) + 10) 2 ∨ numL l (((epS l (l.length - 21)).1 : Int) + 10) 2 > 64 ∨ numL l (((epS l (l.length - 21)).1 : Int) + 16) 4 + numL l (((epS l (l.length - 21)).1 : Int) + 12) 4 ≠ (epS l (l.length - 21)).1 then .error 10
    else .ok (numL l (((epS l (l.length - 21)).1 : Int) + 16) 4, (epS l (l.length - 21)).1, numL l (((epS l (l.length - 21)).1 : Int) + 10) 2) := rfl
  have hfree := fun i => blk_free h i
  have HH := Lib.hid (And.intro h hb)
  clear h hmp
  generalize (epS l (l.length - 21)).2 = T at *
  generalize (epS l (l.length - 21)).1 = P at *
  have hP : P ≤ 65536 := by omega
  by_cases hT : T = 1
  · have t0 : (T == 1) = true := by simp [hT]
    rw [t0] at hep
    rw [if_neg (by simpa using hT)] at hE
    have hn := fun (d : Nat) (q : Int) (hq : 0 ≤ q ∧ q ≤ 20) (k : Int) (hk : 0 ≤ k ∧ k ≤ 4) => lkNum (w := w.drewN d) (g := g) (B := B) HH.out.1 hc hm (HH.out.2.below (low_drewN (Below.refl _ _) d)) ((P : Int) + q) k (by omega) (by omega)
    have b12 := numL_bd hb.1 ((P : Int) + 12) 4 (by decide)
    have b16 := numL_bd hb.1 ((P : Int) + 16) 4 (by decide)
    have n4 := fun d => hn d 4 (by decide) 2 (by decide)
    have n6 := fun d => hn d 6 (by decide) 2 (by decide)
    have n8 := fun d => hn d 8 (by decide) 2 (by decide)
    have n10 := fun d => hn d 10 (by decide) 2 (by decide)
    have n12 := fun d => hn d 12 (by decide) 4 (by decide)
    have n16 := fun d => hn d 16 (by decide) 4 (by decide)
    clear hn hT t0 hb
    generalize numL l ((P : Int) + 4) 2 = N4 at *
    generalize numL l ((P : Int) + 6) 2 = N6 at *
    generalize numL l ((P : Int) + 8) 2 = N8 at *
    generalize numL l ((P : Int) + 10) 2 = N10 at *
    generalize numL l ((P : Int) + 12) 4 = N12 at *
    generalize numL l ((P : Int) + 16) 4 = N16 at *
    have HE := Lib.hid hE
    clear hE hle
    go_enter Tryd.func10, Tryd.ntmps10
    go_wp2_with fail
    refine hep.mono ?_
    rintro e w1 ⟨rfl, d, rfl⟩
    clear hep
    have n4' := n4 d
    clear n4
    go_wp2_with fail
    refine n4'.mono ?_
    rintro e w1 ⟨rfl, rfl⟩
    clear n4'
    have n6' := n6 d
    clear n6
    go_wp2_with fail
    refine n6'.mono ?_
    rintro e w1 ⟨rfl, rfl⟩
    clear n6'
    have n8' := n8 d
    clear n8
    go_wp2_with fail
    refine n8'.mono ?_
    rintro e w1 ⟨rfl, rfl⟩
    clear n8'
    have n10' := n10 d
    clear n10
    go_wp2_with fail
    refine n10'.mono ?_
    rintro e w1 ⟨rfl, rfl⟩
    clear n10'
    have n12' := n12 d
    clear n12
    go_wp2_with fail
    refine n12'.mono ?_
    rintro e w1 ⟨rfl, rfl⟩
    clear n12'
    have n16' := n16 d
    clear n16
    go_wp2_with fail
    refine n16'.mono ?_
    rintro e w1 ⟨rfl, rfl⟩
    clear n16'
    by_cases a1 : N4 = 0
    · have t1 : (N4 != 0) = false := by simp [a1]
      by_cases a2 : N6 = 0
      · have t2 : (N6 != 0) = false := by simp [a2]
        by_cases a3 : N8 = N10
        · have t3 : (N8 != N10) = false := by simp [a3]
          by_cases a4 : N10 > 64
          · have t4 : decide (N10 > 64) = true := by simp [a4]
            have hEB : endS l = .error 10 := by rw [HE.out]; exact if_pos (.inr (.inr (.inr (.inl a4))))
            have HEB := Lib.hid hEB
            clear a1 a2 a3 a4 hEB
            go_wp2_with fail
            go_ret
            exact ⟨only_of_below (only_refl _ _) (low_drewN (Below.refl _ _) d), .inl ⟨10, HEB.out, by decide, rfl⟩⟩
          · have t4 : decide (N10 > 64) = false := by simp; omega
            by_cases a5 : N16 + N12 = P
            · have t5 : (N16 + N12 != (P : Int)) = false := by simp [a5]
              have hEB : endS l = .ok (N16, P, N10) := by
                rw [HE.out]; exact if_neg (fun h => by
                  rcases h with h | h | h | h | h
                  · exact h a1
                  · exact h a2
                  · exact h a3
                  · exact a4 h
                  · exact h a5)
              have HEB := Lib.hid hEB
              have hH : (w.drewN d).heap[g]? = some (.cells #[.slice b l.length c, .map (some mb), .int .i64 0, .int .i64 0, .int .i64 0, x5, x6] 42 (0, 0)) := HH.out.1
              have q2 : (w.drewN d).cell? ⟨g, 2, none⟩ = some (.int .i64 0) := by rw [blk_cell hH]; rfl
              have q3 : (w.drewN d).cell? ⟨g, 3, none⟩ = some (.int .i64 0) := by rw [blk_cell hH]; rfl
              have q4 : (w.drewN d).cell? ⟨g, 4, none⟩ = some (.int .i64 0) := by rw [blk_cell hH]; rfl
              have f2 := hfree 2
              have f3 := hfree 3
              have f4 := hfree 4
              have k1 := blk_set hH 2 (.int .i64 N16)
              have k2 := blk_set k1 3 (.int .i64 (P : Int))
              have k3 := blk_set k2 4 (.int .i64 N10)
              have HK := Lib.hid k3
              clear a1 a2 a3 a4 a5 hEB k1 k2 k3 hH
              go_wp2_with fail
              go_ret
              exact ⟨only_set (only_set (only_set (only_of_below (only_refl _ _) (low_drewN (Below.refl _ _) d)) _ _) _ _) _ _, .inr ⟨N16, P, N10, HEB.out, rfl, HK.out⟩⟩
            · have t5 : (N16 + N12 != (P : Int)) = true := by simp [a5]
              have hEB : endS l = .error 10 := by rw [HE.out]; exact if_pos (.inr (.inr (.inr (.inr a5))))
              have HEB := Lib.hid hEB
              clear a1 a2 a3 a4 a5 hEB
              go_wp2_with fail
              go_ret
              exact ⟨only_of_below (only_refl _ _) (low_drewN (Below.refl _ _) d), .inl ⟨10, HEB.out, by decide, rfl⟩⟩
        · have t3 : (N8 != N10) = true := by simp [a3]
          have hEB : endS l = .error 10 := by rw [HE.out]; exact if_pos (.inr (.inr (.inl a3)))
          have HEB := Lib.hid hEB
          clear a1 a2 a3 hEB
          go_wp2_with fail
          go_ret
          exact ⟨only_of_below (only_refl _ _) (low_drewN (Below.refl _ _) d), .inl ⟨10, HEB.out, by decide, rfl⟩⟩
      · have t2 : (N6 != 0) = true := by simp [a2]
        have hEB : endS l = .error 10 := by rw [HE.out]; exact if_pos (.inr (.inl a2))
        have HEB := Lib.hid hEB
        clear a1 a2 hEB
        go_wp2_with fail
        go_ret
        exact ⟨only_of_below (only_refl _ _) (low_drewN (Below.refl _ _) d), .inl ⟨10, HEB.out, by decide, rfl⟩⟩
    · have t1 : (N4 != 0) = true := by simp [a1]
      have hEB : endS l = .error 10 := by rw [HE.out]; exact if_pos (.inl a1)
      have HEB := Lib.hid hEB
      clear a1 hEB
      go_wp2_with fail
      go_ret
      exact ⟨only_of_below (only_refl _ _) (low_drewN (Below.refl _ _) d), .inl ⟨10, HEB.out, by decide, rfl⟩⟩
  · have t0 : (T == 1) = false := by simp [hT]
    rw [t0] at hep
    rw [if_pos hT] at hE
    have HE := Lib.hid hE
    clear hE hle hb
    go_enter Tryd.func10, Tryd.ntmps10
    go_wp2_with fail
    refine hep.mono ?_
    rintro e w1 ⟨rfl, d, rfl⟩
    clear hep
    go_wp2_with fail
    go_ret
    exact ⟨only_of_below (only_refl _ _) (low_drewN (Below.refl _ _) d), .inl ⟨9, HE.out, by decide, rfl⟩⟩
end
end Go.Proofs.YtdcpibglbanchaaDoor

set_option linter.unusedVariables false
set_option maxRecDepth 100000
namespace Go.Proofs.YtdcpibglbanchaaDoor
open Go.RowKit Go.Maps Go.ChangeMaps

section
variable {w : World} {g : Nat} {x0 x1 x2 x3 x4 x5 x6 : Value}
theorem centralZ (h : w.heap[g]? = some (.cells #[x0, x1, .int .i64 0, .int .i64 0, .int .i64 0, x5, x6] 42 (0, 0))) :
    Calls Tryd.prog 11 #[.pointer (some ⟨g, 0, none⟩)] w fun e w' => e = .returned (.int .i64 0) ∧ w' = w := by
  have c2 : w.cell? ⟨g, 2, none⟩ = some (.int .i64 0) := by rw [blk_cell h]; rfl
  have c3 : w.cell? ⟨g, 3, none⟩ = some (.int .i64 0) := by rw [blk_cell h]; rfl
  have c4 : w.cell? ⟨g, 4, none⟩ = some (.int .i64 0) := by rw [blk_cell h]; rfl
  clear h
  go_enter Tryd.func11, Tryd.ntmps11
  go_wp2_with fail
  go_loopw [3, 14] (fun v i wr => v = .int .i64 0 ∧ i = .int .i64 0 ∧ wr = w) (fun _ _ _ => 0)
  case atStart => exact ⟨rfl, rfl, rfl⟩
  case round =>
    obtain ⟨rfl, rfl, rfl⟩ := hrel
    go_wp2_with fail
    go_ret
    exact ⟨rfl, rfl⟩
theorem localsZ (h : w.heap[g]? = some (.cells #[x0, x1, x2, x3, x4, x5, .slice none 0 0] 42 (0, 0))) :
    Calls Tryd.prog 12 #[.pointer (some ⟨g, 0, none⟩)] w fun e w' => e = .returned (.int .i64 0) ∧ w' = w := by
  have c6 : w.cell? ⟨g, 6, none⟩ = some (.slice none 0 0) := by rw [blk_cell h]; rfl
  clear h
  go_enter Tryd.func12, Tryd.ntmps12
  go_wp2_with fail
  go_loopw [9] (fun i wr => i = .int .i64 0 ∧ wr = w) (fun _ _ => 0)
  case atStart => exact ⟨rfl, rfl⟩
  case round =>
    obtain ⟨rfl, rfl⟩ := hrel
    go_wp2_with fail
    go_ret
    exact ⟨rfl, rfl⟩
theorem overlapZ (h : w.heap[g]? = some (.cells #[x0, x1, x2, x3, x4, x5, .slice none 0 0] 42 (0, 0))) :
    Calls Tryd.prog 13 #[.pointer (some ⟨g, 0, none⟩)] w fun e w' => e = .returned (.bool false) ∧ w' = w := by
  have c6 : w.cell? ⟨g, 6, none⟩ = some (.slice none 0 0) := by rw [blk_cell h]; rfl
  clear h
  go_enter Tryd.func13, Tryd.ntmps13
  go_wp2_with fail
  go_loopw [12] (fun i wr => i = .int .i64 0 ∧ wr = w) (fun _ _ => 0)
  case atStart => exact ⟨rfl, rfl⟩
  case round =>
    obtain ⟨rfl, rfl⟩ := hrel
    go_wp2_with fail
    go_ret
    exact ⟨rfl, rfl⟩
theorem recordsZ (h : w.heap[g]? = some (.cells #[x0, x1, x2, x3, x4, x5, .slice none 0 0] 42 (0, 0))) :
    Calls Tryd.prog 14 #[.pointer (some ⟨g, 0, none⟩)] w fun e w' => e = .returned (.slice none 0 0) ∧ Below w.heap.size w w' := by
  have c6 : w.cell? ⟨g, 6, none⟩ = some (.slice none 0 0) := by rw [blk_cell h]; rfl
  clear h
  go_enter Tryd.func14, Tryd.ntmps14
  go_wp2_with fail
  go_loopw [3, 11] (fun v i wr => v = .slice none 0 0 ∧ i = .int .i64 0 ∧ wr = w) (fun _ _ _ => 0)
  case atStart => exact ⟨rfl, rfl, rfl⟩
  case round =>
    obtain ⟨rfl, rfl, rfl⟩ := hrel
    go_wp2_with fail
    go_ret
    exact ⟨rfl, Below.refl _ _⟩
end
def dirW (w w1 : World) (b : Option Addr) (n c : Nat) : World := (w1.alloc (Obj.map #[] 0)).alloc (.cells #[.slice b n c, .map (some w.heap.size), .int .i64 0, .int .i64 0, .int .i64 0, .map (some w1.heap.size), .slice none 0 0] 42)
theorem dir_end {w w1 : World} {b : Option Addr} {c k : Nat} {l : List Int} (hc : l.length ≤ c) (hm : l.length ≤ 65536) (hb : Bs w w.heap.size b l) (hmp : Mp4 w1 w.heap.size k (sigF true true true)) (hb1 : Below w.heap.size w w1) :
    Calls Tryd.prog 10 #[.pointer (some ⟨w1.heap.size + 1, 0, none⟩)] (dirW w w1 b l.length c) fun e w' => Below w.heap.size w w' ∧ ((∃ er, endS l = .error er ∧ er ≠ 0 ∧ e = .returned (.int .i64 er)) ∨ (∃ fr tt ct, endS l = .ok (fr, (tt : Nat), ct) ∧ e = .returned (.int .i64 0) ∧ w'.heap[w1.heap.size + 1]? = some (.cells #[.slice b l.length c, .map (some w.heap.size), .int .i64 fr, .int .i64 tt, .int .i64 ct, .map (some w1.heap.size), .slice none 0 0] 42 (0, 0)))) := by
  have hnew := heap_alloc_new (w1.alloc (Obj.map #[] 0)) (.cells #[.slice b l.length c, .map (some w.heap.size), .int .i64 0, .int .i64 0, .int .i64 0, .map (some w1.heap.size), .slice none 0 0] 42)
  rw [show (w1.alloc (Obj.map #[] 0)).heap.size = w1.heap.size + 1 by simp] at hnew
  have hbl : Below w1.heap.size w1 (dirW w w1 b l.length c) := ((Below.refl w1.heap.size w1).alloc (Nat.le_refl _) (Obj.map #[] 0)).alloc (by simp) (.cells #[.slice b l.length c, .map (some w.heap.size), .int .i64 0, .int .i64 0, .int .i64 0, .map (some w1.heap.size), .slice none 0 0] 42)
  have hsz := hb1.size
  have hs2 : (dirW w w1 b l.length c).heap.size = w1.heap.size + 2 := by unfold dirW; simp
  have hlow := below_next hb1 (Nat.le_refl _) hbl
  have hm2 : Mp4 (dirW w w1 b l.length c) w.heap.size k (sigF true true true) := hmp.blk (hbl.block _ hmp.lt)
  refine (lkEnd hnew hm2 hc hm (hb.below hlow) (by omega)).mono ?_
  rintro e w' ⟨ho, h⟩
  exact ⟨low_only hlow ho (by omega) (Nat.le_refl _), h⟩
set_option maxHeartbeats 2000000 in
theorem dirErr (w : World) (b : Option Addr) (c : Nat) (l : List Int) (hc : l.length ≤ c) (hm : l.length ≤ 65536) (hb : Bs w w.heap.size b l) (er : Int) (he : endS l = .error er) : Calls Tryd.prog 5 #[.slice b l.length c] w fun e w' => e = .returned (.tuple #[.slice none 0 0, .int .i64 er]) ∧ Below w.heap.size w w' := by
  have hmm := @run_makeMap Tryd.prog
  have hsg := sigs_is w
  have hlen : decide ((l.length : Int) > 65536) = false := by simp; omega
  have HB := Lib.hid hb
  clear hb
  go_enter Tryd.func5, Tryd.ntmps5
  go_wp2_with fail
  refine hsg.mono ?_
  rintro e w1 ⟨k, rfl, hmp, hb1⟩
  have hen := dir_end hc hm HB.out hmp hb1
  clear hsg hmp hb1
  unfold dirW at hen
  go_wp2_with fail
  refine hen.mono ?_
  rintro e w2 ⟨hb2, ⟨er', h1, h2, rfl⟩ | ⟨fr, tt, ct, h1, _, _⟩⟩
  · rw [he] at h1
    injection h1 with h1
    subst h1
    have t1 : (er != 0) = true := by simp [h2]
    have H2 := Lib.hid hb2
    clear hen hb2
    go_wp2_with fail
    go_ret2
    exact ⟨rfl, H2.out⟩
  · rw [he] at h1; cases h1
set_option maxHeartbeats 2000000 in
theorem dirZero (w : World) (b : Option Addr) (c : Nat) (l : List Int) (hc : l.length ≤ c) (hm : l.length ≤ 65536) (hb : Bs w w.heap.size b l) (he : endS l = .ok (0, 0, 0)) : Calls Tryd.prog 5 #[.slice b l.length c] w fun e w' => e = .returned (.tuple #[.slice none 0 0, .int .i64 0]) ∧ Below w.heap.size w w' := by
  have hmm := @run_makeMap Tryd.prog
  have hsg := sigs_is w
  have hlen : decide ((l.length : Int) > 65536) = false := by simp; omega
  have HB := Lib.hid hb
  clear hb
  go_enter Tryd.func5, Tryd.ntmps5
  go_wp2_with fail
  refine hsg.mono ?_
  rintro e w1 ⟨k, rfl, hmp, hb1⟩
  have hen := dir_end hc hm HB.out hmp hb1
  have hsz := Lib.hid hb1.size
  clear hsg hmp hb1
  unfold dirW at hen
  go_wp2_with fail
  refine hen.mono ?_
  rintro e w2 ⟨hb2, ⟨er', h1, _, _⟩ | ⟨fr, tt, ct, h1, rfl, hh⟩⟩
  · rw [he] at h1; cases h1
  · rw [he] at h1
    injection h1 with h1
    injection h1 with h3 h4
    injection h4 with h4 h5
    subst h3 h4 h5
    have hce := centralZ hh
    have hlo := localsZ hh
    have hov := overlapZ hh
    have hre := recordsZ hh
    have H2 := Lib.hid hb2
    clear hen hb2 hh
    go_wp2_with fail
    refine hce.mono ?_
    rintro e w3 ⟨rfl, rfl⟩
    clear hce
    go_wp2_with fail
    refine hlo.mono ?_
    rintro e w4 ⟨rfl, rfl⟩
    clear hlo
    go_wp2_with fail
    refine hov.mono ?_
    rintro e w5 ⟨rfl, rfl⟩
    clear hov
    go_wp2_with fail
    refine hre.mono ?_
    rintro e w6 ⟨rfl, hb6⟩
    have H6 := Lib.hid (below_next H2.out (Nat.le_refl _) hb6)
    clear hre hb6
    go_wp2_with fail
    go_ret2
    exact ⟨rfl, H6.out⟩
end Go.Proofs.YtdcpibglbanchaaDoor
