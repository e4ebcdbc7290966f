/- The document's own reader of layer 2, and the pieces that package octet's reader answers: contracts. Condition: the numbers fit their kinds. -/
import Derived.Test.YtkkgfphfilbcdaaOctPut
import Derived.Laws.AppendOwnNone
import Derived.RegionTactic
import Derived.Deep.RegionHeld3
import Derived.Deep.RegionLaw
set_option linter.unusedVariables false
namespace Go.Proofs.Ytkkgfphfilbcdaa
open Go.RowKit

/-- append of bytes, wherever they come from, onto a row of the call's own -/
theorem run_app (w : World) (base : Nat) (ty : TypeId) (v : Value) (n : Nat) (l : List Int) (hown : w.ownsRow base 5 1 v n (l.map (Value.int .u8))) (B : Nat) (A : Option Addr) (m c : Nat) (l2 : List Int) (hm : l2.length = m) (hb : Bs w B A l2) (hA : A = none → m = 0 ∧ c = 0)
    (hbound : n + m ≤ 140737488355328) (hbase : base ≤ w.heap.size) :
    ∃ v' w', (Builtin.append_ #[37, 37] ty #[v, .slice A m c]).run Try.prog w = .ok v' w' ∧ w'.ownsRow base 5 1 v' (n + m) ((l ++ l2).map (Value.int .u8)) ∧ w.grownBy w' v.ownBlock := by
  obtain ⟨i0, hi, hz0, hz1, hz2⟩ := info_parts u8_info
  cases A with
  | none =>
    obtain ⟨h1, h2⟩ := hA rfl
    subst h1; subst h2
    have hl : l2 = [] := List.eq_nil_of_length_eq_zero hm
    subst hl
    exact ⟨v, w, run_append_owned_none (P := Try.prog) (w := w) base 37 ty 5 i0 1 Try.underlying37 hi v n _ hown, by simpa using hown, World.grownBy.refl w _⟩
  | some ad =>
    obtain ⟨v', w', hr, h2, h3, _⟩ := run_append_own (P := Try.prog) w base 37 ty 5 i0 (.int .u8 0) 1 1 Try.underlying37 hi hz0 hz1 hz2 rfl (by decide) v n _ hown ad m c (l2.map (Value.int .u8)) (by simp [hm]) (by
      intro j u hu
      have hj : j < l2.length := by
        rcases Nat.lt_or_ge j l2.length with h | h
        · exact h
        · rw [List.getElem?_eq_none (by simpa using h)] at hu; cases hu
      obtain ⟨b, off, e, hbl, hc⟩ := hb.at_ hj
      injection e with e
      subst e
      have e2 : (⟨b, off, none⟩ : Addr).add j = ⟨b, off + j, none⟩ := by unfold Addr.add; split <;> simp_all
      rw [e2, hc, ← hu]
      simp [List.getD_eq_getElem?_getD, hj]) (by intro u hu; obtain ⟨y, _, rfl⟩ := List.mem_map.1 hu; rfl) (by simp only [maxLen]; omega) (by omega) hbase
    exact ⟨v', w', hr, by rw [List.map_append]; exact h2, h3⟩
theorem wp_app {w : World} {o : Oper} {a : Act} {K : Act → World → Prop} {Q : Exit → Act → World → Prop} (s x : Operand)
    (ho : o.op = .call { callee := .builtin .append, args := #[s, x], argTypes := #[37, 37] }) (base : Nat) (v : Value) (n : Nat) (l : List Int) (hs : a.eval s = v)
    (hown : w.ownsRow base 5 1 v n (l.map (Value.int .u8))) (B : Nat) (A : Option Addr) (m c : Nat) (l2 : List Int) (hx : a.eval x = .slice A m c) (hm : l2.length = m) (hb : Bs w B A l2) (hA : A = none → m = 0 ∧ c = 0)
    (hbound : n + m ≤ 140737488355328) (hbase : base ≤ w.heap.size)
    (h : ∀ v' w', w'.ownsRow base 5 1 v' (n + m) ((l ++ l2).map (Value.int .u8)) → w.grownBy w' v.ownBlock → K (a.put o.dst v') w') : o.wp Try.prog a w K Q := by
  obtain ⟨v', w', hr, h2, h3⟩ := run_app w base o.type v n l hown B A m c l2 hm hb hA hbound hbase
  unfold Oper.wp execOp
  simp only [ho, resolve, invoke, builtin, Sem.run_bind, Sem.run_pure, Result.andThen_ok, List.map_toArray, List.map_cons, List.map_nil, hs, hx, hr]
  exact h v' w' h2 h3
theorem wpList_app {w : World} {ops : Array Oper} {rest : List Oper} {o : Oper} {a : Act} {Q : Exit → Act → World → Prop} (hgd : o.guard = none) (s x : Operand)
    (ho : o.op = .call { callee := .builtin .append, args := #[s, x], argTypes := #[37, 37] }) (base : Nat) (v : Value) (n : Nat) (l : List Int) (hs : a.eval s = v)
    (hown : w.ownsRow base 5 1 v n (l.map (Value.int .u8))) (B : Nat) (A : Option Addr) (m c : Nat) (l2 : List Int) (hx : a.eval x = .slice A m c) (hm : l2.length = m) (hb : Bs w B A l2) (hA : A = none → m = 0 ∧ c = 0)
    (hbound : n + m ≤ 140737488355328) (hbase : base ≤ w.heap.size)
    (h : ∀ v' w', w'.ownsRow base 5 1 v' (n + m) ((l ++ l2).map (Value.int .u8)) → w.grownBy w' v.ownBlock → wpList Try.prog ops Q rest (a.put o.dst v') w') : wpList Try.prog ops Q (o :: rest) a w :=
  wpList_plain hgd fun _ hK => wp_app s x ho base v n l hs hown B A m c l2 hx hm hb hA hbound hbase fun v' w' h2 h3 => hK _ _ (h v' w' h2 h3)
theorem step_app {w : World} {ops : Array Oper} {o : Oper} {a : Act} {K : Act → World → Prop} {Q : Exit → Act → World → Prop} {E : Prop} (hgd : o.guard = none) (s x : Operand)
    (ho : o.op = .call { callee := .builtin .append, args := #[s, x], argTypes := #[37, 37] }) (base : Nat) (v : Value) (n : Nat) (l : List Int) (hs : a.eval s = v)
    (hown : w.ownsRow base 5 1 v n (l.map (Value.int .u8))) (B : Nat) (A : Option Addr) (m c : Nat) (l2 : List Int) (hx : a.eval x = .slice A m c) (hm : l2.length = m) (hb : Bs w B A l2) (hA : A = none → m = 0 ∧ c = 0)
    (hbound : n + m ≤ 140737488355328) (hbase : base ≤ w.heap.size)
    (h : ∀ v' w', w'.ownsRow base 5 1 v' (n + m) ((l ++ l2).map (Value.int .u8)) → w.grownBy w' v.ownBlock → K (a.put o.dst v') w') :
    if Region.wanted o (yielded ops a.tmps) = true then Oper.wp Try.prog o a w K Q else E := by
  have hw : Region.wanted o (yielded ops a.tmps) = true := by simp [Region.wanted, hgd]
  rw [if_pos hw]
  exact wp_app s x ho base v n l hs hown B A m c l2 hx hm hb hA hbound hbase h

/-- block g is the document's reader of the bytes l, at a place, bad or not -/
def Rx (w : World) (g : Nat) (l : List Int) (p : Nat) (bad : Bool) : Prop :=
  ∃ a c, w.heap[g]? = some (.cells #[.slice a l.length c, .int .i64 p, .bool bad] 50 (0, 0)) ∧ l.length ≤ c ∧ l.length ≤ 140737488355328 ∧ Bs w g a l ∧ p ≤ l.length ∧ (a = none → l.length = 0 ∧ c = 0)
theorem rx_mk {w : World} {g : Nat} {l : List Int} {p' : Nat} {bad' : Bool} {a : Option Addr} {c : Nat} {w' : World} (hh : w'.heap[g]? = some (.cells #[.slice a l.length c, .int .i64 p', .bool bad'] 50 (0, 0))) (hlc : l.length ≤ c) (hc : l.length ≤ 140737488355328) (hbs : Bs w g a l) (ha : a = none → l.length = 0 ∧ c = 0) (ho : Only g w w') (hg : g ≤ w.heap.size) (hp : p' ≤ l.length) : Rx w' g l p' bad' :=
  ⟨a, c, hh, hlc, hc, hbs.below (only_below ho hg), hp, ha⟩

/-- a call has made a slice of its own that holds the bytes l, and turned only block g beside -/
def MadeBy (g : Nat) (w : World) (l : List Int) (e : Ending) (w' : World) : Prop :=
  ∃ a c, e = .returned (.slice a l.length c) ∧ l.length ≤ c ∧ Bs w' w'.heap.size a l ∧ Only g w w'
def piecesOf (l : List Int) (p : Nat) (bad : Bool) (n : Int) : List Int := if canB l p bad (decide (0 ≤ n)) n then piece l p n else []

set_option maxHeartbeats 400000 in
theorem rxBytes {w : World} {g : Nat} {l : List Int} {p : Nat} {bad : Bool} (n : Int) (hn : -9223372036854775808 ≤ n ∧ n ≤ 9223372036854775807) (h : Rx w g l p bad) :
    Calls Try.prog 45 #[.pointer (some ⟨g, 0, none⟩), .int .i64 n] w fun e w' => MadeBy g w (piecesOf l p bad n) e w' ∧ Rx w' g l (stepP p (canB l p bad (decide (0 ≤ n)) n) n) (!canB l p bad (decide (0 ≤ n)) n) := by
  obtain ⟨a, c, hh, hlc, hc, hbs, hp, ha⟩ := h
  have h0 : w.cell? ⟨g, 0, none⟩ = some (.slice a l.length c) := blk_cell hh 0
  have h1 : w.cell? ⟨g, 1, none⟩ = some (.int .i64 p) := blk_cell hh 1
  have h2 : w.cell? ⟨g, 2, none⟩ = some (.bool bad) := blk_cell hh 2
  have f1 := blk_free hh 1
  have f2 := blk_free hh 2
  have hlt := blk_lt hh
  have HH := Lib.hid hh; clear hh
  cases ht : canB l p bad (decide (0 ≤ n)) n with
  | false =>
    have hv : piecesOf l p bad n = [] := by simp [piecesOf, ht]
    rw [hv]
    have hcase : bad = true ∨ (bad = false ∧ n < 0) ∨ (bad = false ∧ 0 ≤ n ∧ (l.length : Int) - p < n) := by
      cases bad
      · by_cases h : n < 0
        · exact .inr (.inl ⟨rfl, h⟩)
        · refine .inr (.inr ⟨rfl, by omega, ?_⟩)
          have : ¬ n + p ≤ l.length := by intro hle; simp [canB, hle] at ht; omega
          omega
      · exact .inl rfl
    have hset := blk_set HH.out 2 (.bool true)
    have HS := Lib.hid hset; clear hset ht hv
    rcases hcase with rfl | ⟨rfl, hneg⟩ | ⟨rfl, hpos, hgt⟩
    · go_enter Try.func45, Try.ntmps45
      go_wp2
      go_quiet (fail)
      go_wp2
      go_ret
      refine ⟨⟨none, 0, rfl, Nat.le_refl _, Bs.nil_ _ _ _, only_set (only_drewN (only_refl _ _) _) _ _⟩, rx_mk (w := w) ?_ hlc hc hbs ha (only_set (only_drewN (only_refl _ _) _) _ _) (Nat.le_of_lt hlt) (by simpa [stepP] using hp)⟩
      simpa [stepP] using blk_set (w := w.drewN _) HH.out 2 (.bool true)
    · have hd : decide (n < 0) = true := by simp [hneg]
      go_enter Try.func45, Try.ntmps45
      go_wp2
      go_quiet (fail)
      go_wp2
      go_ret
      refine ⟨⟨none, 0, rfl, Nat.le_refl _, Bs.nil_ _ _ _, only_set (only_drewN (only_refl _ _) _) _ _⟩, rx_mk (w := w) ?_ hlc hc hbs ha (only_set (only_drewN (only_refl _ _) _) _ _) (Nat.le_of_lt hlt) (by simpa [stepP] using hp)⟩
      simpa [stepP] using blk_set (w := w.drewN _) HH.out 2 (.bool true)
    · have hd : decide (n < 0) = false := by simp; omega
      have hd2 : decide ((l.length : Int) - p < n) = true := by simp [hgt]
      have hs : IntKind.i64.wrap ((l.length : Int) - p) = (l.length : Int) - p := IntWalk.i64_in _ (by omega)
      go_enter Try.func45, Try.ntmps45
      go_wp2
      go_quiet (fail)
      go_wp2
      go_ret
      refine ⟨⟨none, 0, rfl, Nat.le_refl _, Bs.nil_ _ _ _, only_set (only_drewN (only_refl _ _) _) _ _⟩, rx_mk (w := w) ?_ hlc hc hbs ha (only_set (only_drewN (only_refl _ _) _) _ _) (Nat.le_of_lt hlt) (by simpa [stepP] using hp)⟩
      simpa [stepP] using blk_set (w := w.drewN _) HH.out 2 (.bool true)
  | true =>
    have hv : piecesOf l p bad n = piece l p n := by simp [piecesOf, ht]
    rw [hv]
    have hcan : bad = false ∧ 0 ≤ n ∧ n + p ≤ l.length := by simpa [canB, Bool.and_eq_true, and_assoc] using ht
    obtain ⟨rfl, hpos, hle⟩ := hcan
    clear ht hv
    obtain ⟨m, rfl⟩ := Int.eq_ofNat_of_zero_le hpos
    have hset := blk_set HH.out 1 (.int .i64 ((p : Int) + m))
    have HS := Lib.hid hset; clear hset
    have hpn : IntKind.i64.wrap ((p : Int) + m) = (p : Int) + m := IntWalk.i64_in _ (by omega)
    have hd : decide ((m : Int) < 0) = false := by simp
    have hd2 : decide ((l.length : Int) - p < m) = false := by simp; omega
    have hs : IntKind.i64.wrap ((l.length : Int) - p) = (l.length : Int) - p := IntWalk.i64_in _ (by omega)
    have PB : Bytes (piece l p m) := (hbs.1.drop _).take _
    by_cases hm0 : 0 < m
    · obtain ⟨b, off, rfl, hbl, _⟩ := hbs.at_ (i := p) (by omega)
      have hcut := hbs.cut p m (by omega)
      go_enter Try.func45, Try.ntmps45
      go_wp2
      go_quiet (fail)
      go_wp2
      generalize hwa : ((w.drewN nq).setCell ⟨g, 1, none⟩ (.int .i64 ((p : Int) + m))) = wa
      have hset2 : wa.heap[g]? = some (.cells #[.slice (some ⟨b, off, none⟩) l.length c, .int .i64 ((p : Int) + m), .bool false] 50 (0, 0)) := by
        rw [← hwa]; simpa using blk_set (w := w.drewN nq) HH.out 1 (.int .i64 ((p : Int) + m))
      have ho : Only g w wa := by rw [← hwa]; exact only_set (only_drewN (only_refl _ _) _) _ _
      have k0 : wa.cell? ⟨g, 0, none⟩ = some (.slice (some ⟨b, off, none⟩) l.length c) := blk_cell hset2 0
      have k1 : wa.cell? ⟨g, 1, none⟩ = some (.int .i64 ((p : Int) + m)) := blk_cell hset2 1
      have hcut2 : Bs wa g (some ⟨b, off + p, none⟩) (piece l p m) := (hcut.below (only_below ho (Nat.le_of_lt hlt)))
      have hpl : (piece l p m).length = m := by rw [piece_len] <;> omega
      have hga := blk_lt hset2
      have HO := Lib.hid ho
      have HS2 := Lib.hid hset2
      have HP := Lib.hid hpl
      clear h0 h1 h2 f1 f2 ho hset2 hwa HS hcut hpl
      have hw1 : IntKind.i64.wrap (p : Int) = p := IntWalk.i64_in _ (by omega)
      have hw2 : (0 : Int) ≤ (p : Int) + m := by omega
      have hw3 : (p : Int) + m ≤ c := by omega
      have hw4 : max ((p : Int) + m) 0 = (p : Int) + m := by omega
      have hw5 : ((p : Int) + m).toNat = p + m := by omega
      have hw6 : (0 : Int) ≤ p := by omega
      have hw7 : (p : Int) ≤ (p : Int) + m := by omega
      have hw8 : ¬ c = p := by omega
      have hw9 : p + m - p = m := by omega
      have lg : g < wa.heap.size := hga
      have hHP := HP.out
      have HHP := Lib.hid hHP; clear hHP
      go_region_held3 (fun w' => w'.cell? ⟨g, 0, none⟩ = some (.slice (some ⟨b, off, none⟩) l.length c) ∧ w'.cell? ⟨g, 1, none⟩ = some (.int .i64 ((p : Int) + m)))
        (first | go_keep | (go_split_ands; refine ⟨?_, ?_⟩; (rw [hg1.cell_far _ (by simp; omega) (by simp [Value.ownBlock]; omega)]; simp; assumption); (rw [hg1.cell_far _ (by simp; omega) (by simp [Value.ownBlock]; omega)]; simp; assumption)))
        ((refine step_app (by rfl) _ _ (by rfl) wa.heap.size (.slice (some ⟨wa.heap.size, 0, none⟩) 0 0) 0 [] (by rfl) ((World.ownsRow_lit wa #[] 0 (Nat.le_refl _) (by decide) rfl).drew) g (some ⟨b, off + p, none⟩) m _ (piece l p m) (by rfl) HHP.out ((hcut2.alloc (Nat.le_of_lt hga) _).drewN 1) (fun h => by cases h) (by omega) (by simp) ?_; intro v1 w1 hown1 hg1))
      obtain ⟨a2, c2, rfl⟩ := own_shape hown1
      have hb1 : Below wa.heap.size wa w1 := (((Below.refl wa.heap.size wa).alloc (Nat.le_refl _) _).drew).grown hg1 (by simp) (fun k hk => by simp [Value.ownBlock] at hk; omega)
      have hcap := own_cap hown1
      have hbs1 := Bs.of_own (own_cast (n' := (piece l p m).length) (ys := (piece l p m).map (Value.int .u8)) hown1 (by rw [HHP.out]; omega) (by simp)) PB
      have HB1 := Lib.hid hbs1
      clear hown1 hg1 hcut2 hbs1
      go_wp2
      go_ret
      have hst : ((stepP p true (m : Int) : Nat) : Int) = p + m := by simp [stepP]
      refine ⟨⟨a2, c2, by rw [HHP.out]; simp, by rw [HHP.out]; omega, HB1.out, only_trans HO.out (below_only hb1)⟩, rx_mk (w := w) ?_ hlc hc hbs ha (only_trans HO.out (below_only hb1)) (Nat.le_of_lt hlt) (by omega)⟩
      rw [hst, hb1.block g hga]
      simpa using HS2.out
    · cases a with
      | none =>
        obtain ⟨hl0, hc0⟩ := ha rfl
        have hl1 : l.length ≤ 0 := by omega
        have hc1 : c ≤ 0 := by omega
        clear hl0 hc0
        have hm1 : m ≤ 0 := by omega
        have hp0 : piece l (p : Int) (m : Int) = [] := by simp [piece]; omega
        have HP0 := Lib.hid hp0; clear hp0
        go_enter Try.func45, Try.ntmps45
        go_wp2
        go_quiet (fail)
        go_wp2
        generalize hwa : ((w.drewN nq).setCell ⟨g, 1, none⟩ (.int .i64 ((p : Int) + m))) = wa
        have hset2 : wa.heap[g]? = some (.cells #[.slice none l.length c, .int .i64 ((p : Int) + m), .bool false] 50 (0, 0)) := by
          rw [← hwa]; simpa using blk_set (w := w.drewN nq) HH.out 1 (.int .i64 ((p : Int) + m))
        have ho : Only g w wa := by rw [← hwa]; exact only_set (only_drewN (only_refl _ _) _) _ _
        have k0 : wa.cell? ⟨g, 0, none⟩ = some (.slice none l.length c) := blk_cell hset2 0
        have k1 : wa.cell? ⟨g, 1, none⟩ = some (.int .i64 ((p : Int) + m)) := blk_cell hset2 1
        have hcut2 : Bs wa g (none : Option Addr) (piece l p m) := by rw [HP0.out]; exact Bs.nil_ _ _ _
        have hpl : (piece l p m).length = m := by rw [piece_len] <;> omega
        have hga := blk_lt hset2
        have HO := Lib.hid ho
        have HS2 := Lib.hid hset2
        have HP := Lib.hid hpl
        clear h0 h1 h2 f1 f2 ho hset2 hwa HS hpl
        have hw1 : IntKind.i64.wrap (p : Int) = p := IntWalk.i64_in _ (by omega)
        have hw2 : (0 : Int) ≤ (p : Int) + m := by omega
        have hw3 : (p : Int) + m ≤ c := by omega
        have hw4 : max ((p : Int) + m) 0 = (p : Int) + m := by omega
        have hw5 : ((p : Int) + m).toNat = p + m := by omega
        have hw6 : (0 : Int) ≤ p := by omega
        have hw7 : (p : Int) ≤ (p : Int) + m := by omega
        have hw9 : p + m - p = m := by omega
        have lg : g < wa.heap.size := hga
        have hHP := HP.out
        have HHP := Lib.hid hHP; clear hHP
        go_region
        go_wp2
        go_ret
        have hb1 : Below wa.heap.size wa ((wa.alloc (.cells #[] 5)).drew) := (((Below.refl wa.heap.size wa).alloc (Nat.le_refl _) _).drew)
        have hst : ((stepP p true (m : Int) : Nat) : Int) = p + m := by simp [stepP]
        refine ⟨⟨some ⟨wa.heap.size, 0, none⟩, 0, by rw [HHP.out]; rfl, by rw [HHP.out]; exact hm1, by rw [HP0.out]; exact Bs.nil_ _ _ _, only_trans HO.out (below_only hb1)⟩, rx_mk (w := w) ?_ hlc hc hbs (fun _ => ⟨by omega, by omega⟩) (only_trans HO.out (below_only hb1)) (Nat.le_of_lt hlt) (by omega)⟩
        rw [hst, hb1.block g hga]
        simpa using HS2.out
      | some ad =>
        by_cases hcp : c = p
        · have hcp1 : c ≤ p := by omega
          have hcp2 : p ≤ c := by omega
          clear hcp
          have hm1 : m ≤ 0 := by omega
          have hp0 : piece l (p : Int) (m : Int) = [] := by simp [piece]; omega
          have HP0 := Lib.hid hp0; clear hp0
          go_enter Try.func45, Try.ntmps45
          go_wp2
          go_quiet (fail)
          go_wp2
          generalize hwa : ((w.drewN nq).setCell ⟨g, 1, none⟩ (.int .i64 ((p : Int) + m))) = wa
          have hset2 : wa.heap[g]? = some (.cells #[.slice (some ad) l.length c, .int .i64 ((p : Int) + m), .bool false] 50 (0, 0)) := by
            rw [← hwa]; simpa using blk_set (w := w.drewN nq) HH.out 1 (.int .i64 ((p : Int) + m))
          have ho : Only g w wa := by rw [← hwa]; exact only_set (only_drewN (only_refl _ _) _) _ _
          have k0 : wa.cell? ⟨g, 0, none⟩ = some (.slice (some ad) l.length c) := blk_cell hset2 0
          have k1 : wa.cell? ⟨g, 1, none⟩ = some (.int .i64 ((p : Int) + m)) := blk_cell hset2 1
          have hcut2 : Bs wa g (some ad) (piece l p m) := by rw [HP0.out]; exact Bs.nil_ _ _ _
          have hpl : (piece l p m).length = m := by rw [piece_len] <;> omega
          have hga := blk_lt hset2
          have HO := Lib.hid ho
          have HS2 := Lib.hid hset2
          have HP := Lib.hid hpl
          clear h0 h1 h2 f1 f2 ho hset2 hwa HS hpl
          have hw1 : IntKind.i64.wrap (p : Int) = p := IntWalk.i64_in _ (by omega)
          have hw2 : (0 : Int) ≤ (p : Int) + m := by omega
          have hw3 : (p : Int) + m ≤ c := by omega
          have hw4 : max ((p : Int) + m) 0 = (p : Int) + m := by omega
          have hw5 : ((p : Int) + m).toNat = p + m := by omega
          have hw6 : (0 : Int) ≤ p := by omega
          have hw7 : (p : Int) ≤ (p : Int) + m := by omega
          have hw8 : (if c = p then some ad else some (ad.add p)) = some ad := if_pos (by omega)
          have hw9 : p + m - p = m := by omega
          have lg : g < wa.heap.size := hga
          have hHP := HP.out
          have HHP := Lib.hid hHP; clear hHP
          go_region_held3 (fun w' => w'.cell? ⟨g, 0, none⟩ = some (.slice (some ad) l.length c) ∧ w'.cell? ⟨g, 1, none⟩ = some (.int .i64 ((p : Int) + m)))
            (first | go_keep | (go_split_ands; refine ⟨?_, ?_⟩; (rw [hg1.cell_far _ (by simp; omega) (by simp [Value.ownBlock]; omega)]; simp; assumption); (rw [hg1.cell_far _ (by simp; omega) (by simp [Value.ownBlock]; omega)]; simp; assumption)))
            ((refine step_app (by rfl) _ _ (by rfl) wa.heap.size (.slice (some ⟨wa.heap.size, 0, none⟩) 0 0) 0 [] (by rfl) ((World.ownsRow_lit wa #[] 0 (Nat.le_refl _) (by decide) rfl).drew) g (some ad) m _ (piece l p m) (by rfl) HHP.out ((hcut2.alloc (Nat.le_of_lt hga) _).drewN 1) (fun h => by cases h) (by omega) (by simp) ?_; intro v1 w1 hown1 hg1))
          obtain ⟨a2, c2, rfl⟩ := own_shape hown1
          have hb1 : Below wa.heap.size wa w1 := (((Below.refl wa.heap.size wa).alloc (Nat.le_refl _) _).drew).grown hg1 (by simp) (fun k hk => by simp [Value.ownBlock] at hk; omega)
          have hcap := own_cap hown1
          have hbs1 := Bs.of_own (own_cast (n' := (piece l p m).length) (ys := (piece l p m).map (Value.int .u8)) hown1 (by rw [HHP.out]; omega) (by simp)) PB
          have HB1 := Lib.hid hbs1
          clear hown1 hg1 hcut2 hbs1
          go_wp2
          go_ret
          have hst : ((stepP p true (m : Int) : Nat) : Int) = p + m := by simp [stepP]
          refine ⟨⟨a2, c2, by rw [HHP.out]; simp, by rw [HHP.out]; omega, HB1.out, only_trans HO.out (below_only hb1)⟩, rx_mk (w := w) ?_ hlc hc hbs ha (only_trans HO.out (below_only hb1)) (Nat.le_of_lt hlt) (by omega)⟩
          rw [hst, hb1.block g hga]
          simpa using HS2.out
        · have hcp2 : p < c := by omega
          have hm1 : m ≤ 0 := by omega
          have hp0 : piece l (p : Int) (m : Int) = [] := by simp [piece]; omega
          have HP0 := Lib.hid hp0; clear hp0
          go_enter Try.func45, Try.ntmps45
          go_wp2
          go_quiet (fail)
          go_wp2
          generalize hwa : ((w.drewN nq).setCell ⟨g, 1, none⟩ (.int .i64 ((p : Int) + m))) = wa
          have hset2 : wa.heap[g]? = some (.cells #[.slice (some ad) l.length c, .int .i64 ((p : Int) + m), .bool false] 50 (0, 0)) := by
            rw [← hwa]; simpa using blk_set (w := w.drewN nq) HH.out 1 (.int .i64 ((p : Int) + m))
          have ho : Only g w wa := by rw [← hwa]; exact only_set (only_drewN (only_refl _ _) _) _ _
          have k0 : wa.cell? ⟨g, 0, none⟩ = some (.slice (some ad) l.length c) := blk_cell hset2 0
          have k1 : wa.cell? ⟨g, 1, none⟩ = some (.int .i64 ((p : Int) + m)) := blk_cell hset2 1
          have hcut2 : Bs wa g (some (ad.add p)) (piece l p m) := by rw [HP0.out]; exact Bs.nil_ _ _ _
          have hpl : (piece l p m).length = m := by rw [piece_len] <;> omega
          have hga := blk_lt hset2
          have HO := Lib.hid ho
          have HS2 := Lib.hid hset2
          have HP := Lib.hid hpl
          clear h0 h1 h2 f1 f2 ho hset2 hwa HS hpl
          have hw1 : IntKind.i64.wrap (p : Int) = p := IntWalk.i64_in _ (by omega)
          have hw2 : (0 : Int) ≤ (p : Int) + m := by omega
          have hw3 : (p : Int) + m ≤ c := by omega
          have hw4 : max ((p : Int) + m) 0 = (p : Int) + m := by omega
          have hw5 : ((p : Int) + m).toNat = p + m := by omega
          have hw6 : (0 : Int) ≤ p := by omega
          have hw7 : (p : Int) ≤ (p : Int) + m := by omega
          have hw8 : ¬ c = p := by omega
          have hw9 : p + m - p = m := by omega
          have lg : g < wa.heap.size := hga
          have hHP := HP.out
          have HHP := Lib.hid hHP; clear hHP
          go_region_held3 (fun w' => w'.cell? ⟨g, 0, none⟩ = some (.slice (some ad) l.length c) ∧ w'.cell? ⟨g, 1, none⟩ = some (.int .i64 ((p : Int) + m)))
            (first | go_keep | (go_split_ands; refine ⟨?_, ?_⟩; (rw [hg1.cell_far _ (by simp; omega) (by simp [Value.ownBlock]; omega)]; simp; assumption); (rw [hg1.cell_far _ (by simp; omega) (by simp [Value.ownBlock]; omega)]; simp; assumption)))
            ((refine step_app (by rfl) _ _ (by rfl) wa.heap.size (.slice (some ⟨wa.heap.size, 0, none⟩) 0 0) 0 [] (by rfl) ((World.ownsRow_lit wa #[] 0 (Nat.le_refl _) (by decide) rfl).drew) g (some (ad.add p)) m _ (piece l p m) (by rfl) HHP.out ((hcut2.alloc (Nat.le_of_lt hga) _).drewN 1) (fun h => by cases h) (by omega) (by simp) ?_; intro v1 w1 hown1 hg1))
          obtain ⟨a2, c2, rfl⟩ := own_shape hown1
          have hb1 : Below wa.heap.size wa w1 := (((Below.refl wa.heap.size wa).alloc (Nat.le_refl _) _).drew).grown hg1 (by simp) (fun k hk => by simp [Value.ownBlock] at hk; omega)
          have hcap := own_cap hown1
          have hbs1 := Bs.of_own (own_cast (n' := (piece l p m).length) (ys := (piece l p m).map (Value.int .u8)) hown1 (by rw [HHP.out]; omega) (by simp)) PB
          have HB1 := Lib.hid hbs1
          clear hown1 hg1 hcut2 hbs1
          go_wp2
          go_ret
          have hst : ((stepP p true (m : Int) : Nat) : Int) = p + m := by simp [stepP]
          refine ⟨⟨a2, c2, by rw [HHP.out]; simp, by rw [HHP.out]; omega, HB1.out, only_trans HO.out (below_only hb1)⟩, rx_mk (w := w) ?_ hlc hc hbs ha (only_trans HO.out (below_only hb1)) (Nat.le_of_lt hlt) (by omega)⟩
          rw [hst, hb1.block g hga]
          simpa using HS2.out
end Go.Proofs.Ytkkgfphfilbcdaa
