/- The walk of the law EntryStored: it returns true and turns nothing that was there. Condition: the order of the lengths lies where the program's own text lays it. -/
import Derived.Test.YthfhafnffeijpaaDoorFix10
import Derived.Test.YthfhafnffeijpaaDoorLay
import Derived.Deep.DeepCutAuto
set_option linter.unusedVariables false
set_option maxRecDepth 100000
namespace Go.Proofs.YthfhafnffeijpaaDoor
open Go.RowKit Go.Maps Go.ChangeMaps

theorem zeroRec (W : World) : (zeroValue 40).run Tryd.prog W = .ok (recV ByteArray.empty 0 0 0 0 0 0) W := by kernel_rfl
theorem stored_ok {l : List Int} {n : Nat} (hn : l.length = n) (h : n ≤ 6000) : unpackS 0 n n (sumOf 0 l) l = .ok l := by
  unfold unpackS
  rw [if_neg (by omega), if_neg (by omega)]
  unfold plainS
  rw [if_pos rfl, if_neg (by simp)]
  show (if sumOf 0 l ≠ sumOf 0 l then .error 19 else .ok l) = (.ok l : Except Int (List Int))
  rw [if_neg (by simp)]
theorem stored_bad {l m : List Int} {n : Nat} (hn : m.length = n) (h : n ≤ 6000) (hs : sumOf 0 m ≠ sumOf 0 l) : unpackS 0 n n (sumOf 0 l) m = .error 19 := by
  unfold unpackS
  rw [if_neg (by omega), if_neg (by omega)]
  unfold plainS
  rw [if_pos rfl, if_neg (by simp)]
  show (if sumOf 0 m ≠ sumOf 0 l then .error 19 else .ok m) = (.error 19 : Except Int (List Int))
  rw [if_pos hs]
theorem same_isE {a a' : Option Addr} {n c n' c' : Nat} {l l' : List Int} {w : World} {B B' : Nat} (hn : l.length = n) (hn' : l'.length = n') (hm : l.length ≤ maxLen) (hm' : l'.length ≤ maxLen) (hb : Bs w B a l) (hb' : Bs w B' a' l') :
    Calls Tryd.prog 18 #[.slice a n c, .slice a' n' c'] w fun e w' => e = .returned (.bool (decide (l = l'))) ∧ ∃ d, w' = w.drewN d :=
  (refSame a a' n c n' c' l l' hn hn' hm hm' w B B' hb hb').mono fun e w' ⟨h1, h2⟩ => ⟨by rw [h1]; rfl, h2⟩
set_option maxRecDepth 100000 in
set_option maxHeartbeats 8000000 in
theorem entrystored_walk (w : World) (a : Option Addr) (n c : Nat) (l : List Int) (hn : l.length = n) (hnc : n ≤ c) (hm : c ≤ 140737488351232) (hA : a = none → c = 0) (hb : Bs w w.heap.size a l) (at_ : Int) (hat : 0 ≤ at_ ∧ at_ ≤ 65535) (x : List Int) (hx : x.length = 4) (hxb : Bytes x) (hord : Ord w) :
    Calls Tryd.prog 12 #[.slice a n c, .int .u16 at_, .agg (x.map (Value.int .u8)).toArray] w fun e w' => e = .returned (.bool true) ∧ Below w.heap.size w w' := by
  subst hn
  obtain ⟨A, rfl⟩ := Int.eq_ofNat_of_zero_le hat.1
  have HA0 : Hid (a = none → l.length = 0 ∧ c = 0) := Lib.hid fun h => ⟨by have := hA h; omega, hA h⟩
  have HX := Lib.hid (And.intro hx (And.intro hxb hb.1))
  clear hA hx
  generalize hxs : (x.map (Value.int .u8)).toArray = xs
  have HXS := Lib.hid hxs; clear hxs
  have hx0 := heap_alloc_new w (.cells xs 46)
  have hbel := (Below.refl w.heap.size w).alloc (Nat.le_refl _) (.cells xs 46)
  have hz0 : (w.alloc (.cells xs 46)).heap.size = w.heap.size + 1 := by simp
  have hfx := fixed10 _ (hord.below hbel)
  have H0 := Lib.hid (And.intro hx0 (And.intro hbel (And.intro hz0 (And.intro hord hb))))
  clear hx0 hbel hz0 hord hb
  go_enter Tryd.func12, Tryd.ntmps12
  go_wp2_with fail
  refine hfx.mono ?_
  rintro e w1 ⟨rfl, hb1⟩
  have hw1 := below_next H0.out.2.1 (Nat.le_refl _) hb1
  have hx1 := (hb1.block w.heap.size (by rw [H0.out.2.2.1]; omega)).trans H0.out.1
  have k1 := (H0.out.2.2.2.2.below hw1).more hw1.size
  have H1 := Lib.hid (And.intro hw1 (And.intro hx1 k1))
  clear hfx hb1 hw1 hx1 k1
  by_cases hlong : 6000 < l.length
  · have hd : decide ((l.length : Int) > 6000) = true := by simp; omega
    go_wp2_with fail
    go_ret
    exact ⟨rfl, H1.out.1⟩
  have hd6 : decide ((l.length : Int) > 6000) = false := by simp; omega
  have hro := refOf a l.length c l rfl (by omega) w1 _ H1.out.2.2
  have hzr := zeroRec
  obtain ⟨s, hs⟩ : ∃ s, sumOf 0 l = s := ⟨_, rfl⟩
  rw [hs] at hro
  have HS := Lib.hid hs
  clear hs
  go_wp2_with fail
  refine hro.mono ?_
  rintro e w1' ⟨rfl, rfl⟩
  clear hro
  unfold recV at hzr
  have hnew : (w1.alloc (.cells #[.string ByteArray.empty, .int .i64 0, .int .i64 l.length, .int .i64 l.length, .int .i64 s, .int .i64 0, .int .i64 0] 40)).heap[w1.heap.size]? = some (.cells (recC ByteArray.empty 0 l.length l.length s 0 0) 40 (0, 0)) := heap_alloc_new w1 _
  have hbl := (Below.refl w1.heap.size w1).alloc (Nat.le_refl _) (.cells #[.string ByteArray.empty, .int .i64 0, .int .i64 l.length, .int .i64 l.length, .int .i64 s, .int .i64 0, .int .i64 0] 40)
  have hw2 := below_next H1.out.1 (Nat.le_refl _) hbl
  have k2 := (H1.out.2.2.below hbl).more hbl.size
  have hun := unpack_is _ a l.length c l rfl (by omega) k2 ByteArray.empty 0 l.length l.length s 0 0 (H0.out.2.2.2.1.below hw2)
  have hok := stored_ok (l := l) rfl (by omega)
  rw [HS.out] at hok
  have H2 := Lib.hid (And.intro hnew (And.intro hbl (And.intro hok (by simp : (w1.alloc (.cells #[.string ByteArray.empty, .int .i64 0, .int .i64 l.length, .int .i64 l.length, .int .i64 s, .int .i64 0, .int .i64 0] 40)).heap.size = w1.heap.size + 1))))
  clear hnew hbl hw2 k2 hok
  go_wp2_with fail
  refine hun.mono ?_
  intro e w3 h3
  obtain ⟨hb3, ax, cx, rfl, _, _, hox⟩ := unp_ok h3 H2.out.2.2.1
  have hb13 : Below w1.heap.size w1 w3 := below_next H2.out.2.1 (Nat.le_refl _) hb3
  have hw3 := below_next H1.out.1 (Nat.le_refl _) hb13
  have k3 := (H1.out.2.2.below hb13).more hb13.size
  have hs1 := same_isE (w := w3) (a := ax) (a' := a) (n := l.length) (c := cx) (n' := l.length) (c' := c) (l := l) (l' := l) rfl rfl (by unfold maxLen; omega) (by unfold maxLen; omega) (Bs.of_own hox H0.out.2.2.2.2.1) k3
  rw [decide_eq_true rfl] at hs1
  have hr3 := (hb3.block w1.heap.size (by rw [H2.out.2.2.2]; omega)).trans H2.out.1
  have H3 := Lib.hid (And.intro hw3 (And.intro k3 (And.intro hr3 hb13)))
  clear h3 hun hb3 hb13 hw3 k3 hr3 hox
  go_wp2_with fail
  refine hs1.mono ?_
  rintro e w4' ⟨rfl, d4, rfl⟩
  obtain ⟨w4, hw4e⟩ : ∃ w4, w4 = w3.drewN d4 := ⟨_, rfl⟩
  have hb34 : Below w3.heap.size w3 w4 := by rw [hw4e]; exact low_drewN (Below.refl _ _) _
  rw [← hw4e]
  clear hs1 hw4e
  have hw4 := below_next H3.out.1 (Nat.le_refl _) hb34
  have k4 := (H3.out.2.1.below hb34).more hb34.size
  have hr4 := (hb34.block w1.heap.size (blk_lt H3.out.2.2.1)).trans H3.out.2.2.1
  have hx4 := (below_next H3.out.2.2.2 (Nat.le_refl _) hb34).block w.heap.size (blk_lt H1.out.2.1)
  rw [H1.out.2.1] at hx4
  have H4 := Lib.hid (And.intro hw4 (And.intro k4 (And.intro hr4 hx4)))
  clear hw4 k4 hr4 hx4 hb34
  have k4' := H4.out.2.1
  go_wp2_with (at_builtin; refine wpList_app rfl _ _ rfl w4.heap.size (.slice (some ⟨w4.heap.size, 0, none⟩) 0 0) 0 [] rfl (World.ownsRow_lit w4 #[] 0 (Nat.le_refl _) (by decide) rfl) w4.heap.size a l.length c l rfl rfl (k4'.alloc (Nat.le_refl _) _) HA0.out (by omega) (by simp) ?_; intro v5 w5 o5 g5)
  obtain ⟨a5, c5, rfl⟩ := own_shape o5
  have hb5 : Below w4.heap.size w4 w5 := ((Below.refl w4.heap.size w4).alloc (Nat.le_refl _) _).grown g5 (by simp) (fun k hk => by simp [Value.ownBlock] at hk; omega)
  have o5' : w5.ownsRow w4.heap.size 5 1 (.slice a5 l.length c5) l.length ((lay l A x 0).map (Value.int .u8)) := own_cast o5 (by simp) (by simp [lay])
  clear o5 g5 k4'
  have e0 : 0 + l.length = l.length := by omega
  rw [e0]
  have HO := Lib.hid (And.intro o5' hb5)
  clear o5' e0 hb5
  go_loopw [11] (fun i wr => ∃ k : Nat, k ≤ 4 ∧ (k = 0 ∨ A + k ≤ l.length) ∧ i = .int .i64 k ∧ Hid (wr.ownsRow w4.heap.size 5 1 (.slice a5 l.length c5) l.length ((lay l A x k).map (Value.int .u8)) ∧ Below w4.heap.size w4 wr)) (fun i _ => 4 - (intOf i).toNat)
  case atStart => exact ⟨0, by omega, .inl rfl, rfl, HO⟩
  case round =>
    clear HO
    obtain ⟨k, hk, hkl, rfl, HQ⟩ := hrel
    by_cases hlt : k < 4 ∧ A + k < l.length
    · obtain ⟨hk4, hlt⟩ := hlt
      obtain ⟨ho, hbel⟩ := HQ.out
      have hz2 := hbel.size
      have hlen : 0 < l.length := by omega
      obtain ⟨g, cap, hv, hgb, hglt⟩ := ho.form hlen
      have ha2 : a5 = some ⟨g, 0, none⟩ := by injection hv
      subst ha2
      have hc2 := own_byte ho (k := A + k) (lay_len l A x k) hlt
      rw [lay_at l A x k hlt (by rw [HX.out.1]; omega)] at hc2
      have hf2 : wr.frozen? ⟨g, A + k, none⟩ = false := ho.frozenAt _
      have hx2 : wr.cell? ⟨w.heap.size, k, none⟩ = some (.int .u8 (x.getD k 0)) := by
        have h1 : wr.heap[w.heap.size]? = some (.cells xs 46) := (hbel.block _ (blk_lt H4.out.2.2.2)).trans H4.out.2.2.2
        rw [cell_of_row _ _ _ _ _ _ h1, ← HXS.out]
        have hkx : k < x.length := by rw [HX.out.1]; exact hk4
        simp [List.getD_eq_getElem?_getD, hkx]
      have hput := own_put ho (A + k) (x.getD k 0)
      have HP : Hid ((wr.setCell ⟨g, A + k, none⟩ (.int .u8 (x.getD k 0))).ownsRow w4.heap.size 5 1 (.slice (some ⟨g, 0, none⟩) l.length c5) l.length ((lay l A x (k + 1)).map (Value.int .u8)) ∧ Below w4.heap.size w4 (wr.setCell ⟨g, A + k, none⟩ (.int .u8 (x.getD k 0)))) := Lib.hid ⟨hput, Below.setCell hbel hgb _⟩
      clear hput hv ho hbel HQ
      have i0 : (0 : Int) ≤ (A : Int) + k := by omega
      have i1 : IntKind.i64.wrap ((A : Int) + k) = (A : Int) + k := IntWalk.i64_in _ (by omega)
      have i2 : ((A : Int) + k).toNat = A + k := by omega
      have i3 : (A : Int) + k < l.length := by omega
      have i4 : (k : Int) < 4 := by omega
      have i5 : (0 : Int) ≤ (k : Int) := by omega
      generalize x.getD k 0 = y at *
      generalize l.getD (A + k) 0 = z at *
      go_wp2_with fail
      go_roundw
      case rel => exact ⟨k + 1, by omega, .inr (by omega), by go_num, HP⟩
      case measure => simp [intOf]; omega
    · obtain ⟨ho, hbel⟩ := HQ.out
      have hsum := lay_sum (l := l) (A := A) (x := x) (k := k) HX.out.2.2 HX.out.2.1 hkl (by rw [HX.out.1]; exact hk) hk
      have hBy := lay_bytes l A x HX.out.2.2 HX.out.2.1 k hkl (by rw [HX.out.1]; exact hk)
      have hml := lay_len l A x k
      have i1 : IntKind.i64.wrap ((A : Int) + k) = (A : Int) + k := IntWalk.i64_in _ (by omega)
      have hd : k < 4 → decide ((A : Int) + k < l.length) = false := fun h => by simp; omega
      generalize lay l A x k = m at *
      have hbs := Bs.of_own (own_cast (n' := m.length) ho hml.symm rfl) hBy
      have hwr := below_next H4.out.1 (Nat.le_refl _) hbel
      have kr := (H4.out.2.1.below hbel).more hbel.size
      have hrr := (hbel.block w1.heap.size (blk_lt H4.out.2.2.1)).trans H4.out.2.2.1
      have hun := unpack_is wr a5 l.length c5 m hml (by omega) hbs ByteArray.empty 0 l.length l.length s 0 0 (H0.out.2.2.2.1.below hwr)
      by_cases he : l = m
      · subst he
        rw [H2.out.2.2.1] at hun
        have HW := Lib.hid (And.intro hwr (And.intro kr (And.intro hbs hrr)))
        clear hsum hBy hwr kr hbs hrr HQ ho hbel hml
        by_cases hk4 : k < 4
        case' pos => have hd := hd hk4
        all_goals
          have hun := hun
          go_wp2_with (refine rec_ld rfl rfl w1.heap.size rfl HW.out.2.2.2 ?_)
          refine hun.mono ?_
          intro e w6 h6
          obtain ⟨hb6, a6, c6, rfl, hB6, _, ho6⟩ := unp_ok h6 rfl
          have k6 := (HW.out.2.1.below hb6).more hb6.size
          have b6 := (HW.out.2.2.1.below hb6).more hb6.size
          have hs1 := same_isE (w := w6) (a := a) (a' := a5) (n := l.length) (c := c) (n' := l.length) (c' := c5) (l := l) (l' := l) rfl rfl (by unfold maxLen; omega) (by unfold maxLen; omega) k6 b6
          have hs2 := fun d => same_isE (w := w6.drewN d) (a := a6) (a' := a) (n := l.length) (c := c6) (n' := l.length) (c' := c) (l := l) (l' := l) rfl rfl (by unfold maxLen; omega) (by unfold maxLen; omega) ((Bs.of_own ho6 hB6).below (low_drewN (Below.refl _ _) d)) (k6.below (low_drewN (Below.refl _ _) d))
          rw [decide_eq_true rfl] at hs1
          rw [decide_eq_true rfl] at hs2
          have H6 := Lib.hid (below_next HW.out.1 (Nat.le_refl _) hb6)
          clear h6 hun hb6 k6 b6 hB6 ho6
          go_wp2_with fail
          refine hs1.mono ?_
          rintro e w7 ⟨rfl, d, rfl⟩
          have hs2' := hs2 d
          clear hs1 hs2
          go_wp2_with fail
          refine hs2'.mono ?_
          rintro e w8 ⟨rfl, d2, rfl⟩
          clear hs2'
          go_wp2_with fail
          go_ret
          exact ⟨rfl, low_drewN H6.out _⟩
      · have hne : sumOf 0 m ≠ sumOf 0 l := fun h => he (hsum.1 h).symm
        have hbad := stored_bad hml (by omega) hne
        rw [HS.out] at hbad
        rw [hbad] at hun
        have hdf : decide (l = m) = false := decide_eq_false he
        have HW := Lib.hid (And.intro hwr (And.intro kr (And.intro hbs (And.intro hrr (And.intro hml hdf)))))
        clear hsum hBy hwr kr hbs hrr HQ ho hbel hml hne hbad he hdf
        by_cases hk4 : k < 4
        case' pos => have hd := hd hk4
        all_goals
          have hun := hun
          go_wp2_with (refine rec_ld rfl rfl w1.heap.size rfl HW.out.2.2.2.1 ?_)
          refine hun.mono ?_
          intro e w6 h6
          obtain ⟨hb6, _, rfl⟩ := unp_bad h6 rfl
          have k6 := (HW.out.2.1.below hb6).more hb6.size
          have b6 := (HW.out.2.2.1.below hb6).more hb6.size
          have hs1 := same_isE (w := w6) (a := a) (a' := a5) (n := l.length) (c := c) (n' := l.length) (c' := c5) (l := l) (l' := m) rfl HW.out.2.2.2.2.1 (by unfold maxLen; omega) (by have := HW.out.2.2.2.2.1; unfold maxLen; omega) k6 b6
          rw [HW.out.2.2.2.2.2] at hs1
          have H6 := Lib.hid (below_next HW.out.1 (Nat.le_refl _) hb6)
          clear h6 hun hb6 k6 b6
          go_wp2_with fail
          refine hs1.mono ?_
          rintro e w7 ⟨rfl, d, rfl⟩
          clear hs1
          go_wp2_with fail
          go_ret
          exact ⟨rfl, low_drewN H6.out _⟩
end Go.Proofs.YthfhafnffeijpaaDoor
