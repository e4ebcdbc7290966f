/- The walk of the law SumParts: it returns true and turns nothing that was there. Condition: the bytes and the cuts lie below the heap's size. -/
import Derived.Test.YtfgifimmdkiejaaWSum1
import Derived.Test.YtfgifimmdkiejaaCut
import Derived.Test.YtfgifimmdkiejaaArgs
import Derived.Deep.DeepCutAuto
set_option linter.unusedVariables false
namespace Go.Proofs.Ytfgifimmdkiejaa
open Go.RowKit

theorem part_info : (Try.prog.info? 22).map (fun i => (i.zero, i.size, i.bytes)) = some (some (.slice none 0 0), 1, 24) := by kernel_rfl
/-- cells that are slices of bytes, told as lists -/
def Pcs (w : World) (B : Nat) (xs : List Value) (ps : List (List Int)) : Prop :=
  xs.length = ps.length ∧ ∀ i, i < ps.length → ∃ ai ci, xs[i]? = some (.slice ai (ps.getD i []).length ci) ∧ Bs w B ai (ps.getD i []) ∧ (ps.getD i []).length ≤ 140737488355328
theorem Pcs.snoc {w : World} {B : Nat} {xs : List Value} {ps : List (List Int)} (h : Pcs w B xs ps) {a : Option Addr} {n c : Nat} {l : List Int} (hb : Bs w B a l) (hn : l.length = n) (hm : n ≤ 140737488355328) : Pcs w B (xs ++ [.slice a n c]) (ps ++ [l]) := by
  subst hn
  obtain ⟨h1, h2⟩ := h
  refine ⟨by simp [h1], fun i hi => ?_⟩
  simp only [List.length_append, List.length_cons, List.length_nil] at hi
  by_cases hlt : i < ps.length
  · obtain ⟨ai, ci, g1, g2, g3⟩ := h2 i hlt
    have e : (ps ++ [l]).getD i [] = ps.getD i [] := by simp [List.getD_eq_getElem?_getD, List.getElem?_append_left hlt]
    rw [e]
    exact ⟨ai, ci, by rw [List.getElem?_append_left (by omega)]; exact g1, g2, g3⟩
  · have hi' : i = ps.length := by omega
    subst hi'
    have e : (ps ++ [l]).getD ps.length [] = l := by simp [List.getD_eq_getElem?_getD]
    rw [e]
    exact ⟨a, c, by rw [List.getElem?_append_right (by omega)]; simp [h1], hb, hm⟩
theorem Pcs.parts {w wr : World} {B base : Nat} {a : Option Addr} {n c : Nat} {xs : List Value} {ps : List (List Int)} (h : Pcs w B xs ps) (hB : B ≤ base) (hbase : base ≤ w.heap.size) (hbel : Below base w wr) (ho : wr.ownsRow base 22 1 (.slice a n c) n xs) (hn : ps.length = n) : Parts wr wr.heap.size a ps := by
  obtain ⟨h1, h2⟩ := h
  refine ⟨fun p hp => ?_, fun hpos => ?_⟩
  · obtain ⟨i, hi, rfl⟩ := List.getElem_of_mem hp
    obtain ⟨_, _, _, _, g3⟩ := h2 i hi
    simpa [List.getD_eq_getElem?_getD, hi] using g3
  · obtain ⟨g, cap, hv, hg, hlt⟩ := ho.form (by omega)
    have hA : a = some ⟨g, 0, none⟩ := by injection hv
    subst hA
    refine ⟨g, 0, rfl, hlt, fun i hi => ?_⟩
    obtain ⟨ai, ci, g1, g2, _⟩ := h2 i hi
    refine ⟨ai, ci, ?_, (g2.below (hbel.mono hB)).more (by have := hbel.size; omega)⟩
    have := ho.cells (g := g) rfl i _ g1
    rw [add_off] at this
    exact this
theorem below_parts {base : Nat} {w wr w1 : World} {a : Option Addr} {n c : Nat} {xs : List Value} {o : Obj} (hbel : Below base w wr) (hs : base ≤ w.heap.size) (ho : wr.ownsRow base 22 1 (.slice a n c) n xs) (hg : (wr.alloc o).grownBy w1 (Value.slice a n c).ownBlock) : Below base w w1 :=
  grown_below hbel (Nat.le_trans hs hbel.size) ho hg

theorem take_cut (l : List Int) (F T : Nat) (h : F ≤ T) (hT : T ≤ l.length) : l.take F ++ cutOf l F T = l.take T := by
  unfold cutOf
  have e : T = F + (T - F) := by omega
  rw [e, List.take_add, Nat.add_sub_cancel_left]
set_option maxRecDepth 100000 in
set_option maxHeartbeats 4000000 in
theorem sumparts_walk (w : World) (a : Option Addr) (n c : Nat) (l : List Int) (hn : l.length = n) (hnc : n ≤ c) (hm : c ≤ 140737488351232) (hA : a = none → c = 0) (hb : Bs w w.heap.size a l)
    (a1 : Option Addr) (n1 c1 : Nat) (q : List Int) (hq : q.length = n1) (hc1 : n1 ≤ c1) (hm1 : c1 * 2 ≤ 140737488351232) (hb1 : Ints .u16 w w.heap.size a1 q) :
    Calls Try.prog 4 #[.slice a n c, .slice a1 n1 c1] w fun e w' => e = .returned (.bool true) ∧ Below w.heap.size w w' := by
  subst hn
  subst hq
  obtain ⟨i0, hi, hz0, hz1, hz2⟩ := info_parts part_info
  have HA0 : Hid (a = none → l.length = 0 ∧ c = 0) := Lib.hid fun h => ⟨by have := hA h; omega, hA h⟩
  clear hA
  go_enter Try.func4, Try.ntmps4
  go_wp2_with fail
  refine (sumFixed _).mono ?_
  rintro e w1 ⟨rfl, hbel1⟩
  go_wp2_with fail
  refine (sumNew _).mono ?_
  rintro e w2 ⟨g, rfl, hg, ht, hbel2⟩
  have c2 := below_next hbel1 (Nat.le_refl _) hbel2
  have hz2' := c2.size
  have k0 : Bs w2 w.heap.size a l := hb.below c2
  have k1 := hb1.below c2
  have HT := Lib.hid ht
  clear ht hb hb1
  go_wp2_with fail
  go_loopw [6, 7, 8, 9, 10] (fun s f v i _ wr => ∃ k F : Nat, ∃ (ap : Option Addr) (cp : Nat) (xs : List Value) (ps : List (List Int)), k ≤ q.length ∧ k ≤ 50 ∧ F ≤ l.length ∧ i = .int .i64 k ∧ f = .int .i64 F ∧ s = .int .i64 (sumOf 0 (l.take F)) ∧ v = .slice ap k cp ∧
    Hid (wr.ownsRow w2.heap.size 22 1 (.slice ap k cp) k xs ∧ Pcs w2 w.heap.size xs ps ∧ ps.length = k ∧ ps.flatten = l.take F) ∧ Below w2.heap.size w2 wr) (fun _ _ _ i _ _ => 50 - (intOf i).toNat)
  case atStart => exact ⟨0, 0, none, 0, [], [], by omega, by omega, by omega, rfl, rfl, by simp [sumOf, crc, start]; decide, rfl, Lib.hid ⟨World.ownsRow_nil _ _ _ _, ⟨rfl, fun i hi => by simp at hi⟩, rfl, rfl⟩, Below.refl _ _⟩
  case round =>
    obtain ⟨k, F, ap, cp, xs, ps, hk, hk50, hF, rfl, rfl, rfl, rfl, HO, hbel⟩ := hrel
    by_cases hlt : k < q.length ∧ k < 50
    · obtain ⟨hlt, hlt50⟩ := hlt
      have hd : decide ((k : Int) < q.length) = true := by simp; omega
      obtain ⟨b, off, rfl, hbl, hc, hwf⟩ := (k1.below (hbel.mono (by omega))).at_ hlt
      have hx := bd_u16 hwf
      generalize q.getD k 0 = x at *
      obtain ⟨T, hT⟩ : ∃ T : Nat, (F : Int) + x % ((l.length : Int) - F + 1) = T := Int.eq_ofNat_of_zero_le (by have := Int.emod_nonneg x (b := (l.length : Int) - F + 1) (by omega); omega)
      have hT1 : F ≤ T ∧ T ≤ l.length := by
        have h1 := Int.emod_nonneg x (b := (l.length : Int) - F + 1) (by omega)
        have h2 := Int.emod_lt_of_pos x (b := (l.length : Int) - F + 1) (by omega)
        omega
      obtain ⟨hT1, hT2⟩ := hT1
      obtain ⟨a3, c3, r3, r3', b3, hc3, hc3', n3⟩ := cut_lh a l.length c l rfl hnc HA0.out F T hT1 hT2
      have hd2 : decide ((k : Int) < 50) = true := by simp; omega
      have B3 := Lib.hid b3
      have N3 := Lib.hid n3
      clear b3 n3
      have hO := HO.out.1
      have hz3 := hbel.size
      go_wp2_with (at_builtin; refine wpList_append_own _ rfl _ _ 31 rfl w2.heap.size 22 i0 (.slice none 0 0) 1 24 Try.underlying31 hi hz0 hz1 hz2 rfl (by decide) _ _ _ rfl (hO.alloc _) ⟨wr.heap.size, 0, none⟩ 1 1 [.slice a3 (T - F) c3] rfl rfl ?c1 ?c2 ?c3 ?c4 ?c5 ?_)
      case c1 => exact one_new wr _ _
      case c2 => intro u hu; simp at hu; subst hu; rfl
      case c3 => simp only [maxLen]; omega
      case c4 => omega
      case c5 => simp; omega
      intro v' w3 hown1 hg1 _
      have hb3 : Below w2.heap.size w2 w3 := below_parts hbel (Nat.le_refl _) hO hg1
      obtain ⟨a4, c4, rfl⟩ := own_shape hown1
      have hP := HO.out.2
      have hT3 : IsTab w3 g := HT.out.below hb3
      have hk3 : Bs w3 w.heap.size a l := k0.below (hb3.mono hz2')
      have hb4 := B3.out w3 _ hk3
      have hlen4 : (cutOf l F T).length = T - F := cutOf_len hT2
      have hsum : sumOf (sumOf 0 (l.take F)) (cutOf l F T) = sumOf 0 (l.take T) := by rw [sumOf_app, take_cut l F T hT1 hT2]
      have hnew : Pcs w2 w.heap.size (xs ++ [.slice a3 (T - F) c3]) (ps ++ [cutOf l F T]) ∧ (ps ++ [cutOf l F T]).length = k + 1 ∧ (ps ++ [cutOf l F T]).flatten = l.take T :=
        ⟨hP.1.snoc (B3.out w2 _ k0) hlen4 (by omega), by simp [hP.2.1], by rw [List.flatten_append, hP.2.2]; simpa using take_cut l F T hT1 hT2⟩
      have HN := Lib.hid hnew
      have HS := Lib.hid hsum
      have HL := Lib.hid hlen4
      have HO1 := Lib.hid hown1
      clear hP hown1 hg1 hO HO hnew hsum hlen4
      go_wp2_with fail
      refine (sumAdd g _ a3 _ c3 (cutOf l F T) HL.out (by omega) _ _ hT3 hb4).mono ?_
      rintro e w4 ⟨rfl, rfl⟩
      rw [HS.out]
      clear r3 r3'
      go_wp2_with fail
      go_roundw
      case rel => exact ⟨k + 1, T, a4, c4, _, _, by omega, by omega, hT2, by go_num, rfl, rfl, rfl, Lib.hid ⟨HO1.out, HN.out.1, HN.out.2.1, HN.out.2.2⟩, hb3⟩
      case measure => simp [intOf]; omega
    · have hd : k < q.length → decide ((k : Int) < 50) = false := fun h => by simp; omega
      obtain ⟨a3, c3, r3, r3', b3, hc3, hc3', n3⟩ := cut_l a l.length c l rfl hnc HA0.out F hF
      have B3 := Lib.hid b3
      have N3 := Lib.hid n3
      clear b3 n3
      have hO := HO.out.1
      have hz3 := hbel.size
      by_cases hkq : k < q.length
      case' pos => have hd := hd hkq
      all_goals
        go_wp2_with (at_builtin; refine wpList_append_own _ rfl _ _ 31 rfl w2.heap.size 22 i0 (.slice none 0 0) 1 24 Try.underlying31 hi hz0 hz1 hz2 rfl (by decide) _ _ _ rfl (hO.alloc _) ⟨wr.heap.size, 0, none⟩ 1 1 [.slice a3 (l.length - F) c3] rfl rfl (one_new wr _ _) (by intro u hu; simp at hu; subst hu; rfl) (by simp only [maxLen]; omega) (by omega) (by simp; omega) ?_; intro v' w3 hown1 hg1 _)
        have hb3 : Below w2.heap.size w2 w3 := below_parts hbel (Nat.le_refl _) hO hg1
        obtain ⟨a4, c4, rfl⟩ := own_shape hown1
        have hP := HO.out.2
        have hT3 : IsTab w3 g := HT.out.below hb3
        have hk3 : Bs w3 w.heap.size a l := k0.below (hb3.mono hz2')
        have hb4 := B3.out w3 _ hk3
        have hlen4 : (cutOf l F l.length).length = l.length - F := cutOf_len (Nat.le_refl _)
        have hsum : sumOf (sumOf 0 (l.take F)) (cutOf l F l.length) = sumOf 0 l := by rw [sumOf_app, take_cut l F _ hF (Nat.le_refl _), List.take_length]
        have hnew : Pcs w2 w.heap.size (xs ++ [.slice a3 (l.length - F) c3]) (ps ++ [cutOf l F l.length]) ∧ (ps ++ [cutOf l F l.length]).length = k + 1 ∧ (ps ++ [cutOf l F l.length]).flatten = l :=
          ⟨hP.1.snoc (B3.out w2 _ k0) hlen4 (by omega), by simp [hP.2.1], by rw [List.flatten_append, hP.2.2]; simpa using take_cut l F _ hF (Nat.le_refl _)⟩
        have hown2 := own_cap hown1
        have HN := Lib.hid hnew
        have HS := Lib.hid hsum
        have HL := Lib.hid hlen4
        have HO1 := Lib.hid hown1
        clear hP hown1 hg1 hO HO hnew hsum hlen4
        have hz5 := hb3.size
        go_wp2_with fail
        refine (sumAdd g _ a3 _ c3 (cutOf l F l.length) HL.out (by omega) _ _ hT3 hb4).mono ?_
        rintro e w4 ⟨rfl, rfl⟩
        rw [HS.out]
        clear r3 r3'
        go_wp2_with fail
        refine (sumOne (by simp) (hk3.more (by omega)) rfl (by omega)).mono ?_
        rintro e w5 ⟨rfl, hb5⟩
        have c5 := below_next hb3 (Nat.le_refl _) hb5
        go_wp2_with fail
        have hpar := HN.out.1.parts hz2' (Nat.le_refl _) c5 (own_below HO1.out hb5) HN.out.2.1
        have hcall := sumOfCall a4 (k + 1) c4 _ HN.out.2.1 (by omega) w5 hpar
        rw [HN.out.2.2] at hcall
        refine hcall.mono ?_
        rintro e w6 ⟨rfl, hb6⟩
        have c6 := below_next c5 (Nat.le_refl _) hb6
        go_wp2_with fail
        refine (sumOne (by simp) ((k0.below (c6.mono hz2')).more (by have := c6.size; omega)) rfl (by omega)).mono ?_
        rintro e w7 ⟨rfl, hb7⟩
        have c7 := below_next c6 (Nat.le_refl _) hb7
        go_wp2_with fail
        go_ret
        exact ⟨rfl, c2.trans (c7.mono hz2')⟩
end Go.Proofs.Ytfgifimmdkiejaa
