/- The walk of the law SumTurned: it returns true and turns nothing that was there. Condition: the bytes lie below the heap's size. -/
import Derived.Test.YtfgifimmdkiejaaWSum1
import Derived.Deep.DeepCutAuto
set_option linter.unusedVariables false
namespace Go.Proofs.Ytfgifimmdkiejaa
open Go.RowKit

/-- a list with others laid into it from a place on, one by one -/
def lay (l : List Int) (A : Nat) (x : List Int) : Nat → List Int
  | 0 => l
  | k + 1 => (lay l A x k).set (A + k) (x.getD k 0)
theorem lay_len (l : List Int) (A : Nat) (x : List Int) : ∀ k, (lay l A x k).length = l.length
  | 0 => rfl
  | k + 1 => by simp only [lay, List.length_set]; exact lay_len l A x k
theorem lay_eq (l : List Int) (A : Nat) (x : List Int) : ∀ k, (k = 0 ∨ A + k ≤ l.length) → k ≤ x.length → lay l A x k = l.take A ++ x.take k ++ l.drop (A + k)
  | 0, _, _ => by simp [lay]
  | k + 1, h, hx => by
    have ih := lay_eq l A x k (by omega) (by omega)
    have h1 : A + k < l.length := by omega
    simp only [lay]
    rw [ih, List.set_append_right _ _ (by simp; omega), List.drop_eq_getElem_cons h1]
    have e : A + k - (l.take A ++ x.take k).length = 0 := by simp; omega
    rw [e, List.set_cons_zero, take_succ' x k (by omega)]
    simp [Nat.add_assoc]
theorem lay_bytes (l : List Int) (A : Nat) (x : List Int) (hl : Bytes l) (hx : Bytes x) (k : Nat) (h : k = 0 ∨ A + k ≤ l.length) (hk : k ≤ x.length) : Bytes (lay l A x k) := by
  rw [lay_eq l A x k h hk]
  exact ((hl.take _).app (hx.take _)).app (hl.drop _)
theorem lay_at (l : List Int) (A : Nat) (x : List Int) (k : Nat) (h : A + k < l.length) (hk : k ≤ x.length) : (lay l A x k).getD (A + k) 0 = l.getD (A + k) 0 := by
  rw [lay_eq l A x k (by omega) hk]
  simp only [List.getD_eq_getElem?_getD]
  rw [List.getElem?_append_right (by simp; omega)]
  have e : A + k - (l.take A ++ x.take k).length = 0 := by simp; omega
  rw [e, List.getElem?_drop]; simp
/-- whether nothing is other up to there -/
def sm (l : List Int) (A : Nat) (x : List Int) (k : Nat) : Bool := decide (x.take k = (l.drop A).take k)
theorem sm_succ (l : List Int) (A : Nat) (x : List Int) (k : Nat) (h : A + k < l.length) (hk : k < x.length) : sm l A x (k + 1) = (sm l A x k && (x.getD k 0 == l.getD (A + k) 0)) := by
  have e : (l.drop A).getD k 0 = l.getD (A + k) 0 := by simp [List.getD_eq_getElem?_getD]
  unfold sm
  rw [take_succ' x k hk, take_succ' (l.drop A) k (by simp; omega), e, Bool.eq_iff_iff]
  simp only [decide_eq_true_eq, Bool.and_eq_true, beq_iff_eq]
  constructor
  · intro h1
    have h2 := List.append_inj h1 (by simp; omega)
    exact ⟨h2.1, by simpa using h2.2⟩
  · rintro ⟨h1, h2⟩; rw [h1, h2]
/-- the sums are alike just if nothing is other -/
theorem turned (l : List Int) (A : Nat) (x : List Int) (hl : Bytes l) (hx : Bytes x) (k : Nat) (h : k = 0 ∨ A + k ≤ l.length) (hk : k ≤ x.length) (h4 : k ≤ 4) : (sumOf 0 (lay l A x k) == sumOf 0 l) = sm l A x k := by
  have e1 := lay_eq l A x k h hk
  have e2 : l = l.take A ++ (l.drop A).take k ++ l.drop (A + k) := by
    rw [List.append_assoc, ← List.drop_drop, List.take_append_drop, List.take_append_drop]
  rw [Bool.eq_iff_iff]
  unfold sm
  rw [beq_iff_eq, decide_eq_true_eq, e1]
  constructor
  · intro hs
    unfold sumOf at hs
    have h1 := un_inj hs
    have h2 : crc (start 0) (l.take A ++ x.take k ++ l.drop (A + k)) = crc (start 0) l := by
      have := congrArg (fun r => ~~~ r) h1
      simpa using this
    have h3 : crc (start 0) (l.take A ++ x.take k ++ l.drop (A + k)) = crc (start 0) (l.take A ++ (l.drop A).take k ++ l.drop (A + k)) := by rw [← e2]; exact h2
    exact crc_turned _ _ _ _ (hx.take k) ((hl.drop A).take k) (by simp; omega) (by simp; omega) _ h3
  · intro hs
    rw [hs, ← e2]

set_option maxRecDepth 100000 in
set_option maxHeartbeats 2000000 in
theorem sumturned_walk (w : World) (a : Option Addr) (n c : Nat) (l : List Int) (hn : l.length = n) (hnc : n ≤ c) (hm : c ≤ 140737488351232) (hA : a = none → c = 0) (hb : Bs w w.heap.size a l) (at_ : Int) (hat : 0 ≤ at_ ∧ at_ ≤ 65535) (x : List Int) (hx : x.length = 4) (hxb : Bytes x) :
    Calls Try.prog 6 #[.slice a n c, .int .u16 at_, .agg (x.map (Value.int .u8)).toArray] w fun e w' => e = .returned (.bool true) ∧ Below w.heap.size w w' := by
  subst hn
  obtain ⟨A, rfl⟩ := Int.eq_ofNat_of_zero_le hat.1
  have HA0 : Hid (a = none → l.length = 0 ∧ c = 0) := Lib.hid fun h => ⟨by have := hA h; omega, hA h⟩
  have HX := Lib.hid hx
  have HT := Lib.hid (turned l A x hb.1 hxb)
  have HBy := Lib.hid (lay_bytes l A x hb.1 hxb)
  clear hA hx
  generalize hxs : (x.map (Value.int .u8)).toArray = xs
  have HXS := Lib.hid hxs; clear hxs
  go_enter Try.func6, Try.ntmps6
  go_wp2_with fail
  refine (sumFixed _).mono ?_
  rintro e w1 ⟨rfl, hb1⟩
  have hz1 : w.heap.size + 1 ≤ w1.heap.size := by simpa using hb1.size
  have k1 : Bs w1 w1.heap.size a l := (((hb.alloc (Nat.le_refl _) _).more (by simp)).next hb1)
  have hx0 := heap_alloc_new w (.cells xs 35)
  have hx1 : w1.heap[w.heap.size]? = some (.cells xs 35) := (hb1.block _ (by simp)).trans hx0
  have HX1 := Lib.hid hx1
  clear hx0 hx1
  go_wp2_with (at_builtin; refine wpList_app rfl (.tmp 12) (.tmp 13) rfl w1.heap.size (.slice (some ⟨w1.heap.size, 0, none⟩) 0 0) 0 [] rfl (World.ownsRow_lit w1 #[] 0 (Nat.le_refl _) (by decide) rfl) w1.heap.size a l.length c l rfl rfl (k1.alloc (Nat.le_refl _) _) HA0.out (by omega) (by simp) ?_; intro v2 w2 o2 g2)
  obtain ⟨a2, c2, rfl⟩ := own_shape o2
  have hb2 : Below w1.heap.size w1 w2 := ((Below.refl w1.heap.size w1).alloc (Nat.le_refl _) _).grown g2 (by simp) (fun k hk => by simp [Value.ownBlock] at hk; omega)
  have o2' : w2.ownsRow w1.heap.size 5 1 (.slice a2 l.length c2) l.length ((lay l A x 0).map (Value.int .u8)) := own_cast o2 (by simp) (by simp [lay])
  clear o2 g2
  have e0 : 0 + l.length = l.length := by omega
  rw [e0]
  have HO := Lib.hid o2'; clear o2' e0
  go_loopw [8, 9] (fun b i wr => ∃ k : Nat, k ≤ 4 ∧ (k = 0 ∨ A + k ≤ l.length) ∧ i = .int .i64 k ∧ b = .bool (sm l A x k) ∧ Hid (wr.ownsRow w1.heap.size 5 1 (.slice a2 l.length c2) l.length ((lay l A x k).map (Value.int .u8))) ∧ Below w1.heap.size w1 wr) (fun _ i _ => 4 - (intOf i).toNat)
  case atStart => exact ⟨0, by omega, .inl rfl, rfl, by simp [sm], HO, hb2⟩
  case round =>
    clear HO hb2
    obtain ⟨k, hk, hkl, rfl, rfl, HO, hbel⟩ := hrel
    have hz2 := hbel.size
    by_cases hlt : k < 4 ∧ A + k < l.length
    · obtain ⟨hk4, hlt⟩ := hlt
      have hs := sm_succ l A x k hlt (by rw [HX.out]; exact hk4)
      have hlen : 0 < l.length := by omega
      obtain ⟨g, cap, hv, hgb, hglt⟩ := HO.out.form hlen
      have ha2 : a2 = some ⟨g, 0, none⟩ := by injection hv
      subst ha2
      have hc2 := own_byte HO.out (k := A + k) (lay_len l A x k) hlt
      rw [lay_at l A x k hlt (by rw [HX.out]; omega)] at hc2
      have hf2 : wr.frozen? ⟨g, A + k, none⟩ = false := HO.out.frozenAt _
      have hx2 : wr.cell? ⟨w.heap.size, k, none⟩ = some (.int .u8 (x.getD k 0)) := by
        have h1 : wr.heap[w.heap.size]? = some (.cells xs 35) := (hbel.block _ (by omega)).trans HX1.out
        rw [cell_of_row _ _ _ _ _ _ h1, ← HXS.out]
        have hkx : k < x.length := by rw [HX.out]; exact hk4
        simp [List.getD_eq_getElem?_getD, hkx]
      have hput := own_put HO.out (A + k) (x.getD k 0)
      have HP : Hid ((wr.setCell ⟨g, A + k, none⟩ (.int .u8 (x.getD k 0))).ownsRow w1.heap.size 5 1 (.slice (some ⟨g, 0, none⟩) l.length c2) l.length ((lay l A x (k + 1)).map (Value.int .u8))) := Lib.hid hput
      have HS := Lib.hid hs
      have hne : ¬ g = w.heap.size := by omega
      clear hput hs hv HO
      have i0 : (0 : Int) ≤ (A : Int) + k := by omega
      have i1 : IntKind.i64.wrap ((A : Int) + k) = (A : Int) + k := IntWalk.i64_in _ (by omega)
      have i2 : ((A : Int) + k).toNat = A + k := by omega
      have i3 : (A : Int) + k < l.length := by omega
      have i4 : (k : Int) < 4 := by omega
      have i5 : (0 : Int) ≤ (k : Int) := by omega
      generalize x.getD k 0 = y at *
      generalize l.getD (A + k) 0 = z at *
      generalize sm l A x k = b at *
      cases b with
      | true =>
        go_wp2_with fail
        go_quiet (fail)
        go_wp2_with fail
        go_roundw
        case rel => exact ⟨k + 1, by omega, .inr (by omega), by go_num, by rw [HS.out]; rfl, HP, (low_drewN hbel _).setCell hgb _⟩
        case measure => simp [intOf]; omega
      | false =>
        go_wp2_with fail
        go_quiet (fail)
        go_wp2_with fail
        go_roundw
        case rel => exact ⟨k + 1, by omega, .inr (by omega), by go_num, by rw [HS.out]; rfl, HP, (low_drewN hbel _).setCell hgb _⟩
        case measure => simp [intOf]; omega
    · have hT := HT.out k hkl (by rw [HX.out]; exact hk) hk
      have hBy := HBy.out k hkl (by rw [HX.out]; exact hk)
      have hbs := Bs.of_own (own_cast (n' := (lay l A x k).length) HO.out (lay_len l A x k).symm rfl) hBy
      have hown := own_cap HO.out
      have i1 : IntKind.i64.wrap ((A : Int) + k) = (A : Int) + k := IntWalk.i64_in _ (by omega)
      have k2 := k1.below hbel
      have hl2 := lay_len l A x k
      generalize lay l A x k = m at *
      generalize sm l A x k = b at *
      have HL := Lib.hid hl2; clear hl2
      have HTT := Lib.hid hT; clear hT HT HBy HX HXS HX1
      have hb0 : Below w.heap.size w w1 := below_next ((Below.refl w.heap.size w).alloc (Nat.le_refl _) (.cells xs 35)) (Nat.le_refl _) hb1
      have hd : k < 4 → decide ((A : Int) + k < l.length) = false := fun h => by simp; omega
      by_cases hk4 : k < 4
      case' pos => have hd := hd hk4
      all_goals
        go_wp2_with fail
        refine (sumOne (l := m) (by simp) hbs HL.out (by omega)).mono ?_
        rintro e w3 ⟨rfl, hb3⟩
        have c3 := below_next hbel (Nat.le_refl _) hb3
        go_wp2_with fail
        refine (sumOne (l := l) (by simp) ((k1.below c3).more c3.size) rfl (by omega)).mono ?_
        rintro e w4 ⟨rfl, hb4⟩
        go_wp2_with fail
        go_ret
        exact ⟨by rw [HTT.out]; simp, below_next (below_next hb0 (Nat.le_refl _) c3) (Nat.le_refl _) hb4⟩
end Go.Proofs.Ytfgifimmdkiejaa
