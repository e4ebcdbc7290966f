/- Units as texts, the same units: contracts of the document's own Text, SameUnits and SameTexts. Condition: there are no more than 20000. -/
import Derived.Test.YtbeekjfjfcaobaaDoorMm
set_option linter.unusedVariables false
set_option maxRecDepth 100000
namespace Go.Proofs.YtbeekjfjfcaobaaDoor
open Go.RowKit Go.Lib Go.Maps

set_option maxHeartbeats 8000000 in
theorem refText_is (a : Option Addr) (n c : Nat) (us : List Nat) (hn : us.length = n) (hm : n ≤ 20000) (w : World) (hu : Us w w.heap.size a us) : Calls Tryd.prog 24 #[.slice a n c] w fun e w' => e = .returned (.string (strOfNums (txtI us))) ∧ Below w.heap.size w w' := by
  have HU := Lib.hid (And.intro hu hn)
  clear hu hn
  go_enter Tryd.func24, Tryd.ntmps24
  go_wp2_with fail
  go_loopw [3, 4] (fun pv iv wr => ∃ (i k : Nat), iv = .int .i64 (i : Nat) ∧ i ≤ n ∧ k ≤ 3 * i ∧ Hid (k = (txtI (us.take i)).length ∧ wr.ownsRow w.heap.size 5 1 pv k ((txtI (us.take i)).map (Value.int .u8)) ∧ Below w.heap.size w wr)) (fun _ iv _ => n - (RowKit.intOf iv).toNat)
  case atStart => exact ⟨0, 0, rfl, Nat.zero_le _, Nat.le_refl _, Lib.hid ⟨rfl, World.ownsRow_nil _ _ _ _, Below.refl _ _⟩⟩
  case round =>
    obtain ⟨i, k, rfl, hi, hk, HI⟩ := hrel
    by_cases hlt : i < n
    · have hlt' : i < us.length := by rw [HU.out.2]; exact hlt
      obtain ⟨b, off, rfl, hbl, hcell⟩ := (HU.out.1.below HI.out.2.2).2 (by omega)
      have hc1 := hcell i hlt'
      obtain ⟨u, hue⟩ : ∃ u, us.getD i 0 = u := ⟨_, rfl⟩
      rw [hue] at hc1
      have hum : u ∈ us := by rw [← hue, List.getD_eq_getElem?_getD, List.getElem?_eq_getElem hlt']; exact List.getElem_mem hlt'
      have hul := HU.out.1.1 u hum
      have htake : us.take (i + 1) = us.take i ++ [u] := by
        rw [List.take_succ_eq_append_getElem hlt', ← hue, List.getD_eq_getElem?_getD, List.getElem?_eq_getElem hlt']; rfl
      have htx : txtI (us.take (i + 1)) = txtI (us.take i) ++ (bytN u).map fun n => ((n : Nat) : Int) := by rw [htake, txtI_snoc]
      have e0 : IntKind.i64.wrap ((u : Nat) : Int) = (u : Int) := IntWalk.i64_in _ (by omega)
      rcases wid_cases u hul with ⟨_, h127, h1, hby⟩ | ⟨_, h0, h2k, hby⟩ | ⟨_, h2k, hby⟩
      · have e1 : IntKind.u8.wrap ((u : Nat) : Int) = (u : Int) := by rw [u8w]; omega
        have t1 : decide (((u : Nat) : Int) ≥ 1) = true := by simp; omega
        have t2 : decide (((u : Nat) : Int) < 128) = true := by simp; omega
        rw [hby] at htx
        have HX := Lib.hid htx
        clear hby htx htake hue hum hcell
        go_wp2_with (at_builtin; refine few_app rfl _ _ rfl w.heap.size _ k (txtI (us.take i)) rfl (HI.out.2.1.alloc _) wr.heap.size [(u : Int)] 1 rfl rfl (heap_alloc_new _ _) (by omega) (Nat.le_trans HI.out.2.2.size (by simp)) ?_; intro v' w5 ho5 hg5; have HG := Lib.hid (And.intro ho5 (grown_below HI.out.2.2 HI.out.2.2.size HI.out.2.1 hg5)); clear ho5 hg5)
        go_roundw
        case rel => exact ⟨i + 1, k + 1, by go_num, by omega, by omega, Lib.hid ⟨by rw [HX.out, HI.out.1]; simp, by rw [HX.out]; exact HG.out.1, HG.out.2⟩⟩
        case measure => simp [RowKit.intOf]; omega
      · obtain ⟨q6, hq6⟩ : ∃ q6, u / 64 = q6 := ⟨_, rfl⟩
        obtain ⟨r6, hr6⟩ : ∃ r6, u % 64 = r6 := ⟨_, rfl⟩
        obtain ⟨c6, hc6⟩ : ∃ c6, 192 + q6 = c6 := ⟨_, rfl⟩
        obtain ⟨l6, hl6⟩ : ∃ l6, 128 + r6 = l6 := ⟨_, rfl⟩
        have s6 : ((u : Nat) : Int).tdiv 64 = (q6 : Int) := by rw [Int.tdiv_eq_ediv_of_nonneg (by omega)]; omega
        have s6' : ((u : Nat) : Int) / 64 = (q6 : Int) := by omega
        have m6 : ((u : Nat) : Int).tmod 64 = (r6 : Int) := by rw [Int.tmod_eq_emod_of_nonneg (by omega)]; omega
        have m6' : ((u : Nat) : Int) % 64 = (r6 : Int) := by omega
        have a1 : IntKind.i64.wrap (192 + (q6 : Int)) = (c6 : Int) := by rw [IntWalk.i64_in _ (by omega)]; omega
        have a2 : IntKind.i64.wrap (128 + (r6 : Int)) = (l6 : Int) := by rw [IntWalk.i64_in _ (by omega)]; omega
        have e1 : IntKind.u8.wrap ((c6 : Nat) : Int) = (c6 : Int) := by rw [u8w]; omega
        have e2 : IntKind.u8.wrap ((l6 : Nat) : Int) = (l6 : Int) := by rw [u8w]; omega
        have t3 : decide (((u : Nat) : Int) < 2048) = true := by simp; omega
        have t12 : (decide (((u : Nat) : Int) ≥ 1) = false) ∨ (decide (((u : Nat) : Int) ≥ 1) = true ∧ decide (((u : Nat) : Int) < 128) = false) := by
          rcases h0 with h0 | h0
          · exact .inl (by simp; omega)
          · exact .inr ⟨by simp; omega, by simp; omega⟩
        rw [hby, hq6, hr6, hc6, hl6] at htx
        have HX := Lib.hid htx
        clear hby htx htake hue hum hcell hq6 hr6 hc6 hl6
        go_wp2_with (at_builtin; refine few_app rfl _ _ rfl w.heap.size _ k (txtI (us.take i)) rfl (HI.out.2.1.alloc _) wr.heap.size [(c6 : Int), (l6 : Int)] 2 rfl rfl (heap_alloc_new _ _) (by omega) (Nat.le_trans HI.out.2.2.size (by simp)) ?_; intro v' w5 ho5 hg5; have HG := Lib.hid (And.intro ho5 (grown_below HI.out.2.2 HI.out.2.2.size HI.out.2.1 hg5)); clear ho5 hg5)
        all_goals
          go_roundw
          case rel => exact ⟨i + 1, k + 2, by go_num, by omega, by omega, Lib.hid ⟨by rw [HX.out, HI.out.1]; simp, by rw [HX.out]; exact HG.out.1, HG.out.2⟩⟩
          case measure => simp [RowKit.intOf]; omega
      · obtain ⟨q12, hq12⟩ : ∃ q12, u / 4096 = q12 := ⟨_, rfl⟩
        obtain ⟨q6, hq6⟩ : ∃ q6, u / 64 = q6 := ⟨_, rfl⟩
        obtain ⟨n6, hn6⟩ : ∃ n6, q6 % 64 = n6 := ⟨_, rfl⟩
        obtain ⟨r6, hr6⟩ : ∃ r6, u % 64 = r6 := ⟨_, rfl⟩
        obtain ⟨c6, hc6⟩ : ∃ c6, 224 + q12 = c6 := ⟨_, rfl⟩
        obtain ⟨d6, hd6⟩ : ∃ d6, 128 + n6 = d6 := ⟨_, rfl⟩
        obtain ⟨l6, hl6⟩ : ∃ l6, 128 + r6 = l6 := ⟨_, rfl⟩
        have s12 : ((u : Nat) : Int).tdiv 4096 = (q12 : Int) := by rw [Int.tdiv_eq_ediv_of_nonneg (by omega)]; omega
        have s12' : ((u : Nat) : Int) / 4096 = (q12 : Int) := by omega
        have s6 : ((u : Nat) : Int).tdiv 64 = (q6 : Int) := by rw [Int.tdiv_eq_ediv_of_nonneg (by omega)]; omega
        have s6' : ((u : Nat) : Int) / 64 = (q6 : Int) := by omega
        have m6 : ((u : Nat) : Int).tmod 64 = (r6 : Int) := by rw [Int.tmod_eq_emod_of_nonneg (by omega)]; omega
        have m6' : ((u : Nat) : Int) % 64 = (r6 : Int) := by omega
        have o6 : ((q6 : Nat) : Int).tmod 64 = (n6 : Int) := by rw [Int.tmod_eq_emod_of_nonneg (by omega)]; omega
        have o6' : ((q6 : Nat) : Int) % 64 = (n6 : Int) := by omega
        have a1 : IntKind.i64.wrap (224 + (q12 : Int)) = (c6 : Int) := by rw [IntWalk.i64_in _ (by omega)]; omega
        have a2 : IntKind.i64.wrap (128 + (r6 : Int)) = (l6 : Int) := by rw [IntWalk.i64_in _ (by omega)]; omega
        have a3 : IntKind.i64.wrap (128 + (n6 : Int)) = (d6 : Int) := by rw [IntWalk.i64_in _ (by omega)]; omega
        have e1 : IntKind.u8.wrap ((c6 : Nat) : Int) = (c6 : Int) := by rw [u8w]; omega
        have e2 : IntKind.u8.wrap ((l6 : Nat) : Int) = (l6 : Int) := by rw [u8w]; omega
        have e3 : IntKind.u8.wrap ((d6 : Nat) : Int) = (d6 : Int) := by rw [u8w]; omega
        have t1 : decide (((u : Nat) : Int) ≥ 1) = true := by simp; omega
        have t2 : decide (((u : Nat) : Int) < 128) = false := by simp; omega
        have t3 : decide (((u : Nat) : Int) < 2048) = false := by simp; omega
        rw [hby, hq12, hq6, hn6, hr6, hc6, hd6, hl6] at htx
        have HX := Lib.hid htx
        have hb6 : q12 ≤ 15 := by omega
        clear hby htx htake hue hum hcell hq6 hr6 hc6 hl6 hq12 hn6 hd6
        go_wp2_with (at_builtin; refine few_app rfl _ _ rfl w.heap.size _ k (txtI (us.take i)) rfl (HI.out.2.1.alloc _) wr.heap.size [(c6 : Int), (d6 : Int), (l6 : Int)] 3 rfl rfl (heap_alloc_new _ _) (by omega) (Nat.le_trans HI.out.2.2.size (by simp)) ?_; intro v' w5 ho5 hg5; have HG := Lib.hid (And.intro ho5 (grown_below HI.out.2.2 HI.out.2.2.size HI.out.2.1 hg5)); clear ho5 hg5)
        go_roundw
        case rel => exact ⟨i + 1, k + 3, by go_num, by omega, by omega, Lib.hid ⟨by rw [HX.out, HI.out.1]; simp, by rw [HX.out]; exact HG.out.1, HG.out.2⟩⟩
        case measure => simp [RowKit.intOf]; omega
    · obtain rfl : n = i := by omega
      have hall : us.take n = us := List.take_of_length_le (by rw [HU.out.2]; exact Nat.le_refl _)
      rw [hall] at HI
      obtain ⟨hk1, hrow, hbel⟩ := HI.out
      obtain ⟨ap, cp, rfl⟩ := own_shape hrow
      subst hk1
      have hcv1 := conv_bs cp (Bs.of_own hrow (txtI_bytes HU.out.1.1)) rfl
      have HB := Lib.hid hbel
      clear hrow hbel
      go_wp2_with fail
      go_ret
      exact ⟨rfl, HB.out⟩
set_option maxHeartbeats 4000000 in
theorem sameUnits {w : World} {B B' : Nat} {a a' : Option Addr} {n n' c c' : Nat} {us vs : List Nat} (hn : us.length = n) (hn' : vs.length = n') (hm : n ≤ 60000) (hm' : n' ≤ 60000) (hu : Us w B a us) (hv : Us w B' a' vs) : Calls Tryd.prog 22 #[.slice a n c, .slice a' n' c'] w fun e w' => e = .returned (.bool (decide (us = vs))) ∧ ∃ d, w' = w.drewN d := by
  by_cases hlen : n = n'
  · subst hlen
    have t1 : ((n : Int) != (n : Int)) = false := by simp
    have HU := Lib.hid (And.intro hu (And.intro hv (And.intro hn hn')))
    clear hu hv hn hn'
    go_enter Tryd.func22, Tryd.ntmps22
    go_wp2_with fail
    go_loopw [5] (fun iv wr => ∃ (i d : Nat), iv = .int .i64 (i : Nat) ∧ i ≤ n ∧ wr = w.drewN d ∧ Hid (us.take i = vs.take i)) (fun iv _ => n - (RowKit.intOf iv).toNat)
    case atStart => exact ⟨0, 0, rfl, Nat.zero_le _, rfl, Lib.hid rfl⟩
    case round =>
      obtain ⟨i, d, rfl, hi, rfl, HI⟩ := hrel
      by_cases hlt : i < n
      · have hlt1 : i < us.length := by rw [HU.out.2.2.1]; exact hlt
        have hlt2 : i < vs.length := by rw [HU.out.2.2.2]; exact hlt
        obtain ⟨b, off, rfl, _, hc⟩ := HU.out.1.2 (by omega)
        obtain ⟨b', off', rfl, _, hc'⟩ := HU.out.2.1.2 (by omega)
        obtain ⟨u, hue⟩ : ∃ u, us.getD i 0 = u := ⟨_, rfl⟩
        obtain ⟨v, hve⟩ : ∃ v, vs.getD i 0 = v := ⟨_, rfl⟩
        have k1 : w.cell? ⟨b, off + i, none⟩ = some (.int .u16 ((u : Nat) : Int)) := by rw [← hue]; exact hc i hlt1
        have k2 : w.cell? ⟨b', off' + i, none⟩ = some (.int .u16 ((v : Nat) : Int)) := by rw [← hve]; exact hc' i hlt2
        have g1 : us[i]? = some u := by rw [← hue, List.getD_eq_getElem?_getD, List.getElem?_eq_getElem hlt1]; rfl
        have g2 : vs[i]? = some v := by rw [← hve, List.getD_eq_getElem?_getD, List.getElem?_eq_getElem hlt2]; rfl
        clear hc hc' hue hve
        by_cases huv : u = v
        · have HX := Lib.hid (show us.take (i + 1) = vs.take (i + 1) by rw [List.take_add_one, List.take_add_one, g1, g2, HI.out, huv])
          have t2 : ((u : Int) != (v : Int)) = false := by simp; omega
          clear g1 g2
          subst huv
          go_wp2_with fail
          go_quiet (fail)
          go_wp2_with fail
          go_roundw
          case rel => exact ⟨i + 1, _, by go_num, by omega, rfl, HX⟩
          case measure => simp [RowKit.intOf]; omega
        · have HX := Lib.hid (show ¬ us = vs from fun h => huv (by rw [h, g2] at g1; injection g1 with g1; exact g1.symm))
          have t2 : ((u : Int) != (v : Int)) = true := by simp; omega
          clear g1 g2
          go_wp2_with fail
          go_quiet (fail)
          go_wp2_with fail
          go_ret
          exact ⟨by rw [decide_eq_false HX.out]; rfl, _, World.drewN_drewN _ _ _⟩
      · obtain rfl : n = i := by omega
        have HX := Lib.hid (show us = vs by
          have := HI.out
          rw [List.take_of_length_le (by rw [HU.out.2.2.1]; exact Nat.le_refl _), List.take_of_length_le (by rw [HU.out.2.2.2]; exact Nat.le_refl _)] at this
          exact this)
        go_wp2_with fail
        go_ret
        exact ⟨by rw [decide_eq_true HX.out]; rfl, _, rfl⟩
  · have t1 : ((n : Int) != (n' : Int)) = true := by simp; omega
    have HX := Lib.hid (show ¬ us = vs from fun h => hlen (by rw [← hn, ← hn', h]))
    clear hu hv hn hn'
    go_enter Tryd.func22, Tryd.ntmps22
    go_wp2_with fail
    go_ret
    exact ⟨by rw [decide_eq_false HX.out]; rfl, 0, rfl⟩
/-- a slice of texts -/
def Ts (w : World) (B : Nat) (a : Option Addr) (us : List ByteArray) : Prop := 0 < us.length → ∃ b off, a = some ⟨b, off, none⟩ ∧ b < B ∧ ∀ i, i < us.length → w.cell? ⟨b, off + i, none⟩ = some (.string (us.getD i ByteArray.empty))
theorem Ts.below {w w' : World} {B : Nat} {a : Option Addr} {us : List ByteArray} (h : Ts w B a us) (hb : Below B w w') : Ts w' B a us := fun hn => by
  obtain ⟨b, off, e, hlt, hc⟩ := h hn
  exact ⟨b, off, e, hlt, fun i hi => (hb.cell (p := ⟨b, _, none⟩) hlt).trans (hc i hi)⟩
theorem Ts.of_own {w : World} {base : Nat} {a : Option Addr} {c : Nat} {us : List ByteArray} (h : w.ownsRow base 9 1 (.slice a us.length c) us.length (us.map Value.string)) : Ts w w.heap.size a us := fun hn => by
  obtain ⟨G, cp, hV, hlt, _⟩ := h.form hn
  injection hV with h1 _ h2
  subst h1
  subst h2
  refine ⟨G, 0, rfl, (h.lt G rfl).2, fun i hi => ?_⟩
  rw [Nat.zero_add, h.cellAt i (by omega), List.getElem?_map, List.getD_eq_getElem?_getD, List.getElem?_eq_getElem hi]; rfl
theorem beq_text2 {a b : ByteArray} : (a.toList == b.toList) = decide (a = b) := by
  rw [Bool.eq_iff_iff, beq_iff_eq, decide_eq_true_iff, Lib.toList_data, Lib.toList_data]
  constructor
  · intro h
    have h2 : a.data = b.data := Array.toList_inj.1 h
    cases a; cases b; simp at h2; rw [h2]
  · rintro rfl; rfl
set_option maxHeartbeats 4000000 in
theorem sameTexts {w : World} {B B' : Nat} {a a' : Option Addr} {n n' c c' : Nat} {us vs : List ByteArray} (hn : us.length = n) (hn' : vs.length = n') (hm : n ≤ 20000) (hm' : n' ≤ 20000) (hu : Ts w B a us) (hv : Ts w B' a' vs) : Calls Tryd.prog 19 #[.slice a n c, .slice a' n' c'] w fun e w' => e = .returned (.bool (decide (us = vs))) ∧ ∃ d, w' = w.drewN d := by
  by_cases hlen : n = n'
  · subst hlen
    have t1 : ((n : Int) != (n : Int)) = false := by simp
    have HU := Lib.hid (And.intro hu (And.intro hv (And.intro hn hn')))
    clear hu hv hn hn'
    go_enter Tryd.func19, Tryd.ntmps19
    go_wp2_with fail
    go_loopw [5] (fun iv wr => ∃ (i d : Nat), iv = .int .i64 (i : Nat) ∧ i ≤ n ∧ wr = w.drewN d ∧ Hid (us.take i = vs.take i)) (fun iv _ => n - (RowKit.intOf iv).toNat)
    case atStart => exact ⟨0, 0, rfl, Nat.zero_le _, rfl, Lib.hid rfl⟩
    case round =>
      obtain ⟨i, d, rfl, hi, rfl, HI⟩ := hrel
      by_cases hlt : i < n
      · have hlt1 : i < us.length := by rw [HU.out.2.2.1]; exact hlt
        have hlt2 : i < vs.length := by rw [HU.out.2.2.2]; exact hlt
        obtain ⟨b, off, rfl, _, hc⟩ := HU.out.1 (by omega)
        obtain ⟨b', off', rfl, _, hc'⟩ := HU.out.2.1 (by omega)
        obtain ⟨u, hue⟩ : ∃ u, us.getD i ByteArray.empty = u := ⟨_, rfl⟩
        obtain ⟨v, hve⟩ : ∃ v, vs.getD i ByteArray.empty = v := ⟨_, rfl⟩
        have k1 : w.cell? ⟨b, off + i, none⟩ = some (.string u) := by rw [← hue]; exact hc i hlt1
        have k2 : w.cell? ⟨b', off' + i, none⟩ = some (.string v) := by rw [← hve]; exact hc' i hlt2
        have g1 : us[i]? = some u := by rw [← hue, List.getD_eq_getElem?_getD, List.getElem?_eq_getElem hlt1]; rfl
        have g2 : vs[i]? = some v := by rw [← hve, List.getD_eq_getElem?_getD, List.getElem?_eq_getElem hlt2]; rfl
        clear hc hc' hue hve
        by_cases huv : u = v
        · have HX := Lib.hid (show us.take (i + 1) = vs.take (i + 1) by rw [List.take_add_one, List.take_add_one, g1, g2, HI.out, huv])
          have t2 : (u.toList == v.toList) = true := by rw [huv]; simp
          clear g1 g2
          subst huv
          go_wp2_with fail
          go_quiet (fail)
          go_wp2_with fail
          go_roundw
          case rel => exact ⟨i + 1, _, by go_num, by omega, rfl, HX⟩
          case measure => simp [RowKit.intOf]; omega
        · have HX := Lib.hid (show ¬ us = vs from fun h => huv (by rw [h, g2] at g1; injection g1 with g1; exact g1.symm))
          have t2 : (u.toList == v.toList) = false := by rw [beq_text2, decide_eq_false huv]
          clear g1 g2
          go_wp2_with fail
          go_quiet (fail)
          go_wp2_with fail
          go_ret
          exact ⟨by rw [decide_eq_false HX.out]; rfl, _, World.drewN_drewN _ _ _⟩
      · obtain rfl : n = i := by omega
        have HX := Lib.hid (show us = vs by
          have := HI.out
          rw [List.take_of_length_le (by rw [HU.out.2.2.1]; exact Nat.le_refl _), List.take_of_length_le (by rw [HU.out.2.2.2]; exact Nat.le_refl _)] at this
          exact this)
        go_wp2_with fail
        go_ret
        exact ⟨by rw [decide_eq_true HX.out]; rfl, _, rfl⟩
  · have t1 : ((n : Int) != (n' : Int)) = true := by simp; omega
    have HX := Lib.hid (show ¬ us = vs from fun h => hlen (by rw [← hn, ← hn', h]))
    clear hu hv hn hn'
    go_enter Tryd.func19, Tryd.ntmps19
    go_wp2_with fail
    go_ret
    exact ⟨by rw [decide_eq_false HX.out]; rfl, 0, rfl⟩
end Go.Proofs.YtbeekjfjfcaobaaDoor
