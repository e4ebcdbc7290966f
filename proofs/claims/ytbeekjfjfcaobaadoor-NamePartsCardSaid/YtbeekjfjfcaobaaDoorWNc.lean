/- The walk of the law NameParts: it returns true and turns nothing that was there. Condition: the variable internal/bytealg.MaxLen has a value; the texts are no longer than any may be. -/
import Derived.Test.YtbeekjfjfcaobaaDoorMq
import Derived.Test.YtbeekjfjfcaobaaDoorFr
import Derived.SliceStrings
set_option linter.unusedVariables false
set_option maxRecDepth 100000
namespace Go.Proofs.YtbeekjfjfcaobaaDoor
open Go.RowKit Go.Lib Go.Maps

theorem brN_app : ∀ (p r : List UInt8) (c : UInt8), p[brN p]? = some c → brN (p ++ r) = brN p
  | [], r, c, h => by simp [brN] at h
  | b :: p, r, c, h => by
    show brN (b :: (p ++ r)) = _
    unfold brN at h ⊢
    by_cases hb : b = 91
    · rw [if_pos hb] at h
      rw [if_pos hb, if_pos hb, brN_app p r c (by simpa using h)]
    · rw [if_neg hb, if_neg hb]
theorem indexByte_app : ∀ (l r : List UInt8) (c : UInt8), 0 ≤ indexByte l c → indexByte (l ++ r) c = indexByte l c
  | [], r, c, h => by simp [indexByte] at h
  | b :: l, r, c, h => by
    show indexByte (b :: (l ++ r)) c = _
    unfold indexByte at h ⊢
    by_cases hb : (b == c) = true
    · rw [if_pos hb, if_pos hb]
    · rw [if_neg hb] at h
      rw [if_neg hb, if_neg hb]
      have hge := indexByte_ge l c
      by_cases e : (indexByte l c == -1) = true
      · rw [if_pos e] at h; omega
      · have e2 : indexByte l c ≠ -1 := by simpa using e
        rw [indexByte_app l r c (by omega)]
theorem clsN_app {p : List UInt8} {n : Nat} (r : List UInt8) (hn : n + 1 ≤ p.length) (h : clsN p n ≠ 0) : clsN (p ++ r) n = clsN p n := by
  unfold clsN at h ⊢
  simp only at h ⊢
  have hd : (p ++ r).drop (n + 1) = p.drop (n + 1) ++ r := List.drop_append_of_le_length hn
  rw [hd]
  split at h
  · rename_i hc
    rw [indexByte_app _ r 59 hc.1]
    have hb := indexByte_bd (p.drop (n + 1)) 59
    rw [List.take_append_of_le_length (by omega)]
  · exact absurd rfl h
theorem desc_cases {p : List UInt8} (h : 0 < descN p) : ∃ c, ¬8 < brN p ∧ p[brN p]? = some c ∧ brN p + 1 ≤ p.length ∧ descN p = (if oneU c then brN p + 1 else if c = 76 then clsN p (brN p) else 0) := by
  unfold descN at h
  split at h
  · omega
  · rename_i h8
    split at h
    · omega
    · rename_i c hc
      exact ⟨c, h8, hc, (List.getElem?_eq_some_iff.1 hc).1, desc_at h8 hc⟩
theorem descN_app {p : List UInt8} (r : List UInt8) (h : 0 < descN p) : descN (p ++ r) = descN p := by
  obtain ⟨c, h8, hc, hl, hd⟩ := desc_cases h
  have hb := brN_app p r c hc
  have hc2 : (p ++ r)[brN (p ++ r)]? = some c := by rw [hb, List.getElem?_append_left hl]; exact hc
  rw [desc_at (by rw [hb]; exact h8) hc2, hd, hb]
  by_cases h1 : oneU c = true
  · rw [if_pos h1, if_pos h1]
  · rw [if_neg h1, if_neg h1]
    by_cases h2 : c = 76
    · rw [if_pos h2, if_pos h2]
      exact clsN_app r hl (by rw [if_neg h1, if_pos h2] at hd; omega)
    · rw [if_neg h2, if_neg h2]
theorem desc_short {p : List UInt8} (h : descB p = true) : p.length ≤ 68 := by
  unfold descB at h
  rw [Bool.and_eq_true, decide_eq_true_iff, decide_eq_true_iff] at h
  obtain ⟨c, h8, hc, hl, hd⟩ := desc_cases h.1
  rw [← h.2, hd]
  split
  · omega
  · split
    · unfold clsN
      simp only
      split
      · rename_i hcl
        have hb := indexByte_bd (p.drop (brN p + 1)) 59
        have h58 : ((p.drop (brN p + 1)).take (indexByte (p.drop (brN p + 1)) 59).toNat).length ≤ 58 := by
          rcases Nat.lt_or_ge 58 ((p.drop (brN p + 1)).take (indexByte (p.drop (brN p + 1)) 59).toNat).length with h1 | h1
          · have := class_long h1
            rw [this] at hcl
            exact absurd hcl.2 (by decide)
          · exact h1
        rw [List.length_take] at h58
        omega
      · omega
    · omega
theorem desc_head {p : List UInt8} (h : descB p = true) : ∃ c t, p = c :: t ∧ ¬c = 41 := by
  unfold descB at h
  rw [Bool.and_eq_true, decide_eq_true_iff, decide_eq_true_iff] at h
  cases p with
  | nil => exact absurd h.1 (by decide)
  | cons c t =>
    refine ⟨c, t, rfl, ?_⟩
    rintro rfl
    have : descN (41 :: t) = 0 := by
      unfold descN
      have hb : brN (41 :: t) = 0 := by unfold brN; rfl
      rw [hb]; rfl
    omega
theorem parT_flat : ∀ (ps : List (List UInt8)) (q : List UInt8), (∀ p ∈ ps, descB p = true) → parT (ps.flatten ++ 41 :: q) = some (ps, q)
  | [], q, _ => parT_end q
  | p :: ps, q, h => by
    have hp := h p (by simp)
    obtain ⟨c, t, hct, hc⟩ := desc_head hp
    have hB := hp
    unfold descB at hB
    rw [Bool.and_eq_true, decide_eq_true_iff, decide_eq_true_iff] at hB
    have hfl : (p :: ps).flatten ++ 41 :: q = p ++ (ps.flatten ++ 41 :: q) := by simp
    rw [hfl]
    have hd := descN_app (ps.flatten ++ 41 :: q) hB.1
    have hcons : p ++ (ps.flatten ++ 41 :: q) = c :: (t ++ (ps.flatten ++ 41 :: q)) := by rw [hct]; rfl
    rw [hcons] at hd ⊢
    rw [parT_step hc (by rw [hd]; omega), hd, ← hcons, hB.2, List.drop_left, List.take_left, parT_flat ps q (fun x hx => h x (by simp [hx]))]
    rfl
theorem tl_app (a b : ByteArray) : tl (a ++ b) = tl a ++ tl b := by
  show (a ++ b).data.toList = a.data.toList ++ b.data.toList
  rw [ByteArray.data_append, Array.toList_append]
section
variable {H : Type} {enc : TypeId × Value → H} {K : Option Nat} {W : World} {t e : TypeId} {v : Value} {d : DataW H} {p : List MemPlace}
open Go.ChangeShapes Go.WideShapes Go.ChangeAt
theorem One.text2 (h : One H enc K W 9 v d p) : ∃ s, v = .string s ∧ s.size ≤ maxLen := by
  obtain ⟨base, hv⟩ := h.size
  obtain ⟨fuel, hf⟩ := h.read
  obtain ⟨s, h1, _, _, h2⟩ := Go.ChangeMaps.open_string Tryd.underlying9 hv ⟨fuel, hf⟩
  exact ⟨s, h1, h2⟩
theorem One.texts (h : One H enc K W 26 v d p) : ∃ a n c us, v = .slice a n c ∧ us.length = n ∧ n ≤ maxLen ∧ Ts W W.heap.size a us ∧ ∀ s ∈ us, s.size ≤ maxLen := by
  obtain ⟨base, hv⟩ := h.size
  obtain ⟨a, n, c, rfl⟩ := okWide_slice Tryd.underlying26 hv
  obtain ⟨fuel, hf⟩ := h.read
  rcases Go.ChangeShapes.open_strings Tryd.underlying26 Tryd.underlying9 (by kernel_rfl) hf with ⟨hcs, _⟩ | ⟨x, n', c', ss, hcs, _, hl, hm, hz, hd, hcell, hs⟩
  · simp [Value.cells] at hcs
    obtain ⟨rfl, rfl, rfl⟩ := hcs
    exact ⟨none, 0, 0, [], rfl, rfl, by decide, fun hn => absurd hn (by simp), fun s hs => by cases hs⟩
  · simp [Value.cells] at hcs
    obtain ⟨rfl, rfl, rfl⟩ := hcs
    have hz' : ss.length = c := by simpa using hz
    refine ⟨some x, n, c, ss.take n, rfl, by rw [List.length_take]; omega, by omega, fun hp => ?_, fun s hs' => hs s (List.mem_of_mem_take hs')⟩
    have hlen : (ss.take n).length = n := by rw [List.length_take]; omega
    rw [hlen] at hp
    have h00 := hcell 0 (by omega)
    obtain ⟨b, off, rfl⟩ := cell_addr h00
    refine ⟨b, off, rfl, cell_lt (by rw [add_off] at h00; exact h00), fun i hi => ?_⟩
    rw [hlen] at hi
    have := hcell i (by omega)
    rw [add_off] at this
    rw [this]
    simp [List.getD_eq_getElem?_getD, hi]
end
set_option maxHeartbeats 8000000 in
theorem nameparts_walk (w : World) (a : Option Addr) (n c : Nat) (us : List ByteArray) (hn : us.length = n) (hnm : n ≤ maxLen) (hu : Ts w w.heap.size a us) (hsz : ∀ s ∈ us, s.size ≤ maxLen) (R : ByteArray) (hR : R.size ≤ maxLen) (hmx : Mx w) : Calls Tryd.prog 7 #[.slice a n c, .string R] w fun e w' => e = .returned (.bool true) ∧ Below w.heap.size w w' := by
  have hfx := fixed13 w hmx
  have HU := Lib.hid (And.intro hu (And.intro hn (And.intro hsz hmx)))
  have hnm2 : n ≤ 9223372036854775807 := by unfold maxLen at hnm; omega
  have hR2 : R.size ≤ 9223372036854775807 := by unfold maxLen at hR; omega
  clear hu hn hmx hnm hR hsz
  go_enter Tryd.func7, Tryd.ntmps7
  go_wp2_with fail
  refine hfx.mono ?_
  rintro e w1 ⟨rfl, hb1⟩
  have H1 := Lib.hid hb1
  clear hfx hb1
  go_wp2_with fail
  go_loopw [5, 6, 16] (fun sv nv iv wr => ∃ (S : ByteArray) (sl i : Nat), sv = .string S ∧ nv = .int .i64 (sl : Nat) ∧ iv = .int .i64 (i : Nat) ∧ i ≤ n ∧ i ≤ 200 ∧ sl ≤ 2 * i ∧ S.size ≤ 1 + 68 * i ∧ Hid (tl S = 40 :: ((us.take i).map tl).flatten ∧ sl = slS ((us.take i).map tl) ∧ (∀ p ∈ us.take i, descB (tl p) = true) ∧ Below w.heap.size w wr)) (fun _ _ iv _ => n - (RowKit.intOf iv).toNat)
  case atStart => exact ⟨⟨#[40]⟩, 0, 0, rfl, rfl, rfl, Nat.zero_le _, by decide, by decide, by decide, Lib.hid ⟨rfl, rfl, fun p hp => (by cases hp), H1.out⟩⟩
  case round =>
    obtain ⟨S, sl, i, rfl, rfl, rfl, hi, hi2, hsl, hSs, HI⟩ := hrel
    by_cases hlt : i < n
    · have hlt' : i < us.length := by rw [HU.out.2.1]; exact hlt
      obtain ⟨b, off, rfl, hbl, hcell⟩ := (HU.out.1.below HI.out.2.2.2) (by omega)
      have hc1 := hcell i hlt'
      obtain ⟨p, hp⟩ : ∃ p, us.getD i ByteArray.empty = p := ⟨_, rfl⟩
      rw [hp] at hc1
      have hget : us[i]? = some p := by rw [← hp, List.getD_eq_getElem?_getD, List.getElem?_eq_getElem hlt']; rfl
      have hpm : p ∈ us := List.mem_of_getElem? hget
      have hps : p.size ≤ 9223372036854775807 := by have := HU.out.2.2.1 p hpm; unfold maxLen at this; omega
      have hds := desc_big p hps wr (HU.out.2.2.2.below HI.out.2.2.2)
      have htake : us.take (i + 1) = us.take i ++ [p] := by rw [List.take_add_one, hget]; rfl
      have HT := Lib.hid htake
      clear hcell hp hget hpm htake
      cases hD : descB p.data.toList with
      | false =>
        rw [hD] at hds
        clear hD
        go_wp2_with fail
        refine hds.mono ?_
        rintro e w3 ⟨rfl, hb3⟩
        have H3 := Lib.hid (below_next HI.out.2.2.2 (Nat.le_refl _) hb3)
        clear hds hb3
        go_wp2_with fail
        go_ret
        exact ⟨rfl, H3.out⟩
      | true =>
        rw [hD] at hds
        have h68 : p.size ≤ 68 := by have := desc_short hD; rw [← Lib.size_eq] at this; exact this
        have HD := Lib.hid hD
        clear hD
        by_cases h200 : 200 ≤ i
        · have t1 : decide ((i : Int) ≥ 200) = true := by simp; omega
          go_wp2_with fail
          refine hds.mono ?_
          rintro e w3 ⟨rfl, hb3⟩
          have H3 := Lib.hid (below_next HI.out.2.2.2 (Nat.le_refl _) hb3)
          clear hds hb3
          go_wp2_with fail
          go_ret
          exact ⟨rfl, H3.out⟩
        · have t1 : decide ((i : Int) ≥ 200) = false := by simp; omega
          have hso := slots_is p
          have hs2 := slots_le p.data.toList
          obtain ⟨j, hj⟩ : ∃ j, slotsN p.data.toList = j := ⟨_, rfl⟩
          rw [hj] at hso hs2
          obtain ⟨n2, hn2⟩ : ∃ n2, sl + j = n2 := ⟨_, rfl⟩
          have a2 : IntKind.i64.wrap ((sl : Int) + (j : Int)) = (n2 : Int) := by rw [IntWalk.i64_in _ (by omega)]; omega
          have hSp : (S ++ p).size = S.size + p.size := ByteArray.size_append
          have hnew : tl (S ++ p) = 40 :: ((us.take (i + 1)).map tl).flatten ∧ n2 = slS ((us.take (i + 1)).map tl) ∧ (∀ q ∈ us.take (i + 1), descB (tl q) = true) := by
            rw [HT.out]
            refine ⟨?_, ?_, fun q hq => ?_⟩
            · rw [tl_app, HI.out.1]; simp
            · rw [List.map_append, slS_app, ← HI.out.2.1]
              show n2 = sl + slS [tl p]
              rw [slS_one, show slotsN (tl p) = j from hj, hn2]
            · rcases List.mem_append.1 hq with hq | hq
              · exact HI.out.2.2.1 q hq
              · rw [List.mem_singleton.1 hq]; exact HD.out
          have HN := Lib.hid hnew
          have hb5 : n2 ≤ 2 * (i + 1) := by omega
          have hb6 : (S ++ p).size ≤ 1 + 68 * (i + 1) := by omega
          clear hnew hj hn2 hSp hs2
          go_wp2_with fail
          refine hds.mono ?_
          rintro e w3 ⟨rfl, hb3⟩
          have H3 := Lib.hid (below_next HI.out.2.2.2 (Nat.le_refl _) hb3)
          clear hds hb3
          go_wp2_with fail
          refine (hso _).mono ?_
          rintro e w4 ⟨rfl, rfl⟩
          clear hso
          go_wp2_with fail
          go_roundw
          case rel => exact ⟨S ++ p, n2, i + 1, rfl, rfl, by go_num, by omega, by omega, hb5, hb6, Lib.hid ⟨HN.out.1, HN.out.2.1, HN.out.2.2, H3.out⟩⟩
          case measure => simp [RowKit.intOf]; omega
    · obtain rfl : n = i := by omega
      have hall : us.take n = us := List.take_of_length_le (by rw [HU.out.2.1]; exact Nat.le_refl _)
      rw [hall] at HI
      have htl : R.toList = tl R := Lib.toList_data R
      have hds := desc_big R hR2 wr (HU.out.2.2.2.below HI.out.2.2.2)
      have hX : tl (S ++ ⟨#[41]⟩ ++ R) = 40 :: ((us.map tl).flatten ++ 41 :: tl R) := by
        rw [tl_app, tl_app, HI.out.1]
        show (40 :: (us.map tl).flatten ++ [41]) ++ tl R = _
        simp
      have hpar := parT_flat (us.map tl) (tl R) (fun q hq => by
        obtain ⟨p, hp, rfl⟩ := List.mem_map.1 hq
        exact HI.out.2.2.1 p hp)
      have hXs : (S ++ ⟨#[41]⟩ ++ R).size = S.size + 1 + R.size := by rw [ByteArray.size_append, ByteArray.size_append]; rfl
      have hfin : R.size ≤ 68 → (tl R = [86] ∨ descB (tl R) = true) → ∀ wk, Below w.heap.size w wk → (64 ≤ sl → Calls Tryd.prog 17 #[.string (S ++ ⟨#[41]⟩ ++ R)] wk fun e w' => e = .returned (.tuple #[.slice none 0 0, .string ⟨#[]⟩, .int .i64 24]) ∧ Hid (Below w.heap.size w w')) ∧ (¬64 ≤ sl → Calls Tryd.prog 17 #[.string (S ++ ⟨#[41]⟩ ++ R)] wk fun e w' => ∃ a2 c2, e = .returned (.tuple #[.slice a2 n c2, .string R, .int .i64 0]) ∧ Hid (Ts w' w'.heap.size a2 us ∧ Below w.heap.size w w')) := fun h68 hok wk hbk => by
        have hme := method_is (S ++ ⟨#[41]⟩ ++ R) (by rw [hXs]; omega) wk (HU.out.2.2.2.below hbk)
        have hsl2 := HI.out.2.1
        refine ⟨fun h64 => hme.mono fun e w' h => ?_, fun h64 => hme.mono fun e w' h => ?_⟩
        · have hno : metS (tl (S ++ ⟨#[41]⟩ ++ R)) = none := by rw [hX]; exact metS_not hpar (.inl (by simp only; omega))
          obtain ⟨h1, h2⟩ := met_none h hno
          exact ⟨h1, Lib.hid (below_next hbk (Nat.le_refl _) h2)⟩
        · have hyes : metS (tl (S ++ ⟨#[41]⟩ ++ R)) = some (us.map tl, tl R) := by
            rw [hX]
            refine metS_some hpar ?_
            rintro (h1 | ⟨h1, h2⟩)
            · simp only at h1; omega
            · simp only at h1 h2
              rcases hok with h3 | h3
              · exact h1 h3
              · rw [h3] at h2; cases h2
          obtain ⟨L, Q, a2, c2, hL, hQ, h1, h2, _, h3⟩ := met_some h hyes
          obtain rfl := map_tl hL
          obtain rfl := tl_inj hQ
          rw [HU.out.2.1] at h1
          exact ⟨a2, c2, h1, Lib.hid ⟨Ts.of_own h2, below_next hbk (Nat.le_refl _) h3⟩⟩
      have HF := Lib.hid hfin
      have hS1 : (S ++ ⟨#[41]⟩).size = S.size + 1 := by rw [ByteArray.size_append]; rfl
      have hS2 : (S ++ ⟨#[41]⟩).size ≤ 13700 := by omega
      have hR1 : tl R = [86] → R.size ≤ 68 := fun h => by have := tl_len R; rw [h] at this; simp at this; omega
      have hR3 : descB (tl R) = true → R.size ≤ 68 := fun h => by have := desc_short h; rw [tl_len] at this; exact this
      clear hX hpar hXs hfin hall
      generalize hXe : S ++ ⟨#[41]⟩ ++ R = X at *
      have hcase : (tl R = [86]) ∨ (tl R ≠ [86] ∧ descB (tl R) = true) ∨ (tl R ≠ [86] ∧ descB (tl R) = false) := by
        by_cases h : tl R = [86]
        · exact .inl h
        · cases hD : descB (tl R) with
          | true => exact .inr (.inl ⟨h, rfl⟩)
          | false => exact .inr (.inr ⟨h, rfl⟩)
      rcases hcase with hV | ⟨hV, hD⟩ | ⟨hV, hD⟩
      · have t1 : (R.toList == [86]) = true := by rw [htl, hV]; rfl
        have t1' : (R.toList != [86]) = false := by rw [htl, hV]; rfl
        have hme := HF.out (hR1 hV) (.inl hV) wr HI.out.2.2.2
        have h68 := hR1 hV
        clear hV hds hR1 hR3 htl
        by_cases h64 : 64 ≤ sl
        · have t2 : decide ((sl : Int) ≥ 64) = true := by simp; omega
          have hm := hme.1 h64
          clear hme
          go_wp2_with fail
          refine hm.mono ?_
          rintro e w3 ⟨rfl, H3⟩
          clear hm
          go_wp2_with fail
          go_ret
          exact ⟨rfl, H3.out⟩
        · have t2 : decide ((sl : Int) ≥ 64) = false := by simp; omega
          have hm := hme.2 h64
          clear hme
          go_wp2_with fail
          refine hm.mono ?_
          rintro e w3 ⟨a2, c2, rfl, H3⟩
          have hsm := sameTexts (w := w3) (n := n) (n' := n) (c := c2) (c' := c) HU.out.2.1 HU.out.2.1 (by omega) (by omega) H3.out.1 (HU.out.1.below H3.out.2)
          rw [decide_eq_true rfl] at hsm
          have t3 : (R.toList == R.toList) = true := by simp
          clear hm
          go_wp2_with fail
          refine hsm.mono ?_
          rintro e w4 ⟨rfl, d, rfl⟩
          clear hsm
          go_wp2_with fail
          go_ret
          exact ⟨rfl, low_drewN H3.out.2 _⟩
      · have t1 : (R.toList == [86]) = false := by rw [htl, beq_eq_false_iff_ne]; exact hV
        have t1' : (R.toList != [86]) = true := by rw [htl]; simpa using hV
        rw [show descB R.data.toList = true from hD] at hds
        have hme := fun wk hb => HF.out (hR3 hD) (.inr hD) wk hb
        have h68 := hR3 hD
        clear hV hR1 hR3 htl hD
        by_cases h64 : 64 ≤ sl
        · have t2 : decide ((sl : Int) ≥ 64) = true := by simp; omega
          go_wp2_with fail
          refine hds.mono ?_
          rintro e w2 ⟨rfl, hb2⟩
          have hw2 := below_next HI.out.2.2.2 (Nat.le_refl _) hb2
          have hm := (hme w2 hw2).1 h64
          clear hme hds hb2 hw2
          go_wp2_with fail
          refine hm.mono ?_
          rintro e w3 ⟨rfl, H3⟩
          clear hm
          go_wp2_with fail
          go_ret
          exact ⟨rfl, H3.out⟩
        · have t2 : decide ((sl : Int) ≥ 64) = false := by simp; omega
          go_wp2_with fail
          refine hds.mono ?_
          rintro e w2 ⟨rfl, hb2⟩
          have hw2 := below_next HI.out.2.2.2 (Nat.le_refl _) hb2
          have hm := (hme w2 hw2).2 h64
          clear hme hds hb2 hw2
          go_wp2_with fail
          refine hm.mono ?_
          rintro e w3 ⟨a2, c2, rfl, H3⟩
          have hsm := sameTexts (w := w3) (n := n) (n' := n) (c := c2) (c' := c) HU.out.2.1 HU.out.2.1 (by omega) (by omega) H3.out.1 (HU.out.1.below H3.out.2)
          rw [decide_eq_true rfl] at hsm
          have t3 : (R.toList == R.toList) = true := by simp
          clear hm
          go_wp2_with fail
          refine hsm.mono ?_
          rintro e w4 ⟨rfl, d, rfl⟩
          clear hsm
          go_wp2_with fail
          go_ret
          exact ⟨rfl, low_drewN H3.out.2 _⟩
      · have t1 : (R.toList == [86]) = false := by rw [htl, beq_eq_false_iff_ne]; exact hV
        have t1' : (R.toList != [86]) = true := by rw [htl]; simpa using hV
        rw [show descB R.data.toList = false from hD] at hds
        clear hV hR1 hR3 htl hD
        go_wp2_with fail
        refine hds.mono ?_
        rintro e w2 ⟨rfl, hb2⟩
        have H2 := Lib.hid (below_next HI.out.2.2.2 (Nat.le_refl _) hb2)
        clear hds hb2
        go_wp2_with fail
        go_ret
        exact ⟨rfl, H2.out⟩
end Go.Proofs.YtbeekjfjfcaobaaDoor
