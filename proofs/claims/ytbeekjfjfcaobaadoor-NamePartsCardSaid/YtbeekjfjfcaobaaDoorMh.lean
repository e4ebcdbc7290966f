/- Descriptors of methods: contract of package name's Method. Conditions: the text is no longer than 20000 bytes; the variable internal/bytealg.MaxLen has a value. -/
import Derived.Test.YtbeekjfjfcaobaaDoorMg
set_option linter.unusedVariables false
set_option maxRecDepth 100000
namespace Go.Proofs.YtbeekjfjfcaobaaDoor
open Go.RowKit Go.Lib Go.Maps

def tl (b : ByteArray) : List UInt8 := b.data.toList
/-- what Method answers -/
def MetP (l : List UInt8) (w : World) (e : Ending) (w' : World) : Prop :=
  (metS l = none ∧ e = .returned (.tuple #[.slice none 0 0, .string ⟨#[]⟩, .int .i64 24]) ∧ Below w.heap.size w w') ∨
  (∃ (L : List ByteArray) (Q : ByteArray) (V : Value), metS l = some (L.map tl, tl Q) ∧ e = .returned (.tuple #[V, .string Q, .int .i64 0]) ∧ w'.ownsRow w.heap.size 9 1 V L.length (L.map Value.string) ∧ L.length ≤ 20000 ∧ Below w.heap.size w w')
def strOf : Value → Nat
  | .string R => R.size
  | _ => 0
theorem met_fin {l : List UInt8} {L : List ByteArray} {r : List UInt8} {Q : ByteArray} (h : Got l (L.map tl) (41 :: r)) (hQ : tl Q = r) : (¬badR (L.map tl, tl Q) → metS (40 :: l) = some (L.map tl, tl Q)) ∧ (badR (L.map tl, tl Q) → metS (40 :: l) = none) := by
  have hs := h.stop
  rw [← hQ] at hs
  exact ⟨fun hb => metS_some hs hb, fun hb => metS_not hs hb⟩
theorem tl_drop (R : ByteArray) (d : Nat) (h : d ≤ R.size) : tl (R.extract d R.size) = (tl R).drop d := from_list R d h
theorem tl_take (R : ByteArray) (d : Nat) : tl (R.extract 0 d) = (tl R).take d := by
  have := mid_list R 0 d
  exact this
theorem tl_len (R : ByteArray) : (tl R).length = R.size := (Lib.size_eq R).symm
theorem tl_cons (R : ByteArray) (h : 0 < R.size) : ∃ c, tl R = c :: tl (R.extract 1 R.size) ∧ R[0]'h = c := by
  obtain ⟨hg, hd⟩ := get_drop R h (x := R[0]'h) rfl
  refine ⟨R[0]'h, ?_, rfl⟩
  rw [tl_drop R 1 (by omega)]
  rw [List.drop_zero] at hd
  exact hd
set_option maxHeartbeats 8000000 in
theorem method_is (s : ByteArray) (hs : s.size ≤ 20000) (w : World) (hmx : Mx w) : Calls Tryd.prog 17 #[.string s] w (MetP (tl s) w) := by
  by_cases hp : Lib.hasPrefix s.data.toList [40] = true
  · have hpos : 0 < s.size := by
      rcases Nat.eq_zero_or_pos s.size with h | h
      · have : s.data.toList = [] := List.eq_nil_of_length_eq_zero (by have := Lib.size_eq s; omega)
        rw [this] at hp; cases hp
      · exact h
    obtain ⟨c, hc, _⟩ := tl_cons s hpos
    have h40 : c = 40 := by
      have h1 := (pre_one c (tl (s.extract 1 s.size))).1
      rw [← hc] at h1
      rw [show Lib.hasPrefix (tl s) [40] = true from hp] at h1
      simpa using h1.symm
    subst h40
    have hcp := cutPrefix s w true hs hp (fun _ => hpos)
    rw [if_pos rfl] at hcp
    have hR0 : (s.extract 1 s.size).size + 1 = s.size := by rw [ByteArray.size_extract]; omega
    rw [hc]
    have HM := Lib.hid hmx
    clear hp hc hmx
    generalize s.extract 1 s.size = R0 at *
    go_enter Tryd.func17, Tryd.ntmps17
    go_wp2_with fail
    refine hcp.mono ?_
    rintro e w1 ⟨rfl, rfl⟩
    clear hcp
    go_wp2_with fail
    go_loopw [5, 7, 8] (fun rv pv sv wr => ∃ (R : ByteArray) (L : List ByteArray) (n : Nat), rv = .string R ∧ sv = .int .i64 (n : Nat) ∧ R.size + L.length ≤ R0.size ∧ n ≤ 63 ∧ Hid (n = slS (L.map tl) ∧ Got (tl R0) (L.map tl) (tl R) ∧ wr.ownsRow w1.heap.size 9 1 pv L.length (L.map Value.string) ∧ Below w1.heap.size w1 wr)) (fun rv _ _ _ => strOf rv)
    case atStart => exact ⟨R0, [], 0, rfl, rfl, by simp, by decide, Lib.hid ⟨rfl, Got.start _, World.ownsRow_nil _ _ _ _, Below.refl _ _⟩⟩
    case round =>
      obtain ⟨R, L, n, rfl, rfl, hsz, hn, HI⟩ := hrel
      have hpx := Tryd.strings_HasPrefix R ⟨#[41]⟩
      have hdl := fun wk hb => descLen_is R (by omega) wk (HM.out.below (show Below w1.heap.size w1 wk from hb))
      rcases Nat.eq_zero_or_pos R.size with h0 | hpos
      · have hnil : R.data.toList = [] := List.eq_nil_of_length_eq_zero (by have := Lib.size_eq R; omega)
        rw [hnil] at hpx
        have hpx2 : ∀ wk, Calls Tryd.prog 32 #[.string R, .string ⟨#[41]⟩] wk fun e w' => e = .returned (.bool false) ∧ w' = wk := hpx
        rw [hnil] at hdl
        have hd0 := hdl wr HI.out.2.2.2
        rw [show descN [] = 0 from rfl] at hd0
        have hmet : metS (40 :: tl R0) = none := metS_none (HI.out.2.1.fails (by rw [show tl R = [] from hnil]; exact parT_nil))
        have hsl := slots_is ByteArray.empty
        rw [show ByteArray.empty.data.toList = [] from rfl, slots_nil] at hsl
        have HX := Lib.hid hmet
        have hz : IntKind.i64.wrap ((n : Int) + (0 : Nat)) = (n : Int) := by rw [IntWalk.i64_in _ (by omega)]; omega
        clear hpx hdl hnil hmet
        go_wp2_with fail
        refine (hpx2 _).mono ?_
        rintro e w2 ⟨rfl, rfl⟩
        clear hpx2
        go_wp2_with fail
        refine hd0.mono ?_
        rintro e w3 ⟨rfl, hb3⟩
        have H3 := Lib.hid (below_next HI.out.2.2.2 (Nat.le_refl _) hb3)
        clear hd0 hb3
        go_wp2_with fail
        refine (hsl _).mono ?_
        rintro e w4 ⟨rfl, rfl⟩
        clear hsl
        go_wp2_with fail
        go_ret3
        exact .inl ⟨HX.out, rfl, H3.out⟩
      · obtain ⟨c, hc, _⟩ := tl_cons R hpos
        have hpx2 : ∀ wk, Calls Tryd.prog 32 #[.string R, .string ⟨#[41]⟩] wk fun e w' => e = .returned (.bool (c == 41)) ∧ w' = wk := fun wk => by
          have := hpx wk
          rw [show R.data.toList = c :: tl (R.extract 1 R.size) from hc, show (⟨#[41]⟩ : ByteArray).data.toList = [41] from rfl, (pre_one _ _).2] at this
          exact this
        clear hpx
        by_cases h41 : c = 41
        · subst h41
          have hpx3 : ∀ wk, Calls Tryd.prog 32 #[.string R, .string ⟨#[41]⟩] wk fun e w' => e = .returned (.bool true) ∧ w' = wk := hpx2
          obtain ⟨hgo, hno⟩ := met_fin (Q := R.extract 1 R.size) (by rw [← hc]; exact HI.out.2.1) rfl
          have hQs : (R.extract 1 R.size).size ≤ 20000 := by rw [ByteArray.size_extract]; omega
          have hds := fun wk hb => desc_is (R.extract 1 R.size) hQs wk (HM.out.below (show Below w1.heap.size w1 wk from hb))
          have hds1 := hds wr HI.out.2.2.2
          have htl : (R.extract 1 R.size).toList = tl (R.extract 1 R.size) := Lib.toList_data _
          have hbr : badR (L.map tl, tl (R.extract 1 R.size)) ↔ (tl (R.extract 1 R.size) ≠ [86] ∧ descB (tl (R.extract 1 R.size)) = false) := by
            unfold badR
            have := HI.out.1
            constructor
            · rintro (h | h)
              · simp only at h; omega
              · exact h
            · exact .inr
          rw [hbr] at hgo hno
          clear hpx2 hds hdl hbr
          by_cases hV : tl (R.extract 1 R.size) = [86]
          · have t1 : ((R.extract 1 R.size).toList != [86]) = false := by rw [htl, hV]; rfl
            have t1' : ((R.extract 1 R.size).toList == [86]) = true := by rw [htl, hV]; rfl
            have HX := Lib.hid (hgo (fun h => h.1 hV))
            clear hds1 hgo hno hV htl hc
            go_wp2_with fail
            refine (hpx3 _).mono ?_
            rintro e w2 ⟨rfl, rfl⟩
            clear hpx3
            go_wp2_with fail
            go_ret3
            exact .inr ⟨L, _, _, HX.out, rfl, HI.out.2.2.1, by omega, HI.out.2.2.2⟩
          · have t1 : ((R.extract 1 R.size).toList != [86]) = true := by rw [htl]; simpa using hV
            have t1' : ((R.extract 1 R.size).toList == [86]) = false := by rw [htl, beq_eq_false_iff_ne]; exact hV
            cases hD : descB (tl (R.extract 1 R.size)) with
            | true =>
              have HX := Lib.hid (hgo (fun h => by rw [hD] at h; exact absurd h.2 (by decide)))
              rw [show descB (R.extract 1 R.size).data.toList = true from hD] at hds1
              clear hgo hno hV htl hD hc
              go_wp2_with fail
              refine (hpx3 _).mono ?_
              rintro e w2 ⟨rfl, rfl⟩
              clear hpx3
              go_wp2_with fail
              refine hds1.mono ?_
              rintro e w3 ⟨rfl, hb3⟩
              have H3 := Lib.hid (And.intro (own_below HI.out.2.2.1 hb3) (below_next HI.out.2.2.2 (Nat.le_refl _) hb3))
              clear hds1 hb3
              go_wp2_with fail
              go_ret3
              exact .inr ⟨L, _, _, HX.out, rfl, H3.out.1, by omega, H3.out.2⟩
            | false =>
              have HX := Lib.hid (hno ⟨hV, hD⟩)
              rw [show descB (R.extract 1 R.size).data.toList = false from hD] at hds1
              clear hgo hno hV htl hD hc
              go_wp2_with fail
              refine (hpx3 _).mono ?_
              rintro e w2 ⟨rfl, rfl⟩
              clear hpx3
              go_wp2_with fail
              refine hds1.mono ?_
              rintro e w3 ⟨rfl, hb3⟩
              have H3 := Lib.hid (below_next HI.out.2.2.2 (Nat.le_refl _) hb3)
              clear hds1 hb3
              go_wp2_with fail
              go_ret3
              exact .inl ⟨HX.out, rfl, H3.out⟩
        · have hpx3 : ∀ wk, Calls Tryd.prog 32 #[.string R, .string ⟨#[41]⟩] wk fun e w' => e = .returned (.bool false) ∧ w' = wk := fun wk => by
            have := hpx2 wk
            rw [show (c == 41) = false by simpa using h41] at this; exact this
          clear hpx2
          have hd0 := hdl wr HI.out.2.2.2
          have hle := descN_le R.data.toList
          rw [← Lib.size_eq] at hle
          have hbad := fun h => HI.out.2.1.fails (by rw [hc]; exact parT_bad (r := tl (R.extract 1 R.size)) h41 h)
          have hgot := fun h => Got.step (r := tl (R.extract 1 R.size)) (by rw [← hc]; exact HI.out.2.1) h41 h
          rw [← hc] at hbad hgot
          obtain ⟨d, hd⟩ : ∃ d, descN (tl R) = d := ⟨_, rfl⟩
          rw [show descN R.data.toList = d from hd] at hd0 hle
          rw [hd] at hbad hgot
          have hsl := slots_is (R.extract 0 d)
          rw [show (R.extract 0 d).data.toList = (tl R).take d from tl_take R d] at hsl
          have hsl2 := slots_le ((tl R).take d)
          by_cases hz0 : d = 0
          · subst hz0
            have HX := Lib.hid (metS_none (hbad rfl))
            have hsl := slots_is ByteArray.empty
            rw [show ByteArray.empty.data.toList = [] from rfl, slots_nil] at hsl
            have hz : IntKind.i64.wrap ((n : Int) + (0 : Nat)) = (n : Int) := by rw [IntWalk.i64_in _ (by omega)]; omega
            clear hdl hbad hgot hd hc h41 hsl2
            go_wp2_with fail
            refine (hpx3 _).mono ?_
            rintro e w2 ⟨rfl, rfl⟩
            clear hpx3
            go_wp2_with fail
            refine hd0.mono ?_
            rintro e w3 ⟨rfl, hb3⟩
            have H3 := Lib.hid (below_next HI.out.2.2.2 (Nat.le_refl _) hb3)
            clear hd0 hb3
            go_wp2_with fail
            refine (hsl _).mono ?_
            rintro e w4 ⟨rfl, rfl⟩
            clear hsl
            go_wp2_with fail
            go_ret3
            exact .inl ⟨HX.out, rfl, H3.out⟩
          · have hgot := hgot hz0
            have hP : (L ++ [R.extract 0 d]).map tl = L.map tl ++ [(tl R).take d] := by rw [List.map_append, List.map_cons, List.map_nil, tl_take]
            have hRd : tl (R.extract d R.size) = (tl R).drop d := tl_drop R d hle
            rw [← hP, ← hRd] at hgot
            have hsum : slS ((L ++ [R.extract 0 d]).map tl) = n + slotsN ((tl R).take d) := by rw [hP, slS_app, slS_one, HI.out.1]
            have hzs : (R.extract d R.size).size = R.size - d := by rw [ByteArray.size_extract]; omega
            obtain ⟨k, hk⟩ : ∃ k, slotsN ((tl R).take d) = k := ⟨_, rfl⟩
            rw [hk] at hsl hsum hsl2
            obtain ⟨n2, hn2⟩ : ∃ n2, n + k = n2 := ⟨_, rfl⟩
            have hz : IntKind.i64.wrap ((n : Int) + (k : Int)) = (n2 : Int) := by rw [IntWalk.i64_in _ (by omega)]; omega
            rw [hn2] at hsum
            have hd1 : ((d : Int) == 0) = false := by rw [beq_eq_false_iff_ne]; omega
            by_cases hbig : 63 < n2
            · have t2 : decide ((n2 : Int) > 63) = true := by simp; omega
              have HX := Lib.hid (show metS (40 :: tl R0) = none from hgot.many (by omega))
              clear hdl hbad hgot hd hc h41 hsl2 hP hRd hsum hk hn2
              go_wp2_with fail
              refine (hpx3 _).mono ?_
              rintro e w2 ⟨rfl, rfl⟩
              clear hpx3
              go_wp2_with fail
              refine hd0.mono ?_
              rintro e w3 ⟨rfl, hb3⟩
              have H3 := Lib.hid (below_next HI.out.2.2.2 (Nat.le_refl _) hb3)
              clear hd0 hb3
              go_wp2_with fail
              refine (hsl _).mono ?_
              rintro e w4 ⟨rfl, rfl⟩
              clear hsl
              go_wp2_with fail
              go_ret3
              exact .inl ⟨HX.out, rfl, H3.out⟩
            · have t2 : decide ((n2 : Int) > 63) = false := by simp; omega
              have HX := Lib.hid (And.intro hsum.symm hgot)
              have hnew : (R.extract d R.size).size + (L ++ [R.extract 0 d]).length ≤ R0.size := by rw [hzs, List.length_append, List.length_singleton]; omega
              clear hdl hbad hgot hd hc h41 hsl2 hP hRd hsum hk hn2
              go_wp2_with fail
              refine (hpx3 _).mono ?_
              rintro e w2 ⟨rfl, rfl⟩
              clear hpx3
              go_wp2_with fail
              refine hd0.mono ?_
              rintro e w3 ⟨rfl, hb3⟩
              have hw3 := below_next HI.out.2.2.2 (Nat.le_refl _) hb3
              have H3 := Lib.hid (And.intro (own_below HI.out.2.2.1 hb3) hw3)
              clear hd0 hb3 hw3
              go_wp2_with fail
              refine (hsl _).mono ?_
              rintro e w4 ⟨rfl, rfl⟩
              clear hsl
              go_wp2_with (at_builtin; refine txt_app rfl _ _ rfl w1.heap.size _ L.length (L.map Value.string) rfl (H3.out.1.alloc _) w4.heap.size (R.extract 0 d) rfl (heap_alloc_new _ _) (by omega) (Nat.le_trans H3.out.2.size (by simp)) ?_; intro v' w5 ho5 hg5 _; have HG := Lib.hid (And.intro ho5 (grown_below H3.out.2 H3.out.2.size H3.out.1 hg5)); clear ho5 hg5)
              go_roundw
              case rel => exact ⟨R.extract d R.size, L ++ [R.extract 0 d], n2, rfl, rfl, hnew, by omega, Lib.hid ⟨HX.out.1, HX.out.2, by have := HG.out.1; simpa using this, HG.out.2⟩⟩
              case measure => simp [strOf]; omega
  · have hp2 : Lib.hasPrefix s.data.toList [40] = false := by simpa using hp
    have hcp := cutPrefix s w false hs hp2 (fun h => by cases h)
    rw [if_neg (by decide)] at hcp
    have hmet : metS (tl s) = none := metS_bad (fun r e => by
      have h1 := (pre_one 40 r).1
      rw [← e] at h1
      rw [show Lib.hasPrefix (tl s) [40] = false from hp2] at h1
      exact absurd h1 (by decide))
    have HX := Lib.hid hmet
    clear hp hp2 hmet hmx
    go_enter Tryd.func17, Tryd.ntmps17
    go_wp2_with fail
    refine hcp.mono ?_
    rintro e w1 ⟨rfl, rfl⟩
    clear hcp
    go_wp2_with fail
    go_ret3
    exact .inl ⟨HX.out, rfl, Below.refl _ _⟩
end Go.Proofs.YtbeekjfjfcaobaaDoor
