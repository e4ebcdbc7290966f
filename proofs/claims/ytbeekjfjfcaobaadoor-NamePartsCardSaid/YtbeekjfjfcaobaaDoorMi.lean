/- Descriptors of methods: contract of the document's own Method. Conditions: the text is no longer than 20000 bytes. -/
import Derived.Test.YtbeekjfjfcaobaaDoorMh
set_option linter.unusedVariables false
set_option maxRecDepth 100000
namespace Go.Proofs.YtbeekjfjfcaobaaDoor
open Go.RowKit Go.Lib Go.Maps

theorem tl_mid (R : ByteArray) (i j : Nat) : tl (R.extract i j) = ((tl R).drop i).take (j - i) := mid_list R i j
set_option maxHeartbeats 8000000 in
theorem refMethod_is (s : ByteArray) (hs : s.size ≤ 20000) (w : World) : Calls Tryd.prog 18 #[.string s] w (MetP (tl s) w) := by
  have hl := tl_len s
  by_cases h3 : s.size < 3
  · have t1 : decide ((s.size : Int) < 3) = true := by simp; omega
    have HX := Lib.hid (metS_short (l := tl s) (by omega))
    clear hl
    go_enter Tryd.func18, Tryd.ntmps18
    go_wp2_with fail
    go_ret3
    exact .inl ⟨HX.out, rfl, Below.refl _ _⟩
  · have t1 : decide ((s.size : Int) < 3) = false := by simp; omega
    have hpos : 0 < s.size := by omega
    obtain ⟨c, hc, hc0⟩ := tl_cons s hpos
    by_cases h40 : c = 40
    · subst h40
      have hR0 : (tl s).drop 1 = tl (s.extract 1 s.size) := (tl_drop s 1 (by omega)).symm
      rw [hc]
      have HL := Lib.hid (And.intro hl hR0)
      clear hl hc hR0
      generalize tl (s.extract 1 s.size) = R0 at *
      go_enter Tryd.func18, Tryd.ntmps18
      go_wp2_with fail
      go_loopw [5, 6, 7] (fun pv av sv wr => ∃ (L : List ByteArray) (k n : Nat), av = .int .i64 (k : Nat) ∧ sv = .int .i64 (n : Nat) ∧ 1 ≤ k ∧ k ≤ s.size ∧ L.length ≤ k ∧ n ≤ 2 * k ∧ Hid (n = slS (L.map tl) ∧ Got R0 (L.map tl) ((tl s).drop k) ∧ wr.ownsRow w.heap.size 9 1 pv L.length (L.map Value.string) ∧ Below w.heap.size w wr)) (fun _ av _ _ => s.size - (RowKit.intOf av).toNat)
      case atStart => exact ⟨[], 1, 0, rfl, rfl, Nat.le_refl _, by omega, by simp, by decide, Lib.hid ⟨rfl, by rw [HL.out.2]; exact Got.start _, World.ownsRow_nil _ _ _ _, Below.refl _ _⟩⟩
      case round =>
        obtain ⟨L, k, n, rfl, rfl, hk1, hk2, hLk, hn, HI⟩ := hrel
        by_cases hlt : k < s.size
        · obtain ⟨x, hx⟩ : ∃ x : UInt8, s[k]'hlt = x := ⟨_, rfl⟩
          obtain ⟨_, hdrop⟩ := get_drop s hlt hx
          have hdr : (tl s).drop k = x :: (tl s).drop (k + 1) := hdrop
          have hlt2 : (k : Int) < s.size := by omega
          have hlt3 : decide ((k : Int) ≥ s.size) = false := by simp; omega
          have hR : tl (s.extract k s.size) = (tl s).drop k := tl_drop s k hk2
          by_cases h41 : x = 41
          · subst h41
            have hQl : tl (s.extract (k + 1) s.size) = (tl s).drop (k + 1) := tl_drop s (k + 1) (by omega)
            obtain ⟨hgo, hno⟩ := met_fin (Q := s.extract (k + 1) s.size) (by rw [← hdr]; exact HI.out.2.1) hQl
            have hQs : (s.extract (k + 1) s.size).size ≤ 20000 := by rw [ByteArray.size_extract]; omega
            have hds := fun wk => refDesc_is (s.extract (k + 1) s.size) hQs wk
            have htl : (s.extract (k + 1) s.size).toList = tl (s.extract (k + 1) s.size) := Lib.toList_data _
            have a1 : IntKind.i64.wrap ((k : Int) + 1) = ((k + 1 : Nat) : Int) := by rw [IntWalk.i64_in _ (by omega)]; omega
            by_cases hbig : 63 < n
            · have t2 : decide ((n : Int) > 63) = true := by simp; omega
              have HX := Lib.hid (hno (.inl (by rw [← HI.out.1]; exact hbig)))
              clear hgo hno hds htl hR hdr hdrop hQl
              go_wp2_with fail
              go_ret3
              exact .inl ⟨HX.out, rfl, HI.out.2.2.2⟩
            · have t2 : decide ((n : Int) > 63) = false := by simp; omega
              have hbr : badR (L.map tl, tl (s.extract (k + 1) s.size)) ↔ (tl (s.extract (k + 1) s.size) ≠ [86] ∧ descB (tl (s.extract (k + 1) s.size)) = false) := by
                unfold badR
                have := HI.out.1
                constructor
                · rintro (h | h)
                  · simp only at h; omega
                  · exact h
                · exact .inr
              rw [hbr] at hgo hno
              clear hbr
              by_cases hV : tl (s.extract (k + 1) s.size) = [86]
              · have t3 : ((s.extract (k + 1) s.size).toList == [86]) = true := by rw [htl, hV]; rfl
                have HX := Lib.hid (hgo (fun h => h.1 hV))
                clear hgo hno hds htl hR hdr hdrop hQl hV
                go_wp2_with fail
                go_quiet (fail)
                go_wp2_with fail
                go_ret3
                exact .inr ⟨L, _, _, HX.out, rfl, own_below HI.out.2.2.1 (low_drewN (Below.refl _ _) _), by omega, low_drewN HI.out.2.2.2 _⟩
              · have t3 : ((s.extract (k + 1) s.size).toList == [86]) = false := by rw [htl, beq_eq_false_iff_ne]; exact hV
                cases hD : descB (tl (s.extract (k + 1) s.size)) with
                | true =>
                  have HX := Lib.hid (hgo (fun h => by rw [hD] at h; exact absurd h.2 (by decide)))
                  have hds2 : ∀ wk, Calls Tryd.prog 14 #[.string (s.extract (k + 1) s.size)] wk fun e w' => e = .returned (.bool true) ∧ Below wk.heap.size wk w' := fun wk => by
                    have := hds wk
                    rw [show descB (s.extract (k + 1) s.size).data.toList = true from hD] at this; exact this
                  clear hgo hno hds htl hR hdr hdrop hQl hV hD
                  go_wp2_with fail
                  refine (hds2 _).mono ?_
                  rintro e w3 ⟨rfl, hb3⟩
                  have H3 := Lib.hid (And.intro (own_below HI.out.2.2.1 hb3) (below_next HI.out.2.2.2 (Nat.le_refl _) hb3))
                  clear hds2 hb3
                  go_wp2_with fail
                  go_quiet (fail)
                  go_wp2_with fail
                  go_ret3
                  exact .inr ⟨L, _, _, HX.out, rfl, own_below H3.out.1 (low_drewN (Below.refl _ _) _), by omega, low_drewN H3.out.2 _⟩
                | false =>
                  have HX := Lib.hid (hno ⟨hV, hD⟩)
                  have hds2 : ∀ wk, Calls Tryd.prog 14 #[.string (s.extract (k + 1) s.size)] wk fun e w' => e = .returned (.bool false) ∧ Below wk.heap.size wk w' := fun wk => by
                    have := hds wk
                    rw [show descB (s.extract (k + 1) s.size).data.toList = false from hD] at this; exact this
                  clear hgo hno hds htl hR hdr hdrop hQl hV hD
                  go_wp2_with fail
                  refine (hds2 _).mono ?_
                  rintro e w3 ⟨rfl, hb3⟩
                  have H3 := Lib.hid (below_next HI.out.2.2.2 (Nat.le_refl _) hb3)
                  clear hds2 hb3
                  go_wp2_with fail
                  go_ret3
                  exact .inl ⟨HX.out, rfl, H3.out⟩
          · have t3 : ((x.toNat : Int) == 41) = false := by
              rw [beq_eq_false_iff_ne]; intro h
              exact h41 (UInt8.toNat_inj.1 (by show x.toNat = 41; omega))
            have hfi := fun wk => refFirst_is (s.extract k s.size) (by rw [ByteArray.size_extract]; omega) wk
            have hle := descN_le (tl (s.extract k s.size))
            rw [tl_len, ByteArray.size_extract, show min s.size s.size - k = s.size - k by omega] at hle
            have hbad := fun h => HI.out.2.1.fails (by rw [hdr]; exact parT_bad (r := (tl s).drop (k + 1)) h41 h)
            have hgot := fun h => Got.step (r := (tl s).drop (k + 1)) (by rw [← hdr]; exact HI.out.2.1) h41 h
            rw [← hdr] at hbad hgot
            obtain ⟨d, hd⟩ : ∃ d, descN (tl (s.extract k s.size)) = d := ⟨_, rfl⟩
            rw [hd] at hle
            have hfi2 : ∀ wk, Calls Tryd.prog 30 #[.string (s.extract k s.size)] wk fun e w' => e = .returned (.int .i64 (d : Nat)) ∧ Below wk.heap.size wk w' := fun wk => by
              have := hfi wk
              rw [show descN (s.extract k s.size).data.toList = d from hd] at this; exact this
            rw [hR] at hd
            rw [hd] at hbad hgot
            by_cases hz0 : d = 0
            · subst hz0
              have HX := Lib.hid (metS_none (hbad rfl))
              clear hfi hbad hgot hd h41 hdr hdrop hR
              go_wp2_with fail
              refine (hfi2 _).mono ?_
              rintro e w3 ⟨rfl, hb3⟩
              have H3 := Lib.hid (below_next HI.out.2.2.2 (Nat.le_refl _) hb3)
              clear hfi2 hb3
              go_wp2_with fail
              go_ret3
              exact .inl ⟨HX.out, rfl, H3.out⟩
            · have hgot := hgot hz0
              obtain ⟨k2, hk2'⟩ : ∃ k2, k + d = k2 := ⟨_, rfl⟩
              have a1 : IntKind.i64.wrap ((k : Int) + (d : Int)) = (k2 : Int) := by rw [IntWalk.i64_in _ (by omega)]; omega
              have hm : tl (s.extract k k2) = ((tl s).drop k).take d := by rw [tl_mid, show k2 - k = d by omega]
              have hP : (L ++ [s.extract k k2]).map tl = L.map tl ++ [((tl s).drop k).take d] := by rw [List.map_append, List.map_cons, List.map_nil, hm]
              rw [← hP, List.drop_drop, hk2'] at hgot
              have hsl := slots_le (((tl s).drop k).take d)
              have hso := refSlots_is (s.extract k k2)
              rw [show (s.extract k k2).data.toList = ((tl s).drop k).take d from hm] at hso
              have hsum : slS ((L ++ [s.extract k k2]).map tl) = n + slotsN (((tl s).drop k).take d) := by rw [hP, slS_app, slS_one, HI.out.1]
              obtain ⟨j, hj⟩ : ∃ j, slotsN (((tl s).drop k).take d) = j := ⟨_, rfl⟩
              rw [hj] at hsl hso hsum
              obtain ⟨n2, hn2⟩ : ∃ n2, n + j = n2 := ⟨_, rfl⟩
              have a2 : IntKind.i64.wrap ((n : Int) + (j : Int)) = (n2 : Int) := by rw [IntWalk.i64_in _ (by omega)]; omega
              rw [hn2] at hsum
              have hd1 : ((d : Int) == 0) = false := by rw [beq_eq_false_iff_ne]; omega
              have HX := Lib.hid (And.intro hsum.symm hgot)
              have hb1 : k2 ≤ s.size := by omega
              have hb2 : k ≤ k2 := by omega
              have hb4 : n2 ≤ 2 * k2 := by omega
              have hb5 : k + 1 ≤ k2 := by omega
              clear hfi hbad hgot hd h41 hdr hdrop hR hle hm hP hsum hj hsl
              go_wp2_with fail
              refine (hfi2 _).mono ?_
              rintro e w3 ⟨rfl, hb3⟩
              have hw3 := below_next HI.out.2.2.2 (Nat.le_refl _) hb3
              have H3 := Lib.hid (And.intro (own_below HI.out.2.2.1 hb3) hw3)
              clear hfi2 hb3 hw3
              go_wp2_with (at_builtin; refine txt_app rfl _ _ rfl w.heap.size _ L.length (L.map Value.string) rfl (H3.out.1.alloc _) w3.heap.size (s.extract k k2) rfl (heap_alloc_new _ _) (by omega) (Nat.le_trans H3.out.2.size (by simp)) ?_; intro v' w5 ho5 hg5 _; have HG := Lib.hid (And.intro ho5 (grown_below H3.out.2 H3.out.2.size H3.out.1 hg5)); clear ho5 hg5)
              refine (hso _).mono ?_
              rintro e w6 ⟨rfl, rfl⟩
              clear hso
              go_wp2_with fail
              go_roundw
              case rel => exact ⟨L ++ [s.extract k k2], k2, n2, rfl, rfl, by omega, hb1, by simp; omega, hb4, Lib.hid ⟨HX.out.1, HX.out.2, by have := HG.out.1; simpa using this, HG.out.2⟩⟩
              case measure => simp [RowKit.intOf]; omega
        · obtain rfl : s.size = k := by omega
          have hnil : (tl s).drop s.size = [] := List.drop_eq_nil_of_le (by rw [HL.out.1]; exact Nat.le_refl _)
          have HX := Lib.hid (metS_none (HI.out.2.1.fails (by rw [hnil]; exact parT_nil)))
          have hlt3 : decide ((s.size : Int) ≥ s.size) = true := by simp
          clear hnil
          go_wp2_with fail
          go_ret3
          exact .inl ⟨HX.out, rfl, HI.out.2.2.2⟩
    · have t2 : ((c.toNat : Int) != 40) = true := by
        have : c.toNat ≠ 40 := fun e => h40 (UInt8.toNat_inj.1 e)
        simp; omega
      have t2' : ((c.toNat : Int) == 40) = false := by
        have : c.toNat ≠ 40 := fun e => h40 (UInt8.toNat_inj.1 e)
        rw [beq_eq_false_iff_ne]; omega
      have HX := Lib.hid (metS_bad (l := tl s) (fun r e => by rw [hc] at e; injection e with e; exact h40 e))
      clear hl hc h40
      go_enter Tryd.func18, Tryd.ntmps18
      go_wp2_with fail
      go_ret3
      exact .inl ⟨HX.out, rfl, Below.refl _ _⟩
end Go.Proofs.YtbeekjfjfcaobaaDoor
