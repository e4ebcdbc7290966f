/- What the document's own Unpack answers: contract of samovarref10.Unpack. Condition: the packed bytes are no more than 6000. -/
import Derived.Test.YtdcpibglbanchaaGreatDoorFix10
import Derived.Test.YtdcpibglbanchaaGreatDoorIby
import Derived.Test.YtdcpibglbanchaaGreatDoorRz
import Derived.Test.YtdcpibglbanchaaGreatDoorSame
set_option linter.unusedVariables false
set_option maxRecDepth 100000
namespace Go.Proofs.YtdcpibglbanchaaGreatDoor
open Go.RowKit Go.Maps Go.ChangeMaps

section
variable {W : World} {b : Nat} {nm : ByteArray} {me pk sz sm at_ hd : Int}
theorem rec_c1 (h : W.heap[b]? = some (.cells (recE nm me pk sz sm at_ hd) 44 (0, 0))) : W.cell? ⟨b, 1, none⟩ = some (.int .i64 me) := by rw [blk_cell h]; rfl
theorem rec_c2 (h : W.heap[b]? = some (.cells (recE nm me pk sz sm at_ hd) 44 (0, 0))) : W.cell? ⟨b, 2, none⟩ = some (.int .i64 pk) := by rw [blk_cell h]; rfl
theorem rec_c3 (h : W.heap[b]? = some (.cells (recE nm me pk sz sm at_ hd) 44 (0, 0))) : W.cell? ⟨b, 3, none⟩ = some (.int .i64 sz) := by rw [blk_cell h]; rfl
theorem rec_c4 (h : W.heap[b]? = some (.cells (recE nm me pk sz sm at_ hd) 44 (0, 0))) : W.cell? ⟨b, 4, none⟩ = some (.int .i64 sm) := by rw [blk_cell h]; rfl
end
/-- what the document's Unpack answers -/
def UnpR (w : World) (s : Except Int (List Int)) (e : Ending) (w' : World) : Prop :=
  Below w.heap.size w w' ∧ ((∃ b v, s = .ok b ∧ e = .returned (.tuple #[v, .int .i64 0]) ∧ Bytes b ∧ OwnT 5 .u8 w' w.heap.size v b) ∨ (∃ er, s = .error er ∧ er ≠ 0 ∧ e = .returned (.tuple #[.slice none 0 0, .int .i64 er])))
set_option maxHeartbeats 8000000 in
theorem refUnpack (w : World) (a : Option Addr) (n c : Nat) (l : List Int) (hn : l.length = n) (hnc : n ≤ c) (hm : n ≤ 6000) (hcm : c ≤ 140737488351232) (hA : a = none → c = 0) (hb : Bs w w.heap.size a l) (nm : ByteArray) (me pk sz sm at_ hd : Int) :
    Calls Tryz.prog 33 #[recV nm me pk sz sm at_ hd, .slice a n c] w (UnpR w (unpackS me pk sz sm l)) := by
  have hnew : (w.alloc (.cells #[.string nm, .int .i64 me, .int .i64 pk, .int .i64 sz, .int .i64 sm, .int .i64 at_, .int .i64 hd] 44)).heap[w.heap.size]? = some (.cells (recE nm me pk sz sm at_ hd) 44 (0, 0)) := heap_alloc_new w _
  have hbel := (Below.refl w.heap.size w).alloc (Nat.le_refl _) (.cells #[.string nm, .int .i64 me, .int .i64 pk, .int .i64 sz, .int .i64 sm, .int .i64 at_, .int .i64 hd] 44)
  have hbs := (hb.below hbel).more hbel.size
  have hz0 : (w.alloc (.cells #[.string nm, .int .i64 me, .int .i64 pk, .int .i64 sz, .int .i64 sm, .int .i64 at_, .int .i64 hd] 44)).heap.size = w.heap.size + 1 := by simp
  have hA' : a = none → n = 0 ∧ c = 0 := fun h => by have := hA h; omega
  have H0 := Lib.hid (And.intro hnew (And.intro hbel (And.intro hbs (And.intro hz0 (And.intro hA' hA)))))
  have hfin : ∀ er : Int, er ≠ 0 → Hid (UnpR w (.error er) (.returned (.tuple #[.slice none 0 0, .int .i64 er])) (w.alloc (.cells #[.string nm, .int .i64 me, .int .i64 pk, .int .i64 sz, .int .i64 sm, .int .i64 at_, .int .i64 hd] 44))) := fun er h => Lib.hid ⟨hbel, .inr ⟨er, rfl, h, rfl⟩⟩
  have hgrow : ∀ (base : Nat) (W W' : World) (u : Value), W.heap.size = base → (W.alloc (.cells #[] 5)).grownBy W' (Value.slice (some ⟨W.heap.size, 0, none⟩) 0 0).ownBlock → Below base W W' := fun base W W' u hs g => by
    subst hs
    exact ((Below.refl W.heap.size W).alloc (Nat.le_refl _) _).grown g (by simp) (fun k hk => by simp [Value.ownBlock] at hk; omega)
  clear hb hbs hbel hnew hA hA'
  by_cases hbad : (l.length : Int) ≠ pk ∨ (me ≠ 0 ∧ me ≠ 8) ∨ sz < 0
  · have hs : unpackS me pk sz sm l = .error 1 := if_pos hbad
    rw [hs]
    have HF := hfin 1 (by decide)
    clear hs hfin hgrow hz0
    by_cases hA : (n : Int) = pk
    · have t1 : ((n : Int) != pk) = false := by simp [hA]
      by_cases h0 : me = 0
      · have t2 : (me != 0) = false := by simp [h0]
        have t3 : decide (sz < 0) = true := by simp; omega
        clear h0 hbad hA
        unfold recV
        go_enter Tryz.func33, Tryz.ntmps33
        go_wp2_with fail
        go_ret2
        exact HF.out
      · have t2 : (me != 0) = true := by simp [h0]
        by_cases h8 : me = 8
        · have t4 : (me != 8) = false := by simp [h8]
          have t3 : decide (sz < 0) = true := by simp; omega
          clear h0 hbad hA h8
          unfold recV
          go_enter Tryz.func33, Tryz.ntmps33
          go_wp2_with fail
          go_ret2
          exact HF.out
        · have t4 : (me != 8) = true := by simp [h8]
          clear h0 hbad hA h8
          unfold recV
          go_enter Tryz.func33, Tryz.ntmps33
          go_wp2_with fail
          go_ret2
          exact HF.out
    · have t1 : ((n : Int) != pk) = true := by simp [hA]
      clear hbad hA
      unfold recV
      go_enter Tryz.func33, Tryz.ntmps33
      go_wp2_with fail
      go_ret2
      exact HF.out
  · have hpk : (l.length : Int) = pk := by omega
    have hme : me = 0 ∨ me = 8 := by omega
    have hsz : 0 ≤ sz := by omega
    have t1 : ((n : Int) != pk) = false := by simp; omega
    have t3 : decide (sz < 0) = false := by simp; omega
    by_cases hbig : 32768 < sz
    · have hs : unpackS me pk sz sm l = .error 17 := by unfold unpackS; rw [if_neg hbad, if_pos hbig]
      rw [hs]
      have t5 : decide (sz > 32768) = true := by simp; omega
      have HF := hfin 17 (by decide)
      clear hs hbad hpk hsz hfin hgrow hz0
      unfold recV
      rcases hme with rfl | rfl
      · go_enter Tryz.func33, Tryz.ntmps33
        go_wp2_with fail
        go_ret2
        exact HF.out
      · go_enter Tryz.func33, Tryz.ntmps33
        go_wp2_with fail
        go_ret2
        exact HF.out
    · have t5 : decide (sz > 32768) = false := by simp; omega
      have hs : unpackS me pk sz sm l = sumS sm (plainS me pk sz l) := by unfold unpackS; rw [if_neg hbad, if_neg hbig]
      rw [hs]
      have hbsz : Hid (0 ≤ sz ∧ sz ≤ 32768) := Lib.hid ⟨hsz, by omega⟩
      have hGR := Lib.hid hgrow
      clear hs hbad hsz hbig hfin hz0 hgrow
      rcases hme with rfl | rfl
      · by_cases hps : pk = sz
        · have t2 : ((n : Int) != sz) = false := by rw [← hps]; exact t1
          obtain ⟨sb, hsb⟩ : ∃ sb, sumOf 0 l = sb := ⟨_, rfl⟩
          obtain ⟨R, hR⟩ : ∃ R, sumS sm (plainS 0 pk sz l) = R := ⟨_, rfl⟩
          have hRv : R = if sb ≠ sm then .error 19 else .ok l := by
            rw [← hR]; unfold plainS; rw [if_pos rfl, if_neg (by simpa using hps), ← hsb]; rfl
          rw [hR]
          have HR := Lib.hid hRv
          have HSB := Lib.hid hsb
          have HPK := Lib.hid hpk
          clear hR hRv hsb hpk hps
          unfold recV
          go_enter Tryz.func33, Tryz.ntmps33
          go_upto_region 5 with (fail)
          generalize (w.alloc (.cells #[.string nm, .int .i64 0, .int .i64 pk, .int .i64 sz, .int .i64 sm, .int .i64 at_, .int .i64 hd] 44)) = w1 at *
          go_wp2_with (at_builtin; refine wpList_app rfl _ _ rfl w1.heap.size (.slice (some ⟨w1.heap.size, 0, none⟩) 0 0) 0 [] rfl (World.ownsRow_lit w1 #[] 0 (Nat.le_refl _) (by decide) rfl) w1.heap.size a n c l rfl hn (H0.out.2.2.1.alloc (Nat.le_refl _) _) H0.out.2.2.2.2.1 (by omega) (by simp) ?_; intro v2 w2 o2 g2; rw [Nat.zero_add] at o2; obtain ⟨a2, c2, rfl⟩ := own_shape o2; have hb2 : Below w1.heap.size w1 w2 := ((Below.refl w1.heap.size w1).alloc (Nat.le_refl _) _).grown g2 (by simp) (fun k hk => by simp [Value.ownBlock] at hk; omega); have hr2 := (hb2.block w.heap.size (blk_lt H0.out.1)).trans H0.out.1; have c1 := rec_c1 hr2; have c3 := rec_c3 hr2; have c4 := rec_c4 hr2; clear hr2)
          have ho2 := own_cast (n' := l.length) (ys := l.map (Value.int .u8)) o2 hn.symm (by simp)
          have hBl := H0.out.2.2.1.1
          have bs2 : Bs w2 w2.heap.size a2 l := Bs.of_own ho2 hBl
          have hw2 := below_next H0.out.2.1 (Nat.le_refl _) hb2
          have H2 := Lib.hid (And.intro hw2 (And.intro ho2 hBl))
          have hof : ∀ d, Calls Tryz.prog 31 #[.slice a2 n c2] (w2.drewN d) fun e w' => e = .returned (.int .i64 sb) ∧ w2.drewN d = w' := fun d => by
            rw [← HSB.out]; exact refOf a2 n c2 l hn (by omega) _ w2.heap.size (bs2.below (low_drewN (Below.refl _ _) d))
          clear o2 g2 hb2 ho2 hBl bs2 hw2
          go_quiet ((go_at_call 31; exact q_left2 (hof _)))
          by_cases hss : sb = sm
          · have t7 : (sb != sm) = false := by simp [hss]
            have hRb : R = .ok l := by rw [HR.out]; exact if_neg (by simpa using hss)
            have HRB := Lib.hid hRb
            clear hss hRb HR
            go_wp2_with fail
            go_ret2
            exact ⟨low_drewN H2.out.1 _, .inl ⟨l, _, HRB.out, rfl, H2.out.2.2, ⟨a2, c2, by rw [hn]; rfl, own_base (own_below H2.out.2.1 (low_drewN (Below.refl _ _) _)) H0.out.2.1.size⟩⟩⟩
          · have t7 : (sb != sm) = true := by simp [hss]
            have hRb : R = .error 19 := by rw [HR.out]; exact if_pos hss
            have HRB := Lib.hid hRb
            clear hss hRb HR
            go_wp2_with fail
            go_ret2
            exact ⟨low_drewN H2.out.1 _, .inr ⟨19, HRB.out, by decide, rfl⟩⟩
        · have t2 : ((n : Int) != sz) = true := by simp; omega
          obtain ⟨R, hR⟩ : ∃ R, sumS sm (plainS 0 pk sz l) = R := ⟨_, rfl⟩
          have hRv : R = .error 18 := by rw [← hR]; unfold plainS; rw [if_pos rfl, if_pos hps]; rfl
          rw [hR]
          have HR := Lib.hid hRv
          clear hR hRv hpk hps
          unfold recV
          go_enter Tryz.func33, Tryz.ntmps33
          go_upto_region 5 with (fail)
          generalize (w.alloc (.cells #[.string nm, .int .i64 0, .int .i64 pk, .int .i64 sz, .int .i64 sm, .int .i64 at_, .int .i64 hd] 44)) = w1 at *
          go_wp2_with (at_builtin; refine wpList_app rfl _ _ rfl w1.heap.size (.slice (some ⟨w1.heap.size, 0, none⟩) 0 0) 0 [] rfl (World.ownsRow_lit w1 #[] 0 (Nat.le_refl _) (by decide) rfl) w1.heap.size a n c l rfl hn (H0.out.2.2.1.alloc (Nat.le_refl _) _) H0.out.2.2.2.2.1 (by omega) (by simp) ?_; intro v2 w2 o2 g2; rw [Nat.zero_add] at o2; obtain ⟨a2, c2, rfl⟩ := own_shape o2; have hb2 : Below w1.heap.size w1 w2 := ((Below.refl w1.heap.size w1).alloc (Nat.le_refl _) _).grown g2 (by simp) (fun k hk => by simp [Value.ownBlock] at hk; omega); have hr2 := (hb2.block w.heap.size (blk_lt H0.out.1)).trans H0.out.1; have c1 := rec_c1 hr2; have c3 := rec_c3 hr2; have c4 := rec_c4 hr2; clear hr2)
          have H2 := Lib.hid (below_next H0.out.2.1 (Nat.le_refl _) hb2)
          clear o2 g2 hb2
          go_ret2
          exact ⟨H2.out, .inr ⟨18, HR.out, by decide, rfl⟩⟩
      · have hPL : plainS 8 pk sz l = match inflS l sz with
          | .error e => .error e
          | .ok (b, used) => if (b.length : Int) ≠ sz ∨ used ≠ l.length then .error 18 else .ok b := by
          unfold plainS; rw [if_neg (by decide)]
          cases inflS l sz with
          | error e => rfl
          | ok x => rfl
        have hby := fun o u (h : inflS l sz = .ok (o, u)) => inflS_bytes H0.out.2.2.1.1 h
        cases hi : inflS l sz with
        | error er =>
          rw [hi] at hPL
          simp only at hPL
          obtain ⟨R, hR⟩ : ∃ R, sumS sm (plainS 8 pk sz l) = R := ⟨_, rfl⟩
          have hRv : R = .error er := by rw [← hR, hPL]; rfl
          rw [hR]
          have HR := Lib.hid (And.intro hRv hi)
          clear hR hRv hpk hPL hi hby
          unfold recV
          go_enter Tryz.func33, Tryz.ntmps33
          go_upto_region 5 with (fail)
          generalize (w.alloc (.cells #[.string nm, .int .i64 8, .int .i64 pk, .int .i64 sz, .int .i64 sm, .int .i64 at_, .int .i64 hd] 44)) = w1 at *
          go_wp2_with (at_builtin; refine wpList_app rfl _ _ rfl w1.heap.size (.slice (some ⟨w1.heap.size, 0, none⟩) 0 0) 0 [] rfl (World.ownsRow_lit w1 #[] 0 (Nat.le_refl _) (by decide) rfl) w1.heap.size a n c l rfl hn (H0.out.2.2.1.alloc (Nat.le_refl _) _) H0.out.2.2.2.2.1 (by omega) (by simp) ?_; intro v2 w2 o2 g2; rw [Nat.zero_add] at o2; obtain ⟨a2, c2, rfl⟩ := own_shape o2; have hb2 : Below w1.heap.size w1 w2 := ((Below.refl w1.heap.size w1).alloc (Nat.le_refl _) _).grown g2 (by simp) (fun k hk => by simp [Value.ownBlock] at hk; omega); have hr2 := (hb2.block w.heap.size (blk_lt H0.out.1)).trans H0.out.1; have c1 := rec_c1 hr2; have c3 := rec_c3 hr2; have c4 := rec_c4 hr2; clear hr2)
          have hw2 := below_next H0.out.2.1 (Nat.le_refl _) hb2
          have hal := refAll (w := w2) a n c l hn hnc (by omega) H0.out.2.2.2.2.2 ((H0.out.2.2.1.below hb2).more hb2.size) sz (by have := hbsz.out; omega)
          have H2 := Lib.hid hw2
          clear o2 g2 hb2 hw2
          refine hal.mono ?_
          rintro e w3 ⟨hb3, ⟨o, u, v, h1, _, _⟩ | ⟨er', h1, hne, rfl⟩⟩
          · rw [HR.out.2] at h1; cases h1
          rw [HR.out.2] at h1
          injection h1 with h1
          subst h1
          have t6 : (er != 0) = true := by simp [hne]
          have H3 := Lib.hid (below_next H2.out (Nat.le_refl _) hb3)
          clear hal hb3
          go_wp2_with fail
          go_ret2
          exact ⟨H3.out, .inr ⟨er, HR.out.1, hne, rfl⟩⟩
        | ok x =>
          obtain ⟨b, used⟩ := x
          have hBb := hby b used hi
          rw [hi] at hPL
          simp only at hPL
          have hbl : b.length ≤ 32768 := by
            have h0 := hbsz.out
            obtain ⟨z, hz⟩ : ∃ z : Nat, sz = z := ⟨sz.toNat, by omega⟩
            subst hz
            have := inflS_small l (by omega) hi
            omega
          obtain ⟨R, hR⟩ : ∃ R, sumS sm (plainS 8 pk sz l) = R := ⟨_, rfl⟩
          rw [hR]
          rw [hPL] at hR
          have HI := Lib.hid (And.intro hi (And.intro hBb hR))
          obtain ⟨N, hN⟩ : ∃ N, b.length = N := ⟨_, rfl⟩
          have HN := Lib.hid (And.intro hN hn)
          rw [hN] at hbl
          clear hpk hPL hi hby hBb hR hN
          unfold recV
          go_enter Tryz.func33, Tryz.ntmps33
          go_upto_region 5 with (fail)
          generalize (w.alloc (.cells #[.string nm, .int .i64 8, .int .i64 pk, .int .i64 sz, .int .i64 sm, .int .i64 at_, .int .i64 hd] 44)) = w1 at *
          go_wp2_with (at_builtin; refine wpList_app rfl _ _ rfl w1.heap.size (.slice (some ⟨w1.heap.size, 0, none⟩) 0 0) 0 [] rfl (World.ownsRow_lit w1 #[] 0 (Nat.le_refl _) (by decide) rfl) w1.heap.size a n c l rfl hn (H0.out.2.2.1.alloc (Nat.le_refl _) _) H0.out.2.2.2.2.1 (by omega) (by simp) ?_; intro v2 w2 o2 g2; rw [Nat.zero_add] at o2; obtain ⟨a2, c2, rfl⟩ := own_shape o2; have hb2 : Below w1.heap.size w1 w2 := ((Below.refl w1.heap.size w1).alloc (Nat.le_refl _) _).grown g2 (by simp) (fun k hk => by simp [Value.ownBlock] at hk; omega); have hr2 := (hb2.block w.heap.size (blk_lt H0.out.1)).trans H0.out.1; have c1 := rec_c1 hr2; have c3 := rec_c3 hr2; have c4 := rec_c4 hr2)
          have hw2 := below_next H0.out.2.1 (Nat.le_refl _) hb2
          have hal := refAll (w := w2) a n c l hn hnc (by omega) H0.out.2.2.2.2.2 ((H0.out.2.2.1.below hb2).more hb2.size) sz (by have := hbsz.out; omega)
          have H2 := Lib.hid (And.intro hw2 (And.intro hr2 hb2))
          clear o2 g2 hb2 hw2 hr2 c1 c3 c4
          refine hal.mono ?_
          rintro e w3 ⟨hb3, ⟨o, u, v, h1, rfl, hov⟩ | ⟨er', h1, hne, rfl⟩⟩
          rotate_left
          · rw [HI.out.1] at h1; cases h1
          rw [HI.out.1] at h1
          injection h1 with h1
          injection h1 with h1 h2
          subst h1 h2
          obtain ⟨a3, c3, rfl, ho3⟩ := hov
          have hr3 := (hb3.block w.heap.size (blk_lt H2.out.2.1)).trans H2.out.2.1
          have c3' := rec_c3 hr3
          have c4' := rec_c4 hr3
          have hw3 := below_next H2.out.1 (Nat.le_refl _) hb3
          have bs3 := Bs.of_own ho3 HI.out.2.1
          have ho3' := own_base ho3 (Nat.le_trans H0.out.2.1.size H2.out.2.2.size)
          obtain ⟨sb, hsb⟩ : ∃ sb, sumOf 0 b = sb := ⟨_, rfl⟩
          rw [HN.out.1] at ho3' ⊢
          have hof : ∀ d, Calls Tryz.prog 31 #[.slice a3 N c3] (w3.drewN d) fun e w' => e = .returned (.int .i64 sb) ∧ w3.drewN d = w' := fun d => by
            rw [← hsb]; exact refOf a3 N c3 b HN.out.1 (by omega) _ w3.heap.size (bs3.below (low_drewN (Below.refl _ _) d))
          have H3 := Lib.hid (And.intro hw3 (And.intro ho3' hsb))
          clear hal hb3 ho3 ho3' bs3 hr3 hw3 hsb
          by_cases hus : used = n
          · have t6 : ((used : Int) != (n : Int)) = false := by simp [hus]
            have t6' : (used != n) = false := by simp [hus]
            by_cases hbs : (N : Int) = sz
            · have t7 : ((N : Int) != sz) = false := by simp [hbs]
              by_cases hss : sb = sm
              · have hRb : R = .ok b := by
                  rw [← HI.out.2.2, if_neg (by rw [HN.out.1, HN.out.2]; simp [hbs, hus])]
                  show (if sumOf 0 b ≠ sm then .error 19 else .ok b : Except Int (List Int)) = _
                  rw [H3.out.2.2, if_neg (by simpa using hss)]
                have t8 : (sb != sm) = false := by simp [hss]
                have HRB := Lib.hid hRb
                clear hss hRb hbs hus
                go_wp2_with fail
                go_quiet ((go_at_call 31; exact q_left2 (hof _)))
                go_wp2_with fail
                go_ret2
                exact ⟨low_drewN H3.out.1 _, .inl ⟨b, _, HRB.out, rfl, HI.out.2.1, ⟨a3, c3, by rw [HN.out.1]; rfl, by rw [HN.out.1]; exact own_below H3.out.2.1 (low_drewN (Below.refl _ _) _)⟩⟩⟩
              · have hRb : R = .error 19 := by
                  rw [← HI.out.2.2, if_neg (by rw [HN.out.1, HN.out.2]; simp [hbs, hus])]
                  show (if sumOf 0 b ≠ sm then .error 19 else .ok b : Except Int (List Int)) = _
                  rw [H3.out.2.2, if_pos hss]
                have t8 : (sb != sm) = true := by simp [hss]
                have HRB := Lib.hid hRb
                clear hss hRb hbs hus
                go_wp2_with fail
                go_quiet ((go_at_call 31; exact q_left2 (hof _)))
                go_wp2_with fail
                go_ret2
                exact ⟨low_drewN H3.out.1 _, .inr ⟨19, HRB.out, by decide, rfl⟩⟩
            · have t7 : ((N : Int) != sz) = true := by simp [hbs]
              have hRb : R = .error 18 := by
                rw [← HI.out.2.2, if_pos (.inl (by rw [HN.out.1]; exact hbs))]; rfl
              have HRB := Lib.hid hRb
              clear hRb hbs hus hof
              go_wp2_with fail
              go_ret2
              exact ⟨H3.out.1, .inr ⟨18, HRB.out, by decide, rfl⟩⟩
          · have t6 : ((used : Int) != (n : Int)) = true := by simp; omega
            have t6' : (used != n) = true := by simp [hus]
            have hRb : R = .error 18 := by
              rw [← HI.out.2.2, if_pos (.inr (by rw [HN.out.2]; exact hus))]; rfl
            have HRB := Lib.hid hRb
            clear hRb hus hof
            go_wp2_with fail
            go_ret2
            exact ⟨H3.out.1, .inr ⟨18, HRB.out, by decide, rfl⟩⟩
end Go.Proofs.YtdcpibglbanchaaGreatDoor
