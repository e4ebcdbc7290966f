/- The walk of the law EntryApart: it returns true and turns nothing that was there. Conditions: the order of the lengths lies where the program's own text lays it; the variable internal/bytealg.MaxLen has a value. -/
import Derived.Test.YtdcpibglbanchaaDoorFa
import Derived.Test.YtdcpibglbanchaaDoorFix10
set_option linter.unusedVariables false
set_option maxRecDepth 100000
namespace Go.Proofs.YtdcpibglbanchaaDoor
open Go.RowKit Go.Maps Go.ChangeMaps

set_option maxHeartbeats 16000000 in
theorem entryapart_walk (w : World) (a : Option Addr) (n c : Nat) (l : List Int) (hl : l.length = n) (hc : n ≤ c) (hA : a = none → c = 0) (hm : c ≤ 140737488351232) (hb : Bs w w.heap.size a l) (wh at_ by_ : Int) (hwh : 0 ≤ wh ∧ wh ≤ 255) (hat : 0 ≤ at_ ∧ at_ ≤ 65535) (hby : 0 ≤ by_ ∧ by_ ≤ 255) (hmx : Mx w) (hord : Ord w) :
    Calls Tryd.prog 3 #[.slice a n c, .int .u8 wh, .int .u16 at_, .int .u8 by_] w fun e w' => e = .returned (.bool true) ∧ Below w.heap.size w w' := by
  have hfx := fixed10 w hord
  have HB := Lib.hid (And.intro hb (And.intro hmx (And.intro hl (And.intro hc (And.intro hA hord)))))
  clear hb hmx hA hord
  obtain ⟨A, rfl⟩ := Int.eq_ofNat_of_zero_le hat.1
  obtain ⟨Wh, rfl⟩ := Int.eq_ofNat_of_zero_le hwh.1
  by_cases hlong : 6000 < n
  · have hd : decide ((n : Int) > 6000) = true := by simp; omega
    go_enter Tryd.func3, Tryd.ntmps3
    go_wp2_with fail
    refine hfx.mono ?_
    rintro e w1 ⟨rfl, hb1⟩
    have H1 := Lib.hid hb1
    clear hfx hb1
    go_wp2_with fail
    go_ret
    exact ⟨rfl, H1.out⟩
  have hd6 : decide ((n : Int) > 6000) = false := by simp; omega
  go_enter Tryd.func3, Tryd.ntmps3
  go_wp2_with fail
  refine hfx.mono ?_
  rintro e w1 ⟨rfl, hb1⟩
  have H1 := Lib.hid hb1
  have hd := dirX_is w1 a n c l HB.out.2.2.1 hc (by omega) (HB.out.1.next hb1) (HB.out.2.1.below hb1)
  clear hfx hb1
  go_wp2_with fail
  refine hd.mono ?_
  rintro e w2 (⟨er, h1, h2, rfl, hb2⟩ | ⟨es, V, h1, h64, rfl, ho, hb2⟩)
  · have t2 : (er != 0) = true := by simp [h2]
    have H2 := Lib.hid (below_next H1.out (Nat.le_refl _) hb2)
    clear hd hb2 h1 h2
    go_wp2_with fail
    go_ret
    exact ⟨rfl, H2.out⟩
  obtain ⟨aV, cV, rfl⟩ := own_shape ho
  have hcV := own_cap ho
  obtain ⟨hlen, hdS⟩ := dirX_inv h1
  obtain ⟨F, T, N, ps, bs, hK, hes⟩ := dirS_inv HB.out.1.1 hdS
  obtain ⟨m, hmE⟩ : ∃ m, es.length = m := ⟨_, rfl⟩
  rw [hmE] at ho h64 hcV ⊢
  have H2 := Lib.hid (And.intro (below_next H1.out (Nat.le_refl _) hb2) (And.intro ho (And.intro hmE (And.intro hK (And.intro hes h1)))))
  have hsz1 := H1.out.size
  clear hd hb2 h1 ho hK hes hdS hlen H1 hmE
  by_cases hm0 : m = 0
  · subst hm0
    go_wp2_with fail
    go_ret
    exact ⟨rfl, H2.out.1⟩
  have t2 : ((m : Int) == 0) = false := by rw [beq_eq_false_iff_ne]; omega
  obtain ⟨k, hk⟩ : ∃ k, Wh % m = k := ⟨_, rfl⟩
  have hkm : k < m := by rw [← hk]; exact Nat.mod_lt _ (by omega)
  have hki : (Wh : Int) % (m : Int) = (k : Int) := by omega
  have hki2 : (Wh : Int).tmod (m : Int) = (k : Int) := by rw [Int.tmod_eq_emod_of_nonneg (by omega)]; omega
  have hwh0 : IntKind.i64.wrap (Wh : Int) = (Wh : Int) := IntWalk.i64_in _ (by omega)
  obtain ⟨e, he⟩ : ∃ e, es[k]? = some e := ⟨_, List.getElem?_eq_getElem (by rw [H2.out.2.2.1]; exact hkm)⟩
  have hent := H2.out.2.2.2.1.ent (List.mem_of_getElem? (by rw [H2.out.2.2.2.2.1] at he; exact he))
  obtain ⟨G, cp, hV, hGb, hGl⟩ := H2.out.2.1.form (by omega)
  injection hV with hV1 _ hV2
  subst hV1
  subst hV2
  have hcell : ∀ j v, j < 7 → (recC l e)[j]? = some v → w2.cell? ⟨G, k * 7 + j, none⟩ = some v := fun j v hj hv => by
    rw [H2.out.2.1.cellAt (k * 7 + j) (by omega), recR_at he hj]; exact hv
  have x2 := hcell 2 _ (by decide) rfl
  have x5 := hcell 5 _ (by decide) rfl
  have hbnd : e.2 + pkL l e.1 + 22 ≤ n := by have := HB.out.2.2.1; omega
  obtain ⟨pk0, hpk0⟩ : ∃ x, pkL l e.1 = x := ⟨_, rfl⟩
  obtain ⟨at0, hat0⟩ : ∃ x, e.2 = x := ⟨_, rfl⟩
  rw [hpk0] at x2 hbnd
  rw [hat0] at x5 hbnd
  have HE := Lib.hid (And.intro he (And.intro hpk0 hat0))
  clear he hent hcell hpk0 hat0 hk
  by_cases hp0 : pk0 = 0
  · subst hp0
    go_wp2_with fail
    go_ret
    exact ⟨rfl, H2.out.1⟩
  have t3 : ((pk0 : Int) == 0) = false := by rw [beq_eq_false_iff_ne]; omega
  obtain ⟨r0, hr0⟩ : ∃ r, A % pk0 = r := ⟨_, rfl⟩
  have hrp : r0 < pk0 := by rw [← hr0]; exact Nat.mod_lt _ (by omega)
  have hri : (A : Int) % (pk0 : Int) = (r0 : Int) := by omega
  have hri2 : (A : Int).tmod (pk0 : Int) = (r0 : Int) := by rw [Int.tmod_eq_emod_of_nonneg (by omega)]; omega
  have hat1 : IntKind.i64.wrap (A : Int) = (A : Int) := IntWalk.i64_in _ (by omega)
  obtain ⟨P, hP⟩ : ∃ P, at0 + r0 = P := ⟨_, rfl⟩
  have hPi : IntKind.i64.wrap ((at0 : Int) + (r0 : Int)) = (P : Int) := by rw [IntWalk.i64_in _ (by omega)]; omega
  have hPn : P < n := by omega
  have hPe : at0 ≤ P ∧ P < at0 + pk0 := by omega
  have hpos : 0 < n := by omega
  obtain ⟨v0, hv0⟩ : ∃ v0, l.getD P 0 = v0 := ⟨_, rfl⟩
  have hget := HB.out.1.1.at_ P
  rw [hv0] at hget
  have HV := Lib.hid (And.intro hv0 (And.intro hP hPe))
  have hbs2 := HB.out.1.next H2.out.1
  have hGsz : G < w2.heap.size := (H2.out.2.1.lt G rfl).2
  clear hv0 hr0 hP hPe
  go_wp2_with (at_builtin; refine copy_own2 rfl _ _ rfl w2 rfl rfl a n c l HB.out.2.2.1 HB.out.2.2.2.1 rfl hbs2 HB.out.2.2.2.2.1 (by omega) ?_; intro a2 c2 w3 hown3 hb3; obtain ⟨G3, cp3, hV3, hGb3, hGl3⟩ := hown3.form hpos; injection hV3 with hV1 _ hV2; subst hV1; subst hV2; have k1 := own_byte hown3 HB.out.2.2.1 hPn; rw [HV.out.1] at k1; have z1 := own_frozen hown3 P; have y2 := (hb3.cell (p := ⟨G, k * 7 + 2, none⟩) hGsz).trans x2; have y5 := (hb3.cell (p := ⟨G, k * 7 + 5, none⟩) hGsz).trans x5)
  clear x2 x5
  obtain ⟨X, hX⟩ : ∃ X, bits .xor .u8 v0 by_ = X := ⟨_, rfl⟩
  have hXb : 0 ≤ X ∧ X ≤ 255 := by rw [← hX]; exact xor_bd _ _
  refine' cut_later (fun hT => ?_) ?_
  rotate_left
  focus (go_region_law (fail); all_goals exact hT)
  have hB' : Bytes (l.set P X) := fun x hx => by
    rcases List.mem_or_eq_of_mem_set hx with h | h
    · exact HB.out.1.1 x h
    · rw [h]; exact hXb
  have hl' : (l.set P X).length = n := by rw [List.length_set]; exact HB.out.2.2.1
  have hown4 := own_below (own_put hown3 P X) (low_drewN (Below.refl _ _) 1)
  have hbs4 : Bs (w3.setCell ⟨G3, P, none⟩ (.int .u8 X)).drew (w3.setCell ⟨G3, P, none⟩ (.int .u8 X)).drew.heap.size (some ⟨G3, 0, none⟩) (l.set P X) := by
    have := own_cast hown4 hl'.symm rfl
    exact Bs.of_own this hB'
  have hb4 : Below w2.heap.size w2 (w3.setCell ⟨G3, P, none⟩ (.int .u8 X)).drew := low_drewN (hb3.setCell (p := ⟨G3, P, none⟩) hGb3 _) 1
  have hc2 := (own_cap hown3).1
  have hturn : (endP (l.set P X) < 0 ∧ dirX (l.set P X) = .error 9) ∨ (0 ≤ endP (l.set P X) ∧ dirX (l.set P X) = .ok es ∧ recR (l.set P X) es = recR l es) := by
    obtain ⟨_, _, _, hK, hes, _⟩ := H2.out
    have hx : dirX (l.set P X) = dirS (l.set P X) := by unfold dirX; rw [if_neg (by omega)]
    rw [hx, hes]
    exact hK.turned (by rw [← hes]; exact HE.out.1) (by rw [HE.out.2.1, HE.out.2.2]; exact HV.out.2.2) X
  have hsame : ∀ (i : Nat) (d : Nat × Nat), es[i]? = some d → i ≠ k → dirX (l.set P X) = .ok es → findS (l.set P X) (nmT l d.1) = findS l (nmT l d.1) := fun i d hi hik hd => by
    obtain ⟨_, _, _, hK, hes, hdl⟩ := H2.out
    unfold findS
    rw [hd, hdl]
    simp only
    rw [hes]
    exact hK.found (by rw [← hes]; exact HE.out.1) (by rw [← hes]; exact hi) hik (by rw [HE.out.2.1, HE.out.2.2]; exact HV.out.2.2) X
  have HG := Lib.hid (And.intro hturn (And.intro hb4 (And.intro hbs4 hsame)))
  have hmx4 : Mx (w3.setCell ⟨G3, P, none⟩ (.int .u8 X)).drew := HB.out.2.1.below (below_next H2.out.1 (Nat.le_refl _) hb4)
  have hd := dirX_is _ (some ⟨G3, 0, none⟩) n c2 (l.set P X) hl' hc2 (by omega) hbs4 hmx4
  clear hturn hsame hb4 hbs4 hown4 hown3 hb3 hX hXb hbs2 hGl3 hGb3 k1 z1 hmx4 y2 y5 hPi hri hri2 hki hki2 hget
  generalize (w3.setCell ⟨G3, P, none⟩ (.int .u8 X)).drew = w4 at *
  generalize l.set P X = l' at *
  have hL' := Lib.hid (And.intro hB' hl')
  clear hB' hl'
  have hbw4 : Below w.heap.size w w4 := below_next H2.out.1 (Nat.le_refl _) HG.out.2.1
  have hrow4 := own_below H2.out.2.1 HG.out.2.1
  have HW4 := Lib.hid (And.intro hbw4 hrow4)
  clear hbw4 hrow4
  go_wp2_with fail
  refine hd.mono ?_
  rcases HG.out.1 with ⟨hp1, hp2⟩ | ⟨hp1, hp2, hp3⟩
  · rintro e w5 (⟨er, h1, h2, rfl, hb5⟩ | ⟨es2, V2, h1, h642, rfl, ho2, hb5⟩)
    · rw [hp2] at h1
      injection h1 with h1
      subst h1
      have H5 := Lib.hid (below_next HW4.out.1 (Nat.le_refl _) hb5)
      clear hd hb5 hp1 hp2 h2
      go_wp2_with fail
      go_ret
      exact ⟨rfl, H5.out⟩
    · rw [hp2] at h1; cases h1
  · rintro e w5 (⟨er, h1, h2, rfl, hb5⟩ | ⟨es2, V2, h1, h642, rfl, ho2, hb5⟩)
    · rw [hp2] at h1; cases h1
    · have H5 := Lib.hid (And.intro (below_next HW4.out.1 (Nat.le_refl _) hb5) (And.intro (own_below HW4.out.2 hb5) (And.intro hb5 hp2)))
      clear hd hb5 hp1 hp2 hp3 ho2 h1
      go_wp2_with fail
      go_loopw [83] (fun i wr => ∃ q : Nat, q ≤ m ∧ i = .int .i64 q ∧ Hid (Below w5.heap.size w5 wr)) (fun i _ => m - (intOf i).toNat)
      case atStart => exact ⟨0, Nat.zero_le _, rfl, Lib.hid (Below.refl _ _)⟩
      case round =>
        obtain ⟨q, hq, rfl, HI⟩ := hrel
        by_cases hq2 : q < m
        · obtain ⟨d, hd⟩ : ∃ d, es[q]? = some d := ⟨_, List.getElem?_eq_getElem (by rw [H2.out.2.2.1]; exact hq2)⟩
          have hown := own_below H5.out.2.1 HI.out
          have hrg : wr.rangeAt G (q * 7) (recC l d) := fun j v hv => by
            have hj : j < 7 := (List.getElem?_eq_some_iff.1 hv).1
            rw [hown.cellAt (q * 7 + j) (by omega), recR_at hd hj]; exact hv
          have hF : ∀ (wf : World) (o : Obj), wf.heap[wr.heap.size]? = some (.cells (recC l d).toArray 30 (0, 0)) → Only wr.heap.size (wr.alloc o) wf → Hid (Below w5.heap.size w5 wf ∧ wr.heap.size < wf.heap.size) ∧ wf.cell? ⟨wr.heap.size, 0, none⟩ = some (.string (nmT l d.1)) := fun wf o hwf hof => by
            have hbf : Below wr.heap.size wr wf := low_only ((Below.refl wr.heap.size wr).alloc (Nat.le_refl _) o) hof (Nat.le_refl _) (Nat.le_refl _)
            exact ⟨Lib.hid ⟨below_next HI.out (Nat.le_refl _) hbf, blk_lt hwf⟩, by rw [blk_cell hwf]; rfl⟩
          have hone := all_oneCell_toArray (recC_one l d)
          have h7 := recC_len l d
          by_cases hqk : q = k
          · subst hqk
            generalize recC l d = RC at *
            clear hown hd
            go_wp2_with (first | (refine rec_ld rfl rfl G (q * 7) rfl h7 hrg ?_) | (refine rec_st rfl rfl wr.heap.size rfl rfl (by simpa using h7) rfl hone (heap_alloc_new _ _) ?_; intro wf hwf hof; obtain ⟨HF, x0⟩ := hF wf _ hwf hof; clear hwf hof hF))
            go_roundw
            case rel => exact ⟨q + 1, by omega, by go_num, Lib.hid HF.out.1⟩
            case measure => simp [intOf]; omega
          · have tqk : ((q : Int) == (k : Int)) = false := by rw [beq_eq_false_iff_ne]; omega
            have hsm := HG.out.2.2.2 q d hd hqk H5.out.2.2.2
            obtain ⟨nm, hnm⟩ : ∃ nm, nmT l d.1 = nm := ⟨_, rfl⟩
            rw [hnm] at hsm
            simp only [hnm] at hF
            generalize recC l d = RC at *
            have HS := Lib.hid hsm
            clear hown hd hsm hnm hqk
            go_wp2_with (first | (refine rec_ld rfl rfl G (q * 7) rfl h7 hrg ?_) | (refine rec_st rfl rfl wr.heap.size rfl rfl (by simpa using h7) rfl hone (heap_alloc_new _ _) ?_; intro wf hwf hof; obtain ⟨HF, x0⟩ := hF wf _ hwf hof; clear hwf hof hF))
            have hbwf : Below w.heap.size w wf := below_next H5.out.1 (Nat.le_refl _) HF.out.1
            have hf1 := find_is wf a n c l HB.out.2.2.1 HB.out.2.2.2.1 (by omega) (HB.out.1.next hbwf) nm (HB.out.2.1.below hbwf) (HB.out.2.2.2.2.2.below hbwf)
            have hf2 : ∀ wk, Below wf.heap.size wf wk → Calls Tryd.prog 6 #[.slice (some ⟨G3, 0, none⟩) n c2, .string nm] wk (Unp wk (findS l' nm)) := fun wk hbk => by
              have hbk2 : Below w4.heap.size w4 wk := below_next (below_next H5.out.2.2.1 (Nat.le_refl _) HF.out.1) (Nat.le_refl _) hbk
              have hbk3 : Below w.heap.size w wk := below_next hbwf (Nat.le_refl _) hbk
              exact find_is wk (some ⟨G3, 0, none⟩) n c2 l' hL'.out.2 hc2 (by omega) (HG.out.2.2.1.next hbk2) nm (HB.out.2.1.below hbk3) (HB.out.2.2.2.2.2.below hbk3)
            have HF2 := Lib.hid hf2
            have hxc : ∀ wk, Below wf.heap.size wf wk → wk.cell? ⟨wr.heap.size, 0, none⟩ = some (.string nm) := fun wk hbk => (hbk.cell (p := ⟨wr.heap.size, 0, none⟩) HF.out.2).trans x0
            have HXC := Lib.hid hxc
            clear hf2 hxc hbwf hrg hone h7
            generalize wr.heap.size = bf at *
            refine hf1.mono ?_
            intro e w6 h6
            clear hf1 x0
            cases hu : findS l nm with
            | error er =>
              obtain ⟨hb6, hne, rfl⟩ := unp_bad h6 hu
              have x6 := HXC.out w6 hb6
              have hf3 := HF2.out w6 hb6
              have hu2 : findS l' nm = .error er := by rw [HS.out, hu]
              have H6 := Lib.hid (And.intro hb6 hu2)
              clear h6 hb6 hu hu2
              go_wp2_with fail
              refine hf3.mono ?_
              intro e w7 h7
              obtain ⟨hb7, _, rfl⟩ := unp_bad h7 H6.out.2
              have H7 := Lib.hid (below_next H6.out.1 (Nat.le_refl _) hb7)
              have hs1 := same_trueR (w := w7) (B := 0) (B' := 0) (a := none) (a' := none) (n := 0) (c := 0) (n' := 0) (c' := 0) (l := []) rfl rfl (by unfold maxLen; simp) (Bs.nil_ _ _ _) (Bs.nil_ _ _ _)
              have t5 : (er != er) = false := by simp
              clear h7 hb7 hf3 x6
              go_wp2_with fail
              refine hs1.mono ?_
              rintro e w8 ⟨rfl, d8, rfl⟩
              clear hs1
              go_wp2_with fail
              go_roundw
              case rel => exact ⟨q + 1, by omega, by go_num, Lib.hid (below_next HF.out.1 (Nat.le_refl _) (low_drewN H7.out _))⟩
              case measure => simp [intOf]; omega
            | ok b =>
              obtain ⟨hb6, ax, cx, rfl, hBb, hbl, hox⟩ := unp_ok h6 hu
              have x6 := HXC.out w6 hb6
              have hf3 := HF2.out w6 hb6
              have hu2 : findS l' nm = .ok b := by rw [HS.out, hu]
              have H6 := Lib.hid (And.intro hb6 (And.intro hu2 (And.intro hox hBb)))
              clear h6 hb6 hu hu2 hox hBb
              go_wp2_with fail
              refine hf3.mono ?_
              intro e w7 h7
              obtain ⟨hb7, ay, cy, rfl, _, _, hoy⟩ := unp_ok h7 H6.out.2.1
              have H7 := Lib.hid (below_next H6.out.1 (Nat.le_refl _) hb7)
              have hs1 := same_trueR (w := w7) (a := ax) (a' := ay) (n := b.length) (c := cx) (n' := b.length) (c' := cy) (l := b) rfl rfl (by unfold maxLen; omega) (Bs.of_own (own_below H6.out.2.2.1 hb7) H6.out.2.2.2) (Bs.of_own hoy H6.out.2.2.2)
              clear h7 hb7 hf3 x6 hoy
              go_wp2_with fail
              refine hs1.mono ?_
              rintro e w8 ⟨rfl, d8, rfl⟩
              clear hs1
              go_wp2_with fail
              go_roundw
              case rel => exact ⟨q + 1, by omega, by go_num, Lib.hid (below_next HF.out.1 (Nat.le_refl _) (low_drewN H7.out _))⟩
              case measure => simp [intOf]; omega
        · obtain rfl : m = q := by omega
          go_wp2_with fail
          go_ret
          exact ⟨rfl, below_next H5.out.1 (Nat.le_refl _) HI.out⟩
end Go.Proofs.YtdcpibglbanchaaDoor
