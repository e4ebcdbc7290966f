/- The walk of the law PrefixBack: it returns true and turns nothing that was there. Condition: the lengths and the symbols fit their kinds. -/
import Derived.Test.YtokechaflhgmiaaBack5
set_option linter.unusedVariables false
namespace Go.Proofs.Ytokechaflhgmiaa
open Go.RowKit

set_option maxRecDepth 100000 in
set_option maxHeartbeats 4000000 in
theorem prefixback_walk (w : World) (a : Option Addr) (n c : Nat) (q : List Int) (hn : q.length = n) (hnc : n ≤ c) (hm : c * 8 ≤ 140737488351232) (hA : a = none → c = 0) (hb : Ints .i64 w w.heap.size a q)
    (a1 : Option Addr) (n1 c1 : Nat) (y : List Int) (hn1 : y.length = n1) (hnc1 : n1 ≤ c1) (hm1 : c1 * 2 ≤ 140737488351232) (hb1 : Ints .u16 w w.heap.size a1 y) :
    Calls Try.prog 5 #[.slice a n c, .slice a1 n1 c1] w fun e w' => e = .returned (.bool true) ∧ Below w.heap.size w w' := by
  subst hn
  subst hn1
  have HA := Lib.hid hA; clear hA
  go_enter Try.func5, Try.ntmps5
  go_wp2_with fail
  refine (fixed5 _).mono ?_
  rintro e w1 ⟨rfl, hw1⟩
  have hbx := (hb.below hw1).more hw1.size
  go_wp2_with (at_builtin; refine wpList_copy rfl _ _ rfl w1 0 rfl rfl a q.length c q rfl rfl hbx HA.out hnc hm ?_; intro a2 c2 w2 hi2 hown2 hb2)
  have hw2 := below_next hw1 (Nat.le_refl _) hb2
  clear hbx hb2 hown2
  refine (new_is a2 q.length c2 q rfl (by omega) hi2 true).mono ?_
  intro e w3 hnew
  have hw3 := below_next hw2 (Nat.le_refl _) hnew.1
  rcases hnew.2 with ⟨hne, rfl⟩ | ⟨h0, g, rfl, hp⟩
  · have hd : (errN q true == 0) = false := by simpa using hne
    clear hnew hi2 hw2
    generalize errN q true = er at *
    go_wp2_with fail
    go_ret
    exact ⟨rfl, hw3⟩
  · obtain ⟨h288, hin, hok⟩ := errN_zero h0
    have HK := Lib.hid (And.intro (okN_kraft hok) (And.intro (inR_le hin) hin))
    have hnl : (nsOf q).length = q.length := by simp [nsOf]
    have hs3 := hw3.size
    have hst : BackSt w (w3.alloc (.cells #[.slice none 0 0, .int .i64 0] 52)) g (nsOf q) w3.heap.size w3.heap.size [] [] none 0 none 0 :=
      ⟨wt_new w3 w3.heap.size, World.ownsRow_nil _ _ _ _, fun i hi => by simp [Value.ownBlock] at hi, (hp.more fun b hb => hb.2).keep fun b hb => Below.heap_alloc _ _ _ hb, fun s hs => by simp at hs, hw3.alloc hs3 _, hs3, Nat.le_refl _⟩
    have HST := Lib.hid hst
    clear hst hnew hi2 hw2 hin hok h0 hp
    go_wp2_with fail
    have hw4 : w3.heap.size < (w3.alloc (.cells #[.slice none 0 0, .int .i64 0] 52)).heap.size := by simp
    generalize (w3.alloc (.cells #[.slice none 0 0, .int .i64 0] 52)) = w4 at *
    generalize w3.heap.size = B at *
    go_loopw [8, 9] (fun v8 i wr => ∃ (k : Nat) (ss : List Nat) (a : Option Addr) (c : Nat) (pa : Option Addr) (pc : Nat), k ≤ y.length ∧ k ≤ 300 ∧ ss.length ≤ k ∧ i = .int .i64 k ∧ v8 = .slice pa ss.length pc ∧ Hid (BackSt w wr g (nsOf q) B B ss (codeB (nsOf q) ss) a c pa pc) ∧ B < wr.heap.size) (fun _ i _ => 300 - (intOf i).toNat)
    case atStart => exact ⟨0, [], none, 0, none, 0, Nat.zero_le _, Nat.zero_le _, Nat.zero_le _, rfl, rfl, HST, hw4⟩
    case round =>
      clear HST hw4 w4
      obtain ⟨k, ss, aw, cw, pa, pc, hk, hk3, hssk, rfl, rfl, H, hBr⟩ := hrel
      by_cases hlt : k < y.length ∧ k < 300
      · obtain ⟨hlt, hlt3⟩ := hlt
        have i0 : (k : Int) < y.length := by omega
        have i1 : (k : Int) < 300 := by omega
        obtain ⟨b, off, rfl, hbo, hc, hwf⟩ := (hb1.below H.out.2.2.2.2.2.1).at_ hlt
        have hx := bd_u16 hwf
        generalize y.getD k 0 = x at *
        obtain ⟨X, rfl⟩ := Int.eq_ofNat_of_zero_le hx.1
        obtain ⟨S, hS⟩ : ∃ S : Nat, S = if 0 < q.length then X % q.length else X := ⟨_, rfl⟩
        have hS2 : S ≤ 65535 := by
          rw [hS]; split
          · have := Nat.mod_le X q.length; omega
          · omega
        have hwd := fun (W : World) (hp : PC W (fun b => b < B) g (nsOf q)) => word_is hp (by omega) (S : Int) (by omega)
        have hrem : (0 < q.length) → (X : Int).tmod q.length = (S : Int) := fun h => by rw [hS, if_pos h]; rfl
        have hrem0 : ¬ (0 < q.length) → X = S := fun h => by rw [hS, if_neg h]
        have HS := Lib.hid hS
        clear hS hwf
        by_cases hq : 0 < q.length
        · have j0 : (0 : Int) < (q.length : Int) := by omega
          have hr := hrem hq
          have hSlt : S < q.length := by rw [HS.out, if_pos hq]; exact Nat.mod_lt _ hq
          clear hrem hrem0
          obtain ⟨x1, x2⟩ := nsOf_get HK.out.2.2 S
          obtain ⟨N, hN⟩ : ∃ N, (nsOf q).getD S 0 = N := ⟨_, rfl⟩
          rw [hN] at x2
          have hcall := hwd wr H.out.2.2.2.1
          by_cases hN0 : N = 0
          · have hwo : wordOf (nsOf q) (S : Int) = (0, 0) := by
              unfold wordOf
              rw [if_neg (fun h => h.2.2 (by rw [Int.toNat_natCast, hN, hN0]))]
            rw [hwo] at hcall
            clear hwd hwo HS x1 hN hN0
            go_wp2_with fail
            refine hcall.mono ?_
            rintro e w5 ⟨rfl, hb5⟩
            have H5 := Lib.hid (H.out.below hb5)
            have hs5 := hb5.size
            clear H hb5 hcall
            go_wp2_with fail
            exact ⟨⟨k + 1, ss, aw, cw, pa, pc, by omega, by omega, by omega, by go_num, rfl, H5, by omega⟩, by simp [intOf]; omega⟩
          · obtain ⟨V, hV⟩ : ∃ V, pword (nsOf q) S = V := ⟨_, rfl⟩
            have hwo : wordOf (nsOf q) (S : Int) = ((V : Int), (N : Int)) := by
              unfold wordOf
              rw [Int.toNat_natCast, if_pos ⟨by omega, by omega, by rw [hN]; exact hN0⟩, hV, hN]
            have hVlt := pword_bound HK.out.2.1 HK.out.1 (s := S) (by omega) (by omega)
            rw [hN, hV] at hVlt
            obtain ⟨P, p1, p2, p3, p4⟩ := pow_small x2
            rw [p2] at hVlt
            rw [hwo] at hcall
            have hnew : codeB (nsOf q) (ss ++ [S]) = codeB (nsOf q) ss ++ wbits V N N := by rw [codeB_snoc, hV, hN]
            have hS1 : S < (nsOf q).length ∧ 1 ≤ (nsOf q).getD S 0 := by rw [hN]; omega
            have HC := Lib.hid (And.intro hnew hS1)
            have i2 : ((N : Int) == 0) = false := by simp; omega
            clear hwd hwo HS x1 hV p1 p2 hnew hS1
            go_wp2_with fail
            refine hcall.mono ?_
            rintro e w5 ⟨rfl, hb5⟩
            have hs5 := hb5.size
            clear hcall
            have hown5 := (own_below H.out.2.1 hb5).alloc (.cells #[.int .i64 (S : Int)] 3)
            have hb5' : Below wr.heap.size wr (w5.alloc (.cells #[.int .i64 (S : Int)] 3)) := hb5.alloc hs5 _
            go_wp2_with (at_builtin; refine wpList_appG 22 3 (.int .i64 0) 8 Try.underlying22 int_info rfl rfl _ _ rfl B (.slice pa ss.length pc) ss.length _ rfl hown5 (some ⟨w5.heap.size, 0, none⟩) 1 1 [.int .i64 (S : Int)] rfl rfl (src_one w5 _ _) (by intro u hu; simp at hu; subst hu; rfl) (by simp) (by simp only [maxLen]; omega) (by omega) (by simp; omega) ?_; intro v6 w6 hown6 hg6 hl6)
            obtain ⟨pa6, pc6, rfl⟩ := own_shape hown6
            have hst6 := H.out.app HC.out.2 hb5' hg6 hown6 hl6
            have hs6 := hg6.size
            have hlen6 : (ss ++ [S]).length = ss.length + 1 := by simp
            have H6 : Hid (BackSt w w6 g (nsOf q) B B (ss ++ [S]) (codeB (nsOf q) ss ++ wbits V N 0) aw cw pa6 pc6) := Lib.hid (by simpa [wbits] using hst6)
            have hB6 : B < w6.heap.size := by simp at hs6; omega
            have hbc := codeB_len HK.out.2.1 ss
            have HLEN := Lib.hid hlen6
            clear hst6 hown6 hg6 hl6 H hb5 hb5' hown5 hlen6
            obtain ⟨wo, hwo⟩ : ∃ x, x = wr := ⟨_, rfl⟩
            subst hwo
            go_wp2_with fail
            go_loopw [13] (fun v13 wr => ∃ (m : Nat) (a : Option Addr) (c : Nat), m ≤ N ∧ v13 = .int .i64 ((N : Int) - 1 - m) ∧ Hid (BackSt w wr g (nsOf q) B B (ss ++ [S]) (codeB (nsOf q) ss ++ wbits V N m) a c pa6 pc6) ∧ B < wr.heap.size) (fun v13 _ => (intOf v13 + 1).toNat)
            case atStart => exact ⟨0, aw, cw, Nat.zero_le _, by congr 1; omega, H6, hB6⟩
            case round =>
              clear H6 hB6
              obtain ⟨m, a6, c6, hmN, rfl, HQ, hBq⟩ := hrel
              by_cases hml : m < N
              · have j1 : (N : Int) - 1 - m ≥ 0 := by omega
                obtain ⟨kk, hkk⟩ : ∃ kk : Nat, (N : Int) - 1 - m = kk := ⟨N - 1 - m, by omega⟩
                obtain ⟨T, T1, T2, T3, T4⟩ := pow_small (show kk ≤ 15 by omega)
                have hput := wrPutI HQ.out.1 (by rw [List.length_append, wbits_len]; omega) (by omega) 1 1 rfl (by decide) ((V : Int) / 2 ^ (N - 1 - m)) (by
                  rw [(by omega : N - 1 - m = kk), T1]
                  have h0 : 0 ≤ (V : Int) / (T : Int) := Int.ediv_nonneg (by omega) (by omega)
                  have h1 : (V : Int) / (T : Int) ≤ V := Int.ediv_le_self _ (by omega)
                  omega)
                rw [put_word, (by omega : N - 1 - m = kk), T1] at hput
                have HKK := Lib.hid hkk
                have hsh : (V : Int) / 2 ^ min (IntKind.u64.wrap (kk : Int)).toNat 64 = (V : Int) / (T : Int) := by
                  rw [IntWalk.u64_in _ (by omega), Int.toNat_natCast, Nat.min_eq_left (by omega), T1]
                have HSH := Lib.hid hsh
                have hk0 : kk + m + 1 = N := by omega
                rw [hkk]
                clear hkk T2 hsh
                go_wp2_with fail
                refine hput.mono ?_
                rintro e w7 ⟨rfl, a7, c7, hw7, hf7, hl7⟩
                have H7 := Lib.hid (HQ.out.put hw7 hf7 hl7)
                have hs7 := hf7.size
                clear hput hw7 hf7 hl7 HQ
                go_wp2_with fail
                exact ⟨⟨m + 1, a7, c7, by omega, by congr 1; omega, H7, by omega⟩, by simp [intOf]⟩
              · obtain rfl : m = N := by omega
                have j1 : ¬ ((m : Int) - 1 - m ≥ 0) := by omega
                have HQ2 : Hid (BackSt w wr g (nsOf q) B B (ss ++ [S]) (codeB (nsOf q) (ss ++ [S])) a6 c6 pa6 pc6) := Lib.hid (by rw [HC.out.1]; exact HQ.out)
                clear HQ
                go_wp2_with fail
                exact ⟨⟨k + 1, ss ++ [S], a6, c6, pa6, pc6, by omega, by omega, by rw [HLEN.out]; omega, by go_num, by rw [HLEN.out], HQ2, hBq⟩, by simp [intOf]; omega⟩
        · obtain rfl := hrem0 hq
          have hq0 : q.length = 0 := by omega
          have j0 : ¬ ((0 : Int) < (q.length : Int)) := by omega
          have hwo : wordOf (nsOf q) (X : Int) = (0, 0) := by unfold wordOf; rw [if_neg (by omega)]
          have hcall := hwd wr H.out.2.2.2.1
          rw [hwo] at hcall
          clear hrem hrem0 hwd hwo HS hq0
          go_wp2_with fail
          refine hcall.mono ?_
          rintro e w5 ⟨rfl, hb5⟩
          have H5 := Lib.hid (H.out.below hb5)
          have hs5 := hb5.size
          clear H hb5 hcall
          go_wp2_with fail
          exact ⟨⟨k + 1, ss, aw, cw, pa, pc, by omega, by omega, by omega, by go_num, rfl, H5, by omega⟩, by simp [intOf]; omega⟩
      · have hbc := codeB_len HK.out.2.1 ss
        have hpl := pk_len (codeB (nsOf q) ss)
        have hlen1 : (pk (codeB (nsOf q) ss)).length ≤ 140737488355328 := by omega
        clear hpl
        have hbytes := pk_bytes (codeB (nsOf q) ss)
        have hwb := wrBytes H.out.1 hbytes hlen1
        have hnc := fun i hi => next_code HK.out.2.1 HK.out.1 H.out.2.2.2.2.1 (i := i) hi
        have HNC := Lib.hid hnc
        clear hnc
        have h0 : (codeB (nsOf q) (ss.take 0)).length = 0 := by simp [codeB]
        have hL : (codeB (nsOf q) (ss.take ss.length)).length = (codeB (nsOf q) ss).length := by rw [List.take_length]
        have HL := Lib.hid (And.intro h0 hL)
        clear h0 hL
        generalize codeB (nsOf q) ss = L at *
        obtain ⟨wo, hwo⟩ : ∃ x, x = wr := ⟨_, rfl⟩
        subst hwo
        have hex : (decide ((k : Int) < y.length) && decide ((k : Int) < 300)) = false := by simp; omega
        by_cases hk1 : k < y.length
        · have i0 : (k : Int) < y.length := by omega
          have i1 : ¬ ((k : Int) < 300) := by omega
          clear hex
          go_wp2_with fail
          refine hwb.mono ?_
          rintro e w5 ⟨ab, cb, rfl, hob, hb5⟩
          have hs5 := hb5.size
          have hbs5 := Bs.of_own hob hbytes
          clear hwb hob
          go_wp2_with fail
          refine (bitNew ab (pk L).length cb (pk L) rfl hlen1 w5 hbs5).mono ?_
          rintro e w6 ⟨gr, ar, cr, rfl, hgr, hhr, hor, hlr, hb6⟩
          have hr6 := rdr_of_row (T := 71) (l := pk L) (p := 0) hhr hor hbytes hlen1 hlr (by omega)
          have hgr6 := blk_lt hhr
          have hb6' : Below wo.heap.size wo w6 := hb5.trans (hb6.mono hs5)
          have H6 := Lib.hid (And.intro hr6 hb6')
          have hgo : wo.heap.size ≤ gr := by omega
          clear hhr hor hlr hb6 hr6 hb6' hb5 hbs5 hgr
          go_wp2_with fail
          go_loopw [83] (fun i wr => ∃ j : Nat, j ≤ ss.length ∧ i = .int .i64 j ∧ Hid (Rdr 71 wr gr (pk L) (codeB (nsOf q) (ss.take j)).length ∧ Below wo.heap.size wo wr)) (fun i _ => ss.length - (intOf i).toNat)
          case atStart => exact ⟨0, Nat.zero_le _, rfl, Lib.hid ⟨by rw [HL.out.1]; exact H6.out.1, H6.out.2⟩⟩
          case round =>
            clear H6
            obtain ⟨j, hj, rfl, HR⟩ := hrel
            have hst := H.out.below HR.out.2
            by_cases hjl : j < ss.length
            · obtain ⟨go, co, eo, ho1, _⟩ := hst.2.1.form (by omega)
              injection eo with eo _ ec; subst eo; subst ec
              have c1 : wr.cell? ⟨go, j, none⟩ = some (.int .i64 ((ss.getD j 0 : Nat) : Int)) := by
                rw [hst.2.1.cellAt j (by omega), List.getElem?_map, List.getD_eq_getElem?_getD, List.getElem?_eq_getElem hjl]; rfl
              have hnx := next_is (w := wr) (fun b hb => ⟨by have := blk_lt hst.1.1; omega, by omega⟩) hst.2.2.2.1 HR.out.1
              rw [HNC.out j hjl] at hnx
              generalize ss.getD j 0 = sy at *
              have i0 : (j : Int) < ss.length := by omega
              clear hst
              go_wp2_with fail
              refine hnx.mono ?_
              rintro e w7 ⟨rfl, hr7, ho7⟩
              have hb7 := low_only HR.out.2 ho7 hgo (Nat.le_refl _)
              have H7 := Lib.hid (And.intro hr7 hb7)
              clear hnx hr7 hb7 HR ho7
              go_wp2_with fail
              exact ⟨⟨j + 1, by omega, by go_num, H7⟩, by simp [intOf]; omega⟩
            · obtain rfl : j = ss.length := by omega
              have hr := HR.out.1
              rw [HL.out.2] at hr
              have hat := bitAtN hr
              have hln := wrLen hst.1
              have HF := Lib.hid hst.2.2.2.2.2.1
              clear hr hst HR
              go_wp2_with fail
              refine hat.mono ?_
              rintro e w' ⟨rfl, rfl⟩
              go_wp2_with fail
              refine hln.mono ?_
              rintro e w' ⟨rfl, rfl⟩
              go_wp2_with fail
              go_ret
              exact ⟨by simp, HF.out⟩
        · have i0 : ¬ ((k : Int) < y.length) := by omega
          clear hex
          go_wp2_with fail
          refine hwb.mono ?_
          rintro e w5 ⟨ab, cb, rfl, hob, hb5⟩
          have hs5 := hb5.size
          have hbs5 := Bs.of_own hob hbytes
          clear hwb hob
          go_wp2_with fail
          refine (bitNew ab (pk L).length cb (pk L) rfl hlen1 w5 hbs5).mono ?_
          rintro e w6 ⟨gr, ar, cr, rfl, hgr, hhr, hor, hlr, hb6⟩
          have hr6 := rdr_of_row (T := 71) (l := pk L) (p := 0) hhr hor hbytes hlen1 hlr (by omega)
          have hgr6 := blk_lt hhr
          have hb6' : Below wo.heap.size wo w6 := hb5.trans (hb6.mono hs5)
          have H6 := Lib.hid (And.intro hr6 hb6')
          have hgo : wo.heap.size ≤ gr := by omega
          clear hhr hor hlr hb6 hr6 hb6' hb5 hbs5 hgr
          go_wp2_with fail
          go_loopw [83] (fun i wr => ∃ j : Nat, j ≤ ss.length ∧ i = .int .i64 j ∧ Hid (Rdr 71 wr gr (pk L) (codeB (nsOf q) (ss.take j)).length ∧ Below wo.heap.size wo wr)) (fun i _ => ss.length - (intOf i).toNat)
          case atStart => exact ⟨0, Nat.zero_le _, rfl, Lib.hid ⟨by rw [HL.out.1]; exact H6.out.1, H6.out.2⟩⟩
          case round =>
            clear H6
            obtain ⟨j, hj, rfl, HR⟩ := hrel
            have hst := H.out.below HR.out.2
            by_cases hjl : j < ss.length
            · obtain ⟨go, co, eo, ho1, _⟩ := hst.2.1.form (by omega)
              injection eo with eo _ ec; subst eo; subst ec
              have c1 : wr.cell? ⟨go, j, none⟩ = some (.int .i64 ((ss.getD j 0 : Nat) : Int)) := by
                rw [hst.2.1.cellAt j (by omega), List.getElem?_map, List.getD_eq_getElem?_getD, List.getElem?_eq_getElem hjl]; rfl
              have hnx := next_is (w := wr) (fun b hb => ⟨by have := blk_lt hst.1.1; omega, by omega⟩) hst.2.2.2.1 HR.out.1
              rw [HNC.out j hjl] at hnx
              generalize ss.getD j 0 = sy at *
              have i0 : (j : Int) < ss.length := by omega
              clear hst
              go_wp2_with fail
              refine hnx.mono ?_
              rintro e w7 ⟨rfl, hr7, ho7⟩
              have hb7 := low_only HR.out.2 ho7 hgo (Nat.le_refl _)
              have H7 := Lib.hid (And.intro hr7 hb7)
              clear hnx hr7 hb7 HR ho7
              go_wp2_with fail
              exact ⟨⟨j + 1, by omega, by go_num, H7⟩, by simp [intOf]; omega⟩
            · obtain rfl : j = ss.length := by omega
              have hr := HR.out.1
              rw [HL.out.2] at hr
              have hat := bitAtN hr
              have hln := wrLen hst.1
              have HF := Lib.hid hst.2.2.2.2.2.1
              clear hr hst HR
              go_wp2_with fail
              refine hat.mono ?_
              rintro e w' ⟨rfl, rfl⟩
              go_wp2_with fail
              refine hln.mono ?_
              rintro e w' ⟨rfl, rfl⟩
              go_wp2_with fail
              go_ret
              exact ⟨by simp, HF.out⟩
end Go.Proofs.Ytokechaflhgmiaa
