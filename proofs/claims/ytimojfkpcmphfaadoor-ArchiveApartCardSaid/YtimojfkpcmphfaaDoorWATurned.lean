/- The law ArchiveTurned: walk. Condition: the variable internal/bytealg.MaxLen has a value. -/
import Derived.Test.YtimojfkpcmphfaaDoorEf
import Derived.Test.YtimojfkpcmphfaaDoorWAReads
set_option linter.unusedVariables false
set_option maxRecDepth 100000
namespace Go.Proofs.YtimojfkpcmphfaaDoor
open Go.RowKit Go.Maps Go.ChangeMaps

theorem copy_own2 {w : World} {ops : Array Oper} {rest : List Oper} {o : Oper} {a : Act} {Q : Exit → Act → World → Prop} (hgd : o.guard = none) (s x : Operand)
    (ho : o.op = .call { callee := .builtin .append, args := #[s, x], argTypes := #[22, 22] }) (w0 : World) (hw : w = w0.alloc (.cells #[] 5)) (hs : a.eval s = .slice (some ⟨w0.heap.size, 0, none⟩) 0 0) (A : Option Addr) (m c : Nat) (l : List Int) (hm : l.length = m) (hc : m ≤ c) (hx : a.eval x = .slice A m c) (hb : Bs w0 w0.heap.size A l) (hA : A = none → c = 0) (hM : m ≤ 140737488351232)
    (h : ∀ a' c' w', w'.ownsRow w0.heap.size 5 1 (.slice a' m c') m (l.map (Value.int .u8)) → Below w0.heap.size w0 w' → wpList Tryd.prog ops Q rest (a.put o.dst (.slice a' m c')) w') : wpList Tryd.prog ops Q (o :: rest) a w := by
  subst hw
  refine wpList_app2 hgd s x ho w0.heap.size (.slice (some ⟨w0.heap.size, 0, none⟩) 0 0) 0 [] hs (World.ownsRow_lit w0 #[] 0 (Nat.le_refl _) (by decide) rfl) w0.heap.size A m c l hx hm (hb.alloc (Nat.le_refl _) _) (fun e => by have := hA e; omega) (by omega) (by simp) ?_
  intro v3 w3 hown3 hg3 hob3
  have hb3 : Below w0.heap.size w0 w3 := ((Below.refl w0.heap.size w0).alloc (Nat.le_refl _) _).grown hg3 (by simp) (fun j e => by simp [Value.ownBlock] at e; omega)
  obtain ⟨a3, c3, rfl⟩ := own_shape hown3
  rw [Nat.zero_add]
  exact h a3 c3 w3 (own_cast hown3 (Nat.zero_add m) (show ([] ++ l : List Int).map (Value.int .u8) = l.map (Value.int .u8) by rw [List.nil_append])) hb3
theorem rec_st {ops : Array Oper} {rest : List Oper} {op : Oper} {a : Act} {W : World} {Q : Exit → Act → World → Prop} {x y : Operand} {cs old : Array Value} (hgd : op.guard = none) (ho : op.op = .store 32 x y) (b : Nat) (hx : a.eval x = .pointer (some ⟨b, 0, none⟩)) (hy : a.eval y = .agg cs) (hs : cs.size = 7) (ho' : old.size = 7) (h1 : cs.all (·.oneCell') = true) (hh : W.heap[b]? = some (.cells old 32 (0, 0)))
    (h : ∀ W', W'.heap[b]? = some (.cells cs 32 (0, 0)) → Only b W W' → wpList Tryd.prog ops Q rest (a.put op.dst undef) W') : wpList Tryd.prog ops Q (op :: rest) a W :=
  wpList_skp hgd (y_store ho hx hy (by
    simp only [Instr.storeAt, Instr.sureAddr, Sem.run_bind, Sem.run_pure, Result.andThen_ok, run_storeVar_row W b 32 32 old cs hh (by rw [hs]; exact rec_info7) (by omega) h1])) (h _ (setRow_heap _ _ _ _ _ _ hh) ⟨rfl, rfl, rfl, by simp, fun k hk hne => setRow_other W b k cs (fun e => hne (by rw [e]))⟩)
/-- the least place of a local header, or m -/
def leastS (l : List Int) (m : Nat) : List (Nat × Nat) → Nat
  | [] => m
  | e :: es => leastS l (min m (hdL l e.1)) es
theorem leastS_snoc (l : List Int) : ∀ (es : List (Nat × Nat)) (m : Nat) (e : Nat × Nat), leastS l m (es ++ [e]) = min (leastS l m es) (hdL l e.1)
  | [], m, e => rfl
  | x :: es, m, e => by show leastS l _ (es ++ [e]) = _; rw [leastS_snoc l es]; rfl
theorem leastS_le (l : List Int) : ∀ (es : List (Nat × Nat)) (m : Nat), leastS l m es ≤ m ∧ ∀ e ∈ es, leastS l m es ≤ hdL l e.1
  | [], m => ⟨Nat.le_refl _, fun e h => by cases h⟩
  | x :: es, m => by
    obtain ⟨h1, h2⟩ := leastS_le l es (min m (hdL l x.1))
    refine ⟨Nat.le_trans h1 (Nat.min_le_left _ _), fun e he => ?_⟩
    rcases List.mem_cons.1 he with rfl | he
    · exact Nat.le_trans h1 (Nat.min_le_right _ _)
    · exact h2 e he
theorem dirX_inv {l : List Int} {es : List (Nat × Nat)} (h : dirX l = .ok es) : l.length ≤ 65536 ∧ dirS l = .ok es := by
  unfold dirX at h
  split at h
  · cases h
  · exact ⟨by omega, h⟩
theorem xor_bd (x y : Int) : 0 ≤ bits .xor .u8 x y ∧ bits .xor .u8 x y ≤ 255 := by
  have e : bits .xor .u8 x y = IntKind.u8.wrap (((BitVec.ofInt 8 x ^^^ BitVec.ofInt 8 y).toNat : Nat) : Int) := rfl
  rw [e, u8_wrap']; omega
theorem own_frozen {w : World} {base G n c sz : Nat} {t : TypeId} {xs : List Value} (h : w.ownsRow base t sz (.slice (some ⟨G, 0, none⟩) n c) n xs) (i : Nat) : w.frozen? ⟨G, i, none⟩ = false := by
  rcases h.2 with ⟨e, _⟩ | ⟨g', cap, cur, e, _, hg', _⟩
  · cases e
  · injection e with e1
    injection e1 with e1
    injection e1 with e1
    subst e1
    exact blk_free hg' _
set_option maxHeartbeats 8000000 in
theorem archiveturned_walk (w : World) (a : Option Addr) (n c : Nat) (l : List Int) (hl : l.length = n) (hc : n ≤ c) (hm : c ≤ 140737488351232) (hA : a = none → c = 0) (hb : Bs w w.heap.size a l) (at_ by_ : Int) (hat : 0 ≤ at_ ∧ at_ ≤ 65535) (hby : 0 ≤ by_ ∧ by_ ≤ 255) (hmx : Mx w) :
    Calls Tryd.prog 5 #[.slice a n c, .int .u16 at_, .int .u8 by_] w fun e w' => e = .returned (.bool true) ∧ Below w.heap.size w w' := by
  have hf := fixed9 w hmx
  have hn1 : n ≤ 140737488351232 := by omega
  have HB := Lib.hid (And.intro hb (And.intro hmx (And.intro hl (And.intro hc hA))))
  clear hb hmx hA
  obtain ⟨A, rfl⟩ := Int.eq_ofNat_of_zero_le hat.1
  go_enter Tryd.func5, Tryd.ntmps5
  go_wp2_with fail
  refine hf.mono ?_
  rintro e w1 ⟨rfl, hb1⟩
  have H1 := Lib.hid hb1
  have hd := dirX_is w1 a n c l HB.out.2.2.1 hc (by omega) (HB.out.1.next hb1) (HB.out.2.1.below hb1)
  clear hf hb1
  go_wp2_with fail
  refine hd.mono ?_
  rintro e w2 (⟨er, h1, h2, rfl, hb2⟩ | ⟨es, V, h1, h64, rfl, ho, hb2⟩)
  · have t1 : (er != 0) = true := by simp [h2]
    have H2 := Lib.hid (below_next H1.out (Nat.le_refl _) hb2)
    clear hd hb2 h1 h2
    go_wp2_with fail
    go_ret
    exact ⟨rfl, H2.out⟩
  · obtain ⟨aV, cV, rfl⟩ := own_shape ho
    obtain ⟨hlen, hdS⟩ := dirX_inv h1
    obtain ⟨F, T, N, ps, bs, hK, hes⟩ := dirS_inv HB.out.1.1 hdS
    have hpos : 0 < n := by have := hK.tl; have := HB.out.2.2.1; omega
    have hn65 : n ≤ 65536 := by have := HB.out.2.2.1; omega
    have t1 : decide ((n : Int) > 70000) = false := by simp; omega
    have t2 : ((n : Int) == 0) = false := by simp; omega
    have H2 := Lib.hid (And.intro (below_next H1.out (Nat.le_refl _) hb2) (And.intro ho (And.intro h64 (And.intro hK (And.intro hes hdS)))))
    have hsz1 := H1.out.size
    clear hd hb2 h1 ho h64 hK hes hdS hlen H1
    by_cases h0 : by_ = 0
    · subst h0
      have t3 : decide ((n : Int) > 0) = true := by simp; omega
      have t3' : decide (0 < n) = true := by simp; omega
      go_wp2_with fail
      go_ret
      exact ⟨rfl, H2.out.1⟩
    · have t3 : (by_ == 0) = false := by simp [h0]
      clear h0
      obtain ⟨m, hmE⟩ : ∃ m, es.length = m := ⟨_, rfl⟩
      rw [hmE] at H2
      have HM := Lib.hid hmE
      have hm64 : m ≤ 64 := H2.out.2.2.1
      have hhd : ∀ p, hdL l p ≤ 4294967295 := fun p => by
        have h1 := numL_bd HB.out.1.1 ((p : Int) + 42) 4 (by decide)
        unfold hdL; omega
      have HHD := Lib.hid hhd
      rw [hmE]
      clear hmE hhd
      go_wp2_with fail
      go_loopw [9, 52] (fun v i wr => ∃ q : Nat, q ≤ m ∧ i = .int .i64 q ∧ v = .int .i64 (leastS l n (es.take q) : Nat) ∧ Hid (Below w2.heap.size w2 wr)) (fun _ i _ => m - (intOf i).toNat)
      case atStart => exact ⟨0, Nat.zero_le _, rfl, rfl, Lib.hid (Below.refl _ _)⟩
      case round =>
        obtain ⟨q, hq, rfl, rfl, HI⟩ := hrel
        have hle := (leastS_le l (es.take q) n).1
        by_cases hq2 : q < m
        · obtain ⟨e, he⟩ : ∃ e, es[q]? = some e := ⟨_, List.getElem?_eq_getElem (by rw [HM.out]; exact hq2)⟩
          have hown := own_below H2.out.2.1 HI.out
          obtain ⟨G, cp, hV, _, _⟩ := hown.form (by omega)
          injection hV with hV1 _ hV2
          subst hV1
          subst hV2
          have hrg : wr.rangeAt G (q * 7) (recC l e) := fun j v hv => by
            have hj : j < 7 := (List.getElem?_eq_some_iff.1 hv).1
            rw [hown.cellAt (q * 7 + j) (by omega), recR_at he hj]; exact hv
          have hF : ∀ (wf : World) (o : Obj), wf.heap[wr.heap.size]? = some (.cells (recC l e).toArray 32 (0, 0)) → Only wr.heap.size (wr.alloc o) wf → Hid (Below w2.heap.size w2 wf) ∧ wf.cell? ⟨wr.heap.size, 6, none⟩ = some (.int .i64 (hdL l e.1)) := fun wf o hwf hof => by
            have hbf : Below wr.heap.size wr wf := low_only ((Below.refl wr.heap.size wr).alloc (Nat.le_refl _) o) hof (Nat.le_refl _) (Nat.le_refl _)
            exact ⟨Lib.hid (below_next HI.out (Nat.le_refl _) hbf), by rw [blk_cell hwf]; rfl⟩
          have htake : es.take (q + 1) = es.take q ++ [e] := by rw [List.take_add_one, he]; rfl
          have hsn : leastS l n (es.take (q + 1)) = min (leastS l n (es.take q)) (hdL l e.1) := by rw [htake, leastS_snoc]
          have HS := Lib.hid hsn
          have hone := all_oneCell_toArray (recC_one l e)
          have h7 := recC_len l e
          have hhe := HHD.out e.1
          clear he hown htake hsn
          generalize leastS l n (es.take q) = L0 at *
          generalize hdL l e.1 = hd0 at *
          generalize recC l e = RC at *
          go_wp2_with (first | (refine rec_ld rfl rfl G (q * 7) rfl h7 hrg ?_) | (refine rec_st rfl rfl wr.heap.size rfl rfl (by simpa using h7) rfl hone (heap_alloc_new _ _) ?_; intro wf hwf hof; obtain ⟨HF, x6⟩ := hF wf _ hwf hof; clear hwf hof hF))
          go_roundw
          case rel => exact ⟨q + 1, by omega, by go_num, by rw [HS.out]; congr 1; omega, HF⟩
          case measure => simp [intOf]; omega
        · obtain rfl : m = q := by omega
          have hT : es.take m = es := List.take_of_length_le (by rw [HM.out]; exact Nat.le_refl _)
          have hbw : Below w.heap.size w wr := below_next H2.out.1 (Nat.le_refl _) HI.out
          have hbsr := HB.out.1.next hbw
          have HR := Lib.hid (And.intro hbw (own_below H2.out.2.1 HI.out))
          obtain ⟨k, hk⟩ : ∃ k, A % n = k := ⟨_, rfl⟩
          have hkn : k < n := by rw [← hk]; exact Nat.mod_lt _ hpos
          have hki : (A : Int) % (n : Int) = (k : Int) := by omega
          have hAb : A ≤ 65535 := by omega
          obtain ⟨v0, hv0⟩ : ∃ v0, l.getD k 0 = v0 := ⟨_, rfl⟩
          have hget := HB.out.1.1.at_ k
          rw [hv0] at hget
          have HV := Lib.hid hv0
          clear hv0
          have hHE := Lib.hid (leastS_le l es n)
          rw [hT]
          have hLS := (leastS_le l es n).1
          clear hT hle HI hbw hk
          go_wp2_with (at_builtin; refine copy_own2 rfl _ _ rfl wr rfl rfl a n c l HB.out.2.2.1 HB.out.2.2.2.1 rfl hbsr HB.out.2.2.2.2 hn1 ?_; intro a2 c2 w3 hown3 hb3; obtain ⟨G3, cp3, hV3, hGb3, hGl3⟩ := hown3.form hpos; injection hV3 with hV1 _ hV2; subst hV1; subst hV2; have k1 := own_byte hown3 HB.out.2.2.1 hkn; rw [HV.out] at k1; have z1 := own_frozen hown3 k)
          obtain ⟨X, hX⟩ : ∃ X, bits .xor .u8 v0 by_ = X := ⟨_, rfl⟩
          have hXb : 0 ≤ X ∧ X ≤ 255 := by rw [← hX]; exact xor_bd _ _
          rw [hX]
          have hB' : Bytes (l.set k X) := fun x hx => by
            rcases List.mem_or_eq_of_mem_set hx with h | h
            · exact HB.out.1.1 x h
            · rw [h]; exact hXb
          have hl' : (l.set k X).length = n := by rw [List.length_set]; exact HB.out.2.2.1
          have hown4 := own_put hown3 k X
          have hbs4 : Bs (w3.setCell ⟨G3, k, none⟩ (.int .u8 X)) (w3.setCell ⟨G3, k, none⟩ (.int .u8 X)).heap.size (some ⟨G3, 0, none⟩) (l.set k X) := by
            have := own_cast hown4 hl'.symm rfl
            exact Bs.of_own this hB'
          have hb4 : Below wr.heap.size wr (w3.setCell ⟨G3, k, none⟩ (.int .u8 X)) := hb3.setCell (p := ⟨G3, k, none⟩) hGb3 _
          have hc2 := (own_cap hown3).1
          have hagr : k < leastS l n es → 0 < m → (endP (l.set k X) < 0 ∧ dirX (l.set k X) = .error 9) ∨ (0 ≤ endP (l.set k X) ∧ dirX (l.set k X) = .ok es ∧ recR (l.set k X) es = recR l es) := fun h1 h2 => by
            have hA : ∀ lo hi, k < lo → Agr l (l.set k X) lo hi := fun lo hi hlo => ⟨by rw [List.length_set], fun i a b => by
              rw [List.getD_eq_getElem?_getD, List.getD_eq_getElem?_getD, List.getElem?_set_ne (by omega)]⟩
            obtain ⟨_, _, _, hK, hes, _⟩ := H2.out
            have hx : dirX (l.set k X) = dirS (l.set k X) := by unfold dirX; rw [if_neg (by omega)]
            have hF : k < F := by
              obtain ⟨e, he⟩ : ∃ e, e ∈ es := List.exists_mem_of_length_pos (by rw [HM.out]; exact h2)
              have h3 := hHE.out.2 e he
              rw [hes] at he
              have h4 := (locS_ok (locsS_at hK.locs e he)).1
              omega
            rw [hx, hes]
            exact hK.agr (hA _ _ hF) (fun e he => hA _ _ (by have := hHE.out.2 e (by rw [hes]; exact he); omega))
          have HG := Lib.hid (And.intro hagr (And.intro hb4 hbs4))
          have hmx4 : Mx (w3.setCell ⟨G3, k, none⟩ (.int .u8 X)) := HB.out.2.1.below (below_next HR.out.1 (Nat.le_refl _) hb4)
          have hd := dirX_is _ (some ⟨G3, 0, none⟩) n c2 (l.set k X) hl' hc2 (by omega) hbs4 hmx4
          clear hagr hb4 hbs4 hown4 hown3 hb3 hX hXb hbsr hGl3 hGb3 k1 z1 hmx4
          generalize w3.setCell ⟨G3, k, none⟩ (.int .u8 X) = w4 at *
          generalize l.set k X = l' at *
          have hL' := Lib.hid (And.intro hB' hl')
          clear hB' hl'
          have hbw4 : Below w.heap.size w w4 := below_next HR.out.1 (Nat.le_refl _) HG.out.2.1
          have hrow4 := own_below HR.out.2 HG.out.2.1
          have HW4 := Lib.hid (And.intro hbw4 hrow4)
          clear hbw4 hrow4
          refine hd.mono ?_
          by_cases hC : k < leastS l n es ∧ 0 < m
          · have t4 : decide ((k : Int) < ((leastS l n es : Nat) : Int)) = true := by simp; omega
            have t4' : decide (k < leastS l n es) = true := by simp; omega
            have t5 : decide ((m : Int) > 0) = true := by simp; omega
            have t5' : decide (0 < m) = true := by simp; omega
            have hag := HG.out.1 hC.1 hC.2
            clear hC
            rcases hag with ⟨hp1, hp2⟩ | ⟨hp1, hp2, hp3⟩
            · rintro e w5 (⟨er, h1, h2, rfl, hb5⟩ | ⟨es2, V2, h1, h642, rfl, ho2, hb5⟩)
              · rw [hp2] at h1
                injection h1 with h1
                subst h1
                have hen := refEnd (w := w5) (b := some ⟨G3, 0, none⟩) (c := c2) (l := l') (by rw [hL'.out.2]; exact hc2) (by rw [hL'.out.2]; exact hn65) (HG.out.2.2.next hb5)
                rw [hL'.out.2] at hen
                have t6 : decide (endP l' < 0) = true := by simpa using hp1
                have H5 := Lib.hid (below_next HW4.out.1 (Nat.le_refl _) hb5)
                clear hd hb5 hp1 hp2 h2
                generalize endP l' = P at *
                generalize leastS l n es = L0 at *
                go_wp2_with fail
                refine hen.mono ?_
                rintro e w6 ⟨rfl, hb6⟩
                have H6 := Lib.hid (below_next H5.out (Nat.le_refl _) hb6)
                clear hen hb6
                go_wp2_with fail
                go_ret
                exact ⟨rfl, H6.out⟩
              · rw [hp2] at h1; cases h1
            · rintro e w5 (⟨er, h1, h2, rfl, hb5⟩ | ⟨es2, V2, h1, h642, rfl, ho2, hb5⟩)
              · rw [hp2] at h1; cases h1
              · rw [hp2] at h1
                injection h1 with h1
                subst h1
                rw [hp3, HM.out] at ho2
                have hen := refEnd (w := w5) (b := some ⟨G3, 0, none⟩) (c := c2) (l := l') (by rw [hL'.out.2]; exact hc2) (by rw [hL'.out.2]; exact hn65) (HG.out.2.2.next hb5)
                rw [hL'.out.2] at hen
                have t6 : decide (endP l' < 0) = false := by simpa using hp1
                have H5 := Lib.hid (And.intro (below_next HW4.out.1 (Nat.le_refl _) hb5) (And.intro (own_below HW4.out.2 hb5) ho2))
                clear hd hb5 hp1 hp2 hp3 ho2
                generalize endP l' = P at *
                generalize leastS l n es = L0 at *
                go_wp2_with fail
                refine hen.mono ?_
                rintro e w6 ⟨rfl, hb6⟩
                have hs := sameR (own_below H5.out.2.1 hb6) (own_below H5.out.2.2 hb6) HM.out hm64
                have H6 := Lib.hid (below_next H5.out.1 (Nat.le_refl _) hb6)
                clear hen hb6
                go_wp2_with fail
                refine hs.mono ?_
                rintro e w7 ⟨rfl, d, rfl⟩
                clear hs
                go_wp2_with fail
                go_ret
                exact ⟨rfl, low_drewN H6.out _⟩
          · have t4 : (decide ((k : Int) < ((leastS l n es : Nat) : Int)) = false ∧ decide (k < leastS l n es) = false) ∨ ((decide ((k : Int) < ((leastS l n es : Nat) : Int)) = true ∧ decide (k < leastS l n es) = true) ∧ decide ((m : Int) > 0) = false ∧ decide (0 < m) = false) := by
              by_cases h1 : k < leastS l n es
              · exact .inr ⟨⟨by simp; omega, by simp; omega⟩, by simp; omega, by simp; omega⟩
              · exact .inl ⟨by simp; omega, by simp; omega⟩
            clear hC
            have hrd : ∀ w5, Below w4.heap.size w4 w5 → Calls Tryd.prog 9 #[.slice (some ⟨G3, 0, none⟩) n c2] w5 (DirQ 32 l' w5) := fun w5 hb5 => refDirX_is w5 (some ⟨G3, 0, none⟩) n c2 l' hL'.out.2 hc2 (by omega) (HG.out.2.2.next hb5)
            have HRD := Lib.hid hrd
            clear hrd
            generalize leastS l n es = L0 at *
            rintro e w5 (⟨er, h1, h2, rfl, hb5⟩ | ⟨es2, V2, h1, h642, rfl, ho2, hb5⟩)
            · have hr := HRD.out w5 hb5
              have t7 : (er == er) = true := by simp
              have H5 := Lib.hid (And.intro (below_next HW4.out.1 (Nat.le_refl _) hb5) h1)
              clear hd hb5 h1 h2
              rcases t4 with ⟨t4, t4'⟩ | ⟨⟨t4, t4'⟩, t5, t5'⟩
              all_goals
                go_wp2_with fail
                refine hr.mono ?_
                rintro e w6 (⟨er2, g1, g2, rfl, hb6⟩ | ⟨es3, V3, g1, g64, rfl, go, hb6⟩)
                · have e0 : er = er2 := by have := H5.out.2; rw [g1] at this; injection this with this; exact this.symm
                  subst e0
                  have hs := sameR (w := w6) (B1 := 0) (B2 := 0) (V1 := .slice none 0 0) (V2 := .slice none 0 0) (l := l') (es := []) (World.ownsRow_nil _ _ _ _) (World.ownsRow_nil _ _ _ _) rfl (by decide)
                  have H6 := Lib.hid (below_next H5.out.1 (Nat.le_refl _) hb6)
                  clear hr g1 g2 hb6
                  go_wp2_with fail
                  refine hs.mono ?_
                  rintro e w7 ⟨rfl, d, rfl⟩
                  clear hs
                  go_wp2_with fail
                  go_ret
                  exact ⟨rfl, low_drewN H6.out _⟩
                · have := H5.out.2
                  rw [g1] at this; cases this
            · have hr := HRD.out w5 hb5
              have H5 := Lib.hid (And.intro (below_next HW4.out.1 (Nat.le_refl _) hb5) (And.intro h1 (And.intro ho2 h642)))
              clear hd hb5 h1 ho2 h642
              rcases t4 with ⟨t4, t4'⟩ | ⟨⟨t4, t4'⟩, t5, t5'⟩
              all_goals
                go_wp2_with fail
                refine hr.mono ?_
                rintro e w6 (⟨er2, g1, g2, rfl, hb6⟩ | ⟨es3, V3, g1, g64, rfl, go, hb6⟩)
                · have := H5.out.2.1
                  rw [g1] at this; cases this
                · have e0 : es2 = es3 := by have := H5.out.2.1; rw [g1] at this; injection this with this; exact this.symm
                  subst e0
                  have hs := sameR (own_below H5.out.2.2.1 hb6) go rfl g64
                  have H6 := Lib.hid (below_next H5.out.1 (Nat.le_refl _) hb6)
                  clear hr g1 go hb6 g64
                  go_wp2_with fail
                  refine hs.mono ?_
                  rintro e w7 ⟨rfl, d, rfl⟩
                  clear hs
                  go_wp2_with fail
                  go_ret
                  exact ⟨rfl, low_drewN H6.out _⟩
end Go.Proofs.YtimojfkpcmphfaaDoor
