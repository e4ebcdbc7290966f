/- The walk of the law OctetReads: it returns true and turns nothing that was there. Condition: the bytes and the asks lie below the heap's size, the numbers fit their kinds. -/
import Derived.Test.YtkkgfphfilbcdaaWReads
set_option linter.unusedVariables false
namespace Go.Proofs.Ytkkgfphfilbcdaa
open Go.RowKit

theorem own_put {w : World} {base g n c : Nat} {t : TypeId} {l : List Int} (h : w.ownsRow base t 1 (.slice (some ⟨g, 0, none⟩) n c) n (l.map (Value.int .u8))) (k : Nat) (x : Int) :
    (w.setCell ⟨g, k, none⟩ (.int .u8 x)).ownsRow base t 1 (.slice (some ⟨g, 0, none⟩) n c) n ((l.set k x).map (Value.int .u8)) := by
  rw [List.map_set]; exact (h.stored k (.int .u8 x)).1
theorem own_byte {w : World} {base g n c : Nat} {t : TypeId} {l : List Int} (h : w.ownsRow base t 1 (.slice (some ⟨g, 0, none⟩) n c) n (l.map (Value.int .u8))) {k : Nat} (hl : l.length = n) (hk : k < n) :
    w.cell? ⟨g, k, none⟩ = some (.int .u8 (l.getD k 0)) := by
  rw [h.cellAt k (by omega), List.getElem?_map, List.getD_eq_getElem?_getD, List.getElem?_eq_getElem (by omega)]; rfl

theorem drewN_only {g n : Nat} {a w : World} (h : Only g (a.drewN n) w) : Only g a w := ⟨h.os, h.tape, h.output, h.size, h.block⟩
theorem only_at {g b o : Nat} {w w' : World} {v : Value} (ho : Only g w w') (hne : b ≠ g) (hc : w.cell? ⟨b, o, none⟩ = some v) : w'.cell? ⟨b, o, none⟩ = some v := by
  have hlt : b < w.heap.size := by
    rcases Nat.lt_or_ge b w.heap.size with h1 | h1
    · exact h1
    · have : w.heap[b]? = none := Array.getElem?_eq_none h1
      simp [World.cell?, this] at hc
  exact (World.cell?_of_block (w := w) (ho.block b hlt (by intro e; injection e with e; exact hne e))).trans hc
theorem q_ex {P : Program} {f : FuncId} {args : Array Value} {w : World} {n : Nat} {v : Value} (h : Calls P f args (w.drewN n) fun e w' => e = .returned v ∧ ∃ m, w' = (w.drewN n).drewN m) : Calls P f args (w.drewN n) fun e w'' => e = .returned v ∧ ∃ m, w'' = w.drewN m :=
  h.mono fun _ _ ⟨he, m, hm⟩ => ⟨he, n + m, by rw [hm, World.drewN_drewN]⟩
theorem pieces_keep {w w' : World} {gx : Nat} {l m : List Int} {p : Nat} {bad : Bool} {a : Option Addr} (h : Bs w w.heap.size a m) (hX : Rx w gx l p bad) (ho : Only gx w w') : Bs w' w'.heap.size a m := by
  obtain ⟨x, y, z, hg, hx, hy, hz⟩ := rx_heap hX
  exact (bs_ne h hg hx hy hz ho (Nat.le_refl _)).more ho.size
theorem same_pieces {a a' : Option Addr} {c c' : Nat} {l : List Int} {w : World} (hl : l.length ≤ 140737488355328) (hb : Bs w w.heap.size a l) (hb' : Bs w w.heap.size a' l) :
    Calls Try.prog 35 #[.slice a l.length c, .slice a' l.length c'] w fun e w' => e = .returned (.bool true) ∧ ∃ n, w' = w.drewN n :=
  (refSame a a' l.length c l.length c' l l rfl rfl (by simp only [maxLen]; omega) (by simp only [maxLen]; omega) w _ _ hb hb').mono fun e w' ⟨h1, h2⟩ => ⟨by rw [h1]; simp [eqB], h2⟩
set_option maxRecDepth 100000 in
set_option maxHeartbeats 4000000 in
theorem reads_walk (w : World) (a0 : Option Addr) (n0 c0 : Nat) (l : List Int) (hl0 : l.length = n0) (hc0 : n0 ≤ c0) (hm0 : c0 ≤ 140737488351232) (hA0 : a0 = none → c0 = 0) (hb0 : Bs w w.heap.size a0 l)
    (a1 : Option Addr) (c1 : Nat) (q : List (Int × Int)) (hq : q.length ≤ 140737488351232) (hasks : Asks w w.heap.size a1 q) :
    Calls Try.prog 13 #[.slice a0 n0 c0, .slice a1 q.length c1] w fun e w' => e = .returned (.bool true) ∧ Below w.heap.size w w' := by
  subst hl0
  have hLn : a0 = none → l.length = 0 ∧ c0 = 0 := fun h => ⟨by have := hA0 h; omega, hA0 h⟩
  have HLN := Lib.hid hLn; clear hLn hA0
  go_enter Try.func13, Try.ntmps13
  go_wp2_with fail
  refine (octFixed _).mono ?_; rintro e w1 ⟨rfl, hb1⟩
  have hbs1 := hb0.next hb1
  go_wp2_with (at_builtin; refine wpList_app rfl _ _ rfl w1.heap.size (.slice (some ⟨w1.heap.size, 0, none⟩) 0 0) 0 [] rfl (World.ownsRow_lit w1 #[] 0 (Nat.le_refl _) (by decide) rfl) w1.heap.size a0 l.length c0 l rfl rfl (hbs1.alloc (Nat.le_refl _) _) HLN.out (by omega) (by simp) ?_; intro v2 w2 hown2 hg2)
  have hbel2 : Below w1.heap.size w1 w2 := ((Below.refl w1.heap.size w1).alloc (Nat.le_refl _) _).grown hg2 (by simp) (fun k hk => by simp [Value.ownBlock] at hk; omega)
  obtain ⟨ao, co, rfl⟩ := own_shape hown2
  rw [List.nil_append] at hown2
  have own2 := own_cast (n' := l.length) hown2 (by omega) rfl
  clear hown2 hg2
  have hbo := Bs.of_own own2 hb0.1
  have hbs2 := hbs1.next hbel2
  have OWN2 := Lib.hid own2; clear own2
  rw [Nat.zero_add]
  refine (octNewRow ao l.length co l rfl (by omega) w2 hbo).mono ?_; rintro e w3 ⟨gr, ar, cr, rfl, hgr, hhr, hor, hlr, hbel3⟩
  have hbs3 := hbs2.next hbel3
  have HHR := Lib.hid hhr; clear hhr
  have HOR := Lib.hid hor; clear hor
  have HLR := Lib.hid hlr; clear hlr
  go_wp2_with (at_builtin; refine wpList_app rfl _ _ rfl w3.heap.size (.slice (some ⟨w3.heap.size, 0, none⟩) 0 0) 0 [] rfl (World.ownsRow_lit w3 #[] 0 (Nat.le_refl _) (by decide) rfl) w3.heap.size a0 l.length c0 l rfl rfl (hbs3.alloc (Nat.le_refl _) _) HLN.out (by omega) (by simp) ?_; intro v4 w4 hown4 hg4; obtain ⟨ax, cx, rfl⟩ := own_shape hown4)
  have hbel4 : Below w3.heap.size w3 w4 := ((Below.refl w3.heap.size w3).alloc (Nat.le_refl _) _).grown hg4 (by simp) (fun k hk => by simp [Value.ownBlock] at hk; omega)
  rw [List.nil_append] at hown4
  have own4 := own_cast (n' := l.length) hown4 (by omega) rfl
  clear hown4 hg4
  have hs1 := hb1.size
  have hs2 := hbel2.size
  have hs3 := hbel3.size
  have hs4 := hbel4.size
  have lo := OWN2.out.lt
  have lr := HLR.out
  have lx := own4.lt
  have hgr3 := blk_lt HHR.out
  have own5 := (own_below (own_below OWN2.out hbel3) hbel4).alloc (.cells #[.slice ax l.length cx, .int .i64 0, .bool false] 50)
  have orr5 := (own_below HOR.out hbel4).alloc (.cells #[.slice ax l.length cx, .int .i64 0, .bool false] 50)
  have oxx5 := own4.alloc (.cells #[.slice ax l.length cx, .int .i64 0, .bool false] 50)
  have hhr5 : (w4.alloc (.cells #[.slice ax l.length cx, .int .i64 0, .bool false] 50)).heap[gr]? = some (.cells #[.slice ar l.length cr, .int .i64 0, .bool false] 73 (0, 0)) := (Below.heap_alloc w4 _ gr (by omega)).trans ((hbel4.block gr hgr3).trans HHR.out)
  have hhx5 := heap_alloc_new w4 (.cells #[.slice ax l.length cx, .int .i64 0, .bool false] 50)
  have hw5 : Below w.heap.size w (w4.alloc (.cells #[.slice ax l.length cx, .int .i64 0, .bool false] 50)) := ((((hb1.trans (hbel2.mono hs1)).trans (hbel3.mono (by omega))).trans (hbel4.mono (by omega))).alloc (by omega) _)
  obtain ⟨gx, hgx⟩ : ∃ gx, gx = w4.heap.size := ⟨_, rfl⟩
  rw [← hgx] at hhx5 lx ⊢
  have hgx1 : gr < gx := by omega
  have hgx2 : w3.heap.size ≤ gx := by omega
  generalize (w4.alloc (.cells #[.slice ax l.length cx, .int .i64 0, .bool false] 50)) = w5 at *
  have HALL := Lib.hid (And.intro own5 (And.intro orr5 (And.intro oxx5 (And.intro hhr5 (And.intro hhx5 hw5)))))
  have LO := Lib.hid lo
  have LR := Lib.hid lr
  have LX := Lib.hid lx
  clear own5 orr5 oxx5 hhr5 hhx5 hw5 lo lr lx OWN2 HOR HHR HLR own4 hbs1 hbs2 hbs3 hbo hgx hbel2 hbel3 hbel4
  go_loopw [28] (fun i wr => ∃ k : Nat, ∃ xo : List Int, k ≤ l.length ∧ i = .int .i64 k ∧ xo.length = l.length ∧ wr.ownsRow w1.heap.size 5 1 (.slice ao l.length co) l.length (xo.map (Value.int .u8)) ∧
      wr.ownsRow w2.heap.size 5 1 (.slice ar l.length cr) l.length (l.map (Value.int .u8)) ∧ wr.ownsRow w3.heap.size 5 1 (.slice ax l.length cx) l.length (l.map (Value.int .u8)) ∧
      Hid (wr.heap[gr]? = some (.cells #[.slice ar l.length cr, .int .i64 0, .bool false] 73 (0, 0))) ∧ Hid (wr.heap[gx]? = some (.cells #[.slice ax l.length cx, .int .i64 0, .bool false] 50 (0, 0))) ∧ Below w.heap.size w wr) (fun i _ => l.length - (intOf i).toNat)
  case atStart => exact ⟨0, l, Nat.zero_le _, rfl, rfl, HALL.out.1, HALL.out.2.1, HALL.out.2.2.1, HALL.out.2.2.2.1, HALL.out.2.2.2.2.1, HALL.out.2.2.2.2.2⟩
  case round =>
    obtain ⟨k, xo, hk, rfl, hxo, oo, orr, oxx, HR, HX, hbel⟩ := hrel
    by_cases hlt : k < l.length
    · obtain ⟨go, co', eo, ho1, _⟩ := oo.form (by omega)
      injection eo with eo _ ec; subst eo; subst ec
      have h1 := LO.out go rfl
      have c1' := own_byte oo hxo hlt
      have f1 := oo.frozenAt k
      have HS := Lib.hid (And.intro oo (And.intro orr (And.intro oxx hbel)))
      clear oo orr oxx hbel HALL
      generalize xo.getD k 0 = x at *
      go_wp2
      go_roundw
      case rel =>
        obtain ⟨oo, orr, oxx, hbel⟩ := HS.out
        refine ⟨k + 1, xo.set k ((x + 1) % 256), by omega, by go_num, by simpa using hxo, own_put oo k _, ?_, ?_, ?_, ?_, ?_⟩
        · exact ownsRow_setCell_below orr (show go < w2.heap.size by omega) _
        · exact ownsRow_setCell_below oxx (show go < w3.heap.size by omega) _
        · exact (Below.heap_setCell _ ⟨go, k, none⟩ _ gr (show gr ≠ go by omega)).trans HR.out
        · exact (Below.heap_setCell _ ⟨go, k, none⟩ _ gx (show gx ≠ go by omega)).trans HX.out
        · exact hbel.setCell (p := ⟨go, k, none⟩) (show w.heap.size ≤ go by omega) _
      case measure => simp [intOf]; omega
    · obtain rfl : k = l.length := by omega
      have hltr := blk_lt HR.out
      have hltx := blk_lt HX.out
      have hR : Rd wr gr l 0 false := ⟨ar, cr, HR.out, (own_cap orr).1, by omega, bs_under orr hb0.1 (fun k e => LR.out k e), Nat.zero_le _⟩
      have hX : Rx wr gx l 0 false := ⟨ax, cx, HX.out, (own_cap oxx).1, by omega, bs_under oxx hb0.1 (fun k e => (LX.out k e).2), Nat.zero_le _, fun e => by
        subst e
        rcases oxx.2 with ⟨e1, e2⟩ | ⟨g, cap, _, e1, _⟩
        · injection e1 with _ _ e1; exact ⟨e2, e1⟩
        · injection e1 with e1; cases e1⟩
      clear oo orr oxx HR HX HALL
      have hne : gx ≠ gr := by omega
      clear hltr hltx
      go_wp2_with fail
      go_loopw [40] (fun i wr => ∃ k : Nat, ∃ p : Nat, ∃ bad : Bool, k ≤ q.length ∧ i = .int .i64 k ∧ Rd wr gr l p bad ∧ Rx wr gx l p bad ∧ Below w.heap.size w wr) (fun i _ => q.length - (intOf i).toNat)
      case atStart => exact ⟨0, 0, false, Nat.zero_le _, rfl, hR, hX, hbel⟩
      case round =>
        clear hbel hR hX
        obtain ⟨k, p, bad, hk, rfl, hR, hX, hbel⟩ := hrel
        by_cases hlt : k < q.length
        · obtain ⟨b, off, rfl, hbb, d0, d1, hd0, hd1⟩ := (hasks.below hbel).at_ hlt
          have hp : p ≤ l.length := hR.choose_spec.choose_spec.2.2.2.2
          generalize (q.getD k (0, 0)).1 = kd at *
          generalize (q.getD k (0, 0)).2 = n at *
          go_wp2_with fail
          have hwb := hbel.alloc hbel.size (.cells #[.int .u8 kd, .int .i64 n] 52)
          have hRb := rd_low hR ((Below.refl wr.heap.size wr).alloc (Nat.le_refl _) (.cells #[.int .u8 kd, .int .i64 n] 52))
          have hXb := rx_low hX ((Below.refl wr.heap.size wr).alloc (Nat.le_refl _) (.cells #[.int .u8 kd, .int .i64 n] 52))
          have hhb := heap_alloc_new wr (.cells #[.int .u8 kd, .int .i64 n] 52)
          have hgr' : gr < wr.heap.size := blk_lt hR.choose_spec.choose_spec.1
          have hgx' : gx < wr.heap.size := blk_lt hX.choose_spec.choose_spec.1
          obtain ⟨ba, hba⟩ : ∃ ba, ba = wr.heap.size := ⟨_, rfl⟩
          rw [← hba] at hhb hgr' hgx' ⊢
          generalize (wr.alloc (.cells #[.int .u8 kd, .int .i64 n] 52)) = wb at *
          have e0 : wb.cell? ⟨ba, 0, none⟩ = some (.int .u8 kd) := blk_cell hhb 0
          have e1 : wb.cell? ⟨ba, 1, none⟩ = some (.int .i64 n) := blk_cell hhb 1
          have hbr : ba ≠ gr := by omega
          have hbx : ba ≠ gx := by omega
          have HWB := Lib.hid hwb
          have HRB := Lib.hid hRb
          have HXB := Lib.hid hXb
          clear hbel hR hX hhb hba hwb hRb hXb d0 d1 hasks
          refine (rdAt HRB.out).mono ?_; rintro e w' ⟨rfl, rfl⟩
          rcases (show kd % 3 = 0 ∨ kd % 3 = 1 ∨ kd % 3 = 2 by omega) with h3 | h3 | h3
          · have t0 : (kd % 3 == 0) = true := by simp [h3]
            clear h3
            go_wp2_with fail
            go_region_held3 (fun W => W.cell? ⟨ba, 1, none⟩ = some (.int .i64 n))
              (first | go_keep | exact only_at hoB hbx (only_at (w := wb.drew) hoA hbr e1) | exact only_at (w := wb.drew) hoA hbr e1)
              (first | (go_at_call 40; refine (rdNum (l := l) (p := p) (bad := bad) n hd1 (by exact HRB.out)).mono ?_; rintro e wA ⟨rfl, hRA, hoA⟩; have hXA := rx_keeps (w := wb.drew) HXB.out HRB.out hne hoA) | (go_at_call 41; refine (rxNum n hd1 hXA).mono ?_; rintro e wB ⟨rfl, hXB, hoB⟩; have hRB := rd_keeps hRA hXA (Ne.symm hne) hoB))
            have hwB := low_only (low_only HWB.out (drewN_only (n := 1) hoA) (show w.heap.size ≤ gr by omega) (Nat.le_refl _)) hoB (show w.heap.size ≤ gx by omega) (Nat.le_refl _)
            clear e0 e1 hoA hoB hRA hXA HWB HRB HXB
            have hpp : p ≤ stepP p (takes l p bad n) n := by unfold stepP; split <;> omega
            generalize stepP p (takes l p bad n) n = p' at *
            generalize (!takes l p bad n) = bad' at *
            have hp' : p' ≤ l.length := hRB.choose_spec.choose_spec.2.2.2.2
            have hXh := hXB.choose_spec.choose_spec.1
            have x1 : wB.cell? ⟨gx, 1, none⟩ = some (.int .i64 p') := blk_cell hXh 1
            have x2 : wB.cell? ⟨gx, 2, none⟩ = some (.bool bad') := blk_cell hXh 2
            have y1 : IntKind.i64.wrap ((l.length : Int) - p') = (l.length : Int) - p' := IntWalk.i64_in _ (by omega)
            have y2 : decide ((p' : Int) < p) = false := by simp; omega
            have QR := Lib.hid hRB
            have QX := Lib.hid hXB
            have QW := Lib.hid hwB
            clear hXh hRB hXB hwB
            go_wp2_with fail
            go_quiet ((first | (go_at_call 39; exact q_left2 (rdAt (l := l) (p := p') (bad := bad') (by exact QR.out))) | (go_at_call 46; exact q_ex (rdLeft (l := l) (p := p') (bad := bad') (by exact QR.out))) | (go_at_call 47; exact q_left2 (rdBad (l := l) (p := p') (bad := bad') (by exact QR.out)))))
            go_wp2
            go_roundw
            case rel => exact ⟨k + 1, p', bad', by omega, by go_num, QR.out, QX.out, low_drewN QW.out _⟩
            case measure => simp [intOf]; omega
          · have t0 : (kd % 3 == 0) = false := by simp [h3]
            have t1 : (kd % 3 == 1) = true := by simp [h3]
            clear h3
            go_wp2_with fail
            go_region_held3 (fun W => W.cell? ⟨ba, 1, none⟩ = some (.int .i64 n))
              (first | go_keep | exact only_at hoB hbx (only_at (w := wb.drew) hoA hbr e1) | exact only_at (w := wb.drew) hoA hbr e1)
              (first | (go_at_call 42; refine (rdSigned (l := l) (p := p) (bad := bad) n hd1 (by exact HRB.out)).mono ?_; rintro e wA ⟨rfl, hRA, hoA⟩; have hXA := rx_keeps (w := wb.drew) HXB.out HRB.out hne hoA) | (go_at_call 43; refine (rxSigned n hd1 hXA).mono ?_; rintro e wB ⟨rfl, hXB, hoB⟩; have hRB := rd_keeps hRA hXA (Ne.symm hne) hoB))
            have hwB := low_only (low_only HWB.out (drewN_only (n := 1) hoA) (show w.heap.size ≤ gr by omega) (Nat.le_refl _)) hoB (show w.heap.size ≤ gx by omega) (Nat.le_refl _)
            clear e0 e1 hoA hoB hRA hXA HWB HRB HXB
            have hpp : p ≤ stepP p (takes l p bad n) n := by unfold stepP; split <;> omega
            generalize stepP p (takes l p bad n) n = p' at *
            generalize (!takes l p bad n) = bad' at *
            have hp' : p' ≤ l.length := hRB.choose_spec.choose_spec.2.2.2.2
            have hXh := hXB.choose_spec.choose_spec.1
            have x1 : wB.cell? ⟨gx, 1, none⟩ = some (.int .i64 p') := blk_cell hXh 1
            have x2 : wB.cell? ⟨gx, 2, none⟩ = some (.bool bad') := blk_cell hXh 2
            have y1 : IntKind.i64.wrap ((l.length : Int) - p') = (l.length : Int) - p' := IntWalk.i64_in _ (by omega)
            have y2 : decide ((p' : Int) < p) = false := by simp; omega
            have QR := Lib.hid hRB
            have QX := Lib.hid hXB
            have QW := Lib.hid hwB
            clear hXh hRB hXB hwB
            go_wp2_with fail
            go_quiet ((first | (go_at_call 39; exact q_left2 (rdAt (l := l) (p := p') (bad := bad') (by exact QR.out))) | (go_at_call 46; exact q_ex (rdLeft (l := l) (p := p') (bad := bad') (by exact QR.out))) | (go_at_call 47; exact q_left2 (rdBad (l := l) (p := p') (bad := bad') (by exact QR.out)))))
            go_wp2
            go_roundw
            case rel => exact ⟨k + 1, p', bad', by omega, by go_num, QR.out, QX.out, low_drewN QW.out _⟩
            case measure => simp [intOf]; omega
          · have t0 : (kd % 3 == 0) = false := by simp [h3]
            have t1 : (kd % 3 == 1) = false := by simp [h3]
            have t2 : (kd % 3 == 2) = true := by simp [h3]
            clear h3
            have hpb : (piecesOf l p bad n).length ≤ 140737488355328 := by unfold piecesOf piece; split <;> simp <;> omega
            go_wp2_with fail
            go_region_held3 (fun W => W.cell? ⟨ba, 1, none⟩ = some (.int .i64 n))
              (first | go_keep | exact only_at hoB hbx (only_at (w := wb.drew) hoA hbr e1) | exact only_at (w := wb.drew) hoA hbr e1)
              (first | (go_at_call 44; refine (rdBytes (l := l) (p := p) (bad := bad) n hd1 (by exact HRB.out)).mono ?_; rintro e wA ⟨⟨aA, cA, rfl, hcA, hbA, hoA⟩, hRA⟩; have hXA := rx_keeps (w := wb.drew) HXB.out HRB.out hne hoA) | (go_at_call 45; refine (rxBytes n hd1 hXA).mono ?_; rintro e wB ⟨⟨aB, cB, rfl, hcB, hbB, hoB⟩, hXB⟩; have hRB := rd_keeps hRA hXA (Ne.symm hne) hoB; have hbA2 := pieces_keep hbA hXA hoB) | (go_at_call 35; refine (same_pieces hpb hbA2 hbB).mono ?_; rintro e wC ⟨rfl, mC, rfl⟩))
            have hwB := low_only (low_only HWB.out (drewN_only (n := 1) hoA) (show w.heap.size ≤ gr by omega) (Nat.le_refl _)) hoB (show w.heap.size ≤ gx by omega) (Nat.le_refl _)
            clear e0 e1 hoA hoB hRA hXA HWB HRB HXB hbA hbB hbA2 hcA hcB hpb
            have hRC : Rd (wB.drewN mC) gr l _ _ := hRB
            have hXC : Rx (wB.drewN mC) gx l _ _ := hXB
            have hwC := low_drewN hwB mC
            clear hRB hXB hwB
            generalize wB.drewN mC = wC at *
            have hpp : p ≤ stepP p (canB l p bad (decide (0 ≤ n)) n) n := by unfold stepP; split <;> omega
            generalize stepP p (canB l p bad (decide (0 ≤ n)) n) n = p' at *
            generalize (!canB l p bad (decide (0 ≤ n)) n) = bad' at *
            have hp' : p' ≤ l.length := hRC.choose_spec.choose_spec.2.2.2.2
            have hXh := hXC.choose_spec.choose_spec.1
            have x1 : wC.cell? ⟨gx, 1, none⟩ = some (.int .i64 p') := blk_cell hXh 1
            have x2 : wC.cell? ⟨gx, 2, none⟩ = some (.bool bad') := blk_cell hXh 2
            have y1 : IntKind.i64.wrap ((l.length : Int) - p') = (l.length : Int) - p' := IntWalk.i64_in _ (by omega)
            have y2 : decide ((p' : Int) < p) = false := by simp; omega
            have QR := Lib.hid hRC
            have QX := Lib.hid hXC
            have QW := Lib.hid hwC
            clear hXh hRC hXC hwC
            go_wp2_with fail
            go_quiet ((first | (go_at_call 39; exact q_left2 (rdAt (l := l) (p := p') (bad := bad') (by exact QR.out))) | (go_at_call 46; exact q_ex (rdLeft (l := l) (p := p') (bad := bad') (by exact QR.out))) | (go_at_call 47; exact q_left2 (rdBad (l := l) (p := p') (bad := bad') (by exact QR.out)))))
            go_wp2
            go_roundw
            case rel => exact ⟨k + 1, p', bad', by omega, by go_num, QR.out, QX.out, low_drewN QW.out _⟩
            case measure => simp [intOf]; omega
        · obtain rfl : k = q.length := by omega
          go_wp2_with fail
          go_ret
          exact ⟨rfl, hbel⟩
end Go.Proofs.Ytkkgfphfilbcdaa
