/- The walk of the law BitsReads: it returns true and turns nothing that was there. Condition: the bytes and the asks lie below the heap's size. -/
import Derived.Test.YtfgifimmdkiejaaBitF
import Derived.Test.YtfgifimmdkiejaaAsk4
set_option linter.unusedVariables false
namespace Go.Proofs.Ytfgifimmdkiejaa
open Go.RowKit

theorem bs_not {w : World} {B g : Nat} {a : Option Addr} {l : List Int} {cs : Array Value} {t : TypeId} (hb : Bs w B a l) (hh : w.heap[g]? = some (.cells cs t (0, 0))) (hno : ∀ (i : Nat) (v : Int), cs[i]? ≠ some (Value.int .u8 v)) {w' : World} (ho : Only g w w') (hB : B ≤ w.heap.size) : Bs w' B a l := by
  refine ⟨hb.1, fun hn => ?_⟩
  obtain ⟨b, off, e, hlt, hc⟩ := hb.2 hn
  have hne : b ≠ g := by
    rintro rfl
    have h0 := hc 0 hn
    rw [blk_cell hh] at h0
    exact hno _ _ h0
  exact ⟨b, off, e, hlt, fun i hi => (World.cell?_of_block (w := w) (ho.block b (by omega) (by intro e; injection e with e; exact hne e))).trans (hc i hi)⟩
theorem rdr_cells {v : Value} {p : Int} (hv : ∀ x : Int, v ≠ Value.int .u8 x) : ∀ (i : Nat) (x : Int), (#[v, Value.int .i64 p] : Array Value)[i]? ≠ some (Value.int .u8 x) := by
  intro i x
  rcases i with _ | _ | i <;> simp
  exact hv x
theorem rdr_keeps {T T2 : TypeId} {w w' : World} {g g2 : Nat} {l l2 : List Int} {p q : Nat} (h : Rdr T w g l p) (h2 : Rdr T2 w g2 l2 q) (hne : g ≠ g2) (ho : Only g2 w w') : Rdr T w' g l p := by
  obtain ⟨a, c, hh, h1, h2', h3, h4, h5⟩ := h
  obtain ⟨a2, c2, hh2, _⟩ := h2
  have hlt := blk_lt hh
  exact ⟨a, c, (ho.block g hlt (by intro e; injection e with e; exact hne e)).trans hh, h1, h2', bs_not h3 hh2 (rdr_cells (fun x => by simp)) ho (Nat.le_of_lt hlt), h4, h5⟩
theorem rdr_low {T : TypeId} {w w' : World} {g : Nat} {l : List Int} {p : Nat} (h : Rdr T w g l p) (hb : Below w.heap.size w w') : Rdr T w' g l p := by
  obtain ⟨a, c, hh, h1, h2, h3, h4, h5⟩ := h
  have hlt := blk_lt hh
  exact ⟨a, c, (hb.block g hlt).trans hh, h1, h2, h3.below (hb.mono (Nat.le_of_lt hlt)), h4, h5⟩
theorem made_keeps {T : TypeId} {w w' : World} {g : Nat} {l l2 : List Int} {p : Nat} {a : Option Addr} (h : Bs w w.heap.size a l) (h2 : Rdr T w g l2 p) (ho : Only g w w') : Bs w' w'.heap.size a l := by
  obtain ⟨a2, c2, hh2, _⟩ := h2
  exact (bs_not h hh2 (rdr_cells (fun x => by simp)) ho (Nat.le_refl _)).more ho.size
theorem q_ex {P : Program} {f : FuncId} {args : Array Value} {w : World} {n : Nat} {v : Value} (h : Calls P f args (w.drewN n) fun e w' => e = .returned v ∧ ∃ m, w' = (w.drewN n).drewN m) : Calls P f args (w.drewN n) fun e w'' => e = .returned v ∧ ∃ m, w'' = w.drewN m :=
  h.mono fun _ _ ⟨he, m, hm⟩ => ⟨he, n + m, by rw [hm, World.drewN_drewN]⟩
theorem only_at {g b o : Nat} {w w' : World} {v : Value} (ho : Only g w w') (hne : b ≠ g) (hc : w.cell? ⟨b, o, none⟩ = some v) : w'.cell? ⟨b, o, none⟩ = some v := by
  have hlt : b < w.heap.size := by
    rcases Nat.lt_or_ge b w.heap.size with h1 | h1
    · exact h1
    · have : w.heap[b]? = none := Array.getElem?_eq_none h1
      simp [World.cell?, this] at hc
  exact (World.cell?_of_block (w := w) (ho.block b hlt (by intro e; injection e with e; exact hne e))).trans hc

set_option maxRecDepth 100000 in
set_option maxHeartbeats 4000000 in
theorem bitreads_walk (w : World) (a0 : Option Addr) (n0 c0 : Nat) (l : List Int) (hl0 : l.length = n0) (hc0 : n0 ≤ c0) (hm0 : c0 ≤ 140737488351232) (hA0 : a0 = none → c0 = 0) (hb0 : Bs w w.heap.size a0 l)
    (a1 : Option Addr) (c1 : Nat) (q : List Ask) (hq : q.length ≤ 140737488351232) (hasks : Asks w w.heap.size a1 q) :
    Calls Try.prog 8 #[.slice a0 n0 c0, .slice a1 q.length c1] w fun e w' => e = .returned (.bool true) ∧ Below w.heap.size w w' := by
  subst hl0
  have HLN : Hid (a0 = none → l.length = 0 ∧ c0 = 0) := Lib.hid fun h => ⟨by have := hA0 h; omega, hA0 h⟩
  clear hA0
  go_enter Try.func8, Try.ntmps8
  go_wp2_with fail
  refine (bitFixed _).mono ?_; rintro e w1 ⟨rfl, hb1⟩
  have hbs1 := hb0.next hb1
  go_wp2_with (at_builtin; refine wpList_app rfl _ _ rfl w1.heap.size (.slice (some ⟨w1.heap.size, 0, none⟩) 0 0) 0 [] rfl (World.ownsRow_lit w1 #[] 0 (Nat.le_refl _) (by decide) rfl) w1.heap.size a0 l.length c0 l rfl rfl (hbs1.alloc (Nat.le_refl _) _) HLN.out (by omega) (by simp) ?_; intro v2 w2 hown2 hg2)
  have hbel2 : Below w1.heap.size w1 w2 := ((Below.refl w1.heap.size w1).alloc (Nat.le_refl _) _).grown hg2 (by simp) (fun k hk => by simp [Value.ownBlock] at hk; omega)
  obtain ⟨ao, co, rfl⟩ := own_shape hown2
  rw [List.nil_append] at hown2
  have own2 := own_cast (n' := l.length) hown2 (by omega) rfl
  clear hown2 hg2
  have hbo := Bs.of_own own2 hb0.1
  have hbs2 := hbs1.next hbel2
  have OWN2 := Lib.hid own2; clear own2
  rw [Nat.zero_add]
  refine (bitNew ao l.length co l rfl (by omega) w2 hbo).mono ?_; rintro e w3 ⟨gr, ar, cr, rfl, hgr, hhr, hor, hlr, hbel3⟩
  have hbs3 := hbs2.next hbel3
  have HHR := Lib.hid hhr; clear hhr
  have HOR := Lib.hid hor; clear hor
  have HLR := Lib.hid hlr; clear hlr
  go_wp2_with (at_builtin; refine wpList_app rfl _ _ rfl w3.heap.size (.slice (some ⟨w3.heap.size, 0, none⟩) 0 0) 0 [] rfl (World.ownsRow_lit w3 #[] 0 (Nat.le_refl _) (by decide) rfl) w3.heap.size a0 l.length c0 l rfl rfl (hbs3.alloc (Nat.le_refl _) _) HLN.out (by omega) (by simp) ?_; intro v4 w4 hown4 hg4; obtain ⟨ax, cx, rfl⟩ := own_shape hown4)
  have hbel4 : Below w3.heap.size w3 w4 := ((Below.refl w3.heap.size w3).alloc (Nat.le_refl _) _).grown hg4 (by simp) (fun k hk => by simp [Value.ownBlock] at hk; omega)
  rw [List.nil_append] at hown4
  have own4 := own_cast (n' := l.length) hown4 (by omega) rfl
  clear hown4 hg4
  have hs1 := hb1.size
  have hs2 := hbel2.size
  have hs3 := hbel3.size
  have hs4 := hbel4.size
  have lo := OWN2.out.lt
  have lr := HLR.out
  have lx := own4.lt
  have hgr3 := blk_lt HHR.out
  have own5 := (own_below (own_below OWN2.out hbel3) hbel4).alloc (.cells #[.slice ax l.length cx, .int .i64 0] 44)
  have orr5 := (own_below HOR.out hbel4).alloc (.cells #[.slice ax l.length cx, .int .i64 0] 44)
  have oxx5 := own4.alloc (.cells #[.slice ax l.length cx, .int .i64 0] 44)
  have hhr5 : (w4.alloc (.cells #[.slice ax l.length cx, .int .i64 0] 44)).heap[gr]? = some (.cells #[.slice ar l.length cr, .int .i64 0] 78 (0, 0)) := (Below.heap_alloc w4 _ gr (by omega)).trans ((hbel4.block gr hgr3).trans HHR.out)
  have hhx5 := heap_alloc_new w4 (.cells #[.slice ax l.length cx, .int .i64 0] 44)
  have hw5 : Below w.heap.size w (w4.alloc (.cells #[.slice ax l.length cx, .int .i64 0] 44)) := ((((hb1.trans (hbel2.mono hs1)).trans (hbel3.mono (by omega))).trans (hbel4.mono (by omega))).alloc (by omega) _)
  obtain ⟨gx, hgx⟩ : ∃ gx, gx = w4.heap.size := ⟨_, rfl⟩
  rw [← hgx] at hhx5 lx ⊢
  have hgx1 : gr < gx := by omega
  have hgx2 : w3.heap.size ≤ gx := by omega
  generalize (w4.alloc (.cells #[.slice ax l.length cx, .int .i64 0] 44)) = w5 at *
  have HALL := Lib.hid (And.intro own5 (And.intro orr5 (And.intro oxx5 (And.intro hhr5 (And.intro hhx5 hw5)))))
  have LO := Lib.hid lo
  have LR := Lib.hid lr
  have LX := Lib.hid lx
  clear own5 orr5 oxx5 hhr5 hhx5 hw5 lo lr lx OWN2 HOR HHR HLR own4 hbs1 hbs2 hbs3 hbo hgx hbel2 hbel3 hbel4
  go_loopw [33] (fun i wr => ∃ k : Nat, ∃ xo : List Int, k ≤ l.length ∧ i = .int .i64 k ∧ xo.length = l.length ∧ wr.ownsRow w1.heap.size 5 1 (.slice ao l.length co) l.length (xo.map (Value.int .u8)) ∧
      wr.ownsRow w2.heap.size 5 1 (.slice ar l.length cr) l.length (l.map (Value.int .u8)) ∧ wr.ownsRow w3.heap.size 5 1 (.slice ax l.length cx) l.length (l.map (Value.int .u8)) ∧
      Hid (wr.heap[gr]? = some (.cells #[.slice ar l.length cr, .int .i64 0] 78 (0, 0))) ∧ Hid (wr.heap[gx]? = some (.cells #[.slice ax l.length cx, .int .i64 0] 44 (0, 0))) ∧ Below w.heap.size w wr) (fun i _ => l.length - (intOf i).toNat)
  case atStart => exact ⟨0, l, Nat.zero_le _, rfl, rfl, HALL.out.1, HALL.out.2.1, HALL.out.2.2.1, HALL.out.2.2.2.1, HALL.out.2.2.2.2.1, HALL.out.2.2.2.2.2⟩
  case round =>
    obtain ⟨k, xo, hk, rfl, hxo, oo, orr, oxx, HR, HX, hbel⟩ := hrel
    by_cases hlt : k < l.length
    · obtain ⟨go, co', eo, ho1, _⟩ := oo.form (by omega)
      injection eo with eo _ ec; subst eo; subst ec
      have h1 := LO.out go rfl
      have c1' := own_byte oo hxo hlt
      have f1 := oo.frozenAt k
      have HS := Lib.hid (And.intro oo (And.intro orr (And.intro oxx hbel)))
      clear oo orr oxx hbel HALL
      generalize xo.getD k 0 = x at *
      go_wp2
      go_roundw
      case rel =>
        obtain ⟨oo, orr, oxx, hbel⟩ := HS.out
        refine ⟨k + 1, xo.set k ((x + 1) % 256), by omega, by go_num, by simpa using hxo, own_put oo k _, ?_, ?_, ?_, ?_, ?_⟩
        · exact ownsRow_setCell_below orr (show go < w2.heap.size by omega) _
        · exact ownsRow_setCell_below oxx (show go < w3.heap.size by omega) _
        · exact (Below.heap_setCell _ ⟨go, k, none⟩ _ gr (show gr ≠ go by omega)).trans HR.out
        · exact (Below.heap_setCell _ ⟨go, k, none⟩ _ gx (show gx ≠ go by omega)).trans HX.out
        · exact hbel.setCell (p := ⟨go, k, none⟩) (show w.heap.size ≤ go by omega) _
      case measure => simp [intOf]; omega
    · obtain rfl : k = l.length := by omega
      have hR : Rdr 78 wr gr l 0 := rdr_of_row HR.out orr hb0.1 (by omega) (fun k e => LR.out k e) (by omega)
      have hX : Rdr 44 wr gx l 0 := rdr_of_row HX.out oxx hb0.1 (by omega) (fun k e => (LX.out k e).2) (by omega)
      clear oo orr oxx HR HX HALL
      have hne : gx ≠ gr := by omega
      have HRR := Lib.hid (And.intro hR hX)
      clear hR hX
      go_wp2_with fail
      go_loopw [45] (fun i wr => ∃ k : Nat, ∃ p : Nat, k ≤ q.length ∧ i = .int .i64 k ∧ Hid (Rdr 78 wr gr l p ∧ Rdr 44 wr gx l p) ∧ Below w.heap.size w wr) (fun i _ => q.length - (intOf i).toNat)
      case atStart => exact ⟨0, 0, Nat.zero_le _, rfl, HRR, hbel⟩
      case round =>
        clear hbel HRR
        obtain ⟨k, p, hk, rfl, HRX, hbel⟩ := hrel
        by_cases hlt : k < q.length
        · obtain ⟨b, off, rfl, hbb, hask⟩ := (hasks.below hbel).at_ hlt
          obtain ⟨hkd, hnb, hvb, d0, d1, d2, ab, cb, d3, hbb2, hab2⟩ := hask
          generalize q.getD k default = Q at *
          obtain ⟨kd, n, v, bl⟩ := Q
          simp only at hkd hnb hvb d0 d1 d2 d3 hbb2 hab2
          have hsz := hbel.size
          have hgr' := blk_lt HRX.out.1.choose_spec.choose_spec.1
          have hgx' := blk_lt HRX.out.2.choose_spec.choose_spec.1
          have hOb : Below wr.heap.size wr (wr.alloc (.cells #[.int .u8 kd, .int .i64 n, .int .i64 v, .slice ab bl.length cb] 46)) := (Below.refl _ _).alloc (Nat.le_refl _) _
          have HB := Lib.hid (And.intro (rdr_low HRX.out.1 hOb) (And.intro (rdr_low HRX.out.2 hOb) (And.intro (hbel.alloc hbel.size (.cells #[.int .u8 kd, .int .i64 n, .int .i64 v, .slice ab bl.length cb] 46)) (heap_alloc_new wr (.cells #[.int .u8 kd, .int .i64 n, .int .i64 v, .slice ab bl.length cb] 46)))))
          clear hOb hbb2 hab2 HRX hbel
          rcases (show kd % 3 = 0 ∨ kd % 3 = 1 ∨ kd % 3 = 2 by omega) with h3 | h3 | h3
          · have t0 : (kd % 3 == 0) = true := by simp [h3]
            clear h3
            go_wp2_with fail
            obtain ⟨hR, hX, hbw, hh⟩ := HB.out
            refine (bitTake n hnb hR).mono ?_
            rintro e wA ⟨rfl, hRA, hoA⟩
            have hXA := rdr_keeps hX hR hne hoA
            have hwA := low_only hbw hoA (show w.heap.size ≤ gr by omega) (Nat.le_refl _)
            have e1 : wA.cell? ⟨wr.heap.size, 1, none⟩ = some (.int .i64 n) := only_at hoA (by omega) (blk_cell hh 1)
            have hszA := hoA.size
            have HA := Lib.hid (And.intro hRA (And.intro hXA hwA))
            clear hR hX hbw hh hoA hRA hXA hwA HB d0 d1 d2 d3
            go_wp2_with fail
            refine (refTake n hnb HA.out.2.1).mono ?_
            rintro e wB ⟨rfl, hXB, hoB⟩
            have hRB := rdr_keeps HA.out.1 HA.out.2.1 (Ne.symm hne) hoB
            have hwB := low_only HA.out.2.2 hoB (show w.heap.size ≤ gx by omega) (Nat.le_refl _)
            have hXh := hXB.choose_spec.choose_spec.1
            have hpp := hXB.choose_spec.choose_spec.2.2.2.2.1
            clear hoB HA e1
            generalize posT l p n = p' at *
            have x1 : wB.cell? ⟨gx, 1, none⟩ = some (.int .i64 p') := blk_cell hXh 1
            have QR := Lib.hid hRB
            have QX := Lib.hid hXB
            have QW := Lib.hid hwB
            clear hXh hRB hXB hwB
            go_wp2_with fail
            go_quiet ((first | (go_at_call 27; exact q_left2 (bitAtN (l := l) (p := p') (by exact QR.out))) | (go_at_call 28; exact q_ex (bitLeft (l := l) (p := p') (by exact QR.out))) | (go_at_call 29; exact q_ex (refLeft (l := l) (p := p') (by exact QX.out)))))
            go_wp2_with fail
            go_roundw
            case rel => exact ⟨k + 1, p', by omega, by go_num, Lib.hid ⟨QR.out, QX.out⟩, low_drewN QW.out _⟩
            case measure => simp [intOf]; omega
          · have t0 : (kd % 3 == 0) = false := by simp [h3]
            have t1 : (kd % 3 == 1) = true := by simp [h3]
            clear h3
            go_wp2_with fail
            obtain ⟨hR, hX, hbw, hh⟩ := HB.out
            refine (bitAlign hR).mono ?_
            rintro e wA ⟨rfl, hRA, hoA⟩
            have hXA := rdr_keeps hX hR hne hoA
            have hwA := low_only hbw hoA (show w.heap.size ≤ gr by omega) (Nat.le_refl _)
            have HA := Lib.hid (And.intro hRA (And.intro hXA hwA))
            clear hR hX hbw hh hoA hRA hXA hwA HB d0 d1 d2 d3
            go_wp2_with fail
            refine (refAlign HA.out.2.1).mono ?_
            rintro e wB ⟨rfl, hXB, hoB⟩
            have hRB := rdr_keeps HA.out.1 HA.out.2.1 (Ne.symm hne) hoB
            have hwB := low_only HA.out.2.2 hoB (show w.heap.size ≤ gx by omega) (Nat.le_refl _)
            have hXh := hXB.choose_spec.choose_spec.1
            have hpp := hXB.choose_spec.choose_spec.2.2.2.2.1
            clear hoB HA
            generalize upT p = p' at *
            have x1 : wB.cell? ⟨gx, 1, none⟩ = some (.int .i64 p') := blk_cell hXh 1
            have QR := Lib.hid hRB
            have QX := Lib.hid hXB
            have QW := Lib.hid hwB
            clear hXh hRB hXB hwB
            go_wp2_with fail
            go_quiet ((first | (go_at_call 27; exact q_left2 (bitAtN (l := l) (p := p') (by exact QR.out))) | (go_at_call 28; exact q_ex (bitLeft (l := l) (p := p') (by exact QR.out))) | (go_at_call 29; exact q_ex (refLeft (l := l) (p := p') (by exact QX.out)))))
            go_wp2_with fail
            go_roundw
            case rel => exact ⟨k + 1, p', by omega, by go_num, Lib.hid ⟨QR.out, QX.out⟩, low_drewN QW.out _⟩
            case measure => simp [intOf]; omega
          · have t0 : (kd % 3 == 0) = false := by simp [h3]
            have t1 : (kd % 3 == 1) = false := by simp [h3]
            have t2 : (kd % 3 == 2) = true := by simp [h3]
            clear h3
            have hpb : (bytesB l p n).length ≤ 140737488355328 := by unfold bytesB cutOf; split <;> simp <;> omega
            go_wp2_with fail
            obtain ⟨hR, hX, hbw, hh⟩ := HB.out
            refine (bitBytes n hnb hR).mono ?_
            rintro e wA ⟨⟨aA, cA, rfl, hcA, hbA, hoA⟩, hRA⟩
            have hXA := rdr_keeps hX hR hne hoA
            have hwA := low_only hbw hoA (show w.heap.size ≤ gr by omega) (Nat.le_refl _)
            have e1 : wA.cell? ⟨wr.heap.size, 1, none⟩ = some (.int .i64 n) := only_at hoA (by omega) (blk_cell hh 1)
            have HA := Lib.hid (And.intro hRA (And.intro hXA (And.intro hwA hbA)))
            clear hR hX hbw hh hoA hRA hXA hwA HB hbA d0 d1 d2 d3
            go_wp2_with fail
            refine (refBytes n hnb HA.out.2.1).mono ?_
            rintro e wB ⟨⟨aB, cB, rfl, hcB, hbB, hoB⟩, hXB⟩
            have hRB := rdr_keeps HA.out.1 HA.out.2.1 (Ne.symm hne) hoB
            have hwB := low_only HA.out.2.2.1 hoB (show w.heap.size ≤ gx by omega) (Nat.le_refl _)
            have hbA2 := made_keeps HA.out.2.2.2 HA.out.2.1 hoB
            have hXh := hXB.choose_spec.choose_spec.1
            have hpp := hXB.choose_spec.choose_spec.2.2.2.2.1
            have HSM := Lib.hid (same_true (c := cA) (c' := cB) rfl rfl hpb hbA2 hbB)
            clear hoB HA e1 hbA2 hbB
            generalize posB l p n = p' at *
            have x1 : wB.cell? ⟨gx, 1, none⟩ = some (.int .i64 p') := blk_cell hXh 1
            have QR := Lib.hid hRB
            have QX := Lib.hid hXB
            have QW := Lib.hid hwB
            clear hXh hRB hXB hwB
            go_wp2_with fail
            refine HSM.out.mono ?_
            rintro e wC ⟨rfl, mC, rfl⟩
            have x2 : (wB.drewN mC).cell? ⟨gx, 1, none⟩ = some (.int .i64 p') := x1
            have QR2 : Hid (Rdr 78 (wB.drewN mC) gr l p') := Lib.hid QR.out
            have QX2 : Hid (Rdr 44 (wB.drewN mC) gx l p') := Lib.hid QX.out
            have QW2 : Hid (Below w.heap.size w (wB.drewN mC)) := Lib.hid (low_drewN QW.out mC)
            clear x1 QR QX QW HSM
            generalize wB.drewN mC = wC at *
            go_wp2_with fail
            go_quiet ((first | (go_at_call 27; exact q_left2 (bitAtN (l := l) (p := p') (by exact QR2.out))) | (go_at_call 28; exact q_ex (bitLeft (l := l) (p := p') (by exact QR2.out))) | (go_at_call 29; exact q_ex (refLeft (l := l) (p := p') (by exact QX2.out)))))
            go_wp2_with fail
            go_roundw
            case rel => exact ⟨k + 1, p', by omega, by go_num, Lib.hid ⟨QR2.out, QX2.out⟩, low_drewN QW2.out _⟩
            case measure => simp [intOf]; omega
        · obtain rfl : k = q.length := by omega
          go_wp2_with fail
          go_ret
          exact ⟨rfl, hbel⟩
end Go.Proofs.Ytfgifimmdkiejaa
