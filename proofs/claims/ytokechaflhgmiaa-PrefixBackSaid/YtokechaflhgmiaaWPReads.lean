/- The walk of the law PrefixReads: it returns true and turns nothing that was there. Condition: the lengths and the bytes fit their kinds. -/
import Derived.Test.YtokechaflhgmiaaWPMakes
set_option linter.unusedVariables false
namespace Go.Proofs.Ytokechaflhgmiaa
open Go.RowKit

theorem nxt_bd (ns : List Nat) (l : List Int) (p : Nat) (h : p ≤ 8 * l.length) : p ≤ (nxt ns l p).2.2 ∧ (nxt ns l p).2.2 ≤ 8 * l.length ∧ ((nxt ns l p).2.1 = 0 → p < (nxt ns l p).2.2) := by
  obtain ⟨h1, h2, _, h4⟩ := nxR_bd ns l p (plong ns 15) 0 (by omega)
  exact ⟨h1, h2, fun e => (h4 e).1⟩
theorem rdr_low {T : TypeId} {w w' : World} {g : Nat} {l : List Int} {p : Nat} (h : Rdr T w g l p) (hb : Below w.heap.size w w') (hg : g < w.heap.size) : Rdr T w' g l p := by
  obtain ⟨a, c, q1, q2, q3, q4, q5, q6⟩ := h
  exact ⟨a, c, (hb.block g hg).trans q1, q2, q3, q4.keep fun q hq => cell_keep' (hb.block _ (by omega)), q5, q6⟩
/-- a reader whose row lies below another block stays when only that block, which is no byte's, turns -/
theorem rdr_only {T T' : TypeId} {w w' : World} {g g' : Nat} {l l' : List Int} {p p' : Nat} (h : Rdr T w g l p) (h' : Rdr T' w g' l' p') (hne : g ≠ g') (ho : Only g' w w') : Rdr T w' g l p := by
  obtain ⟨a, c, q1, q2, q3, q4, q5, q6⟩ := h
  obtain ⟨a', c', r1, _⟩ := h'
  refine ⟨a, c, (ho.block g (blk_lt q1) (by intro e; injection e with e; exact hne e)).trans q1, q2, q3, ⟨q4.1, fun hn => ?_⟩, q5, q6⟩
  obtain ⟨b, off, e, hb, hc⟩ := q4.2 hn
  have hbg : b ≠ g' := by
    rintro rfl
    have h0 := hc 0 hn
    rw [blk_cell r1] at h0
    rcases off with _ | _ | off <;> simp at h0
  exact ⟨b, off, e, hb, fun i hi => (cell_keep (ho.block b (by have := blk_lt q1; omega) (by intro e; injection e with e; exact hbg e)) _).trans (hc i hi)⟩
set_option maxRecDepth 100000 in
set_option maxHeartbeats 4000000 in
theorem prefixreads_walk (w : World) (a : Option Addr) (n c : Nat) (q : List Int) (hn : q.length = n) (hnc : n ≤ c) (hm : c * 8 ≤ 140737488351232) (hA : a = none → c = 0) (hb : Ints .i64 w w.heap.size a q) (lone : Bool)
    (a0 : Option Addr) (n0 c0 : Nat) (l : List Int) (hl : l.length = n0) (hlc : n0 ≤ c0) (hml : c0 ≤ 140737488351232) (hA0 : a0 = none → c0 = 0) (hbl : Bs w w.heap.size a0 l) :
    Calls Try.prog 4 #[.slice a n c, .bool lone, .slice a0 n0 c0] w fun e w' => e = .returned (.bool true) ∧ Below w.heap.size w w' := by
  subst hn
  subst hl
  have HA := Lib.hid hA; clear hA
  have HLN : Hid (a0 = none → l.length = 0 ∧ c0 = 0) := Lib.hid fun h => ⟨by have := hA0 h; omega, hA0 h⟩
  clear hA0
  go_enter Try.func4, Try.ntmps4
  go_wp2_with fail
  refine (fixed5 _).mono ?_
  rintro e w1 ⟨rfl, hw1⟩
  have hb1 := (hb.below hw1).more hw1.size
  by_cases hbig : 3000 < l.length
  · clear hb hbl hb1
    go_wp2_with fail
    go_ret
    exact ⟨rfl, hw1⟩
  · have hbig' : decide ((l.length : Int) > 3000) = false := by simp; omega
    go_wp2_with (at_builtin; refine wpList_copy rfl _ _ rfl w1 0 rfl rfl a q.length c q rfl rfl hb1 HA.out hnc hm ?_; intro a2 c2 w2 hi2 hown2 hb2)
    have hw2 := below_next hw1 (Nat.le_refl _) hb2
    have hs2 := hb2.size
    clear hb1 hb2 hown2
    refine (new_is a2 q.length c2 q rfl (by omega) hi2 lone).mono ?_
    intro e w3 hnew
    have hw3 := below_next hw2 (Nat.le_refl _) hnew.1
    have hs3 := hnew.1.size
    have hb3 := (hb.below hw3).more hw3.size
    rcases hnew.2 with ⟨hne, rfl⟩ | ⟨h0, g, rfl, hp⟩
    · clear hnew hi2 hw2
      go_wp2_with fail
      refine (refNew a q.length c q rfl (by omega) hb3 lone).mono ?_
      rintro e w4 ⟨hb4, cs, h32, hone, rfl, hcd⟩
      clear hcd hb3
      generalize errN q lone = er at *
      have hd1 : (er != 0) = true := by simpa using hne
      have hw4 := below_next hw3 (Nat.le_refl _) hb4
      have hz := zeroC
      go_wp2_with (refine code_st rfl rfl w4.heap.size rfl rfl h32 zero_size hone (heap_alloc_new w4 _) ?_)
      have hw5 := below_next hw4 (Nat.le_refl _) (low_setRow ((Below.refl w4.heap.size w4).alloc (Nat.le_refl _) (.cells zeroCode 31)) (Nat.le_refl _) cs)
      have HW5 := Lib.hid hw5
      clear hw5
      go_wp2_with fail
      go_ret
      exact ⟨by simp, HW5.out⟩
    · have hp3 := hp.more fun b hb => hb
      clear hnew hi2 hp hw2
      go_wp2_with fail
      refine (refNew a q.length c q rfl (by omega) hb3 lone).mono ?_
      rintro e w4 ⟨hb4, cs, h32, hone, rfl, hcd⟩
      have hcd := hcd h0
      rw [h0]
      clear hb3
      have hs4 := hb4.size
      have hw4 := below_next hw3 (Nat.le_refl _) hb4
      have hz := zeroC
      go_wp2_with (refine code_st rfl rfl w4.heap.size rfl rfl h32 zero_size hone (heap_alloc_new w4 _) ?_)
      have hset := setRow_heap (w4.alloc (.cells zeroCode 31)) w4.heap.size _ cs _ _ (heap_alloc_new w4 (.cells zeroCode 31))
      have hoth : ∀ k, k < w4.heap.size → ((w4.alloc (.cells zeroCode 31)).setRow w4.heap.size cs).heap[k]? = w4.heap[k]? := fun k hk => (setRow_other _ _ _ _ (by omega)).trans (Below.heap_alloc w4 _ k hk)
      have hb5 : Below w4.heap.size w4 ((w4.alloc (.cells zeroCode 31)).setRow w4.heap.size cs) := low_setRow ((Below.refl w4.heap.size w4).alloc (Nat.le_refl _) _) (Nat.le_refl _) cs
      have hsz5 : ((w4.alloc (.cells zeroCode 31)).setRow w4.heap.size cs).heap.size = w4.heap.size + 1 := by rw [size_setRow]; simp
      generalize ((w4.alloc (.cells zeroCode 31)).setRow w4.heap.size cs) = w5 at *
      have hw5 := below_next hw4 (Nat.le_refl _) hb5
      obtain ⟨bc, hbc⟩ : ∃ bc, bc = w4.heap.size := ⟨_, rfl⟩
      rw [← hbc] at hset hsz5 ⊢
      have hbc3 : w4.heap.size ≤ bc := by omega
      have hpo : PC w5 (fun b => w2.heap.size ≤ b ∧ b < w3.heap.size) g (nsOf q) := hp3.keep fun b hb => (hoth b (by omega)).trans (hb4.block b hb.2)
      have hco : Cd w5 (fun b => w3.heap.size ≤ b ∧ b < w4.heap.size) (nsOf q) cs := hcd.keep fun b hb => hoth b hb.2
      have hbs5 := (hbl.below hw5).more hw5.size
      clear hbc hz hp3 hcd hoth hb4 hb5 hw4
      refine (bitNew a0 l.length c0 l rfl (by omega) w5 hbs5).mono ?_
      rintro e w6 ⟨gr, ar, cr, rfl, hgr, hhr, hor, hlr, hb6⟩
      have hw6 := below_next hw5 (Nat.le_refl _) hb6
      have hr6 := rdr_of_row (T := 71) (l := l) (p := 0) hhr hor hbl.1 (by omega) hlr (by omega)
      have hgr6 := blk_lt hhr
      have hs6 := hb6.size
      have hpo6 := hpo.keep (w' := w6) fun b hb => hb6.block b (by omega)
      have hco6 := hco.keep (w' := w6) fun b hb => hb6.block b (by omega)
      have hcs6 := (hb6.block bc (by omega)).trans hset
      have hbs6 := (hbl.below hw6).more hw6.size
      clear hhr hor hlr hb6 hpo hco hset hbs5 hw5
      go_wp2_with (at_builtin; refine wpList_app rfl _ _ rfl w6.heap.size (.slice (some ⟨w6.heap.size, 0, none⟩) 0 0) 0 [] rfl (World.ownsRow_lit w6 #[] 0 (Nat.le_refl _) (by decide) rfl) w6.heap.size a0 l.length c0 l rfl rfl (hbs6.alloc (Nat.le_refl _) _) HLN.out (by omega) (by simp) ?_; intro v7 w7 hown7 hg7; obtain ⟨ax, cx, rfl⟩ := own_shape hown7)
      have hb7 : Below w6.heap.size w6 w7 := ((Below.refl w6.heap.size w6).alloc (Nat.le_refl _) _).grown hg7 (by simp) (fun k hk => by simp [Value.ownBlock] at hk; omega)
      rw [List.nil_append] at hown7
      have own7 := own_cast (n' := l.length) hown7 (by omega) rfl
      have hs7 := hb7.size
      have lx := own7.lt
      have hb8 : Below w6.heap.size w6 (w7.alloc (.cells #[.slice ax l.length cx, .int .i64 0] 43)) := hb7.alloc hs7 _
      have hx8 := rdr_of_row (T := 43) (l := l) (p := 0) (heap_alloc_new w7 (.cells #[.slice ax l.length cx, .int .i64 0] 43)) (own7.alloc _) hbl.1 (by omega) (fun k e => (lx k e).2) (by omega)
      obtain ⟨gx, hgx⟩ : ∃ gx, gx = w7.heap.size := ⟨_, rfl⟩
      rw [← hgx] at hx8 ⊢
      have hgx1 : gr < gx := by omega
      have hgx2 : gx < (w7.alloc (.cells #[.slice ax l.length cx, .int .i64 0] 43)).heap.size := by simp; omega
      clear hgx hown7 own7 hg7 hb7 lx hbs6
      generalize (w7.alloc (.cells #[.slice ax l.length cx, .int .i64 0] 43)) = w8 at *
      have hr8 := rdr_low hr6 hb8 hgr6
      have hpo8 := hpo6.keep (w' := w8) fun b hb => hb8.block b (by omega)
      have hco8 := hco6.keep (w' := w8) fun b hb => hb8.block b (by omega)
      have hcs8 := (hb8.block bc (by omega)).trans hcs6
      have hw8 := below_next hw6 (Nat.le_refl _) hb8
      have hgr8 : w.heap.size ≤ gr := by have := hw6.size; have := hw3.size; omega
      obtain ⟨h288, hin, hok⟩ := errN_zero h0
      have HK := Lib.hid (And.intro (okN_kraft hok) (inR_le hin))
      have H8 := Lib.hid (And.intro hr8 (And.intro hx8 (And.intro hpo8 (And.intro hco8 (And.intro hcs8 hw8)))))
      have hs8 := hb8.size
      clear hr8 hx8 hpo8 hco8 hcs8 hw8 hr6 hpo6 hco6 hcs6 hw6 hok hin h288 hb8
      go_loopw [13] (fun i wr => ∃ k p : Nat, k ≤ p ∧ p ≤ 8 * l.length ∧ i = .int .i64 k ∧ Hid (Rdr 71 wr gr l p ∧ Rdr 43 wr gx l p ∧ PC wr (fun b => w2.heap.size ≤ b ∧ b < w3.heap.size) g (nsOf q) ∧ Cd wr (fun b => w3.heap.size ≤ b ∧ b < w4.heap.size) (nsOf q) cs ∧ wr.heap[bc]? = some (.cells cs 31 (0, 0)) ∧ Below w.heap.size w wr) ∧ w8.heap.size ≤ wr.heap.size) (fun i _ => 8 * l.length + 1 - (intOf i).toNat)
      case atStart => exact ⟨0, 0, Nat.le_refl _, by omega, rfl, H8, Nat.le_refl _⟩
      case round =>
        clear H8
        obtain ⟨k, p, hkp, hp8, rfl, H, hsz⟩ := hrel
        have i0 : (k : Int) ≤ 8 * (l.length : Int) := by omega
        have hnx := next_is (w := wr) (fun b hb => ⟨by omega, by omega⟩) H.out.2.2.1 H.out.1
        obtain ⟨b1, b2, b3⟩ := nxt_bd (nsOf q) l p hp8
        obtain ⟨N, hN⟩ : ∃ N, nxt (nsOf q) l p = N := ⟨_, rfl⟩
        rw [hN] at hnx b1 b2 b3
        obtain ⟨s, er, p'⟩ := N
        simp only at hnx b1 b2 b3
        have HN := Lib.hid hN
        clear hN
        go_wp2_with fail
        refine hnx.mono ?_
        rintro e w9 ⟨rfl, hr9, ho9⟩
        have hs9 := ho9.size
        have hx9 := rdr_only H.out.2.1 H.out.1 (by omega) ho9
        have hblk9 : ∀ b, b < gr → w9.heap[b]? = wr.heap[b]? := fun b hb => ho9.block b (by omega) (by intro e; injection e with e; omega)
        have hp9 := H.out.2.2.1.keep (w' := w9) fun b hb => hblk9 b (by omega)
        have hc9 := H.out.2.2.2.1.keep (w' := w9) fun b hb => hblk9 b (by omega)
        have hcs9 := (hblk9 bc (by omega)).trans H.out.2.2.2.2.1
        have hw9 := low_only H.out.2.2.2.2.2 ho9 hgr8 (Nat.le_refl _)
        clear H ho9 hblk9 hnx
        go_wp2_with (refine code_ld rfl rfl bc rfl h32 hcs9 ?_)
        have hrn := refNext (w := w9) (fun b hb => ⟨by omega, by omega⟩) hc9 HK.out.2 HK.out.1 hx9
        rw [HN.out] at hrn
        refine hrn.mono ?_
        rintro e w10 ⟨rfl, hx10, ho10⟩
        simp only at hx10
        have hs10 := ho10.size
        have hr10 := rdr_only hr9 hx9 (by omega) ho10
        have hblk10 : ∀ b, b < gx → w10.heap[b]? = w9.heap[b]? := fun b hb => ho10.block b (by omega) (by intro e; injection e with e; omega)
        have hp10 := hp9.keep (w' := w10) fun b hb => hblk10 b (by omega)
        have hc10 := hc9.keep (w' := w10) fun b hb => hblk10 b (by omega)
        have hcs10 := (hblk10 bc (by omega)).trans hcs9
        have hw10 := low_only hw9 ho10 (by omega) (Nat.le_refl _)
        have hxh := hx10.choose_spec.choose_spec.1
        have x1 : w10.cell? ⟨gx, 1, none⟩ = some (.int .i64 p') := blk_cell hxh 1
        have HR := Lib.hid hr10
        have HX := Lib.hid (And.intro hx10 (And.intro hp10 (And.intro hc10 (And.intro hcs10 hw10))))
        clear hrn hxh hr10 hx10 hp10 hc10 hcs10 hw10 hr9 hx9 hp9 hc9 hcs9 hw9 ho10 hblk10 HN
        go_wp2_with fail
        go_quiet ((go_at_call 16; exact q_left2 (bitAtN (l := l) (p := p') (by exact HR.out))))
        by_cases he : er = 0
        · subst he
          have hlt := b3 rfl
          clear b3
          go_wp2_with fail
          go_roundw
          case rel => exact ⟨k + 1, p', by omega, b2, by go_num, Lib.hid ⟨HR.out, HX.out.1, HX.out.2.1, HX.out.2.2.1, HX.out.2.2.2.1, low_drewN HX.out.2.2.2.2 _⟩, by have : w9.heap.size ≤ w10.heap.size := hs10; show w8.heap.size ≤ w10.heap.size; omega⟩
          case measure => simp [intOf]; omega
        · have hd : (er != 0) = true := by simpa using he
          clear b3
          go_wp2_with fail
          go_ret
          exact ⟨rfl, low_drewN HX.out.2.2.2.2 _⟩
end Go.Proofs.Ytokechaflhgmiaa
