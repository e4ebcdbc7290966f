/- The walk of the law OctetPuts: it returns true and turns nothing that was there. Condition: the two numbers fit their kinds. -/
import Derived.Test.YtkkgfphfilbcdaaOctPut
import Derived.RegionTactic
set_option linter.unusedVariables false
namespace Go.Proofs.Ytkkgfphfilbcdaa
open Go.RowKit

theorem same_call {a a' : Option Addr} {n c n' c' : Nat} {l : List Int} {w w0 : World} {B B' : Nat} (hn : l.length = n) (hn' : l.length = n') (hl : l.length ≤ 8) (hb : Bs w B a l) (hb' : Bs w B' a' l) :
    Calls Try.prog 35 #[.slice a n c, .slice a' n' c'] w fun e w' => e = .returned (.bool true) ∧ ∃ n, w' = w.drewN n :=
  (refSame a a' n c n' c' l l hn hn' (by simp only [maxLen]; omega) (by simp only [maxLen]; omega) w B B' hb hb').mono fun e w' ⟨h1, h2⟩ => ⟨by rw [h1]; simp [eqB], h2⟩

theorem drewN_low {B n : Nat} {a w : World} (h : Below B (a.drewN n) w) : Below B a w := ⟨h.os, h.tape, h.output, h.size, h.block⟩
theorem own_other {w : World} {base g : Nat} {t : TypeId} {v : Value} {n k : Nat} {xs : List Value} (h : w.ownsRow base t k v n xs) (hne : v.ownBlock ≠ some g) (o : Nat) (u : Value) : (w.setCell ⟨g, o, none⟩ u).ownsRow base t k v n xs :=
  h.kept (only_set (only_refl g w) o u) (.inr hne)
theorem own_put {w : World} {base g n c : Nat} {t : TypeId} {l : List Int} (h : w.ownsRow base t 1 (.slice (some ⟨g, 0, none⟩) n c) n (l.map (Value.int .u8))) (k : Nat) (x : Int) :
    (w.setCell ⟨g, k, none⟩ (.int .u8 x)).ownsRow base t 1 (.slice (some ⟨g, 0, none⟩) n c) n ((l.set k x).map (Value.int .u8)) := by
  rw [List.map_set]; exact (h.stored k (.int .u8 x)).1
theorem own_byte {w : World} {base g n c : Nat} {t : TypeId} {l : List Int} (h : w.ownsRow base t 1 (.slice (some ⟨g, 0, none⟩) n c) n (l.map (Value.int .u8))) {k : Nat} (hl : l.length = n) (hk : k < n) :
    w.cell? ⟨g, k, none⟩ = some (.int .u8 (l.getD k 0)) := by
  rw [h.cellAt k (by omega), List.getElem?_map, List.getD_eq_getElem?_getD, List.getElem?_eq_getElem (by omega)]; rfl
set_option maxHeartbeats 2000000 in
theorem puts_walk (w : World) (a0 : Int) (wf0 : (Lit.int .i64 a0).wf = true) (a1 : Int) (wf1 : (Lit.int .i64 a1).wf = true) :
    Calls Try.prog 11 #[.int .i64 a0, .int .i64 a1] w fun e w' => e = .returned (.bool true) ∧ Below w.heap.size w w' := by
  have hn := bd_i64 wf0
  have hv := bd_i64 wf1
  have hL := LEof_len a0 a1
  have hB := LEof_bytes a0 a1
  have hp1 := octPutLittle a0 a1 hn
  have hp2 := octPutBig a0 a1 hn
  have hr1 := refPutLittle a0 a1 hn hv
  have hr2 := refPutBig a0 a1 hn hv
  generalize LEof a0 a1 = L at *
  have hLr : L.reverse.length ≤ 8 := by simpa using hL
  have P1 := Lib.hid hp1; clear hp1
  have P2 := Lib.hid hp2; clear hp2
  have R1 := Lib.hid hr1; clear hr1
  have R2 := Lib.hid hr2; clear hr2
  go_enter Try.func11, Try.ntmps11
  go_wp2_with fail
  refine (octFixed _).mono ?_; rintro e W1 ⟨rfl, hb1⟩
  go_wp2_with fail
  refine (P1.out _).mono ?_; rintro e W2 ⟨aa, ca, rfl, oa, hb2⟩
  go_wp2_with fail
  refine (P2.out _).mono ?_; rintro e W3 ⟨ab, cb, rfl, ob, hb3⟩
  go_wp2_with fail
  refine (P1.out _).mono ?_; rintro e W4 ⟨ac, cc, rfl, oc, hb4⟩
  go_wp2_with fail
  refine (P2.out _).mono ?_; rintro e W5 ⟨ad, cd, rfl, od, hb5⟩
  have la := oa.lt
  have lb := ob.lt
  have oa5 := own_below (own_below (own_below oa hb3) hb4) hb5
  have ob5 := own_below (own_below ob hb4) hb5
  have oc5 := own_below oc hb5
  have hw5 := ((hb1.trans (hb2.mono hb1.size)).trans (hb3.mono (Nat.le_trans hb1.size hb2.size))).trans ((hb4.trans (hb5.mono hb4.size)).mono (Nat.le_trans hb1.size (Nat.le_trans hb2.size hb3.size)))
  have OA := Lib.hid (And.intro oa5 (And.intro ob5 (And.intro oc5 (And.intro od (And.intro la lb)))))
  clear oa ob oc od oa5 ob5 oc5 la lb
  go_wp2_with fail
  refine (R1.out _).mono ?_; rintro e W6 ⟨ax, cx, rfl, ox, hb6⟩
  have bx := Bs.of_own ox hB
  have ba := (Bs.of_own OA.out.1 hB).next hb6
  clear ox
  go_wp2_with fail
  refine (same_call (w0 := w) rfl rfl hL ba bx).mono ?_; rintro e W7 ⟨rfl, m7, rfl⟩
  go_wp2_with fail
  refine (R2.out _).mono ?_; rintro e W8 ⟨ay, cy, rfl, oy, hb8⟩
  have by' := Bs.of_own oy hB.reverse
  have bb := ((Bs.of_own OA.out.2.1 hB.reverse).next hb6).next (w := W6.drewN m7) hb8
  clear oy
  go_wp2_with fail
  refine (same_call (w0 := w) (l := L.reverse) (by simp) (by simp) hLr bb by').mono ?_; rintro e W9 ⟨rfl, m9, rfl⟩
  have hb89 : Below W5.heap.size W5 (W8.drewN m9) := low_drewN (hb6.trans (Below.mono (drewN_low hb8) hb6.size)) m9
  obtain ⟨oa, ob, oc, od, la, lb⟩ := OA.out
  have hsz3 : W3.heap.size ≤ W4.heap.size := hb4.size
  have oa9 := own_below oa hb89
  have ob9 := own_below ob hb89
  have oc9 := own_below oc hb89
  have od9 := own_below od hb89
  have hw9 := hw5.trans (hb89.mono hw5.size)
  have hlow : w.heap.size ≤ W1.heap.size ∧ W1.heap.size ≤ W2.heap.size ∧ W2.heap.size ≤ W3.heap.size := ⟨hb1.size, hb2.size, hb3.size⟩
  clear OA oa ob oc od ba bx bb by' hb89 hb1 hb2 hb3 hb4 hb5 hb6 hb8 hw5
  have LA := Lib.hid la; clear la
  have LB := Lib.hid lb; clear lb
  go_wp2_with fail
  go_loopw [39] (fun i wr => ∃ k : Nat, ∃ xa xb : List Int, k ≤ L.length ∧ i = .int .i64 k ∧ xa.length = L.length ∧ xb.length = L.length ∧
      wr.ownsRow W1.heap.size 5 1 (.slice aa L.length ca) L.length (xa.map (Value.int .u8)) ∧ wr.ownsRow W2.heap.size 5 1 (.slice ab L.length cb) L.length (xb.map (Value.int .u8)) ∧
      wr.ownsRow W3.heap.size 5 1 (.slice ac L.length cc) L.length (L.map (Value.int .u8)) ∧ wr.ownsRow W4.heap.size 5 1 (.slice ad L.length cd) L.length (L.reverse.map (Value.int .u8)) ∧ Below w.heap.size w wr) (fun i _ => L.length - (intOf i).toNat)
  case atStart => exact ⟨0, L, L.reverse, Nat.zero_le _, rfl, rfl, by simp, own_cast oa9 rfl rfl, own_cast ob9 (by simp) rfl, own_cast oc9 rfl rfl, own_cast od9 (by simp) rfl, hw9⟩
  case round =>
    obtain ⟨k, xa, xb, hk, rfl, hxa, hxb, oa, ob, oc, od, hbel⟩ := hrel
    by_cases hlt : k < L.length
    · obtain ⟨ga, ca', ea, ha1, _⟩ := oa.form (by omega)
      obtain ⟨gb, cb', eb, hb1', _⟩ := ob.form (by omega)
      injection ea with ea _ ec; subst ea; subst ec
      injection eb with eb _ ec; subst eb; subst ec
      have h1 := LA.out ga rfl
      have h2 := LB.out gb rfl
      have c1 := own_byte oa hxa hlt
      have c2 := own_byte ob hxb hlt
      have f1 := oa.frozenAt k
      have f2 := ob.frozenAt k
      have HS := Lib.hid (And.intro oa (And.intro ob (And.intro oc (And.intro od hbel))))
      clear oa ob oc od oa9 ob9 oc9 od9 hbel hw9
      generalize xa.getD k 0 = x at *
      generalize xb.getD k 0 = y at *
      have hne : ga ≠ gb := by omega
      have hne2 : gb ≠ ga := by omega
      go_wp2_with fail
      go_region
      go_wp2
      go_roundw
      case rel =>
        obtain ⟨oa, ob, oc, od, hbel⟩ := HS.out
        have nc : ∀ g, g < W3.heap.size → (Value.slice ac L.length cc).ownBlock ≠ some g := fun g hg e => by have := (oc.lt g e).1; omega
        have nd : ∀ g, g < W3.heap.size → (Value.slice ad L.length cd).ownBlock ≠ some g := fun g hg e => by have := (od.lt g e).1; omega
        refine ⟨k + 1, xa.set k ((x + 1) % 256), xb.set k ((y + 1) % 256), by omega, by go_num, by simpa using hxa, by simpa using hxb, ?_, ?_, ?_, ?_, ?_⟩
        · exact (own_other (own_put oa k _) (by simp [Value.ownBlock]; exact hne) k _).drew
        · exact (own_put (own_other ob (by simp [Value.ownBlock]; exact hne2) k _) k _).drew
        · exact (own_other (own_other oc (nc ga (by omega)) k _) (nc gb (by omega)) k _).drew
        · exact (own_other (own_other od (nd ga (by omega)) k _) (nd gb (by omega)) k _).drew
        · exact ((hbel.setCell (p := ⟨ga, k, none⟩) (show w.heap.size ≤ ga by omega) _).setCell (p := ⟨gb, k, none⟩) (show w.heap.size ≤ gb by omega) _).drew
      case measure => simp [intOf]; omega
    · obtain rfl : k = L.length := by omega
      have bc := Bs.of_own oc hB
      have bd := Bs.of_own (own_cast od (n' := L.reverse.length) (by simp) rfl) hB.reverse
      clear oa ob oc od oa9 ob9 oc9 od9 hw9
      go_wp2_with fail
      refine (R1.out _).mono ?_; rintro e X6 ⟨ax, cx, rfl, ox, hb6⟩
      have bx := Bs.of_own ox hB
      have bc1 := bc.next hb6
      clear ox
      go_wp2_with fail
      refine (same_call (w0 := w) rfl rfl hL bc1 bx).mono ?_; rintro e X7 ⟨rfl, m7, rfl⟩
      go_wp2_with fail
      refine (R2.out _).mono ?_; rintro e X8 ⟨ay, cy, rfl, oy, hb8⟩
      have by' := Bs.of_own oy hB.reverse
      have bb := (bd.next hb6).next (w := X6.drewN m7) hb8
      clear oy
      go_wp2_with fail
      refine (same_call (w0 := w) (l := L.reverse) (by simp) (by simp) hLr bb by').mono ?_; rintro e X9 ⟨rfl, m9, rfl⟩
      go_wp2_with fail
      go_ret
      exact ⟨rfl, low_drewN (hbel.trans ((hb6.trans (Below.mono (drewN_low hb8) hb6.size)).mono hbel.size)) m9⟩
end Go.Proofs.Ytkkgfphfilbcdaa
