/- The walk of the law PrefixMakes: it returns true and turns nothing that was there. Condition: the lengths and the symbol fit their kinds. -/
import Derived.Test.YtokechaflhgmiaaWPFree
set_option linter.unusedVariables false
namespace Go.Proofs.Ytokechaflhgmiaa
open Go.RowKit

theorem own_get {w : World} {base g n c : Nat} {t : TypeId} {l : List Int} (h : w.ownsRow base t 1 (.slice (some ⟨g, 0, none⟩) n c) n (l.map (Value.int .i64))) {k : Nat} (hl : l.length = n) (hk : k < n) :
    w.cell? ⟨g, k, none⟩ = some (.int .i64 (l.getD k 0)) := by
  rw [h.cellAt k (by omega), List.getElem?_map, List.getD_eq_getElem?_getD, List.getElem?_eq_getElem (by omega)]; rfl
theorem own_set {w : World} {base g n c : Nat} {t : TypeId} {l : List Int} (h : w.ownsRow base t 1 (.slice (some ⟨g, 0, none⟩) n c) n (l.map (Value.int .i64))) (k : Nat) (x : Int) :
    (w.setCell ⟨g, k, none⟩ (.int .i64 x)).ownsRow base t 1 (.slice (some ⟨g, 0, none⟩) n c) n ((l.set k x).map (Value.int .i64)) := by
  rw [List.map_set]; exact (h.stored k (.int .i64 x)).1
set_option maxRecDepth 100000 in
set_option maxHeartbeats 4000000 in
theorem prefixmakes_walk (w : World) (a : Option Addr) (n c : Nat) (q : List Int) (hn : q.length = n) (hnc : n ≤ c) (hm : c * 8 ≤ 140737488351232) (hA : a = none → c = 0) (hb : Ints .i64 w w.heap.size a q) (lone : Bool) (s : Int) (hs : -9223372036854775808 ≤ s ∧ s ≤ 9223372036854775807) :
    Calls Try.prog 3 #[.slice a n c, .bool lone, .int .i64 s] w fun e w' => e = .returned (.bool true) ∧ Below w.heap.size w w' := by
  subst hn
  have HA := Lib.hid hA; clear hA
  go_enter Try.func3, Try.ntmps3
  go_wp2_with fail
  refine (fixed5 _).mono ?_
  rintro e w1 ⟨rfl, hw1⟩
  have hb1 := (hb.below hw1).more hw1.size
  go_wp2_with (at_builtin; refine wpList_copy rfl _ _ rfl w1 0 rfl rfl a q.length c q rfl rfl hb1 HA.out hnc hm ?_; intro a2 c2 w2 hi2 hown2 hb2)
  have hw2 := below_next hw1 (Nat.le_refl _) hb2
  have hs2 := hb2.size
  clear hb1 hb2
  go_wp2_with fail
  refine (new_is a2 q.length c2 q rfl (by omega) hi2 lone).mono ?_
  intro e w3 hnew
  have hw3 := below_next hw2 (Nat.le_refl _) hnew.1
  have hs3 := hnew.1.size
  have own3 := own_below hown2 hnew.1
  have lo := hown2.lt
  have hb3 := (hb.below hw3).more hw3.size
  rcases hnew.2 with ⟨hne, rfl⟩ | ⟨h0, g, rfl, hp⟩
  · have hd : (errN q lone == 0) = false := by simpa using hne
    clear hnew hi2 hw2 hown2
    go_wp2_with fail
    refine (refNew a q.length c q rfl (by omega) hb3 lone).mono ?_
    rintro e w4 ⟨hb4, cs, h32, hone, rfl, hcd⟩
    clear hcd hb3
    generalize errN q lone = er at *
    have hd1 : (er != 0) = true := by simpa using hne
    have hd2 : (er != er) = false := by simp
    have hs4 := hb4.size
    have hw4 := below_next hw3 (Nat.le_refl _) hb4
    have hz := zeroC
    go_wp2_with (refine code_st rfl rfl w4.heap.size rfl rfl h32 zero_size hone (heap_alloc_new w4 _) ?_)
    have hset := setRow_heap (w4.alloc (.cells zeroCode 31)) w4.heap.size _ cs _ _ (heap_alloc_new w4 (.cells zeroCode 31))
    have hoth : ∀ k, k < w4.heap.size → ((w4.alloc (.cells zeroCode 31)).setRow w4.heap.size cs).heap[k]? = w4.heap[k]? := fun k hk => (setRow_other _ _ _ _ (by omega)).trans (Below.heap_alloc w4 _ k hk)
    have hb5 : Below w4.heap.size w4 ((w4.alloc (.cells zeroCode 31)).setRow w4.heap.size cs) := low_setRow ((Below.refl w4.heap.size w4).alloc (Nat.le_refl _) _) (Nat.le_refl _) cs
    have hsz5 : ((w4.alloc (.cells zeroCode 31)).setRow w4.heap.size cs).heap.size = w4.heap.size + 1 := by rw [size_setRow]; simp
    generalize ((w4.alloc (.cells zeroCode 31)).setRow w4.heap.size cs) = w5 at *
    have own5 := own_below (own_below own3 hb4) hb5
    have hw5 := below_next hw4 (Nat.le_refl _) hb5
    obtain ⟨bc, hbc⟩ : ∃ bc, bc = w4.heap.size := ⟨_, rfl⟩
    rw [← hbc] at hset hsz5 ⊢
    have hbc3 : w4.heap.size ≤ bc := by omega
    have HBC := Lib.hid hbc
    clear hbc
    have H5 := Lib.hid (And.intro own5 hw5)
    have LO := Lib.hid lo
    clear own5 hw5 hb5 hw4 hz lo own3
    go_wp2_with fail
    go_loopw [51] (fun i wr => ∃ (k : Nat) (xo : List Int), k ≤ q.length ∧ i = .int .i64 k ∧ Hid (xo.length = q.length ∧ (∀ j, k ≤ j → xo.getD j 0 = q.getD j 0) ∧ wr.ownsRow w1.heap.size 3 1 (.slice a2 q.length c2) q.length (xo.map (Value.int .i64)) ∧ Below w.heap.size w wr ∧ w5.heap.size ≤ wr.heap.size ∧ ∀ b, w2.heap.size ≤ b → b < w5.heap.size → wr.heap[b]? = w5.heap[b]?)) (fun i _ => q.length - (intOf i).toNat)
    case atStart => exact ⟨0, q, Nat.zero_le _, rfl, Lib.hid ⟨rfl, fun _ _ => rfl, H5.out.1, H5.out.2, Nat.le_refl _, fun _ _ _ => rfl⟩⟩
    case round =>
      obtain ⟨k, xo, hk, rfl, H⟩ := hrel
      by_cases hlt : k < q.length
      · obtain ⟨go, co, eo, ho1, _⟩ := H.out.2.2.1.form (by omega)
        injection eo with eo _ ec; subst eo; subst ec
        have hlo := LO.out go rfl
        obtain ⟨b, off, rfl, hbo, hc, _⟩ := (hb.below H.out.2.2.2.1).at_ hlt
        have c1 := own_get H.out.2.2.1 H.out.1 hlt
        rw [H.out.2.1 k (Nat.le_refl _)] at c1
        have f1 := H.out.2.2.1.frozenAt k
        have hgw : w.heap.size ≤ go := by have := hw1.size; omega
        generalize q.getD k 0 = x at *
        go_wp2_with fail
        go_quiet (fail)
        go_wp2_with fail
        go_roundw
        case rel => exact ⟨k + 1, xo.set k 3, by omega, by go_num, Lib.hid ⟨by rw [List.length_set]; exact H.out.1, fun j hj => by
          rw [← H.out.2.1 j (by omega), List.getD_eq_getElem?_getD, List.getD_eq_getElem?_getD, List.getElem?_set_ne (by omega)], own_set (w := wr.drewN _) H.out.2.2.1 k 3, (low_drewN H.out.2.2.2.1 _).setCell (p := ⟨go, k, none⟩) hgw _, by have := H.out.2.2.2.2.1; simpa [World.setCell] using this, fun b' h1 h2 => (Below.heap_setCell _ ⟨go, k, none⟩ _ b' (by show b' ≠ go; omega)).trans (H.out.2.2.2.2.2 b' h1 h2)⟩⟩
        case measure => simp [intOf]; omega
      · obtain rfl : k = q.length := by omega
        have HW := Lib.hid H.out.2.2.2.1
        clear H
        go_wp2_with fail
        go_ret
        exact ⟨rfl, HW.out⟩
  · have hp3 := hp.more fun b hb => hb
    clear hnew hi2 hp hw2 hown2
    go_wp2_with fail
    refine (refNew a q.length c q rfl (by omega) hb3 lone).mono ?_
    rintro e w4 ⟨hb4, cs, h32, hone, rfl, hcd⟩
    have hcd := hcd h0
    rw [h0]
    clear hb3
    have hs4 := hb4.size
    have hw4 := below_next hw3 (Nat.le_refl _) hb4
    have hz := zeroC
    go_wp2_with (refine code_st rfl rfl w4.heap.size rfl rfl h32 zero_size hone (heap_alloc_new w4 _) ?_)
    have hset := setRow_heap (w4.alloc (.cells zeroCode 31)) w4.heap.size _ cs _ _ (heap_alloc_new w4 (.cells zeroCode 31))
    have hoth : ∀ k, k < w4.heap.size → ((w4.alloc (.cells zeroCode 31)).setRow w4.heap.size cs).heap[k]? = w4.heap[k]? := fun k hk => (setRow_other _ _ _ _ (by omega)).trans (Below.heap_alloc w4 _ k hk)
    have hb5 : Below w4.heap.size w4 ((w4.alloc (.cells zeroCode 31)).setRow w4.heap.size cs) := low_setRow ((Below.refl w4.heap.size w4).alloc (Nat.le_refl _) _) (Nat.le_refl _) cs
    have hsz5 : ((w4.alloc (.cells zeroCode 31)).setRow w4.heap.size cs).heap.size = w4.heap.size + 1 := by rw [size_setRow]; simp
    generalize ((w4.alloc (.cells zeroCode 31)).setRow w4.heap.size cs) = w5 at *
    have own5 := own_below (own_below own3 hb4) hb5
    have hw5 := below_next hw4 (Nat.le_refl _) hb5
    obtain ⟨bc, hbc⟩ : ∃ bc, bc = w4.heap.size := ⟨_, rfl⟩
    rw [← hbc] at hset hsz5 ⊢
    have hbc3 : w4.heap.size ≤ bc := by omega
    have HBC := Lib.hid hbc
    clear hbc
    have H5 := Lib.hid (And.intro own5 hw5)
    have LO := Lib.hid lo
    clear own5 hw5 hb5 hw4 hz lo own3
    go_wp2_with fail
    go_loopw [51] (fun i wr => ∃ (k : Nat) (xo : List Int), k ≤ q.length ∧ i = .int .i64 k ∧ Hid (xo.length = q.length ∧ (∀ j, k ≤ j → xo.getD j 0 = q.getD j 0) ∧ wr.ownsRow w1.heap.size 3 1 (.slice a2 q.length c2) q.length (xo.map (Value.int .i64)) ∧ Below w.heap.size w wr ∧ w5.heap.size ≤ wr.heap.size ∧ ∀ b, w2.heap.size ≤ b → b < w5.heap.size → wr.heap[b]? = w5.heap[b]?)) (fun i _ => q.length - (intOf i).toNat)
    case atStart => exact ⟨0, q, Nat.zero_le _, rfl, Lib.hid ⟨rfl, fun _ _ => rfl, H5.out.1, H5.out.2, Nat.le_refl _, fun _ _ _ => rfl⟩⟩
    case round =>
      obtain ⟨k, xo, hk, rfl, H⟩ := hrel
      by_cases hlt : k < q.length
      · obtain ⟨go, co, eo, ho1, _⟩ := H.out.2.2.1.form (by omega)
        injection eo with eo _ ec; subst eo; subst ec
        have hlo := LO.out go rfl
        obtain ⟨b, off, rfl, hbo, hc, _⟩ := (hb.below H.out.2.2.2.1).at_ hlt
        have c1 := own_get H.out.2.2.1 H.out.1 hlt
        rw [H.out.2.1 k (Nat.le_refl _)] at c1
        have f1 := H.out.2.2.1.frozenAt k
        have hgw : w.heap.size ≤ go := by have := hw1.size; omega
        generalize q.getD k 0 = x at *
        go_wp2_with fail
        go_quiet (fail)
        go_wp2_with fail
        go_roundw
        case rel => exact ⟨k + 1, xo.set k 3, by omega, by go_num, Lib.hid ⟨by rw [List.length_set]; exact H.out.1, fun j hj => by
          rw [← H.out.2.1 j (by omega), List.getD_eq_getElem?_getD, List.getD_eq_getElem?_getD, List.getElem?_set_ne (by omega)], own_set (w := wr.drewN _) H.out.2.2.1 k 3, (low_drewN H.out.2.2.2.1 _).setCell (p := ⟨go, k, none⟩) hgw _, by have := H.out.2.2.2.2.1; simpa [World.setCell] using this, fun b' h1 h2 => (Below.heap_setCell _ ⟨go, k, none⟩ _ b' (by show b' ≠ go; omega)).trans (H.out.2.2.2.2.2 b' h1 h2)⟩⟩
        case measure => simp [intOf]; omega
      · obtain rfl : k = q.length := by omega
        obtain ⟨h288, hin, hok⟩ := errN_zero h0
        have hkr := okN_kraft hok
        have hall := inR_le hin
        have hnl : (nsOf q).length = q.length := by simp [nsOf]
        have hblk := H.out.2.2.2.2.2
        have hpo : PC wr (fun b => w2.heap.size ≤ b ∧ b < w3.heap.size) g (nsOf q) := hp3.keep fun b hb => (hblk b hb.1 (by omega)).trans ((hoth b (by omega)).trans (hb4.block b hb.2))
        have hco : Cd wr (fun b => w3.heap.size ≤ b ∧ b < w4.heap.size) (nsOf q) cs := hcd.keep fun b hb => (hblk b (by omega) (by omega)).trans (hoth b hb.2)
        have hso : wr.heap[bc]? = some (.cells cs 31 (0, 0)) := (hblk bc (by omega) (by omega)).trans hset
        have hszo := H.out.2.2.2.2.1
        have HO := Lib.hid (And.intro hpo (And.intro hco (And.intro hso H.out.2.2.2.1)))
        have HK := Lib.hid (And.intro hkr hall)
        clear hpo hco hso hblk H hkr hall hin hok hp3 hcd hset hoth hb4 H5 h0
        go_wp2_with fail
        obtain ⟨wo, hwo⟩ : ∃ x, x = wr := ⟨_, rfl⟩
        subst hwo
        go_loopw [13] (fun i wr => ∃ k : Nat, k ≤ q.length + 2 ∧ i = .int .i64 ((k : Int) - 1) ∧ Below wo.heap.size wo wr) (fun i _ => q.length + 2 - (intOf i + 1).toNat)
        case atStart => exact ⟨0, Nat.zero_le _, rfl, Below.refl _ _⟩
        case round =>
          obtain ⟨k, hk, rfl, hbl⟩ := hrel
          have hszr := hbl.size
          by_cases hlt : k ≤ q.length + 1
          · have hpr := HO.out.1.below (B := wo.heap.size) (fun b hb => by omega) hbl
            have hcr : Cd wr (fun b => w3.heap.size ≤ b ∧ b < w4.heap.size) (nsOf q) cs := HO.out.2.1.keep fun b hb => hbl.block b (by omega)
            have hsr := (hbl.block bc (by omega)).trans HO.out.2.2.1
            have hwd := word_is hpr (by omega) ((k : Int) - 1) (by omega)
            have i0 : ((k : Int) - 1 ≤ (q.length : Int)) := by omega
            clear hpr
            generalize hW : wordOf (nsOf q) ((k : Int) - 1) = W at *
            go_wp2_with fail
            refine hwd.mono ?_
            rintro e w6 ⟨rfl, hb6⟩
            have hbl6 := below_next hbl (Nat.le_refl _) hb6
            have hcr6 : Cd w6 (fun b => w3.heap.size ≤ b ∧ b < w4.heap.size) (nsOf q) cs := hcr.keep fun b hb => hb6.block b (by omega)
            have hsr6 := (hb6.block bc (by omega)).trans hsr
            have hs6 := hb6.size
            clear hcr hsr hb6 hwd
            go_wp2_with (refine code_ld rfl rfl bc rfl h32 hsr6 ?_)
            have hrw := refWord (w := w6) (fun b hb => by omega) hcr6 HK.out.2 HK.out.1 ((k : Int) - 1) (by omega)
            rw [hW] at hrw
            refine hrw.mono ?_
            rintro e w7 ⟨rfl, hb7⟩
            have hbl7 := below_next hbl6 (Nat.le_refl _) hb7
            clear hrw hb7 hcr6 hsr6 hW
            obtain ⟨x, y⟩ := W
            go_wp2_with fail
            exact ⟨⟨k + 1, by omega, by congr 1; omega, hbl7⟩, by simp [intOf]; omega⟩
          · obtain rfl : k = q.length + 2 := by omega
            have hpr := HO.out.1.below (B := wo.heap.size) (fun b hb => by omega) hbl
            have hcr : Cd wr (fun b => w3.heap.size ≤ b ∧ b < w4.heap.size) (nsOf q) cs := HO.out.2.1.keep fun b hb => hbl.block b (by omega)
            have hsr := (hbl.block bc (by omega)).trans HO.out.2.2.1
            have hwd := word_is hpr (by omega) s hs
            clear hpr
            generalize hW : wordOf (nsOf q) s = W at *
            go_wp2_with fail
            refine hwd.mono ?_
            rintro e w6 ⟨rfl, hb6⟩
            have hbl6 := below_next hbl (Nat.le_refl _) hb6
            have hcr6 : Cd w6 (fun b => w3.heap.size ≤ b ∧ b < w4.heap.size) (nsOf q) cs := hcr.keep fun b hb => hb6.block b (by omega)
            have hsr6 := (hb6.block bc (by omega)).trans hsr
            have hs6 := hb6.size
            clear hcr hsr hb6 hwd
            go_wp2_with (refine code_ld rfl rfl bc rfl h32 hsr6 ?_)
            have hrw := refWord (w := w6) (fun b hb => by omega) hcr6 HK.out.2 HK.out.1 s hs
            rw [hW] at hrw
            refine hrw.mono ?_
            rintro e w7 ⟨rfl, hb7⟩
            have hbl7 := below_next hbl6 (Nat.le_refl _) hb7
            clear hrw hb7 hcr6 hsr6 hW
            obtain ⟨x, y⟩ := W
            have HF := Lib.hid (below_next HO.out.2.2.2 (by have := HO.out.2.2.2.size; omega) hbl7)
            go_wp2_with fail
            go_ret
            exact ⟨rfl, HF.out⟩
end Go.Proofs.Ytokechaflhgmiaa
