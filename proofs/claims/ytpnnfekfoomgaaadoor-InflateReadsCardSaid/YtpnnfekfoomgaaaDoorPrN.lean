/- What package prefix makes of any lengths: contract of New. Condition: the lengths fit their kinds. -/
import Derived.Test.YtpnnfekfoomgaaaDoorPrB
set_option linter.unusedVariables false
set_option maxRecDepth 100000
namespace Go.Proofs.YtpnnfekfoomgaaaDoor
open Go.RowKit Go.Maps Go.ChangeMaps

theorem Ints.more {k : IntKind} {w : World} {B B' : Nat} {a : Option Addr} {l : List Int} (h : Ints k w B a l) (hB : B ≤ B') : Ints k w B' a l :=
  ⟨h.1, fun hn => by
    obtain ⟨b, off, e, hlt, hc⟩ := h.2 hn
    exact ⟨b, off, e, Nat.lt_of_lt_of_le hlt hB, hc⟩⟩
theorem cntF_succ (q : List Int) {k : Nat} (hk : k < q.length) {X : Nat} (hX : (q.getD k 0).toNat = X) : (arr fun j => if j = X then cntF (nsOf (q.take k)) X + 1 else cntF (nsOf (q.take k)) j) = arr (cntF (nsOf (q.take (k + 1)))) := arr_congr fun j _ => by
  have e : q.take (k + 1) = q.take k ++ [q.getD k 0] := by rw [List.take_succ_eq_append_getElem hk, List.getD_eq_getElem?_getD, List.getElem?_eq_getElem hk]; rfl
  unfold cntF pcnt
  rw [e]
  simp only [nsOf, List.map_append, List.map_cons, List.map_nil, List.count_append, List.count_cons, List.count_nil, hX]
  by_cases h : j = X
  · subst h; simp
  · have h' : ¬ X = j := fun e => h e.symm
    simp [h, h']
theorem allN_cnt (ns : List Nat) : allN ns = ns.length - pcnt ns 0 := by
  unfold allN pcnt
  induction ns with
  | nil => rfl
  | cons x ns ih =>
    have := List.count_le_length (a := 0) (l := ns)
    by_cases h : x = 0
    · subst h; simp; omega
    · simp [h]; omega
theorem inR_bad {q : List Int} {k : Nat} (hk : k < q.length) (h : ¬ (0 ≤ q.getD k 0 ∧ q.getD k 0 ≤ 15)) : inR q = false := by
  cases hr : inR q with
  | false => rfl
  | true =>
    exfalso
    rw [inR, List.all_eq_true] at hr
    have := hr (q.getD k 0) (by rw [List.getD_eq_getElem?_getD, List.getElem?_eq_getElem hk]; exact List.getElem_mem hk)
    simp only [decide_eq_true_eq] at this
    exact h this
/-- what New answers -/
def Newly (w : World) (q : List Int) (lone : Bool) (e : Ending) (w' : World) : Prop :=
  Below w.heap.size w w' ∧ ((errN q lone ≠ 0 ∧ e = .returned (.tuple #[.pointer none, .int .i64 (errN q lone)])) ∨ (errN q lone = 0 ∧ ∃ g, e = .returned (.tuple #[.pointer (some ⟨g, 0, none⟩), .int .i64 0]) ∧ PC w' (fun b => w.heap.size ≤ b ∧ b < w'.heap.size) g (nsOf q)))
set_option maxHeartbeats 2000000 in
theorem new_is {w : World} (a : Option Addr) (n c : Nat) (q : List Int) (hn : q.length = n) (hm : n ≤ 140737488355328) (hb : Ints .i64 w w.heap.size a q) (lone : Bool) :
    Calls Tryd.prog 45 #[.slice a n c, .bool lone] w (Newly w q lone) := by
  subst hn
  have hz := zeroA
  by_cases hlen : 288 < q.length
  · have he : errN q lone = 1 := by unfold errN; rw [if_pos hlen]
    have HE := Lib.hid he; clear he hb
    go_enter Tryd.func45, Tryd.ntmps45
    go_wp2_with fail
    go_ret2
    exact ⟨Below.refl _ _, .inl ⟨by rw [HE.out]; decide, by rw [HE.out]; rfl⟩⟩
  · have hz0 : (arr fun _ => 0) = arr (cntF (nsOf [])) := arr_congr fun i _ => by simp [cntF, nsOf, pcnt]
    have hnew := heap_alloc_new w (.cells (arr fun _ => 0) 62)
    rw [hz0] at hnew
    have HN := Lib.hid hnew
    have hbel : Below w.heap.size w (w.alloc (.cells (arr fun _ => 0) 62)) := (Below.refl _ _).alloc (Nat.le_refl _) _
    rw [hz0] at hbel
    have HB := Lib.hid hbel
    have hz' : ∀ W, (zeroValue 62).run Tryd.prog W = .ok (.agg (arr (cntF (nsOf [])))) W := fun W => by rw [← hz0]; exact hz W
    clear hz0 hnew hbel hz
    go_enter Tryd.func45, Tryd.ntmps45
    go_wp2_with fail
    generalize (w.alloc (.cells (arr (cntF (nsOf []))) 62)) = w1 at *
    clear hz'
    go_loopw [14] (fun i wr => ∃ k : Nat, k ≤ q.length ∧ i = .int .i64 k ∧ Hid (inR (q.take k) = true ∧ wr.heap[w.heap.size]? = some (.cells (arr (cntF (nsOf (q.take k)))) 62 (0, 0)) ∧ Below w.heap.size w wr)) (fun i _ => q.length - (intOf i).toNat)
    case atStart => exact ⟨0, Nat.zero_le _, rfl, Lib.hid ⟨rfl, HN.out, HB.out⟩⟩
    case round =>
      obtain ⟨k, hk, rfl, H⟩ := hrel
      by_cases hlt : k < q.length
      · obtain ⟨b, off, rfl, hbl, hc, hwf⟩ := (hb.below H.out.2.2).at_ hlt
        by_cases hin : 0 ≤ q.getD k 0 ∧ q.getD k 0 ≤ 15
        · obtain ⟨X, hX⟩ := Int.eq_ofNat_of_zero_le hin.1
          have hX15 : X ≤ 15 := by omega
          have hcs := cntF_succ q hlt (X := X) (by omega)
          have hI : inR (q.take (k + 1)) = true := by rw [(take_facts q hlt).2.2.2, H.out.1]; simpa using hin
          have hc2 : wr.cell? ⟨w.heap.size, X, none⟩ = some (.int .i64 (pcnt (nsOf (q.take k)) X)) := by rw [blk_cell H.out.2.1]; exact arr_get _ (by omega)
          have hf2 := blk_free H.out.2.1 X
          have hcl : pcnt (nsOf (q.take k)) X ≤ k := Nat.le_trans (pcnt_le _ _) (by simp [nsOf]; omega)
          have hset := blk_set H.out.2.1 X (.int .i64 ((pcnt (nsOf (q.take k)) X : Int) + 1))
          rw [arr_set, show (pcnt (nsOf (q.take k)) X : Int) = cntF (nsOf (q.take k)) X from rfl, hcs, show cntF (nsOf (q.take k)) X = (pcnt (nsOf (q.take k)) X : Int) from rfl] at hset
          rw [hX] at hc
          have HS := Lib.hid (And.intro hset hI)
          clear hset hI hcs hwf hin hX
          generalize pcnt (nsOf (q.take k)) X = C at *
          have n1 : ¬ ((X : Int) < 0) := by omega
          have n2 : ¬ ((15 : Int) < X) := by omega
          have n3 : (X : Int) < 16 := by omega
          have n4 : (0 : Int) ≤ X := by omega
          go_wp2_with fail
          exact ⟨⟨k + 1, by omega, by go_num, Lib.hid ⟨HS.out.2, HS.out.1, H.out.2.2.setCell (p := ⟨w.heap.size, X, none⟩) (Nat.le_refl _) _⟩⟩, by simp [intOf]; omega⟩
        · have he : errN q lone = 1 := by unfold errN; rw [if_neg hlen, inR_bad hlt hin]; rfl
          have HE := Lib.hid he
          clear he hwf
          generalize q.getD k 0 = x at *
          by_cases hneg : x < 0
          · go_wp2_with fail
            go_ret2
            exact ⟨H.out.2.2, .inl ⟨by rw [HE.out]; decide, by rw [HE.out]; rfl⟩⟩
          · have hpos : (15 : Int) < x := by omega
            go_wp2_with fail
            go_ret2
            exact ⟨H.out.2.2, .inl ⟨by rw [HE.out]; decide, by rw [HE.out]; rfl⟩⟩
      · obtain rfl : k = q.length := by omega
        rw [List.take_length] at H
        have hnl : (nsOf q).length = q.length := by simp [nsOf]
        have hold := H.out.2.1
        have hall := inR_le H.out.1
        have hok : okN (nsOf q) lone = (decide (kraft (nsOf q) = 32768) || lone && (decide ((nsOf q).length - pcnt (nsOf q) 0 = 0) || decide ((nsOf q).length - pcnt (nsOf q) 0 = 1) && decide (pcnt (nsOf q) 1 = 1))) := by unfold okN; rw [allN_cnt]; rfl
        cases hfull : decide (kraft (nsOf q) = 32768) with
        | true =>
          have hokT : okN (nsOf q) lone = true := by rw [hok, hfull]; rfl
          go_wp2_with (refine arr_ld rfl rfl w.heap.size rfl hold ?_)
          refine (isFull_is (by omega) hall).mono ?_
          rw [hfull]
          rintro e w2 ⟨rfl, hb2⟩
          have hold2 := (hb2.block _ (blk_lt hold)).trans hold
          have hw2 : Below w.heap.size w w2 := below_next H.out.2.2 (Nat.le_refl _) hb2
          have hk : kraft (nsOf q) ≤ 2 ^ 15 := okN_kraft hokT
          have he : errN q lone = 0 := by unfold errN; rw [if_neg hlen, if_pos H.out.1, if_pos hokT]
          go_wp2_with (refine arr_ld rfl rfl w.heap.size rfl hold2 ?_)
          refine (laid_is a q.length c q rfl (by omega) (Ints.more (hb.below (hw2)) (by have := (hw2).size; omega)) H.out.1 hk).mono ?_
          rintro e w3 ⟨g, rfl, hpc, hbl⟩
          have HE := Lib.hid he
          clear he
          go_wp2_with fail
          go_ret2
          exact ⟨below_next (hw2) (Nat.le_refl _) hbl, .inr ⟨HE.out, g, rfl, hpc.more fun b hb => ⟨Nat.le_trans ((hw2).size) hb.1, hb.2⟩⟩⟩
        | false =>
          cases lone with
          | false =>
            have hokF : okN (nsOf q) false = false := by rw [hok, hfull]; rfl
            go_wp2_with (refine arr_ld rfl rfl w.heap.size rfl hold ?_)
            refine (isFull_is (by omega) hall).mono ?_
            rw [hfull]
            rintro e w2 ⟨rfl, hb2⟩
            have hw2 : Below w.heap.size w w2 := below_next H.out.2.2 (Nat.le_refl _) hb2
            have he : errN q false = 5 := by unfold errN; rw [if_neg hlen, if_pos H.out.1, if_neg (by rw [hokF]; decide)]
            have HE := Lib.hid he
            clear he
            go_wp2_with fail
            go_ret2
            exact ⟨(hw2), .inl ⟨by rw [HE.out]; decide, by rw [HE.out]; rfl⟩⟩
          | true =>
            rw [hfull, Bool.false_or, Bool.true_and] at hok
            go_wp2_with (refine arr_ld rfl rfl w.heap.size rfl hold ?_)
            refine (isFull_is (by omega) hall).mono ?_
            rw [hfull]
            rintro e w2 ⟨rfl, hb2⟩
            have hold2 := (hb2.block _ (blk_lt hold)).trans hold
            have hw2 : Below w.heap.size w w2 := below_next H.out.2.2 (Nat.le_refl _) hb2
            have HLL := Lib.hid hnl
            go_wp2_with (refine arr_ldg rfl rfl w.heap.size rfl hold2 ?_)
            have hlone := isLone_is (w := w2) (ns := nsOf q) (by omega)
            rw [← hok, hnl] at hlone
            refine hlone.mono ?_
            rintro e w3 ⟨rfl, hb3⟩
            have hold3 := (hb3.block _ (blk_lt hold2)).trans hold2
            have hw3 : Below w.heap.size w w3 := below_next hw2 (Nat.le_refl _) hb3
            clear hlone hok
            cases hokb : okN (nsOf q) true with
            | true =>
              have hokT := hokb
              have hk : kraft (nsOf q) ≤ 2 ^ 15 := okN_kraft hokT
              have he : errN q true = 0 := by unfold errN; rw [if_neg hlen, if_pos H.out.1, if_pos hokT]
              go_wp2_with (refine arr_ld rfl rfl w.heap.size rfl hold3 ?_)
              refine (laid_is a q.length c q rfl (by omega) (Ints.more (hb.below (hw3)) (by have := (hw3).size; omega)) H.out.1 hk).mono ?_
              rintro e w4 ⟨g, rfl, hpc, hbl⟩
              have HE := Lib.hid he
              clear he
              go_wp2_with fail
              go_ret2
              exact ⟨below_next (hw3) (Nat.le_refl _) hbl, .inr ⟨HE.out, g, rfl, hpc.more fun b hb => ⟨Nat.le_trans ((hw3).size) hb.1, hb.2⟩⟩⟩
            | false =>
              have hokF := hokb
              have he : errN q true = 5 := by unfold errN; rw [if_neg hlen, if_pos H.out.1, if_neg (by rw [hokF]; decide)]
              have HE := Lib.hid he
              clear he
              go_wp2_with fail
              go_ret2
              exact ⟨(hw3), .inl ⟨by rw [HE.out]; decide, by rw [HE.out]; rfl⟩⟩
end Go.Proofs.YtpnnfekfoomgaaaDoor
