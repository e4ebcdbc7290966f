/- The lengths that a code of lengths tells: contract of lengths. No condition but what the words say. -/
import Derived.Test.YtpnnfekfoomgaaaDoorRt
set_option linter.unusedVariables false
set_option maxRecDepth 100000
namespace Go.Proofs.YtpnnfekfoomgaaaDoor
open Go.RowKit

theorem Ints.of_own' {w : World} {base : Nat} {t : TypeId} {a : Option Addr} {c : Nat} {l : List Int} (h : w.ownsRow base t 1 (.slice a l.length c) l.length (l.map (Value.int .i64))) (hl : ∀ n ∈ l, (Lit.int .i64 n).wf = true) : Ints .i64 w w.heap.size a l := by
  refine ⟨hl, fun hn => ?_⟩
  obtain ⟨g, cap, hv, _, hlt⟩ := h.form hn
  have hA : a = some ⟨g, 0, none⟩ := by injection hv
  subst hA
  refine ⟨g, 0, rfl, hlt, fun i hi => ?_⟩
  have := h.cells (g := g) rfl i (.int .i64 (l.getD i 0)) (by simp [List.getElem?_map, List.getElem?_eq_getElem hi])
  rw [add_off'] at this
  rw [Nat.zero_add]; exact this
theorem ints_row {w : World} {base n : Nat} {t : TypeId} {a : Option Addr} {c : Nat} {l : List Int} (h : w.ownsRow base t 1 (.slice a n c) n (l.map (Value.int .i64))) (hn : l.length = n) (hl : ∀ n ∈ l, (Lit.int .i64 n).wf = true) : Ints .i64 w w.heap.size a l := by
  subst hn
  exact Ints.of_own' h hl
theorem lenStep_is (ns : List Nat) (l : List Int) (n p : Nat) (row : List Int) : lenStep ns l n p row = match nxS ns l p with
    | .error e => .error e
    | .ok (s, p1) => match repT l p1 row s with
      | .error e => .error e
      | .ok (v, t, p2) => if (n : Int) - row.length < t then .error 6 else .ok (p2, row ++ List.replicate t.toNat v) := by
  unfold lenStep
  cases nxS ns l p with
  | error e => rfl
  | ok x =>
    obtain ⟨s, p1⟩ := x
    simp only [bind, Except.bind]
    unfold repT
    cases repS row s with
    | error e => rfl
    | ok y =>
      obtain ⟨v, least, width⟩ := y
      simp only
      cases takeS l p1 width with
      | error e => rfl
      | ok z => obtain ⟨more, p2⟩ := z; rfl
theorem takeS_b {l : List Int} {p n p' : Nat} {v : Int} (hn : n ≤ 7) (h : takeS l p n = .ok (v, p')) : (∃ V : Nat, v = V ∧ V < 128) ∧ p ≤ p' ∧ p' ≤ 8 * l.length := by
  obtain ⟨h1, h2, h3⟩ := takeS_val h
  have hb := tk_bd l p n
  have hp := pow_mono2 hn
  rw [show (2 : Int) ^ 7 = 128 by decide] at hp
  rw [← h1] at hb
  obtain ⟨V, rfl⟩ := Int.eq_ofNat_of_zero_le hb.1
  exact ⟨⟨V, rfl, by omega⟩, by omega, by omega⟩
theorem repT_val {l : List Int} {p p2 s : Nat} {row : List Int} {v t : Int} (hs : s ≤ 18) (hr : ∀ x ∈ row, 0 ≤ x ∧ x ≤ 18) (h : repT l p row (s : Int) = .ok (v, t, p2)) : (∃ T : Nat, t = T ∧ 1 ≤ T ∧ T ≤ 140) ∧ (0 ≤ v ∧ v ≤ 18) ∧ p ≤ p2 ∧ p2 ≤ 8 * l.length := by
  unfold repT repS at h
  by_cases h16 : (s : Int) = 16
  · rw [if_pos h16] at h
    by_cases hrow : row.length = 0
    · rw [if_pos hrow] at h; cases h
    · rw [if_neg hrow] at h
      simp only at h
      cases ht : takeS l p 2 with
      | error e => rw [ht] at h; cases h
      | ok x =>
        obtain ⟨m, q⟩ := x
        rw [ht] at h
        injection h with h
        injection h with h1 h
        injection h with h2 h3
        obtain ⟨⟨V, rfl, hV⟩, h4, h5⟩ := takeS_b (by decide) ht
        subst h3
        refine ⟨⟨3 + V, by omega, by omega, by omega⟩, ?_, h4, h5⟩
        rw [← h1]
        have hm : row.getD (row.length - 1) 0 ∈ row := by rw [List.getD_eq_getElem?_getD, List.getElem?_eq_getElem (by omega)]; exact List.getElem_mem _
        exact hr _ hm
  · rw [if_neg h16] at h
    have key : ∀ (x lst : Int) (wd : Nat), 0 ≤ x ∧ x ≤ 18 → 1 ≤ lst ∧ lst ≤ 11 → wd ≤ 7 → (match takeS l p wd with | .error e => (.error e : Except Int (Int × Int × Nat)) | .ok (more, p2) => .ok (x, lst + more, p2)) = .ok (v, t, p2) → (∃ T : Nat, t = T ∧ 1 ≤ T ∧ T ≤ 140) ∧ (0 ≤ v ∧ v ≤ 18) ∧ p ≤ p2 ∧ p2 ≤ 8 * l.length := by
      intro x lst wd hx hl hw h
      cases ht : takeS l p wd with
      | error e => rw [ht] at h; cases h
      | ok y =>
        obtain ⟨m, q⟩ := y
        rw [ht] at h
        injection h with h
        injection h with h1 h
        injection h with h2 h3
        obtain ⟨⟨V, rfl, hV⟩, h4, h5⟩ := takeS_b hw ht
        subst h3 h1
        exact ⟨⟨(lst + V).toNat, by omega, by omega, by omega⟩, hx, h4, h5⟩
    by_cases h17 : (s : Int) = 17
    · rw [if_pos h17] at h; exact key 0 3 3 (by decide) (by decide) (by decide) h
    · rw [if_neg h17] at h
      by_cases h18 : (s : Int) = 18
      · rw [if_pos h18] at h; exact key 0 11 7 (by decide) (by decide) (by decide) h
      · rw [if_neg h18] at h; exact key s 1 0 (by omega) (by decide) (by decide) h
theorem rpts_ok {w w' : World} {gu gr : Nat} {l : List Int} {limit : Nat} {fl fd : Option Addr} {out : List Int} {o : Option Addr × Nat} {s : Except Int (Int × Int × Nat)} {v t : Int} {p' : Nat} (hs : s = .ok (v, t, p')) {e : Ending} (h : Rpts w gu gr l limit fl fd out o s e w') : e = .returned (.tuple #[.int .i64 v, .int .i64 t, .int .i64 0]) ∧ Only gr w w' ∧ Un w' gu gr l limit fl fd p' out o := by
  obtain ⟨ho, ⟨v1, t1, p1, h1, h2, h3⟩ | ⟨er, y, z, h1, _, _⟩⟩ := h
  · rw [hs] at h1; injection h1 with h1; injection h1 with h4 h5; injection h5 with h5 h6; subst h4 h5 h6; exact ⟨h2, ho, h3⟩
  · rw [hs] at h1; cases h1
theorem rpts_bad {w w' : World} {gu gr : Nat} {l : List Int} {limit : Nat} {fl fd : Option Addr} {out : List Int} {o : Option Addr × Nat} {s : Except Int (Int × Int × Nat)} {er : Int} (hs : s = .error er) {e : Ending} (h : Rpts w gu gr l limit fl fd out o s e w') : ∃ y z, e = .returned (.tuple #[.int .i64 y, .int .i64 z, .int .i64 er]) ∧ Only gr w w' ∧ er ≠ 0 := by
  obtain ⟨ho, ⟨v1, t1, p1, h1, h2, h3⟩ | ⟨er', y, z, h1, h2, h3⟩⟩ := h
  · rw [hs] at h1; cases h1
  · rw [hs] at h1; injection h1 with h1; subst h1; exact ⟨y, z, h3, ho, h2⟩
section
variable {w : World} {gu gr : Nat} {l : List Int} {limit : Nat} {fl fd : Option Addr} {p : Nat} {out : List Int} {o : Option Addr × Nat}
theorem un_low {w1 w2 : World} {B : Nat} (h : Un w1 gu gr l limit fl fd p out o) (hB : gu < B) (hr : ∀ i, (outV out o).ownBlock = some i → i < B) (hlow : ∀ i, i < B → w2.heap[i]? = w1.heap[i]?) : Un w2 gu gr l limit fl fd p out o := by
  have h2 := h.under
  obtain ⟨a, c, q1, q2, q3, q4, q5, q6⟩ := h.rdr
  exact ⟨(hlow gu hB).trans h.blk, ⟨a, c, (hlow gr (by omega)).trans q1, q2, q3, q4.keep fun q hq => cell_keep' (hlow _ (by omega)), q5, q6⟩, own_keep' h.row fun i hi => hlow i (hr i hi), h.bytes, h.under, h.small, h.lim⟩
/-- what lengths answers -/
def Lns (w : World) (gu gr : Nat) (l : List Int) (limit : Nat) (fl fd : Option Addr) (out : List Int) (o : Option Addr × Nat) (n : Nat) (s : Except Int (Nat × List Int)) (e : Ending) (w' : World) : Prop :=
  Only gr w w' ∧ ((∃ row p' ra rc, s = .ok (p', row) ∧ row.length = n ∧ (∀ x ∈ row, 0 ≤ x ∧ x ≤ 18) ∧ e = .returned (.tuple #[.slice ra n rc, .int .i64 0]) ∧ Un w' gu gr l limit fl fd p' out o ∧ w'.ownsRow w.heap.size 3 1 (.slice ra n rc) n (row.map (Value.int .i64))) ∨ (∃ er, s = .error er ∧ er ≠ 0 ∧ e = .returned (.tuple #[.slice none 0 0, .int .i64 er])))
set_option maxHeartbeats 4000000 in
theorem unLengths {F : Nat → Prop} {g n : Nat} {ns : List Nat} (hF : Aside w gu gr out o F) (hc : PC w F g ns) (hns : ns.length = 19) (hn : n ≤ 350) (h : Un w gu gr l limit fl fd p out o) :
    Calls Tryd.prog 61 #[.pointer (some ⟨gu, 0, none⟩), .pointer (some ⟨g, 0, none⟩), .int .i64 n] w (Lns w gu gr l limit fl fd out o n (lensS ns l n (n + 1) p [])) := by
  have HC := Lib.hid (And.intro hF (And.intro hc h))
  have hgu := blk_lt h.blk
  have hgr := h.under
  clear hF hc h
  go_enter Tryd.func61, Tryd.ntmps61
  go_wp2_with fail
  go_loopg [8] n (fun K rv wr => ∃ (p' f : Nat) (row : List Int) (ra : Option Addr) (rc : Nat), rv = .slice ra row.length rc ∧ n + 1 ≤ row.length + f ∧ n ≤ row.length + K ∧ row.length ≤ n ∧ Hid (lensS ns l n (n + 1) p [] = lensS ns l n f p' row ∧ Un wr gu gr l limit fl fd p' out o ∧ Only gr w wr ∧ wr.ownsRow w.heap.size 3 1 (.slice ra row.length rc) row.length (row.map (Value.int .i64)) ∧ ∀ x ∈ row, 0 ≤ x ∧ x ≤ 18))
  case atStart => exact ⟨p, n + 1, [], none, 0, rfl, by simp, by simp, Nat.zero_le _, Lib.hid ⟨rfl, HC.out.2.2, only_refl _ _, World.ownsRow_nil w w.heap.size 3 1, fun x hx => by cases hx⟩⟩
  case round =>
    obtain ⟨p', f, row, ra, rc, rfl, hf, hK, hrn, H⟩ := hrel
    obtain ⟨R, hR⟩ : ∃ R, row.length = R := ⟨_, rfl⟩
    have HR := Lib.hid hR
    rw [hR] at hf hK hrn H
    rw [hR]
    clear hR
    by_cases hlt : R < n
    · obtain ⟨f, rfl⟩ : ∃ f', f = f' + 1 := ⟨f - 1, by omega⟩
      obtain ⟨e1, hU, hO, hown, hbd⟩ := H.out
      have hp := hU.rdr.choose_spec.choose_spec.2.2.2.2.1
      have c0 : wr.cell? ⟨gu, 0, none⟩ = some (.pointer (some ⟨gr, 0, none⟩)) := blk_cell hU.blk 0
      have hA := HC.out.1.step (stp_only hO)
      have hP : PC wr F g ns := HC.out.2.1.keep fun b hb => (stp_only (gu := gu) (out := out) (o := o) hO).foot.block b (HC.out.1 b hb).1 (HC.out.1 b hb).2
      have hcall := unNext hA hP hU
      have e2 : lensS ns l n (f + 1) p' row = match lenStep ns l n p' row with
          | .error e => .error e
          | .ok (p', r) => lensS ns l n f p' r := by
        rw [lensS, if_pos (by rw [HR.out]; exact hlt)]
        cases lenStep ns l n p' row with
        | error e => rfl
        | ok x => rfl
      rw [← e1, lenStep_is, HR.out] at e2
      have HX := Lib.hid (And.intro e2 (And.intro hO (And.intro hown hbd)))
      clear e1 e2 hU hO hown hbd H hA hP
      cases hx : nxS ns l p' with
      | error er =>
        have hs := HX.out.1
        rw [hx] at hs
        have hne := nxS_bad hx
        have hd : (er != 0) = true := by simp [hne]
        have HNX := Lib.hid (hcall.mono fun e w' h => got_bad hx h)
        have HS := Lib.hid (And.intro hs hne)
        clear hcall hs hx hne
        go_wp2_with fail
        refine HNX.out.mono ?_
        rintro e w2 ⟨y, rfl, ho, _⟩
        have HO := Lib.hid (only_trans HX.out.2.1 ho)
        clear HNX HX ho
        go_wp2_with fail
        go_ret2
        exact ⟨HO.out, .inr ⟨er, HS.out.1, HS.out.2, rfl⟩⟩
      | ok x =>
        obtain ⟨v, p1⟩ := x
        obtain ⟨⟨s, hs, rfl⟩, hpp, hp1⟩ := nxS_ok hp hx
        have hs18 : s ≤ 18 := by omega
        have HNX := Lib.hid (hcall.mono fun e w' h => got_ok hx h)
        have hs2 := HX.out.1
        rw [hx] at hs2
        have HS := Lib.hid hs2
        clear hcall hx hs2
        go_wp2_with fail
        refine HNX.out.mono ?_
        rintro e w2 ⟨rfl, ho, hU2⟩
        have hO2 := only_trans HX.out.2.1 ho
        have hown2 : w2.ownsRow w.heap.size 3 1 (.slice ra R rc) R (row.map (Value.int .i64)) := own_keep' HX.out.2.2.1 fun i hi => ho.block i (HX.out.2.2.1.lt i hi).2 (by intro e; injection e with e; have := (HX.out.2.2.1.lt i hi).1; omega)
        have hints : Ints .i64 w2 w2.heap.size ra row := ints_row hown2 HR.out (fun x hx => by
          have := HX.out.2.2.2 x hx
          simp [Lit.wf, IntKind.min, IntKind.max, IntKind.signed, IntKind.bits]; omega)
        have hrep := unRepeated (row := row) (c := rc) s hs18 (by rw [HR.out]; omega) hints hU2
        rw [HR.out] at hrep
        have HY := Lib.hid (And.intro hO2 (And.intro hown2 HX.out.2.2.2))
        clear HNX HX ho hU2 hO2 hown2 hints c0
        cases hx2 : repT l p1 row (s : Int) with
        | error er =>
          have hs3 := HS.out
          rw [hx2] at hs3
          have HNX := Lib.hid (hrep.mono fun e w' h => rpts_bad hx2 h)
          have HS3 := Lib.hid hs3
          clear hrep hs3 hx2 HS
          go_wp2_with fail
          refine HNX.out.mono ?_
          rintro e w3 ⟨y, z, rfl, ho, hne⟩
          have hd : (er != 0) = true := by simp [hne]
          have HO := Lib.hid (And.intro (only_trans HY.out.1 ho) hne)
          clear HNX HY ho hne
          go_wp2_with fail
          go_ret2
          exact ⟨HO.out.1, .inr ⟨er, HS3.out, HO.out.2, rfl⟩⟩
        | ok x =>
          obtain ⟨v, t, p2⟩ := x
          obtain ⟨⟨T, rfl, hT1, hT2⟩, hv18, hp12, hp2⟩ := repT_val hs18 HY.out.2.2 hx2
          have hs3 := HS.out
          rw [hx2] at hs3
          simp only [Int.toNat_natCast] at hs3
          have HNX := Lib.hid (hrep.mono fun e w' h => rpts_ok hx2 h)
          have HS3 := Lib.hid hs3
          clear hrep hs3 hx2 HS
          go_wp2_with fail
          refine HNX.out.mono ?_
          rintro e w3 ⟨rfl, ho, hU3⟩
          have hO3 := only_trans HY.out.1 ho
          have hown3 : w3.ownsRow w.heap.size 3 1 (.slice ra R rc) R (row.map (Value.int .i64)) := own_keep' HY.out.2.1 fun i hi => ho.block i (HY.out.2.1.lt i hi).2 (by intro e; injection e with e; have := (HY.out.2.1.lt i hi).1; omega)
          have HZ := Lib.hid (And.intro hU3 (And.intro hO3 (And.intro hown3 HY.out.2.2)))
          clear HNX HY ho hU3 hO3 hown3
          by_cases hlong : n - R < T
          · have hd : decide ((T : Int) > (n : Int) - R) = true := by simp; omega
            have hs4 := HS3.out
            rw [if_pos (by omega)] at hs4
            have HE := Lib.hid (And.intro hs4 HZ.out.2.1)
            clear hs4 HS3 HZ
            go_wp2_with fail
            go_ret2
            exact ⟨HE.out.2, .inr ⟨6, HE.out.1, by decide, rfl⟩⟩
          · have hd : decide ((T : Int) > (n : Int) - R) = false := by simp; omega
            have hs4 := HS3.out
            rw [if_neg (by omega)] at hs4
            have HE := Lib.hid hs4
            clear hs4 HS3
            have hbs := (Below.refl w3.heap.size w3).alloc (Nat.le_refl _) (.cells #[.int .i64 v] 3)
            have hnew := heap_alloc_new w3 (.cells #[.int .i64 v] 3)
            have hsz : (w3.alloc (.cells #[.int .i64 v] 3)).heap.size = w3.heap.size + 1 := by simp
            have hrpt := repeat_is v T (by omega) w3.heap.size (w3.alloc (.cells #[.int .i64 v] 3)) (by rw [hsz]; omega) (by rw [blk_cell hnew]; rfl) 1
            have HB := Lib.hid (And.intro hbs hsz)
            clear hbs hnew hsz
            go_wp2_with fail
            refine hrpt.mono ?_
            rintro e w4 ⟨rfl, hblk, hb4⟩
            have hszz := HB.out.2
            rw [hszz] at hblk hb4
            have hB34 : Below w3.heap.size w3 w4 := below_next HB.out.1 (Nat.le_refl _) (by rw [hszz]; exact hb4)
            have hown4 : w4.ownsRow w.heap.size 3 1 (.slice ra R rc) R (row.map (Value.int .i64)) := own_below HZ.out.2.2.1 hB34
            have hsrc : Src w4 (some ⟨w3.heap.size + 1, 0, none⟩) (List.replicate T (Value.int .i64 v)) := fun _ => ⟨_, 0, rfl, fun j hj => by
              rw [List.length_replicate] at hj
              rw [blk_cell hblk, Nat.zero_add, arrN_get _ _ hj, List.getElem?_replicate, if_pos hj]⟩
            have hone : ∀ u ∈ List.replicate T (Value.int .i64 v), u.oneCell' = true := by intro u hu; rw [List.eq_of_mem_replicate hu]; rfl
            have hbase : w.heap.size ≤ w4.heap.size := Nat.le_trans HZ.out.2.1.size hB34.size
            have hnb : R + T ≤ maxLen := by unfold maxLen; omega
            have HQ := Lib.hid (And.intro hB34 (And.intro hown4 (And.intro hsrc (And.intro hone (And.intro hbase hnb)))))
            clear hszz hblk hb4 hB34 hown4 hsrc hone hbase hnb hrpt HB
            go_wp2_with (at_builtin; refine wpList_appG 57 3 (.int .i64 0) 8 Tryd.underlying57 int_info rfl rfl _ _ rfl w.heap.size (.slice ra R rc) R (row.map (Value.int .i64)) rfl HQ.out.2.1 (some ⟨w3.heap.size + 1, 0, none⟩) T T (List.replicate T (Value.int .i64 v)) rfl List.length_replicate HQ.out.2.2.1 HQ.out.2.2.2.1 (fun h => by cases h) HQ.out.2.2.2.2.2 (by omega) HQ.out.2.2.2.2.1 ?_; intro v5 w5 hown5 hg5 hl5; obtain ⟨a5, c5, rfl⟩ := own_shape hown5)
            have hO4 : Only gr w w4 := only_trans HZ.out.2.1 (below_only HQ.out.1)
            have hl5 : ∀ i, i < w.heap.size → w5.heap[i]? = w4.heap[i]? := fun i hi => hg5.block i (Nat.lt_of_lt_of_le hi HQ.out.2.2.2.2.1) fun e => by have := (HQ.out.2.1.lt i e.symm).1; omega
            have hO5 : Only gr w w5 := ⟨hg5.os.trans hO4.os, hg5.tape.trans hO4.tape, hg5.output.trans hO4.output, Nat.le_trans hO4.size hg5.size, fun i hi hne => (hl5 i hi).trans (hO4.block i hi hne)⟩
            have hU5 : Un w5 gu gr l limit fl fd p2 out o := un_low (HZ.out.1.below HQ.out.1) hgu (fun i hi => (HC.out.2.2.row.lt i hi).2) hl5
            have hlen : (row ++ List.replicate T v).length = R + T := by rw [List.length_append, HR.out, List.length_replicate]
            have hown6 : w5.ownsRow w.heap.size 3 1 (.slice a5 (R + T) c5) (R + T) ((row ++ List.replicate T v).map (Value.int .i64)) := by rw [List.map_append, List.map_replicate]; exact hown5
            have hb6 : ∀ x ∈ row ++ List.replicate T v, 0 ≤ x ∧ x ≤ 18 := fun x hx => by
              rcases List.mem_append.1 hx with h | h
              · exact HZ.out.2.2.2 x h
              · rw [List.eq_of_mem_replicate h]; exact hv18
            have HEND := Lib.hid (And.intro HE.out (And.intro hU5 (And.intro hO5 (And.intro hown6 (And.intro hb6 hlen)))))
            clear hO4 hl5 hO5 hU5 hlen hown6 hb6 hown5 hg5 HE HZ HQ
            go_roundg (gk - T)
            case measure => omega
            case rel =>
              refine ⟨p2, f, row ++ List.replicate T v, a5, c5, by rw [HEND.out.2.2.2.2.2], by rw [HEND.out.2.2.2.2.2]; omega, by rw [HEND.out.2.2.2.2.2]; omega, by rw [HEND.out.2.2.2.2.2]; omega, ?_⟩
              rw [HEND.out.2.2.2.2.2]
              exact Lib.hid ⟨HEND.out.1, HEND.out.2.1, HEND.out.2.2.1, HEND.out.2.2.2.1, HEND.out.2.2.2.2.1⟩
    · obtain rfl : R = n := by omega
      obtain ⟨f, rfl⟩ : ∃ f', f = f' + 1 := ⟨f - 1, by omega⟩
      go_wp2_with fail
      go_ret2
      obtain ⟨e1, hU, hO, hown, hbd⟩ := H.out
      refine ⟨hO, .inl ⟨row, p', ra, rc, ?_, HR.out, hbd, rfl, hU, hown⟩⟩
      rw [e1, lensS, if_neg (by rw [HR.out]; omega)]
end
end Go.Proofs.YtpnnfekfoomgaaaDoor
