/- The directory of an archive: contract of archive's Directory. Conditions: the bytes are bytes; the variable internal/bytealg.MaxLen has a value. -/
import Derived.Test.YtimojfkpcmphfaaDoorDu
import Derived.Test.YtimojfkpcmphfaaDoorDr
set_option linter.unusedVariables false
set_option maxRecDepth 100000
namespace Go.Proofs.YtimojfkpcmphfaaDoor
open Go.RowKit Go.Maps Go.ChangeMaps

theorem epS_at (l : List Int) : ∀ k, (epS l k).2 ≠ 0 → endC l (epS l k).1 ∧ (epS l k).1 < k
  | 0, h => absurd rfl h
  | k + 1, h => by
    unfold epS at h ⊢
    split
    · rename_i hc; rw [if_pos hc] at h; exact ⟨hc, Nat.lt_succ_self k⟩
    · rename_i hc; rw [if_neg hc] at h
      have := epS_at l k h
      exact ⟨this.1, Nat.lt_succ_of_lt this.2⟩
theorem endS_ok {l : List Int} (hB : Bytes l) {fr ct : Int} {tt : Nat} (h : endS l = .ok (fr, tt, ct)) : tt + 22 ≤ l.length ∧ ∃ F N : Nat, fr = F ∧ ct = N ∧ F ≤ tt ∧ N ≤ 64 ∧ endC l tt ∧ (epS l (l.length - 21)) = (tt, 1) := by
  unfold endS at h
  simp only at h
  split at h
  · cases h
  · rename_i h1
    split at h
    · cases h
    · rename_i h2
      simp only [not_or, Decidable.not_not] at h1 h2
      injection h with h
      injection h with h3 h4
      injection h4 with h4 h5
      subst h3 h4 h5
      obtain ⟨_, _, _, h6, h7⟩ := h2
      have b10 := numL_bd hB (((epS l (l.length - 21)).1 : Int) + 10) 2 (by decide)
      have b12 := numL_bd hB (((epS l (l.length - 21)).1 : Int) + 12) 4 (by decide)
      have b16 := numL_bd hB (((epS l (l.length - 21)).1 : Int) + 16) 4 (by decide)
      have hat := epS_at l (l.length - 21) (by rw [h1]; decide)
      refine ⟨by omega, _, _, (Int.toNat_of_nonneg b16.1).symm, (Int.toNat_of_nonneg b10.1).symm, by omega, by omega, hat.1, ?_⟩
      rw [← h1]
/-- what Directory answers -/
def DirP (T : TypeId) (l : List Int) (w : World) (e : Ending) (w' : World) : Prop :=
  (∃ er, dirS l = .error er ∧ er ≠ 0 ∧ e = .returned (.tuple #[.slice none 0 0, .int .i64 er]) ∧ Below w.heap.size w w') ∨
  (∃ es V, dirS l = .ok es ∧ e = .returned (.tuple #[V, .int .i64 0]) ∧ w'.ownsRow w.heap.size T 7 V es.length (recR l es) ∧ Below w.heap.size w w')
theorem endS_err {l : List Int} {er : Int} (h : endS l = .error er) : er = 9 ∨ er = 10 := by
  unfold endS at h
  simp only at h
  split at h
  · injection h with h; exact .inl h.symm
  · split at h
    · injection h with h; exact .inr h.symm
    · cases h
theorem dir_end2 {w w1 : World} {b : Option Addr} {c k : Nat} {l : List Int} (hc : l.length ≤ c) (hm : l.length ≤ 65536) (hb : Bs w w.heap.size b l) (hmx : Mx w) (hmp : Mp4 w1 w.heap.size k (sigF true true true)) (hb1 : Below w.heap.size w w1) :
    Calls Tryd.prog 17 #[.pointer (some ⟨w1.heap.size + 1, 0, none⟩)] (dirW w w1 b l.length c) fun e w' => (∃ er, endS l = .error er ∧ er ≠ 0 ∧ e = .returned (.int .i64 er) ∧ Below w.heap.size w w') ∨ (∃ fr tt ct, endS l = .ok (fr, (tt : Nat), ct) ∧ e = .returned (.int .i64 0) ∧ LK w w' (w1.heap.size + 1) w.heap.size k w1.heap.size (w1.heap.size + 2) b l.length c fr (tt : Nat) ct (.slice none 0 0) 0 [] []) := by
  have hnew := heap_alloc_new (w1.alloc (Obj.map #[] 0)) (.cells #[.slice b l.length c, .map (some w.heap.size), .int .i64 0, .int .i64 0, .int .i64 0, .map (some w1.heap.size), .slice none 0 0] 46)
  rw [show (w1.alloc (Obj.map #[] 0)).heap.size = w1.heap.size + 1 by simp] at hnew
  have hbl : Below w1.heap.size w1 (dirW w w1 b l.length c) := ((Below.refl w1.heap.size w1).alloc (Nat.le_refl _) (Obj.map #[] 0)).alloc (by simp) (.cells #[.slice b l.length c, .map (some w.heap.size), .int .i64 0, .int .i64 0, .int .i64 0, .map (some w1.heap.size), .slice none 0 0] 46)
  have hsz := hb1.size
  have hs2 : (dirW w w1 b l.length c).heap.size = w1.heap.size + 2 := by unfold dirW; simp
  have hlow := below_next hb1 (Nat.le_refl _) hbl
  have hmb := hmp.lt
  have hm2 : Mp4 (dirW w w1 b l.length c) w.heap.size k (sigF true true true) := hmp.blk (hbl.block _ hmp.lt)
  have hn1 : NM (w1.alloc (Obj.map #[] 0)) w1.heap.size 0 [] := NM.made w1
  have hn2 : NM (dirW w w1 b l.length c) w1.heap.size 0 [] := hn1.keep ((Below.refl (w1.alloc (Obj.map #[] 0)).heap.size _).alloc (Nat.le_refl _) _ |>.block _ (by simp))
  have hq1 : w.heap.size < (dirW w w1 b l.length c).heap.size := by omega
  have hq2 : w1.heap.size < (dirW w w1 b l.length c).heap.size := by omega
  refine (lkEnd hnew hm2 hc hm (hb.below hlow) (by omega)).mono ?_
  rintro e w' ⟨ho, h⟩
  have hlo := low_only hlow ho (by omega) (Nat.le_refl _)
  rcases h with ⟨er, h1, h2, h3⟩ | ⟨fr, tt, ct, h1, h2, h3⟩
  · exact .inl ⟨er, h1, h2, h3, hlo⟩
  · refine .inr ⟨fr, tt, ct, h1, h2, hlo, hmx.1, Nat.le_refl _, hmb, Nat.lt_succ_self _, Nat.lt_succ_self _, by rw [← hs2]; exact ho.size, h3, hm2.blk (ho.block _ hq1 (by intro e; injection e with e; omega)), hn2.keep (ho.block _ hq2 (by intro e; injection e with e; omega)), World.ownsRow_nil _ _ _ _, hmx.below hlo⟩
set_option maxHeartbeats 4000000 in
theorem dir_is (w : World) (b : Option Addr) (c : Nat) (l : List Int) (hc : l.length ≤ c) (hm : l.length ≤ 65536) (hb : Bs w w.heap.size b l) (hmx : Mx w) : Calls Tryd.prog 8 #[.slice b l.length c] w (DirP 32 l w) := by
  have hmm := @run_makeMap Tryd.prog
  have hsg := sigs_is w
  have hlen : decide ((l.length : Int) > 65536) = false := by simp; omega
  have HB := Lib.hid (And.intro hb hmx)
  have hD : dirS l = match endS l with
    | .error e => .error e
    | .ok (fr, tt, ct) => match cenS l tt ct.toNat fr.toNat [] with
      | .error e => .error e
      | .ok ps => match locsS l fr.toNat ps with
        | none => .error 15
        | some bs => if ovS l [] (ps.zip bs) then .error 16 else .ok (ps.zip bs) := rfl
  have HD := Lib.hid hD
  clear hb hmx hD
  go_enter Tryd.func8, Tryd.ntmps8
  go_wp2_with fail
  refine hsg.mono ?_
  rintro e w1 ⟨k, rfl, hmp, hb1⟩
  have hen := dir_end2 hc hm HB.out.1 HB.out.2 hmp hb1
  clear hsg hmp hb1
  unfold dirW at hen
  go_wp2_with fail
  refine hen.mono ?_
  rintro e w2 (⟨er, h1, h2, rfl, hb2⟩ | ⟨fr, tt, ct, h1, rfl, hL⟩)
  · have t1 : (er != 0) = true := by simp [h2]
    have H2 := Lib.hid (And.intro h1 (And.intro h2 hb2))
    clear hen hb2 h1 h2
    go_wp2_with fail
    go_ret2
    exact .inl ⟨er, by rw [HD.out, H2.out.1], H2.out.2.1, rfl, H2.out.2.2⟩
  · obtain ⟨htt, F, N, rfl, rfl, hF, hN, _, _⟩ := endS_ok HB.out.1.1 h1
    have hce := central_is hL HB.out.1 hc hm (by omega) hF hN
    have HE := Lib.hid (And.intro h1 (And.intro htt hF))
    have HN := Lib.hid hN
    clear hen hL h1 htt hF hN
    go_wp2_with fail
    refine hce.mono ?_
    rintro e w3 (⟨er, h1, h2, rfl, hb2⟩ | ⟨ps, V', h1, rfl, hL3⟩)
    · have t1 : (er != 0) = true := by simp [h2]
      have H2 := Lib.hid (And.intro h1 (And.intro h2 hb2))
      clear hce hb2 h1 h2
      go_wp2_with fail
      go_ret2
      exact .inl ⟨er, by rw [HD.out, HE.out.1]; simp only [Int.toNat_natCast]; rw [H2.out.1], H2.out.2.1, rfl, H2.out.2.2⟩
    · obtain ⟨hck, hpl⟩ := cenS_ok (fr := F) (ps := []) (Nat.le_refl _) ⟨fun p hp => (by cases hp), List.nodup_nil⟩ h1
      have hps : ∀ p ∈ ps, p + szL l p ≤ l.length := fun p hp => by have := (hck.at_ p hp).2.1; have := HE.out.2.1; omega
      have hlo := locals_is hL3 HB.out.1 hc hm (by have := HE.out.2; omega) hps (by rw [hpl]; simpa using HN.out)
      have HC := Lib.hid (And.intro h1 (And.intro hck (And.intro hps hpl)))
      clear hce hL3 h1 hck hps hpl
      go_wp2_with fail
      refine hlo.mono ?_
      rintro e w4 (⟨h1, rfl, hb2⟩ | ⟨bs, h1, rfl, hL4⟩)
      · have H2 := Lib.hid (And.intro h1 hb2)
        clear hlo hb2 h1
        go_wp2_with fail
        go_ret2
        exact .inl ⟨15, by rw [HD.out, HE.out.1]; simp only [Int.toNat_natCast]; rw [HC.out.1]; simp only; rw [H2.out.1], by decide, rfl, H2.out.2⟩
      · have hzl : (ps.zip bs).length = ps.length := by rw [List.length_zip, locsS_len h1]; omega
        have hall : ∀ e ∈ ps.zip bs, e.1 + 30 ≤ l.length ∧ e.2 ≤ 65536 := fun e he => by
          have h2 := HC.out.2.2.1 e.1 (List.of_mem_zip he).1
          have h3 := szL_ge l e.1
          have h4 := locS_ok (locsS_at h1 e he)
          have := HE.out.2
          omega
        have hN64 : ps.length ≤ 64 := by rw [HC.out.2.2.2]; simpa using HN.out
        have hov := overlap_is hL4 hzl hN64 HB.out.1.1 hall
        have H2 := Lib.hid (And.intro h1 (And.intro hzl (And.intro hall hN64)))
        clear hlo hL4 h1 hzl hall hN64
        obtain ⟨O, hO⟩ : ∃ O, ovS l [] (ps.zip bs) = O := ⟨_, rfl⟩
        rw [hO] at hov
        have HO := Lib.hid hO
        clear hO
        go_wp2_with fail
        refine hov.mono ?_
        rintro e w5 ⟨rfl, hL5⟩
        cases O with
        | true =>
          have H3 := Lib.hid hL5.low
          clear hov hL5
          go_wp2_with fail
          go_ret2
          exact .inl ⟨16, by rw [HD.out, HE.out.1]; simp only [Int.toNat_natCast]; rw [HC.out.1]; simp only; rw [H2.out.1]; simp only; rw [HO.out]; rfl, by decide, rfl, H3.out⟩
        | false =>
          have hre := records_is hL5 H2.out.2.1 H2.out.2.2.2 (fun e he => (H2.out.2.2.1 e he).1)
          have H3 := Lib.hid hL5.low
          clear hov hL5
          go_wp2_with fail
          refine hre.mono ?_
          rintro e w6 ⟨V6, rfl, hr6, hb6⟩
          have hsz := H3.out.size
          have H6 := Lib.hid (And.intro (own_base hr6 hsz) (below_next H3.out (Nat.le_refl _) hb6))
          clear hre hr6 hb6 hsz
          go_wp2_with fail
          go_ret2
          refine .inr ⟨ps.zip bs, V6, by rw [HD.out, HE.out.1]; simp only [Int.toNat_natCast]; rw [HC.out.1]; simp only; rw [H2.out.1]; simp only; rw [HO.out]; rfl, rfl, by rw [H2.out.2.1]; exact H6.out.1, H6.out.2⟩
end Go.Proofs.YtimojfkpcmphfaaDoor
