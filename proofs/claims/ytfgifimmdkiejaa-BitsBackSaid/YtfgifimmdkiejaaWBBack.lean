/- The walk of the law BitsBack: it returns true and turns nothing that was there. Condition: the widths and the numbers lie below the heap's size. -/
import Derived.Test.YtfgifimmdkiejaaWBReads
import Derived.Deep.DeepCutAuto
import Derived.Laws.Cover1
set_option linter.unusedVariables false
namespace Go.Proofs.Ytfgifimmdkiejaa
open Go.RowKit

/-- numbers put one behind the other -/
def PB (ws ns : List Int) : Nat → List Bool
  | 0 => []
  | i + 1 => putL (PB ws ns i) (ws.getD i 0 % 17).toNat (ns.getD i 0)
theorem PB_succ (ws ns : List Int) (i : Nat) : (PB ws ns (i + 1)).length = (PB ws ns i).length + (ws.getD i 0 % 17).toNat := putL_len _ _ _
theorem PB_le (ws ns : List Int) : ∀ i, (PB ws ns i).length ≤ 16 * i
  | 0 => by simp [PB]
  | i + 1 => by have := PB_le ws ns i; rw [PB_succ]; omega
theorem PB_mono (ws ns : List Int) (i : Nat) : ∀ k, (PB ws ns i).length ≤ (PB ws ns (i + k)).length
  | 0 => Nat.le_refl _
  | k + 1 => by have := PB_mono ws ns i k; rw [← Nat.add_assoc, PB_succ]; omega
theorem PB_bit (ws ns : List Int) (i : Nat) : ∀ k j, j < (PB ws ns i).length → bitL (PB ws ns (i + k)) j = bitL (PB ws ns i) j
  | 0, _, _ => rfl
  | k + 1, j, h => by
    have h1 := PB_mono ws ns i k
    have e : PB ws ns (i + (k + 1)) = putL (PB ws ns (i + k)) (ws.getD (i + k) 0 % 17).toNat (ns.getD (i + k) 0) := rfl
    rw [e, putL_bit, if_pos (by omega)]
    exact PB_bit ws ns i k j h
theorem PB_num (ws ns : List Int) {i K : Nat} (hi : i < K) {j : Nat} (hj : j < (ws.getD i 0 % 17).toNat) : bitL (PB ws ns K) ((PB ws ns i).length + j) = bitAt (ns.getD i 0) j := by
  obtain ⟨k, rfl⟩ : ∃ k, K = i + 1 + k := ⟨K - i - 1, by omega⟩
  rw [PB_bit ws ns (i + 1) k _ (by rw [PB_succ]; omega)]
  have e : PB ws ns (i + 1) = putL (PB ws ns i) (ws.getD i 0 % 17).toNat (ns.getD i 0) := rfl
  rw [e, putL_bit, if_neg (by omega), if_pos (by omega)]
  congr 1; omega
theorem PB_take (ws ns : List Int) {i K : Nat} (hi : i < K) : tk (pk (PB ws ns K)) (PB ws ns i).length (ws.getD i 0 % 17).toNat = ns.getD i 0 % 2 ^ (ws.getD i 0 % 17).toNat := by
  rw [tk_pk, mod_bsum]
  exact bsum_congr _ fun j hj => PB_num ws ns hi hj
theorem PB_one (ws ns : List Int) {i K : Nat} (hi : i < K) {j : Nat} (hj : j < (ws.getD i 0 % 17).toNat) : tk (pk (PB ws ns K)) ((PB ws ns i).length + j) 1 = bitAt (ns.getD i 0) j := by
  rw [tk_pk]
  simp only [bsum, Nat.add_zero]
  rw [PB_num ws ns hi hj]; simp
theorem and_mask64 (x : Int) (n : Nat) (hn : n ≤ 16) : bits .and .i64 x (2 ^ n - 1) = x % 2 ^ n := by
  have h1 := ofInt_toNat 64 x
  have hm := pow_mono2 (show n ≤ 16 by omega)
  have hp := pow_pos2 n
  have e16 : (2 : Int) ^ 16 = 65536 := by decide
  have h2 : (BitVec.ofInt 64 ((2 : Int) ^ n - 1)).toNat = 2 ^ n - 1 := by
    have := ofInt_toNat 64 ((2 : Int) ^ n - 1)
    have e1 := pow_cast n
    omega
  have hd : (2 : Int) ^ n ∣ 18446744073709551616 := ⟨2 ^ (64 - n), by rw [← Int.pow_add, show n + (64 - n) = 64 by omega]; rfl⟩
  have e : (((BitVec.ofInt 64 x).toNat % 2 ^ n : Nat) : Int) = x % 2 ^ n := by
    rw [Int.natCast_emod, h1, ← pow_cast]
    exact Int.emod_emod_of_dvd x hd
  have hlt := Int.emod_lt_of_pos x hp
  have hge := Int.emod_nonneg x (b := (2 : Int) ^ n) (by omega)
  rw [and64_is, BitVec.toNat_and, h2, Nat.and_two_pow_sub_one_eq_mod, e, wrap64_eq, wrap64_in _ (by omega)]

theorem Wt.low {w w' : World} {base g : Nat} {a : Option Addr} {c : Nat} {l : List Int} {k : Nat} (h : Wt w base g a c l k) (hg : base ≤ g) (hf : Foot (WF g a l.length c) w w') : Below base w w' :=
  hf.below (fun i hi hF => by
    rcases hF with q | q
    · omega
    · have := (h.2.1.lt i q).1; omega) (by have := blk_lt h.1; omega)
theorem takeR {w : World} {g : Nat} {ws ns : List Int} {k K : Nat} (hk : k < K) (hx : 0 ≤ ws.getD k 0 ∧ ws.getD k 0 ≤ 255) (h : Rdr 78 w g (pk (PB ws ns K)) (PB ws ns k).length) :
    Calls Try.prog 20 #[.pointer (some ⟨g, 0, none⟩), .int .i64 (ws.getD k 0 % 17)] w fun e w' => e = .returned (.tuple #[.int .i64 (ns.getD k 0 % 2 ^ (ws.getD k 0 % 17).toNat), .int .i64 0]) ∧ Rdr 78 w' g (pk (PB ws ns K)) (PB ws ns (k + 1)).length ∧ Only g w w' := by
  have hmono := PB_mono ws ns (k + 1) (K - k - 1)
  rw [show k + 1 + (K - k - 1) = K by omega] at hmono
  have hs := PB_succ ws ns k
  have hp := pk_len (PB ws ns K)
  have ht := bitTake (((ws.getD k 0 % 17).toNat : Nat) : Int) (by omega) h
  obtain ⟨e1, e2, e3⟩ := t_ok (l := pk (PB ws ns K)) (p := (PB ws ns k).length) (m := (ws.getD k 0 % 17).toNat) (by omega) (by omega)
  rw [e1, e2, e3, PB_take ws ns hk, ← hs] at ht
  rw [show ((((ws.getD k 0 % 17).toNat : Nat)) : Int) = ws.getD k 0 % 17 by omega] at ht
  exact ht
theorem takeS {w : World} {g : Nat} {ws ns : List Int} {k K j : Nat} (hk : k < K) (hj : j < (ws.getD k 0 % 17).toNat) (h : Rdr 78 w g (pk (PB ws ns K)) ((PB ws ns k).length + j)) :
    Calls Try.prog 20 #[.pointer (some ⟨g, 0, none⟩), .int .i64 1] w fun e w' => e = .returned (.tuple #[.int .i64 (bitAt (ns.getD k 0) j), .int .i64 0]) ∧ Rdr 78 w' g (pk (PB ws ns K)) ((PB ws ns k).length + (j + 1)) ∧ Only g w w' := by
  have hmono := PB_mono ws ns (k + 1) (K - k - 1)
  rw [show k + 1 + (K - k - 1) = K by omega] at hmono
  have hs := PB_succ ws ns k
  have hp := pk_len (PB ws ns K)
  have ht := bitTake ((1 : Nat) : Int) (by decide) h
  obtain ⟨e1, e2, e3⟩ := t_ok (l := pk (PB ws ns K)) (p := (PB ws ns k).length + j) (m := 1) (by omega) (by omega)
  rw [e1, e2, e3, PB_one ws ns hk hj] at ht
  exact ht
theorem Wt.only {w w' : World} {base g g2 : Nat} {a : Option Addr} {c : Nat} {l l2 : List Int} {k p : Nat} {T : TypeId} (h : Wt w base g a c l k) (h2 : Rdr T w g2 l2 p) (hne : g2 ≠ g) (hb : ∀ i, (Value.slice a l.length c).ownBlock = some i → i ≠ g2) (ho : Only g2 w w') : Wt w' base g a c l k :=
  h.keep fun i hi => by
    rcases hi with rfl | hi
    · exact ho.block _ (blk_lt h.1) (by intro e; injection e with e; exact hne e.symm)
    · exact ho.block _ (h.2.1.lt i hi).2 (by intro e; injection e with e; exact hb i hi e)
set_option maxRecDepth 100000 in
set_option maxHeartbeats 4000000 in
theorem bitsback_walk (w : World) (a0 : Option Addr) (n0 c0 : Nat) (ws : List Int) (hl0 : ws.length = n0) (hc0 : n0 ≤ c0) (hm0 : c0 ≤ 140737488351232) (hb0 : Bs w w.heap.size a0 ws)
    (a1 : Option Addr) (n1 c1 : Nat) (ns : List Int) (hl1 : ns.length = n1) (hc1 : n1 ≤ c1) (hm1 : c1 * 8 ≤ 140737488351232) (hb1 : Ints .i64 w w.heap.size a1 ns) :
    Calls Try.prog 10 #[.slice a0 n0 c0, .slice a1 n1 c1] w fun e w' => e = .returned (.bool true) ∧ Below w.heap.size w w' := by
  subst hl0
  subst hl1
  obtain ⟨K, hK⟩ : ∃ K : Nat, min (min ws.length ns.length) 300 = K := ⟨_, rfl⟩
  have hK1 : K ≤ ws.length := by omega
  have hK2 : K ≤ ns.length := by omega
  have hK3 : K ≤ 300 := by omega
  have hmin : (if (300 : Int) < (if (ns.length : Int) < (ws.length : Int) then (ns.length : Int) else (ws.length : Int)) then (300 : Int) else (if (ns.length : Int) < (ws.length : Int) then (ns.length : Int) else (ws.length : Int))) = (K : Int) := by
    split <;> split <;> omega
  have hmn : ∀ W, (Builtin.min_ #[3, 3, 3] 3 #[.int .i64 (ws.length : Int), .int .i64 (ns.length : Int), .int .i64 300]).run Try.prog W = .ok (.int .i64 K) W := fun W => by rw [run_min_int3, hmin]
  clear hmin hK
  go_enter Try.func10, Try.ntmps10
  go_wp2_with fail
  refine (bitFixed _).mono ?_; rintro e w1 ⟨rfl, hbel1⟩
  have hs1 := hbel1.size
  have hw1 := wt_new w1 w1.heap.size
  have hbelw := hbel1.alloc hs1 (.cells #[.slice none 0 0, .int .i64 0] 56)
  obtain ⟨gw, hgw⟩ : ∃ gw, gw = w1.heap.size := ⟨_, rfl⟩
  have HW := Lib.hid (And.intro hw1 hbelw)
  clear hw1 hbelw hgw
  go_upto_region 4 with (fail)
  go_cut [6] (fun v wx => v = .int .i64 K ∧ wx = w1.alloc (.cells #[.slice none 0 0, .int .i64 0] 56))
  case first =>
    go_wp2_with fail
    all_goals go_meet
    all_goals exact ⟨rfl, rfl⟩
  case rest =>
    obtain ⟨rfl, rfl⟩ := hcut
    clear hmn
    have k0 := hb0.below HW.out.2
    have k1 := hb1.below HW.out.2
    go_wp2_with fail
    go_loopw [7] (fun i wr => ∃ k : Nat, ∃ (a : Option Addr) (c : Nat), k ≤ K ∧ i = .int .i64 k ∧ Hid (Wt wr w1.heap.size w1.heap.size a c (pk (PB ws ns k)) (PB ws ns k).length) ∧ Below w.heap.size w wr) (fun i _ => (K - intOf i).toNat)
    case atStart => exact ⟨0, none, 0, by omega, rfl, Lib.hid HW.out.1, HW.out.2⟩
    case round =>
      obtain ⟨k, a, c, hk, rfl, HP, hbel⟩ := hrel
      by_cases hlt : k < K
      · obtain ⟨b, off, rfl, hbl, d0⟩ := (hb0.below hbel).at_ (i := k) (by omega)
        obtain ⟨b', off', rfl, hbl', d1, hwf⟩ := (hb1.below hbel).at_ (i := k) (by omega)
        have hx := hb0.1.at_ k
        have hv := bd_i64 hwf
        have hle := PB_le ws ns k
        have hsz := blk_lt HP.out.1
        have hsz2 := hbel.size
        have hput := fun (W : World) (h : Wt W w1.heap.size w1.heap.size a c (pk (PB ws ns k)) (PB ws ns k).length) => wrPutI h (by omega) (by have := blk_lt h.1; omega) (ws.getD k 0 % 17).toNat (ws.getD k 0 % 17) (by omega) (by omega) (ns.getD k 0) hv
        have hps : PB ws ns (k + 1) = putL (PB ws ns k) (ws.getD k 0 % 17).toNat (ns.getD k 0) := rfl
        rw [← hps] at hput
        have HPUT := Lib.hid hput
        have HD : Hid (Wt wr.drew w1.heap.size w1.heap.size a c (pk (PB ws ns k)) (PB ws ns k).length) := Lib.hid HP.out
        clear hput hps k0 k1 HW
        generalize ws.getD k 0 = x at *
        generalize ns.getD k 0 = v at *
        have i0 : (0 : Int) ≤ (k : Int) := by omega
        have i1 : (k : Int) < ws.length := by omega
        have i2 : (k : Int) < ns.length := by omega
        have i3 : IntKind.i64.wrap (x.tmod 17) = x % 17 := by rw [Int.tmod_eq_emod_of_nonneg hx.1]; exact IntWalk.i64_in _ (by omega)
        go_wp2_with fail
        go_region_held3 (fun W => W.cell? ⟨b, off + k, none⟩ = some (.int .u8 x) ∧ W.cell? ⟨b', off' + k, none⟩ = some (.int .i64 v)) (first | go_keep | exact ⟨(hbx.cell (p := ⟨b, off + k, none⟩) (show b < w1.heap.size by omega)).trans d0, (hbx.cell (p := ⟨b', off' + k, none⟩) (show b' < w1.heap.size by omega)).trans d1⟩) ((go_at_call 30; (with_reducible refine (HPUT.out wr.drew HD.out).mono ?_); rintro e w' ⟨rfl, a', c', hw', hf', hr'⟩; have hbx := Wt.low (w := wr.drew) HP.out (Nat.le_refl _) hf'))
        have hbel2 : Below w.heap.size w w' := (low_drewN hbel 1).trans (hbx.mono hs1)
        have HN := Lib.hid (And.intro hw' hbel2)
        clear hw' hf' hr' hbx hbel2
        go_wp2_with fail
        go_roundw
        case rel => exact ⟨k + 1, a', c', by omega, by go_num, Lib.hid HN.out.1, HN.out.2⟩
        case measure => simp [intOf]; omega
      · have hkK : k = K := by omega
        have HP2 : Hid (Wt wr w1.heap.size w1.heap.size a c (pk (PB ws ns K)) (PB ws ns K).length) := Lib.hid (by rw [← hkK]; exact HP.out)
        have hle := PB_le ws ns K
        have hpl := pk_len (PB ws ns K)
        have hsz2 := hbel.size
        clear hkK HP k0 k1 HW
        have HL := Lib.hid hpl
        have hl4 : (pk (PB ws ns K)).length ≤ 601 := by omega
        have hB1 := wrBytes HP2.out (pk_bytes _) (by omega)
        have HB1 := Lib.hid hB1
        clear hB1 hpl
        go_wp2_with fail
        refine HB1.out.mono ?_
        rintro e w2 ⟨aA, cA, rfl, hoA, hbA⟩
        have HP3 := Lib.hid (HP2.out.below hbA)
        have hbs := Bs.of_own hoA (pk_bytes (PB ws ns K))
        have hbel2 := below_next hbel (Nat.le_refl _) hbA
        have hsz3 := hbA.size
        clear hoA hbA HB1
        go_wp2_with fail
        refine (bitNew aA _ cA _ rfl (by omega) _ hbs).mono ?_
        rintro e w3 ⟨gr, ar, cr, rfl, hgr, hhr, hor, hltr, hbr⟩
        have hR := rdr_of_row (p := 0) hhr hor (pk_bytes _) (by omega) hltr (by omega)
        have HP4 := Lib.hid (HP3.out.below hbr)
        have hbel3 := below_next hbel2 (Nat.le_refl _) hbr
        have hsz4 := hbr.size
        have hgr3 := blk_lt hhr
        have HR := Lib.hid hR
        have HB2 := Lib.hid (wrBytes HP4.out (pk_bytes _) (by omega))
        clear hhr hor hltr hbr hbs HP3 hR
        go_wp2_with fail
        refine HB2.out.mono ?_
        rintro e w4 ⟨aC, cC, rfl, hoC, hbC⟩
        have HP5 := Lib.hid (HP4.out.below hbC)
        have hbs := Bs.of_own hoC (pk_bytes (PB ws ns K))
        have hbel4 := below_next hbel3 (Nat.le_refl _) hbC
        have HR2 := Lib.hid (rdr_low HR.out hbC)
        have hsz5 := hbC.size
        clear hoC hbC HB2 HP4 HR
        go_wp2_with fail
        refine (bitNew aC _ cC _ rfl (by omega) _ hbs).mono ?_
        rintro e w5 ⟨gs, as_, cs, rfl, hgs, hhs, hos, hlts, hbs5⟩
        have hS := rdr_of_row (p := 0) hhs hos (pk_bytes _) (by omega) hlts (by omega)
        have hne : gs ≠ gr := by omega
        have hgr1 : w1.heap.size < gr := by have := blk_lt HP2.out.1; omega
        have hrow : ∀ i, (Value.slice a (pk (PB ws ns K)).length c).ownBlock = some i → i < gr ∧ i < gs := fun i hi => by have := (HP2.out.2.1.lt i hi).2; omega
        have HROW := Lib.hid hrow
        clear hrow
        have HST := Lib.hid (And.intro (HP5.out.below hbs5) (And.intro (rdr_low HR2.out hbs5) (And.intro hS (below_next hbel4 (Nat.le_refl _) hbs5))))
        clear hhs hos hlts hbs5 hbs HP5 HR2 hS hbel2 hbel3 hbel4 HP2 hbel
        go_wp2_with fail
        go_loopw [10, 11, 12, 13, 14, 15, 16] (fun i _ _ _ _ _ _ wr => ∃ k : Nat, k ≤ K ∧ i = .int .i64 k ∧ Hid (Wt wr w1.heap.size w1.heap.size a c (pk (PB ws ns K)) (PB ws ns K).length ∧ Rdr 78 wr gr (pk (PB ws ns K)) (PB ws ns k).length ∧ Rdr 78 wr gs (pk (PB ws ns K)) (PB ws ns k).length) ∧ Below w.heap.size w wr) (fun i _ _ _ _ _ _ _ => (K - intOf i).toNat)
        case atStart => exact ⟨0, by omega, rfl, Lib.hid ⟨HST.out.1, HST.out.2.1, HST.out.2.2.1⟩, HST.out.2.2.2⟩
        case round =>
          clear HST
          obtain ⟨k, hk, rfl, HS, hbel⟩ := hrel
          by_cases hlt : k < K
          · obtain ⟨b, off, rfl, hbl, d0⟩ := (hb0.below hbel).at_ (i := k) (by omega)
            obtain ⟨b', off', rfl, hbl', d1w, hwf⟩ := hb1.at_ (i := k) (by omega)
            have HD1 : Hid (∀ W, Below w.heap.size w W → W.cell? ⟨b', off' + k, none⟩ = some (.int .i64 (ns.getD k 0))) := Lib.hid fun W hW => (hW.cell (p := ⟨b', off' + k, none⟩) hbl').trans d1w
            have d1 := HD1.out wr hbel
            clear d1w
            have hx := hb0.1.at_ k
            have hv := bd_i64 hwf
            have HTR := Lib.hid (takeR hlt hx HS.out.2.1)
            have HTS := Lib.hid (fun (W : World) (j : Nat) (hj : j < (ws.getD k 0 % 17).toNat) (h : Rdr 78 W gs (pk (PB ws ns K)) ((PB ws ns k).length + j)) => takeS hlt hj h)
            have hps := PB_succ ws ns k
            have HPS := Lib.hid hps
            clear hps
            obtain ⟨m, hm⟩ : ∃ m : Nat, (ws.getD k 0 % 17).toNat = m := ⟨_, rfl⟩
            have hm17 : ws.getD k 0 % 17 = (m : Int) := by omega
            rw [hm] at HTR HTS HPS
            rw [hm17] at HTR
            have hm16 : m ≤ 16 := by omega
            clear hm
            generalize ws.getD k 0 = x at *
            generalize ns.getD k 0 = v at *
            go_wp2_with fail
            refine HTR.out.mono ?_
            rintro e wA ⟨rfl, hRA, hoA⟩
            have hszr := hbel.size
            have hgr0 := blk_lt HS.out.1.1
            have d1A : wA.cell? ⟨b', off' + k, none⟩ = some (.int .i64 v) := only_at hoA (by omega) d1
            have hwA := Wt.only HS.out.1 HS.out.2.1 (by omega) (fun i hi => by have := HROW.out i hi; omega) hoA
            have hSA := rdr_keeps HS.out.2.2 HS.out.2.1 hne hoA
            have hbA := low_only hbel hoA (show w.heap.size ≤ gr by omega) (Nat.le_refl _)
            have HSA := Lib.hid (And.intro hwA (And.intro hRA (And.intro hSA hbA)))
            have hmask := and_mask64 v m hm16
            have hp1 := pow_pos2 m
            have hp2 := pow_mono2 hm16
            have e16 : (2 : Int) ^ 16 = 65536 := by decide
            rw [e16] at hp2
            clear hRA hwA hSA hbA hoA e16 HS hbel d0 d1
            go_wp2_with fail
            go_loopw [14, 15, 16] (fun i _ _ wr => ∃ j : Nat, j ≤ m ∧ i = .int .i64 j ∧ Hid (Wt wr w1.heap.size w1.heap.size a c (pk (PB ws ns K)) (PB ws ns K).length ∧ Rdr 78 wr gr (pk (PB ws ns K)) (PB ws ns (k + 1)).length ∧ Rdr 78 wr gs (pk (PB ws ns K)) ((PB ws ns k).length + j)) ∧ Below w.heap.size w wr) (fun i _ _ _ => (m - intOf i).toNat)
            case atStart => exact ⟨0, by omega, rfl, Lib.hid ⟨HSA.out.1, HSA.out.2.1, HSA.out.2.2.1⟩, HSA.out.2.2.2⟩
            case round =>
              clear HSA hmask hp1 hp2 d1A
              obtain ⟨j, hj, rfl, HS, hbel⟩ := hrel
              by_cases hlt2 : j < m
              · have d1 := HD1.out wr hbel
                have HT2 := Lib.hid (HTS.out wr j hlt2 HS.out.2.2)
                go_wp2_with fail
                refine HT2.out.mono ?_
                rintro e wB ⟨rfl, hSB, hoB⟩
                have d1B : wB.cell? ⟨b', off' + k, none⟩ = some (.int .i64 v) := only_at hoB (by omega) d1
                have hwB := Wt.only HS.out.1 HS.out.2.2 (by omega) (fun i hi => by have := HROW.out i hi; omega) hoB
                have hRB := rdr_keeps HS.out.2.1 HS.out.2.2 (Ne.symm hne) hoB
                have hbB := low_only hbel hoB (show w.heap.size ≤ gs by omega) (Nat.le_refl _)
                have HSB := Lib.hid (And.intro hwB (And.intro hRB (And.intro hSB hbB)))
                have hbit : bits .and .i64 (v / 2 ^ j) 1 = bitAt v j := by rw [and_one _ (div_bd v j _ _ (by decide) (by decide) hv)]; rfl
                have hbb := bitAt_bd v j
                clear hSB hwB hRB hbB hoB HS hbel d1
                generalize bitAt v j = bt at *
                go_wp2_with fail
                go_roundw
                case rel => exact ⟨j + 1, by omega, by go_num, Lib.hid ⟨HSB.out.1, HSB.out.2.1, HSB.out.2.2.1⟩, HSB.out.2.2.2⟩
                case measure => simp [intOf]; omega
              · obtain rfl : j = m := by omega
                go_wp2_with fail
                go_roundw
                case rel => exact ⟨k + 1, by omega, by go_num, Lib.hid ⟨HS.out.1, HS.out.2.1, by rw [HPS.out]; exact HS.out.2.2⟩, hbel⟩
                case measure => simp [intOf]; omega
          · have hkK : k = K := by omega
            have HS2 : Hid (Wt wr w1.heap.size w1.heap.size a c (pk (PB ws ns K)) (PB ws ns K).length ∧ Rdr 78 wr gr (pk (PB ws ns K)) (PB ws ns K).length) := Lib.hid (by have h := HS.out.2.1; rw [hkK] at h; exact ⟨HS.out.1, h⟩)
            have hpl := HL.out
            have hl8 : 8 * ((pk (PB ws ns K)).length : Int) - ((PB ws ns K).length : Int) < 8 := by omega
            have HL1 := Lib.hid (bitAtN HS2.out.2)
            have HL2 := Lib.hid (wrLen HS2.out.1)
            have HL3 := Lib.hid (bitLeft HS2.out.2)
            clear hkK HS hpl
            go_wp2_with fail
            refine HL1.out.mono ?_
            rintro e w6 ⟨rfl, rfl⟩
            go_wp2_with fail
            refine HL2.out.mono ?_
            rintro e w6 ⟨rfl, rfl⟩
            go_wp2_with fail
            refine HL3.out.mono ?_
            rintro e w6 ⟨rfl, m, rfl⟩
            have hd8 : decide (8 * ((pk (PB ws ns K)).length : Int) - ((PB ws ns K).length : Int) < 8) = true := by simpa using hl8
            go_wp2_with fail
            go_ret
            exact ⟨by simp, low_drewN hbel m⟩
end Go.Proofs.Ytfgifimmdkiejaa
