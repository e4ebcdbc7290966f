/- What a code of package prefix reads: contract of Next. Condition: the code is one of New's. -/
import Derived.Test.YtpnnfekfoomgaaaDoorPrN
import Derived.Test.YtpnnfekfoomgaaaDoorRdB
set_option linter.unusedVariables false
set_option maxRecDepth 100000
namespace Go.Proofs.YtpnnfekfoomgaaaDoor
open Go.RowKit Go.Maps Go.ChangeMaps

theorem look_is {W : World} {bm k : Nat} {D : DataW Unit} {f : Nat → Nat → Option Nat} (hom : W.ownsMap Tryd.prog 122 (plainElem Tryd.prog 3) bm k D) (hm : MapIs D f) {n v : Nat} (hn : n < 9223372036854775808) (hv : v < 9223372036854775808) :
    (Instr.lookup 118 (.map (some bm)) (wkey n v) true).run Tryd.prog W = .ok (.tuple #[.int .i64 (((f n v).getD 0 : Nat) : Int), .bool (f n v).isSome]) W := by
  obtain ⟨h1, h2⟩ := hm n v hn hv
  obtain ⟨cv, ps, hlk, hcv⟩ := hom.look_ok word_law Tryd.underlying118 (zeroI W) (plainElem_int Tryd.underlying3 (by decide : (Lit.int .i64 0).wf = true)) (wkey_is hn hv)
  obtain ⟨c, rfl, hc, _⟩ := plainElem_int_inv Tryd.underlying3 hcv
  have hc := congrArg Prod.fst hc
  rw [hlk, h1]
  cases hp : f n v with
  | none =>
    rw [hp] at h1
    have h3 := Maps.atKey_of_not_has (k := kl n v) (D := D) h1 (.lit (.int .i64 0))
    rw [h3] at hc
    injection hc with hc
    injection hc with _ hc
    rw [← hc]; rfl
  | some s =>
    have h3 := h2 s hp
    rw [h3] at hc
    injection hc with hc
    injection hc with _ hc
    rw [← hc]; rfl
theorem or_i64 (X V : Nat) (i : Nat) (hv : V < 2 ^ i) (h : 2 ^ i * X + V < 9223372036854775808) : bits .or .i64 ((2 ^ i * X : Nat) : Int) (V : Int) = ((2 ^ i * X + V : Nat) : Int) := by
  have h1 : (BitVec.ofInt 64 (V : Int)).toNat = V := by rw [BitVec.ofInt_natCast, BitVec.toNat_ofNat]; exact Nat.mod_eq_of_lt (by omega)
  have h2 : (BitVec.ofInt 64 ((2 ^ i * X : Nat) : Int)).toNat = 2 ^ i * X := by rw [BitVec.ofInt_natCast, BitVec.toNat_ofNat]; exact Nat.mod_eq_of_lt (by omega)
  show IntKind.i64.wrap (((BitVec.ofInt 64 ((2 ^ i * X : Nat) : Int) ||| BitVec.ofInt 64 (V : Int)).toNat : Nat) : Int) = _
  rw [BitVec.toNat_or, h1, h2, ← Nat.two_pow_add_eq_or_of_lt hv, IntWalk.i64_in] <;> omega
theorem or_bit1 (u : Nat) (b : Int) (hu : u < 32768) (hb : 0 ≤ b ∧ b ≤ 1) : bits .or .i64 ((u : Int) * 2) b = 2 * (u : Int) + b := by
  obtain ⟨V, rfl⟩ := Int.eq_ofNat_of_zero_le hb.1
  have := or_i64 u V 1 (by omega) (by omega)
  rw [show ((2 ^ 1 * u : Nat) : Int) = (u : Int) * 2 by omega] at this
  rw [this]; omega
theorem nextNil (r : Option Addr) (w : World) : Calls Tryd.prog 57 #[.pointer none, .pointer r] w fun e w' => e = .returned (.tuple #[.int .i64 0, .int .i64 1]) ∧ w = w' := by
  go_enter Tryd.func57, Tryd.ntmps57
  go_wp2_with fail
  go_ret2
  exact ⟨rfl, rfl⟩
theorem nextNone (g : Nat) (w : World) : Calls Tryd.prog 57 #[.pointer (some ⟨g, 0, none⟩), .pointer none] w fun e w' => e = .returned (.tuple #[.int .i64 0, .int .i64 1]) ∧ w = w' := by
  go_enter Tryd.func57, Tryd.ntmps57
  go_wp2_with fail
  go_ret2
  exact ⟨rfl, rfl⟩
set_option maxHeartbeats 2000000 in
theorem next_is {w : World} {F : Nat → Prop} {g gr : Nat} {ns : List Nat} {l : List Int} {p : Nat} (hF : ∀ b, F b → b < w.heap.size ∧ b ≠ gr) (h : PC w F g ns) (hr : Rdr 81 w gr l p) :
    Calls Tryd.prog 57 #[.pointer (some ⟨g, 0, none⟩), .pointer (some ⟨gr, 0, none⟩)] w fun e w' => e = .returned (.tuple #[.int .i64 (nxt ns l p).1, .int .i64 (nxt ns l p).2.1]) ∧ Rdr 81 w' gr l (nxt ns l p).2.2 ∧ Only gr w w' := by
  have hgr : gr < w.heap.size := by obtain ⟨_, _, hh, _⟩ := hr; exact blk_lt hh
  have hr1 : Rdr 81 (w.alloc (.cells #[.int .i64 0, .int .i64 0] 122)) gr l p := by
    obtain ⟨a, c, q1, q2, q3, q4, q5, q6⟩ := hr
    have hlow : ∀ k, k < w.heap.size → (w.alloc (.cells #[.int .i64 0, .int .i64 0] 122)).heap[k]? = w.heap[k]? := fun k hk => Below.heap_alloc _ _ _ hk
    exact ⟨a, c, (hlow gr hgr).trans q1, q2, q3, q4.keep fun q hq => cell_keep' (hlow _ (by omega)), q5, q6⟩
  have hnew := heap_alloc_new w (.cells #[.int .i64 0, .int .i64 0] 122)
  have hon : Only gr w (w.alloc (.cells #[.int .i64 0, .int .i64 0] 122)) := only_alloc (only_refl _ _) _
  obtain ⟨bw, bm, k, D, f1, f2, f3, h1, h2, h3, h4⟩ := h
  have HF := Lib.hid (And.intro (hF g f1) (And.intro (hF bw f2) (hF bm f3)))
  have H0 := Lib.hid (And.intro h1 (And.intro h3 h4))
  have HS := Lib.hid (And.intro hr1 (And.intro hnew hon))
  have hz := zeroW
  clear h1 h2 h3 h4 f1 f2 f3 hF hr1 hnew hon hr
  go_enter Tryd.func57, Tryd.ntmps57
  go_wp2_with fail
  clear hz
  generalize (w.alloc (.cells #[.int .i64 0, .int .i64 0] 122)) = w1 at *
  have hL15 := plong_le ns 15
  generalize hL : plong ns 15 = L at *
  go_loopg [] L (fun K wr => ∃ n : Nat, n + K ≤ L ∧ L ≤ n + K ∧ Hid (nxt ns l p = nxR ns l p n K) ∧ Hid (Rdr 81 wr gr l (p + n)) ∧ Hid (wr.heap[w.heap.size]? = some (.cells #[.int .i64 n, .int .i64 (wd l p n)] 122 (0, 0)) ∧ Only gr w wr))
  case atStart => exact ⟨0, by omega, by omega, Lib.hid (by rw [← hL]; rfl), Lib.hid HS.out.1, Lib.hid HS.out.2⟩
  case round =>
    clear HS w1
    obtain ⟨n, hn1, hn2, HN, HR, HW⟩ := hrel
    have hcode : wr.heap[g]? = some (.cells (codeCells bw bm ns.length L) 120 (0, 0)) := (HW.out.2.block g HF.out.1.1 (by intro e; injection e with e; exact HF.out.1.2 e)).trans H0.out.1
    have k1 : wr.cell? ⟨g, 1, none⟩ = some (.map (some bm)) := by rw [blk_cell hcode]; rfl
    have k2 : wr.cell? ⟨g, 2, none⟩ = some (.int .i64 L) := by rw [blk_cell hcode]; rfl
    have e0 : wr.cell? ⟨w.heap.size, 0, none⟩ = some (.int .i64 n) := by rw [blk_cell HW.out.1]; rfl
    have e1 : wr.cell? ⟨w.heap.size, 1, none⟩ = some (.int .i64 (wd l p n)) := by rw [blk_cell HW.out.1]; rfl
    clear hcode
    cases gk with
    | zero =>
      obtain rfl : n = L := by omega
      have hlt : ¬ ((n : Int) < n) := by omega
      have HN2 := HN.out
      rw [nxR_end] at HN2
      have HN3 := Lib.hid HN2
      clear HN2 HN hn1 hn2 hL hL15
      go_wp2_with fail
      go_quiet (fail)
      go_wp2_with fail
      go_ret2
      exact ⟨ret2' (by rw [HN3.out]) (by rw [HN3.out]), by rw [HN3.out]; exact HR.out, only_drewN HW.out.2 _⟩
    | succ K =>
      have hlt : (n : Int) < L := by omega
      by_cases hsh : p + n < 8 * l.length
      · have htk : tk l (p + n) 1 = bt l (p + n) := by simp [tk, bsum]
        obtain ⟨q1, q2, q3⟩ : errT l (p + n) 1 = 0 ∧ valT l (p + n) 1 = bt l (p + n) ∧ posT l (p + n) 1 = p + n + 1 := by
          have h := t_ok (l := l) (p := p + n) (m := 1) (by decide) (by omega)
          rw [htk] at h; exact h
        have hcall := fun m => bitTake (w := wr.drewN m) 1 (by decide) HR.out
        rw [q1, q2, q3] at hcall
        have hv : (wd l p (n + 1) : Int) = 2 * (wd l p n : Int) + bt l (p + n) := by
          have := (bt_nat l (p + n)).1
          rw [wd]; omega
        have hbb := bt_bd l (p + n)
        have hvlt := wd_lt l p (n + 1)
        have hp15 := Nat.pow_le_pow_right (n := 2) (by decide) (by omega : n + 1 ≤ 15)
        rw [(by decide : 2 ^ 15 = 32768)] at hp15
        have hsome := fun s hs => nxR_some ns l p n K s hsh hs
        have hnone := fun hs => nxR_none ns l p n K hsh hs
        rw [← HN.out] at hsome hnone
        have HSO := Lib.hid (And.intro hsome hnone)
        clear q1 q2 q3 htk hsome hnone
        generalize bt l (p + n) = b at *
        obtain ⟨u, hu⟩ : ∃ u, wd l p n = u := ⟨_, rfl⟩
        obtain ⟨v, hv'⟩ : ∃ v, wd l p (n + 1) = v := ⟨_, rfl⟩
        rw [hu] at e1 hv
        rw [hv'] at hv hvlt
        rw [hv'] at HSO
        have HV := Lib.hid (And.intro hu hv')
        have hv15 : v < 32768 := by omega
        clear hu hv' hvlt hp15 hL
        go_wp2_with fail
        go_quiet (fail)
        go_wp2_with fail
        refine (hcall _).mono ?_
        rintro e w3 ⟨rfl, hr3, ho3⟩
        have hW3 : w3.heap[w.heap.size]? = some (.cells #[.int .i64 n, .int .i64 u] 122 (0, 0)) := by
          have := (ho3.block w.heap.size (blk_lt (w := wr) HW.out.1) (by intro e; injection e with e; omega)).trans HW.out.1
          rw [HV.out.1] at this
          exact this
        have d0 : w3.cell? ⟨w.heap.size, 0, none⟩ = some (.int .i64 n) := by rw [blk_cell hW3]; rfl
        have d1 : w3.cell? ⟨w.heap.size, 1, none⟩ = some (.int .i64 u) := by rw [blk_cell hW3]; rfl
        have d2 := blk_free hW3 0
        have d3 := blk_free hW3 1
        clear hcall e0 e1 k1 k2
        go_upto_region 9 with (fail)
        rename_i hK
        have hor := or_bit1 u b (by omega) hbb
        rw [hor, ← hv, show (n : Int) + 1 = ((n + 1 : Nat) : Int) by omega]
        obtain ⟨m, hm⟩ : ∃ m, n + 1 = m := ⟨_, rfl⟩
        rw [hm] at HSO ⊢
        have HVV := Lib.hid hv
        clear hv
        have hm15 : m ≤ 15 := by omega
        have hm1 : 1 ≤ m := by omega
        have hw4 := blk_set (blk_set hW3 0 (.int .i64 (m : Int))) 1 (.int .i64 (v : Int))
        have ho4 : Only gr w ((w3.setCell ⟨w.heap.size, 0, none⟩ (.int .i64 (m : Int))).setCell ⟨w.heap.size, 1, none⟩ (.int .i64 (v : Int))) := by
          have h1 := only_trans (only_drewN HW.out.2 nq) ho3
          refine ⟨h1.os, h1.tape, h1.output, by simpa [World.setCell] using h1.size, fun i hi hne => ?_⟩
          exact (Below.heap_setCell _ ⟨w.heap.size, 1, none⟩ _ i (by show i ≠ w.heap.size; omega)).trans ((Below.heap_setCell _ ⟨w.heap.size, 0, none⟩ _ i (by show i ≠ w.heap.size; omega)).trans (h1.block i hi hne))
        have hr4 : Rdr 81 ((w3.setCell ⟨w.heap.size, 0, none⟩ (.int .i64 (m : Int))).setCell ⟨w.heap.size, 1, none⟩ (.int .i64 (v : Int))) gr l (p + n + 1) := by
          obtain ⟨a, c, q1, q2, q3, q4, q5, q6⟩ := hr3
          have hlow : ∀ k, k ≠ w.heap.size → ((w3.setCell ⟨w.heap.size, 0, none⟩ (.int .i64 (m : Int))).setCell ⟨w.heap.size, 1, none⟩ (.int .i64 (v : Int))).heap[k]? = w3.heap[k]? := fun k hk => (Below.heap_setCell _ ⟨w.heap.size, 1, none⟩ _ k hk).trans (Below.heap_setCell _ ⟨w.heap.size, 0, none⟩ _ k hk)
          exact ⟨a, c, (hlow gr (by omega)).trans q1, q2, q3, q4.keep fun q hq => cell_keep' (hlow _ (by omega)), q5, q6⟩
        clear hor hr3 ho3 hW3 d0 d1 d2 d3
        generalize ((w3.setCell ⟨w.heap.size, 0, none⟩ (.int .i64 (m : Int))).setCell ⟨w.heap.size, 1, none⟩ (.int .i64 (v : Int))) = w4 at *
        have k1 : w4.cell? ⟨g, 1, none⟩ = some (.map (some bm)) := by rw [blk_cell ((ho4.block g HF.out.1.1 (by intro e; injection e with e; exact HF.out.1.2 e)).trans H0.out.1)]; rfl
        have d0 : w4.cell? ⟨w.heap.size, 0, none⟩ = some (.int .i64 (m : Int)) := by rw [blk_cell hw4]; rfl
        have d1 : w4.cell? ⟨w.heap.size, 1, none⟩ = some (.int .i64 v) := by rw [blk_cell hw4]; rfl
        have hom := ownsMap_blk H0.out.2.1 (ho4.block bm HF.out.2.2.1 (by intro e; injection e with e; exact HF.out.2.2.2 e))
        have hlk : ∀ dd, (Instr.lookup 118 (.map (some bm)) (.agg #[.int .i64 (m : Int), .int .i64 (v : Int)]) true).run Tryd.prog (w4.drewN dd) = .ok (.tuple #[.int .i64 (((plookTo ns ns.length m v).getD 0 : Nat) : Int), .bool (plookTo ns ns.length m v).isSome]) (w4.drewN dd) := fun dd => look_is (W := w4.drewN dd) (ownsMap_blk hom rfl) H0.out.2.2 (n := m) (v := v) (by omega) (by omega)
        rw [plookTo_all _ (by omega)] at hlk
        have H4 := Lib.hid (And.intro hw4 (And.intro hr4 ho4))
        clear hw4 hr4 ho4 hom
        cases hp : plook ns m v with
        | some s =>
          have hres := HSO.out.1 s hp
          rw [hp] at hlk
          have HE := Lib.hid hres
          clear hres hp HSO HN
          simp only [Option.getD_some, Option.isSome_some] at hlk
          go_quiet (fail)
          go_wp2_with fail
          go_ret2
          exact ⟨ret2' (by rw [HE.out]) (by rw [HE.out]), by rw [HE.out]; exact H4.out.2.1, only_drewN H4.out.2.2 _⟩
        | none =>
          have hres := HSO.out.2 hp
          rw [hp] at hlk
          have HE := Lib.hid hres
          clear hres hp HSO HN
          simp only [Option.getD_none, Option.isSome_none] at hlk
          go_quiet (fail)
          refine hK _ _ ?_
          go_wp2_with fail
          go_roundg K
          case measure => omega
          case rel => exact ⟨m, by omega, by omega, HE, Lib.hid (by rw [← hm, ← Nat.add_assoc]; exact H4.out.2.1), Lib.hid ⟨by rw [← hm, HV.out.2, hm]; exact H4.out.1, only_drewN H4.out.2.2 _⟩⟩
      · obtain ⟨q1, q2, q3⟩ := t_short (l := l) (p := p + n) (n := 1) (by decide) (by omega)
        have hcall := fun m => bitTake (w := wr.drewN m) 1 (by decide) HR.out
        rw [q1, q2, q3] at hcall
        have hres := nxR_short ns l p n K (by omega)
        rw [← HN.out] at hres
        have HE := Lib.hid hres
        clear q1 q2 q3 hres hL HN
        go_wp2_with fail
        go_quiet (fail)
        go_wp2_with fail
        refine (hcall _).mono ?_
        rintro e w3 ⟨rfl, hr3, ho3⟩
        have HR3 := Lib.hid hr3
        clear hr3 hcall
        go_wp2_with fail
        go_ret2
        exact ⟨ret2' (by rw [HE.out]) (by rw [HE.out]), by rw [HE.out]; exact HR3.out, only_trans (only_drewN HW.out.2 _) ho3⟩
end Go.Proofs.YtpnnfekfoomgaaaDoor
