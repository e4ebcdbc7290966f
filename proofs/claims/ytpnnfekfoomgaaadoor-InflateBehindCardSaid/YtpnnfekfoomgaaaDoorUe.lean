/- What a copy lays: an append of one byte that keeps the cells of the elder row, for a region that draws its order; contract of copied. No condition but what the words say. -/
import Derived.Test.YtpnnfekfoomgaaaDoorUd
import Derived.Deep.RegionHeld3
import Derived.Deep.AppendLies
import Derived.Deep.RegionLaw
import Derived.BigRegion
import Derived.IntWalk
set_option linter.unusedVariables false
set_option maxRecDepth 100000
namespace Go.Proofs.YtpnnfekfoomgaaaDoor
open Go.RowKit

theorem run_app1 (ty : TypeId) (w : World) (base g n cap : Nat) (l : List Int) (hl : l.length = n) (hn : n < 40000) (hown : w.ownsRow base 5 1 (.slice (some ⟨g, 0, none⟩) n cap) n (l.map (Value.int .u8))) (hbase : base ≤ w.heap.size)
    (ad : Addr) (c : Nat) (x : Int) (hx : ∀ j u, [Value.int .u8 x][j]? = some u → w.cell? (ad.add j) = some u) :
    ∃ a2 c2 w', (Builtin.append_ #[22, 22] ty #[.slice (some ⟨g, 0, none⟩) n cap, .slice (some ad) 1 c]).run Tryd.prog w = .ok (.slice a2 (n + 1) c2) w' ∧ w'.ownsRow base 5 1 (.slice a2 (n + 1) c2) (n + 1) ((l ++ [x]).map (Value.int .u8)) ∧ w.grownBy w' (some g) ∧
      ((Value.slice a2 (n + 1) c2).ownBlock = some g ∨ (Value.slice a2 (n + 1) c2).ownBlock = some w.heap.size) ∧ ∀ k, k < n → w'.cell? ⟨g, k, none⟩ = some (.int .u8 (l.getD k 0)) := by
  obtain ⟨i0, hi, hz0, hz1, hz2⟩ := info_parts u8_info
  have h1 : ∀ u ∈ [Value.int .u8 x], u.oneCell' = true := by intro u hu; simp only [List.mem_singleton] at hu; subst hu; rfl
  obtain ⟨v', w', hr, h2, h3, _, h4⟩ := run_append_own_at (P := Tryd.prog) w base 22 ty 5 i0 (.int .u8 0) 1 1 Tryd.underlying22 hi hz0 hz1 hz2 rfl (by decide) _ n _ hown ad 1 c [.int .u8 x] rfl hx h1 (by unfold maxLen; omega) (by omega) hbase
  obtain ⟨a2, c2, rfl⟩ := own_shape h2
  have h2' : w'.ownsRow base 5 1 (.slice a2 (n + 1) c2) (n + 1) ((l ++ [x]).map (Value.int .u8)) := by rw [List.map_append]; exact h2
  refine ⟨a2, c2, w', hr, h2', h3, h4, fun k hk => ?_⟩
  rcases hown.2 with ⟨e, _⟩ | ⟨g', cap', cur, e, hbg, hg, hnc, hcm, hcs, htake⟩
  · cases e
  · injection e with e1 e2 e3
    injection e1 with e1
    injection e1 with e1
    subst e1 e3
    by_cases hroom : n + 1 ≤ cap
    · have hr2 := run_append_room (P := Tryd.prog) w 22 ty 5 i0 Tryd.underlying22 hi g n cap cur hg ad 1 c [.int .u8 x] (by rw [hz1]; rfl) hx h1 hroom (by rw [hz1, hcs]; simp; omega)
      rw [hr] at hr2
      injection hr2 with e4 e5
      injection e4 with e4 _ e6
      subst e4
      rw [own_byte h2' (by simp [hl]) (by omega), List.getD_eq_getElem?_getD, List.getElem?_append_left (by omega), ← List.getD_eq_getElem?_getD]
    · have hr2 := run_append_grow (P := Tryd.prog) w 22 ty 5 i0 (.int .u8 0) Tryd.underlying22 hi hz0 ⟨g, 0, none⟩ n cap (l.map (Value.int .u8)) (by rw [hz1]; simp [hl]) (hown.cells (g := g) rfl) ad 1 c [.int .u8 x] (by rw [hz1]; rfl) hx (by omega) (by omega) (by rw [hz2]; exact growslice_fits (by omega) (by omega))
      rw [hr] at hr2
      injection hr2 with e4 e5
      rw [e5]
      exact (World.cell?_of_block (heap_alloc_old w.drew _ (show g < w.drew.heap.size from blk_lt hg))).trans (own_byte hown hl hk)
theorem step_app1 {ops : Array Oper} {o : Oper} {a : Act} {w : World} {K : Act → World → Prop} {Q : Exit → Act → World → Prop} {E : Prop} (hgd : o.guard = none) (s x : Operand)
    (ho : o.op = .call { callee := .builtin .append, args := #[s, x], argTypes := #[22, 22] }) (base g n cap : Nat) (l : List Int) (hl : l.length = n) (hn : n < 40000) (hs : a.eval s = .slice (some ⟨g, 0, none⟩) n cap)
    (hown : w.ownsRow base 5 1 (.slice (some ⟨g, 0, none⟩) n cap) n (l.map (Value.int .u8))) (hbase : base ≤ w.heap.size) (ad : Addr) (c : Nat) (y : Int) (hx : a.eval x = .slice (some ad) 1 c) (hy : ∀ j u, [Value.int .u8 y][j]? = some u → w.cell? (ad.add j) = some u)
    (h : ∀ a2 c2 w', w'.ownsRow base 5 1 (.slice a2 (n + 1) c2) (n + 1) ((l ++ [y]).map (Value.int .u8)) → w.grownBy w' (some g) → ((Value.slice a2 (n + 1) c2).ownBlock = some g ∨ (Value.slice a2 (n + 1) c2).ownBlock = some w.heap.size) → (∀ k, k < n → w'.cell? ⟨g, k, none⟩ = some (.int .u8 (l.getD k 0))) → K (a.put o.dst (.slice a2 (n + 1) c2)) w') :
    if Region.wanted o (yielded ops a.tmps) = true then Oper.wp Tryd.prog o a w K Q else E := by
  have hw : Region.wanted o (yielded ops a.tmps) = true := by simp [Region.wanted, hgd]
  rw [if_pos hw]
  obtain ⟨a2, c2, w', hr, h2, h3, h4, h5⟩ := run_app1 o.type w base g n cap l hl hn hown hbase ad c y hy
  unfold Oper.wp execOp
  simp only [ho, resolve, invoke, builtin, Sem.run_bind, Sem.run_pure, Result.andThen_ok, List.map_toArray, List.map_cons, List.map_nil, hs, hx, hr]
  exact h _ _ _ h2 h3 h4 h5

theorem copyN_succ (far : Nat) : ∀ (n : Nat) (out : List Int), copyN out far (n + 1) = copyN out far n ++ [(copyN out far n).getD ((copyN out far n).length - far) 0]
  | 0, out => rfl
  | n + 1, out => by rw [copyN, copyN_succ far n]; rfl
theorem copyN_len (far : Nat) : ∀ (n : Nat) (out : List Int), (copyN out far n).length = out.length + n
  | 0, out => rfl
  | n + 1, out => by rw [copyN, copyN_len far n]; simp; omega
section
variable {w : World} {gu gr : Nat} {l : List Int} {limit : Nat} {fl fd : Option Addr} {p : Nat} {out : List Int} {o : Option Addr × Nat}
/-- what a copy makes behind a symbol above 256 -/
def copS (nd : List Nat) (l : List Int) (limit p1 : Nat) (out : List Int) (s : Int) : Except Int (Nat × List Int) := do
  let (n, p2) ← lenS l p1 s
  let (far, p3) ← disS nd l p2
  if (out.length : Int) < far then .error 7
  else if (limit : Int) - out.length < n then .error 8
  else .ok (p3, copyN out far.toNat n.toNat)
/-- what a call answers that lays -/
def Lays (w : World) (gu gr : Nat) (l : List Int) (limit : Nat) (fl fd : Option Addr) (out : List Int) (o : Option Addr × Nat) (s : Except Int (Nat × List Int)) (e : Ending) (w' : World) : Prop :=
  ∃ out' o', Stp gu gr w out o w' out' o' ∧ ((∃ p', s = .ok (p', out') ∧ e = .returned (.int .i64 0) ∧ Un w' gu gr l limit fl fd p' out' o') ∨ (∃ er, s = .error er ∧ er ≠ 0 ∧ e = .returned (.int .i64 er)))
theorem lenS_val {l : List Int} {p j p' : Nat} {v : Int} (hp : p ≤ 8 * l.length) (h : lenS l p ((j + 257 : Nat) : Int) = .ok (v, p')) : ∃ n : Nat, v = n ∧ 3 ≤ n ∧ n ≤ 400 ∧ p ≤ p' ∧ p' ≤ 8 * l.length := by
  by_cases h28 : 28 < j
  · unfold lenS at h; rw [if_pos (by omega)] at h; cases h
  · by_cases he : j = 28
    · subst he
      unfold lenS at h
      rw [if_neg (by omega), if_pos (by omega)] at h
      injection h with h
      injection h with h1 h2
      exact ⟨258, by rw [← h1]; rfl, by omega, by omega, by omega, by omega⟩
    · rw [lenS_mid (by omega)] at h
      obtain ⟨hq1, hq2⟩ := spreadL j (by omega)
      obtain ⟨hb1, hb2⟩ := lenL_bd j (by omega)
      cases ht : takeS l p (j / 4 - 1) with
      | error e => rw [ht] at h; cases h
      | ok x =>
        obtain ⟨t, q⟩ := x
        rw [ht] at h
        injection h with h
        injection h with h1 h2
        obtain ⟨ht1, ht2, ht3⟩ := takeS_val ht
        have hb := tk_bd l p (j / 4 - 1)
        rw [← ht1] at hb
        have hpw := pow_mono2 (show j / 4 - 1 ≤ 5 by omega)
        rw [show (2 : Int) ^ 5 = 32 by decide] at hpw
        obtain ⟨T, rfl⟩ := Int.eq_ofNat_of_zero_le hb.1
        exact ⟨3 + (if j < 4 then j else (4 + j % 4) * 2 ^ (j / 4 - 1)) + T, by omega, by omega, by omega, by omega, by omega⟩
theorem disS_val {ns : List Nat} {l : List Int} {p p' : Nat} {v : Int} (hp : p ≤ 8 * l.length) (h : disS ns l p = .ok (v, p')) : ∃ n : Nat, v = n ∧ 1 ≤ n ∧ n ≤ 40960 ∧ p ≤ p' ∧ p' ≤ 8 * l.length := by
  cases hn : nxS ns l p with
  | error e => unfold disS at h; rw [hn] at h; cases h
  | ok x =>
    obtain ⟨t, q⟩ := x
    obtain ⟨⟨j, hj, rfl⟩, h1, h2⟩ := nxS_ok hp hn
    by_cases h29 : 29 < j
    · unfold disS at h; rw [hn] at h; simp only [bind, Except.bind] at h; rw [if_pos (by omega)] at h; cases h
    · rw [disS_is hn (by omega)] at h
      obtain ⟨hq1, hq2⟩ := spreadD j (by omega)
      obtain ⟨hb1, hb2⟩ := lenD_bd j (by omega)
      cases ht : takeS l q (j / 2 - 1) with
      | error e => rw [ht] at h; cases h
      | ok x =>
        obtain ⟨t, q2⟩ := x
        rw [ht] at h
        injection h with h
        injection h with h3 h4
        obtain ⟨ht1, ht2, ht3⟩ := takeS_val ht
        have hb := tk_bd l q (j / 2 - 1)
        rw [← ht1] at hb
        have hpw := pow_mono2 (show j / 2 - 1 ≤ 13 by omega)
        rw [show (2 : Int) ^ 13 = 8192 by decide] at hpw
        obtain ⟨T, rfl⟩ := Int.eq_ofNat_of_zero_le hb.1
        exact ⟨1 + (if j < 2 then j else (2 + j % 2) * 2 ^ (j / 2 - 1)) + T, by omega, by omega, by omega, by omega, by omega⟩
set_option maxHeartbeats 4000000 in
theorem unCopied {F : Nat → Prop} {g j : Nat} {ns : List Nat} (hF : Aside w gu gr out o F) (hc : PC w F g ns) (hn : ns.length ≤ 300) (hj : j ≤ 100) (h : Un w gu gr l limit fl fd p out o) :
    Calls Tryd.prog 59 #[.pointer (some ⟨gu, 0, none⟩), .int .i64 ((j + 257 : Nat) : Int), .pointer (some ⟨g, 0, none⟩)] w (Lays w gu gr l limit fl fd out o (copS ns l limit p out ((j + 257 : Nat) : Int))) := by
  have hp := h.rdr.choose_spec.choose_spec.2.2.2.2.1
  have hcall := unLength j hj h
  have HH := Lib.hid (And.intro hF hc)
  have HO := Lib.hid (And.intro h.small h.lim)
  clear h hF hc
  go_enter Tryd.func59, Tryd.ntmps59
  go_wp2_with fail
  refine hcall.mono ?_
  rintro e w2 ⟨ho, ⟨v, p2, hv, rfl, hr⟩ | ⟨er, y, hv, hne, rfl⟩⟩
  · have hs2 : Stp gu gr w out o w2 out o := stp_only ho
    obtain ⟨n, rfl, hn3, hn4, hp2, hp3⟩ := lenS_val hp hv
    have hcall2 := unDistance (HH.out.1.step hs2) (HH.out.2.keep fun b hb => hs2.foot.block b (HH.out.1 b hb).1 (HH.out.1 b hb).2) hn hr
    have HV := Lib.hid (And.intro hv hs2)
    clear hcall hv ho hr hs2 HH
    go_wp2_with fail
    refine hcall2.mono ?_
    rintro e w3 ⟨ho, ⟨v, p3, hw, rfl, hr⟩ | ⟨er, y, hw, hne, rfl⟩⟩
    · obtain ⟨far, rfl, hf1, hf2, hp4, hp5⟩ := disS_val hp3 hw
      have hcop : copS ns l limit p out ((j + 257 : Nat) : Int) = if (out.length : Int) < far then .error 7 else if (limit : Int) - out.length < n then .error 8 else .ok (p3, copyN out far n) := by
        unfold copS; rw [HV.out.1]; simp only [bind, Except.bind]; rw [hw]; rfl
      have c1 : w3.cell? ⟨gu, 1, none⟩ = some (outV out o) := blk_cell hr.blk 1
      have hroom := unRoom hr
      have HX := Lib.hid (And.intro (HV.out.2.trans (stp_only ho)) hr)
      obtain ⟨L, hL⟩ : ∃ L, out.length = L := ⟨_, rfl⟩
      have hLs := HO.out.1
      have hLl := HO.out.2
      have hov : outV out o = .slice o.1 L o.2 := by rw [← hL]
      rw [hL] at hcop hroom hLs
      rw [hov] at c1
      have HLN := Lib.hid hL
      clear hcall2 hw ho HV hr hov hL
      by_cases hfar : L < far
      · have hd : decide ((far : Int) > L) = true := by simp; omega
        rw [if_pos (by omega)] at hcop
        have HC := Lib.hid hcop
        clear hcop
        go_wp2_with fail
        go_ret
        exact ⟨out, o, HX.out.1, .inr ⟨7, HC.out, by decide, rfl⟩⟩
      · have hd : decide ((far : Int) > L) = false := by simp; omega
        rw [if_neg (by omega)] at hcop
        go_wp2_with fail
        refine hroom.mono ?_
        rintro e w4 ⟨rfl, m, rfl⟩
        by_cases hlong : (limit : Int) - L < n
        · have hd2 : decide ((n : Int) > (limit : Int) - L) = true := by simp; omega
          rw [if_pos hlong] at hcop
          have HC := Lib.hid (And.intro hcop (HX.out.1.trans (stp_below (low_drewN (Below.refl _ _) m))))
          clear hcop HX hroom
          go_wp2_with fail
          go_ret
          exact ⟨out, o, HC.out.2, .inr ⟨8, HC.out.1, by decide, rfl⟩⟩
        · have hd2 : decide ((n : Int) > (limit : Int) - L) = false := by simp; omega
          rw [if_neg hlong] at hcop
          have HC := Lib.hid (And.intro hcop (And.intro (HX.out.1.trans (stp_below (low_drewN (Below.refl _ _) m))) (HX.out.2.below (low_drewN (Below.refl _ _) m))))
          clear hcop HX hroom c1
          generalize w3.drewN m = w5 at *
          go_wp2_with fail
          go_loopw [40] (fun i wr => ∃ k : Nat, k ≤ n ∧ i = .int .i64 k ∧ Hid (∃ o', Un wr gu gr l limit fl fd p3 (copyN out far k) o' ∧ Stp gu gr w out o wr (copyN out far k) o')) (fun i _ => n - (intOf i).toNat)
          case atStart => exact ⟨0, Nat.zero_le _, rfl, Lib.hid ⟨o, HC.out.2.2, HC.out.2.1⟩⟩
          case round =>
            obtain ⟨k, hk, rfl, H⟩ := hrel
            by_cases hlt : k < n
            · obtain ⟨o', hU, hS⟩ := H.out
              obtain ⟨cur, hcur⟩ : ∃ cur, copyN out far k = cur := ⟨_, rfl⟩
              have hM := copyN_len far k out
              rw [hcur] at hM
              rw [hcur] at hU hS
              rw [HLN.out] at hM
              obtain ⟨M, hMM⟩ : ∃ M, cur.length = M := ⟨_, rfl⟩
              have hrow := hU.row
              rw [hMM] at hM
              obtain ⟨I, hI⟩ : ∃ I, M - far = I := ⟨_, rfl⟩
              have hII : (M : Int) - (far : Int) = (I : Int) := by omega
              have hI1 : (I : Int) < (M : Int) := by omega
              have hI0 : (0 : Int) ≤ (I : Int) := by omega
              have hIn : I < M := by omega
              rcases hrow.2 with ⟨e, h0⟩ | ⟨g0, cap, cells, e, hbg, hg, _⟩
              · omega
              · injection e with e1 e2 e3
                have hov : outV cur o' = .slice (some ⟨g0, 0, none⟩) M cap := by rw [← hMM]; show Value.slice o'.1 _ o'.2 = _; rw [e1, e3]
                have c1 : wr.cell? ⟨gu, 1, none⟩ = some (.slice (some ⟨g0, 0, none⟩) M cap) := by rw [← hov]; exact blk_cell hU.blk 1
                have f1 : wr.frozen? ⟨gu, 1, none⟩ = false := blk_free hU.blk 1
                rw [hov, hMM] at hrow
                have cb : wr.cell? ⟨g0, I, none⟩ = some (.int .u8 (cur.getD I 0)) := own_byte hrow hMM hIn
                have hgu0 : gu < g0 := hbg
                have hg0 := blk_lt hg
                have HZ := Lib.hid (And.intro hU (And.intro hS (And.intro hcur (And.intro hI (And.intro hov hrow)))))
                have hMb : M < 32768 := by omega
                clear hU hS hcur hI hov hrow e1 e2 e3 hg hbg H
                obtain ⟨x, hx⟩ : ∃ x, cur.getD I 0 = x := ⟨_, rfl⟩
                rw [hx] at cb
                have HXX := Lib.hid hx
                have HMM := Lib.hid (And.intro hMM hM)
                have hwr : IntKind.i64.wrap (I : Int) = (I : Int) := IntWalk.i64_in _ (by omega)
                clear hx hMM hM hI1
                have hI1 : (I : Int) < (M : Int) := by omega
                clear hIn hfar
                have c1a : (wr.alloc (.cells #[.int .u8 x] 5)).cell? ⟨gu, 1, none⟩ = some (.slice (some ⟨g0, 0, none⟩) M cap) := (cell_keep' (Below.heap_alloc _ _ _ (show gu < wr.heap.size by omega))).trans c1
                have HEND : Hid (∀ a2 c2 w0 w1, Below wr.heap.size wr w0 → w1.ownsRow (gu + 1) 5 1 (.slice a2 (M + 1) c2) (M + 1) ((cur ++ [x]).map (Value.int .u8)) → w0.grownBy w1 (some g0) → ((Value.slice a2 (M + 1) c2).ownBlock = some g0 ∨ (Value.slice a2 (M + 1) c2).ownBlock = some w0.heap.size) →
                    ∃ o', Un (w1.setCell ⟨gu, 1, none⟩ (.slice a2 (M + 1) c2)) gu gr l limit fl fd p3 (copyN out far (k + 1)) o' ∧ Stp gu gr w out o (w1.setCell ⟨gu, 1, none⟩ (.slice a2 (M + 1) c2)) (copyN out far (k + 1)) o') := Lib.hid fun a2 c2 w0 w1 hb0 hown1 hgrow hat => by
                  obtain ⟨z1, z2, z3, z4, z5, z6⟩ := HZ.out
                  have e5 : cur.getD (cur.length - far) 0 = x := by rw [HMM.out.1, z4, HXX.out]
                  have e6 : (cur ++ [x]).length = M + 1 := by rw [List.length_append, HMM.out.1]; rfl
                  rw [copyN_succ, z3, e5]
                  have hx8 : Bytes [x] := by
                    have := Bytes.at_ z1.bytes I
                    rw [HXX.out] at this
                    exact Bytes.one this
                  have e7 : outV (cur ++ [x]) (a2, c2) = .slice a2 (M + 1) c2 := by show Value.slice a2 (cur ++ [x]).length c2 = _; rw [e6]
                  have hfin := unAppend (m := [x]) (o' := (a2, c2)) z1 hb0 hx8 (by rw [e6]; have := HMM.out.2; omega) (by rw [z5]; exact hgrow) (by rw [e6, e7]; exact hown1) (by rw [z5, e7]; exact hat)
                  rw [e7] at hfin
                  exact ⟨_, hfin.1, z2.trans hfin.2⟩
                go_wp2_with fail
                go_region_law (refine step_app1 (by rfl) _ _ (by rfl) (gu + 1) g0 M cap cur HMM.out.1 (by omega) (by rfl) (HZ.out.2.2.2.2.2.alloc _) (by simp; omega) ⟨wr.heap.size, 0, none⟩ 1 x (by rfl) (World.news_of_block (cs := #[.int .u8 x]) (t := 5) (fr := (0, 0)) (heap_alloc_new wr _)) ?_; intro a2 c2 w1 hown1 hgrow hat hold; have hb1 : w1.heap[gu]? = some _ := ((hgrow.block gu (by simp; omega) (by simp; omega)).trans (Below.heap_alloc _ _ _ (blk_lt HZ.out.1.blk))).trans HZ.out.1.blk; have hcw := blk_cell hb1 1; have hfw := blk_free hb1 1)
                all_goals (
                  clear hwr
                  go_wp2_with fail
                  refine ⟨⟨k + 1, by omega, by go_num, ?_⟩, by simp [intOf]; omega⟩
                  have hq := (Below.refl wr.heap.size wr).alloc (Nat.le_refl _) (.cells #[.int .u8 x] 5)
                  refine Lib.hid (HEND.out _ _ _ _ ?_ hown1 hgrow hat)
                  exact ⟨hq.os, hq.tape, hq.output, hq.size, hq.block⟩)
            · obtain rfl : k = n := by omega
              go_wp2_with fail
              go_ret
              obtain ⟨o', h1, h2⟩ := H.out
              exact ⟨_, o', h2, .inl ⟨p3, HC.out.1, rfl, h1⟩⟩
    · have hs : copS ns l limit p out ((j + 257 : Nat) : Int) = .error er := by unfold copS; rw [HV.out.1]; simp only [bind, Except.bind]; rw [hw]
      have HX := Lib.hid (And.intro hs (And.intro hne (HV.out.2.trans (stp_only ho))))
      have hd : (er != 0) = true := by simp [hne]
      clear hcall2 hw hne ho hs HV
      go_wp2_with fail
      go_ret
      exact ⟨out, o, HX.out.2.2, .inr ⟨er, HX.out.1, HX.out.2.1, rfl⟩⟩
  · have hs : copS ns l limit p out ((j + 257 : Nat) : Int) = .error er := by unfold copS; rw [hv]; rfl
    have HX := Lib.hid (And.intro hs (And.intro hne (stp_only (gu := gu) (out := out) (o := o) ho)))
    have hd : (er != 0) = true := by simp [hne]
    clear hcall hv hne ho hs HH
    go_wp2_with fail
    go_ret
    exact ⟨out, o, HX.out.2.2, .inr ⟨er, HX.out.1, HX.out.2.1, rfl⟩⟩
end
end Go.Proofs.YtpnnfekfoomgaaaDoor
