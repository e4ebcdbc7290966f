/- What a copy lays: an append of one byte that keeps the cells of the elder row, for a region that draws its order; contract of copied. No condition but what the words say. A block's symbols: contract of symbols. No condition but what the words say. A block whose bytes stand as they are: contract of stored. No condition but what the words say. -/
import Derived.Test.YtdcpibglbanchaaDoorIa
import Derived.Deep.RegionHeld3
import Derived.Deep.AppendLies
import Derived.Deep.RegionLaw
import Derived.BigRegion
import Derived.IntWalk
set_option linter.unusedVariables false
set_option maxRecDepth 100000
namespace Go.Proofs.YtdcpibglbanchaaDoor
open Go.RowKit

theorem run_app1 (ty : TypeId) (w : World) (base g n cap : Nat) (l : List Int) (hl : l.length = n) (hn : n < 40000) (hown : w.ownsRow base 5 1 (.slice (some ⟨g, 0, none⟩) n cap) n (l.map (Value.int .u8))) (hbase : base ≤ w.heap.size)
    (ad : Addr) (c : Nat) (x : Int) (hx : ∀ j u, [Value.int .u8 x][j]? = some u → w.cell? (ad.add j) = some u) :
    ∃ a2 c2 w', (Builtin.append_ #[22, 22] ty #[.slice (some ⟨g, 0, none⟩) n cap, .slice (some ad) 1 c]).run Tryd.prog w = .ok (.slice a2 (n + 1) c2) w' ∧ w'.ownsRow base 5 1 (.slice a2 (n + 1) c2) (n + 1) ((l ++ [x]).map (Value.int .u8)) ∧ w.grownBy w' (some g) ∧
      ((Value.slice a2 (n + 1) c2).ownBlock = some g ∨ (Value.slice a2 (n + 1) c2).ownBlock = some w.heap.size) ∧ ∀ k, k < n → w'.cell? ⟨g, k, none⟩ = some (.int .u8 (l.getD k 0)) := by
  obtain ⟨i0, hi, hz0, hz1, hz2⟩ := info_parts u8_info
  have h1 : ∀ u ∈ [Value.int .u8 x], u.oneCell' = true := by intro u hu; simp only [List.mem_singleton] at hu; subst hu; rfl
  obtain ⟨v', w', hr, h2, h3, _, h4⟩ := run_append_own_at (P := Tryd.prog) w base 22 ty 5 i0 (.int .u8 0) 1 1 Tryd.underlying22 hi hz0 hz1 hz2 rfl (by decide) _ n _ hown ad 1 c [.int .u8 x] rfl hx h1 (by unfold maxLen; omega) (by omega) hbase
  obtain ⟨a2, c2, rfl⟩ := own_shape h2
  have h2' : w'.ownsRow base 5 1 (.slice a2 (n + 1) c2) (n + 1) ((l ++ [x]).map (Value.int .u8)) := by rw [List.map_append]; exact h2
  refine ⟨a2, c2, w', hr, h2', h3, h4, fun k hk => ?_⟩
  rcases hown.2 with ⟨e, _⟩ | ⟨g', cap', cur, e, hbg, hg, hnc, hcm, hcs, htake⟩
  · cases e
  · injection e with e1 e2 e3
    injection e1 with e1
    injection e1 with e1
    subst e1 e3
    by_cases hroom : n + 1 ≤ cap
    · have hr2 := run_append_room (P := Tryd.prog) w 22 ty 5 i0 Tryd.underlying22 hi g n cap cur hg ad 1 c [.int .u8 x] (by rw [hz1]; rfl) hx h1 hroom (by rw [hz1, hcs]; simp; omega)
      rw [hr] at hr2
      injection hr2 with e4 e5
      injection e4 with e4 _ e6
      subst e4
      rw [own_byte h2' (by simp [hl]) (by omega), List.getD_eq_getElem?_getD, List.getElem?_append_left (by omega), ← List.getD_eq_getElem?_getD]
    · have hr2 := run_append_grow (P := Tryd.prog) w 22 ty 5 i0 (.int .u8 0) Tryd.underlying22 hi hz0 ⟨g, 0, none⟩ n cap (l.map (Value.int .u8)) (by rw [hz1]; simp [hl]) (hown.cells (g := g) rfl) ad 1 c [.int .u8 x] (by rw [hz1]; rfl) hx (by omega) (by omega) (by rw [hz2]; exact growslice_fits (by omega) (by omega))
      rw [hr] at hr2
      injection hr2 with e4 e5
      rw [e5]
      exact (World.cell?_of_block (heap_alloc_old w.drew _ (show g < w.drew.heap.size from blk_lt hg))).trans (own_byte hown hl hk)
theorem step_app1 {ops : Array Oper} {o : Oper} {a : Act} {w : World} {K : Act → World → Prop} {Q : Exit → Act → World → Prop} {E : Prop} (hgd : o.guard = none) (s x : Operand)
    (ho : o.op = .call { callee := .builtin .append, args := #[s, x], argTypes := #[22, 22] }) (base g n cap : Nat) (l : List Int) (hl : l.length = n) (hn : n < 40000) (hs : a.eval s = .slice (some ⟨g, 0, none⟩) n cap)
    (hown : w.ownsRow base 5 1 (.slice (some ⟨g, 0, none⟩) n cap) n (l.map (Value.int .u8))) (hbase : base ≤ w.heap.size) (ad : Addr) (c : Nat) (y : Int) (hx : a.eval x = .slice (some ad) 1 c) (hy : ∀ j u, [Value.int .u8 y][j]? = some u → w.cell? (ad.add j) = some u)
    (h : ∀ a2 c2 w', w'.ownsRow base 5 1 (.slice a2 (n + 1) c2) (n + 1) ((l ++ [y]).map (Value.int .u8)) → w.grownBy w' (some g) → ((Value.slice a2 (n + 1) c2).ownBlock = some g ∨ (Value.slice a2 (n + 1) c2).ownBlock = some w.heap.size) → (∀ k, k < n → w'.cell? ⟨g, k, none⟩ = some (.int .u8 (l.getD k 0))) → K (a.put o.dst (.slice a2 (n + 1) c2)) w') :
    if Region.wanted o (yielded ops a.tmps) = true then Oper.wp Tryd.prog o a w K Q else E := by
  have hw : Region.wanted o (yielded ops a.tmps) = true := by simp [Region.wanted, hgd]
  rw [if_pos hw]
  obtain ⟨a2, c2, w', hr, h2, h3, h4, h5⟩ := run_app1 o.type w base g n cap l hl hn hown hbase ad c y hy
  unfold Oper.wp execOp
  simp only [ho, resolve, invoke, builtin, Sem.run_bind, Sem.run_pure, Result.andThen_ok, List.map_toArray, List.map_cons, List.map_nil, hs, hx, hr]
  exact h _ _ _ h2 h3 h4 h5

theorem copyN_succ (far : Nat) : ∀ (n : Nat) (out : List Int), copyN out far (n + 1) = copyN out far n ++ [(copyN out far n).getD ((copyN out far n).length - far) 0]
  | 0, out => rfl
  | n + 1, out => by rw [copyN, copyN_succ far n]; rfl
theorem copyN_len (far : Nat) : ∀ (n : Nat) (out : List Int), (copyN out far n).length = out.length + n
  | 0, out => rfl
  | n + 1, out => by rw [copyN, copyN_len far n]; simp; omega
section
variable {w : World} {gu gr : Nat} {l : List Int} {limit : Nat} {fl fd : Option Addr} {p : Nat} {out : List Int} {o : Option Addr × Nat}
/-- what a copy makes behind a symbol above 256 -/
def copS (nd : List Nat) (l : List Int) (limit p1 : Nat) (out : List Int) (s : Int) : Except Int (Nat × List Int) := do
  let (n, p2) ← lenS l p1 s
  let (far, p3) ← disS nd l p2
  if (out.length : Int) < far then .error 7
  else if (limit : Int) - out.length < n then .error 8
  else .ok (p3, copyN out far.toNat n.toNat)
/-- what a call answers that lays -/
def Lays (w : World) (gu gr : Nat) (l : List Int) (limit : Nat) (fl fd : Option Addr) (out : List Int) (o : Option Addr × Nat) (s : Except Int (Nat × List Int)) (e : Ending) (w' : World) : Prop :=
  ∃ out' o', Stp gu gr w out o w' out' o' ∧ ((∃ p', s = .ok (p', out') ∧ e = .returned (.int .i64 0) ∧ Un w' gu gr l limit fl fd p' out' o') ∨ (∃ er, s = .error er ∧ er ≠ 0 ∧ e = .returned (.int .i64 er)))
theorem lenS_val {l : List Int} {p j p' : Nat} {v : Int} (hp : p ≤ 8 * l.length) (h : lenS l p ((j + 257 : Nat) : Int) = .ok (v, p')) : ∃ n : Nat, v = n ∧ 3 ≤ n ∧ n ≤ 400 ∧ p ≤ p' ∧ p' ≤ 8 * l.length := by
  by_cases h28 : 28 < j
  · unfold lenS at h; rw [if_pos (by omega)] at h; cases h
  · by_cases he : j = 28
    · subst he
      unfold lenS at h
      rw [if_neg (by omega), if_pos (by omega)] at h
      injection h with h
      injection h with h1 h2
      exact ⟨258, by rw [← h1]; rfl, by omega, by omega, by omega, by omega⟩
    · rw [lenS_mid (by omega)] at h
      obtain ⟨hq1, hq2⟩ := spreadL j (by omega)
      obtain ⟨hb1, hb2⟩ := lenL_bd j (by omega)
      cases ht : takeS l p (j / 4 - 1) with
      | error e => rw [ht] at h; cases h
      | ok x =>
        obtain ⟨t, q⟩ := x
        rw [ht] at h
        injection h with h
        injection h with h1 h2
        obtain ⟨ht1, ht2, ht3⟩ := takeS_val ht
        have hb := tk_bd l p (j / 4 - 1)
        rw [← ht1] at hb
        have hpw := pow_mono2 (show j / 4 - 1 ≤ 5 by omega)
        rw [show (2 : Int) ^ 5 = 32 by decide] at hpw
        obtain ⟨T, rfl⟩ := Int.eq_ofNat_of_zero_le hb.1
        exact ⟨3 + (if j < 4 then j else (4 + j % 4) * 2 ^ (j / 4 - 1)) + T, by omega, by omega, by omega, by omega, by omega⟩
theorem disS_val {ns : List Nat} {l : List Int} {p p' : Nat} {v : Int} (hp : p ≤ 8 * l.length) (h : disS ns l p = .ok (v, p')) : ∃ n : Nat, v = n ∧ 1 ≤ n ∧ n ≤ 40960 ∧ p ≤ p' ∧ p' ≤ 8 * l.length := by
  cases hn : nxS ns l p with
  | error e => unfold disS at h; rw [hn] at h; cases h
  | ok x =>
    obtain ⟨t, q⟩ := x
    obtain ⟨⟨j, hj, rfl⟩, h1, h2⟩ := nxS_ok hp hn
    by_cases h29 : 29 < j
    · unfold disS at h; rw [hn] at h; simp only [bind, Except.bind] at h; rw [if_pos (by omega)] at h; cases h
    · rw [disS_is hn (by omega)] at h
      obtain ⟨hq1, hq2⟩ := spreadD j (by omega)
      obtain ⟨hb1, hb2⟩ := lenD_bd j (by omega)
      cases ht : takeS l q (j / 2 - 1) with
      | error e => rw [ht] at h; cases h
      | ok x =>
        obtain ⟨t, q2⟩ := x
        rw [ht] at h
        injection h with h
        injection h with h3 h4
        obtain ⟨ht1, ht2, ht3⟩ := takeS_val ht
        have hb := tk_bd l q (j / 2 - 1)
        rw [← ht1] at hb
        have hpw := pow_mono2 (show j / 2 - 1 ≤ 13 by omega)
        rw [show (2 : Int) ^ 13 = 8192 by decide] at hpw
        obtain ⟨T, rfl⟩ := Int.eq_ofNat_of_zero_le hb.1
        exact ⟨1 + (if j < 2 then j else (2 + j % 2) * 2 ^ (j / 2 - 1)) + T, by omega, by omega, by omega, by omega, by omega⟩
set_option maxHeartbeats 4000000 in
theorem unCopied {F : Nat → Prop} {g j : Nat} {ns : List Nat} (hF : Aside w gu gr out o F) (hc : PC w F g ns) (hn : ns.length ≤ 300) (hj : j ≤ 100) (h : Un w gu gr l limit fl fd p out o) :
    Calls Tryd.prog 49 #[.pointer (some ⟨gu, 0, none⟩), .int .i64 ((j + 257 : Nat) : Int), .pointer (some ⟨g, 0, none⟩)] w (Lays w gu gr l limit fl fd out o (copS ns l limit p out ((j + 257 : Nat) : Int))) := by
  have hp := h.rdr.choose_spec.choose_spec.2.2.2.2.1
  have hcall := unLength j hj h
  have HH := Lib.hid (And.intro hF hc)
  have HO := Lib.hid (And.intro h.small h.lim)
  clear h hF hc
  go_enter Tryd.func49, Tryd.ntmps49
  go_wp2_with fail
  refine hcall.mono ?_
  rintro e w2 ⟨ho, ⟨v, p2, hv, rfl, hr⟩ | ⟨er, y, hv, hne, rfl⟩⟩
  · have hs2 : Stp gu gr w out o w2 out o := stp_only ho
    obtain ⟨n, rfl, hn3, hn4, hp2, hp3⟩ := lenS_val hp hv
    have hcall2 := unDistance (HH.out.1.step hs2) (HH.out.2.keep fun b hb => hs2.foot.block b (HH.out.1 b hb).1 (HH.out.1 b hb).2) hn hr
    have HV := Lib.hid (And.intro hv hs2)
    clear hcall hv ho hr hs2 HH
    go_wp2_with fail
    refine hcall2.mono ?_
    rintro e w3 ⟨ho, ⟨v, p3, hw, rfl, hr⟩ | ⟨er, y, hw, hne, rfl⟩⟩
    · obtain ⟨far, rfl, hf1, hf2, hp4, hp5⟩ := disS_val hp3 hw
      have hcop : copS ns l limit p out ((j + 257 : Nat) : Int) = if (out.length : Int) < far then .error 7 else if (limit : Int) - out.length < n then .error 8 else .ok (p3, copyN out far n) := by
        unfold copS; rw [HV.out.1]; simp only [bind, Except.bind]; rw [hw]; rfl
      have c1 : w3.cell? ⟨gu, 1, none⟩ = some (outV out o) := blk_cell hr.blk 1
      have hroom := unRoom hr
      have HX := Lib.hid (And.intro (HV.out.2.trans (stp_only ho)) hr)
      obtain ⟨L, hL⟩ : ∃ L, out.length = L := ⟨_, rfl⟩
      have hLs := HO.out.1
      have hLl := HO.out.2
      have hov : outV out o = .slice o.1 L o.2 := by rw [← hL]
      rw [hL] at hcop hroom hLs
      rw [hov] at c1
      have HLN := Lib.hid hL
      clear hcall2 hw ho HV hr hov hL
      by_cases hfar : L < far
      · have hd : decide ((far : Int) > L) = true := by simp; omega
        rw [if_pos (by omega)] at hcop
        have HC := Lib.hid hcop
        clear hcop
        go_wp2_with fail
        go_ret
        exact ⟨out, o, HX.out.1, .inr ⟨7, HC.out, by decide, rfl⟩⟩
      · have hd : decide ((far : Int) > L) = false := by simp; omega
        rw [if_neg (by omega)] at hcop
        go_wp2_with fail
        refine hroom.mono ?_
        rintro e w4 ⟨rfl, m, rfl⟩
        by_cases hlong : (limit : Int) - L < n
        · have hd2 : decide ((n : Int) > (limit : Int) - L) = true := by simp; omega
          rw [if_pos hlong] at hcop
          have HC := Lib.hid (And.intro hcop (HX.out.1.trans (stp_below (low_drewN (Below.refl _ _) m))))
          clear hcop HX hroom
          go_wp2_with fail
          go_ret
          exact ⟨out, o, HC.out.2, .inr ⟨8, HC.out.1, by decide, rfl⟩⟩
        · have hd2 : decide ((n : Int) > (limit : Int) - L) = false := by simp; omega
          rw [if_neg hlong] at hcop
          have HC := Lib.hid (And.intro hcop (And.intro (HX.out.1.trans (stp_below (low_drewN (Below.refl _ _) m))) (HX.out.2.below (low_drewN (Below.refl _ _) m))))
          clear hcop HX hroom c1
          generalize w3.drewN m = w5 at *
          go_wp2_with fail
          go_loopw [40] (fun i wr => ∃ k : Nat, k ≤ n ∧ i = .int .i64 k ∧ Hid (∃ o', Un wr gu gr l limit fl fd p3 (copyN out far k) o' ∧ Stp gu gr w out o wr (copyN out far k) o')) (fun i _ => n - (intOf i).toNat)
          case atStart => exact ⟨0, Nat.zero_le _, rfl, Lib.hid ⟨o, HC.out.2.2, HC.out.2.1⟩⟩
          case round =>
            obtain ⟨k, hk, rfl, H⟩ := hrel
            by_cases hlt : k < n
            · obtain ⟨o', hU, hS⟩ := H.out
              obtain ⟨cur, hcur⟩ : ∃ cur, copyN out far k = cur := ⟨_, rfl⟩
              have hM := copyN_len far k out
              rw [hcur] at hM
              rw [hcur] at hU hS
              rw [HLN.out] at hM
              obtain ⟨M, hMM⟩ : ∃ M, cur.length = M := ⟨_, rfl⟩
              have hrow := hU.row
              rw [hMM] at hM
              obtain ⟨I, hI⟩ : ∃ I, M - far = I := ⟨_, rfl⟩
              have hII : (M : Int) - (far : Int) = (I : Int) := by omega
              have hI1 : (I : Int) < (M : Int) := by omega
              have hI0 : (0 : Int) ≤ (I : Int) := by omega
              have hIn : I < M := by omega
              rcases hrow.2 with ⟨e, h0⟩ | ⟨g0, cap, cells, e, hbg, hg, _⟩
              · omega
              · injection e with e1 e2 e3
                have hov : outV cur o' = .slice (some ⟨g0, 0, none⟩) M cap := by rw [← hMM]; show Value.slice o'.1 _ o'.2 = _; rw [e1, e3]
                have c1 : wr.cell? ⟨gu, 1, none⟩ = some (.slice (some ⟨g0, 0, none⟩) M cap) := by rw [← hov]; exact blk_cell hU.blk 1
                have f1 : wr.frozen? ⟨gu, 1, none⟩ = false := blk_free hU.blk 1
                rw [hov, hMM] at hrow
                have cb : wr.cell? ⟨g0, I, none⟩ = some (.int .u8 (cur.getD I 0)) := own_byte hrow hMM hIn
                have hgu0 : gu < g0 := hbg
                have hg0 := blk_lt hg
                have HZ := Lib.hid (And.intro hU (And.intro hS (And.intro hcur (And.intro hI (And.intro hov hrow)))))
                have hMb : M < 32768 := by omega
                clear hU hS hcur hI hov hrow e1 e2 e3 hg hbg H
                obtain ⟨x, hx⟩ : ∃ x, cur.getD I 0 = x := ⟨_, rfl⟩
                rw [hx] at cb
                have HXX := Lib.hid hx
                have HMM := Lib.hid (And.intro hMM hM)
                have hwr : IntKind.i64.wrap (I : Int) = (I : Int) := IntWalk.i64_in _ (by omega)
                clear hx hMM hM hI1
                have hI1 : (I : Int) < (M : Int) := by omega
                clear hIn hfar
                have c1a : (wr.alloc (.cells #[.int .u8 x] 5)).cell? ⟨gu, 1, none⟩ = some (.slice (some ⟨g0, 0, none⟩) M cap) := (cell_keep' (Below.heap_alloc _ _ _ (show gu < wr.heap.size by omega))).trans c1
                have HEND : Hid (∀ a2 c2 w0 w1, Below wr.heap.size wr w0 → w1.ownsRow (gu + 1) 5 1 (.slice a2 (M + 1) c2) (M + 1) ((cur ++ [x]).map (Value.int .u8)) → w0.grownBy w1 (some g0) → ((Value.slice a2 (M + 1) c2).ownBlock = some g0 ∨ (Value.slice a2 (M + 1) c2).ownBlock = some w0.heap.size) →
                    ∃ o', Un (w1.setCell ⟨gu, 1, none⟩ (.slice a2 (M + 1) c2)) gu gr l limit fl fd p3 (copyN out far (k + 1)) o' ∧ Stp gu gr w out o (w1.setCell ⟨gu, 1, none⟩ (.slice a2 (M + 1) c2)) (copyN out far (k + 1)) o') := Lib.hid fun a2 c2 w0 w1 hb0 hown1 hgrow hat => by
                  obtain ⟨z1, z2, z3, z4, z5, z6⟩ := HZ.out
                  have e5 : cur.getD (cur.length - far) 0 = x := by rw [HMM.out.1, z4, HXX.out]
                  have e6 : (cur ++ [x]).length = M + 1 := by rw [List.length_append, HMM.out.1]; rfl
                  rw [copyN_succ, z3, e5]
                  have hx8 : Bytes [x] := by
                    have := Bytes.at_ z1.bytes I
                    rw [HXX.out] at this
                    exact Bytes.one this
                  have e7 : outV (cur ++ [x]) (a2, c2) = .slice a2 (M + 1) c2 := by show Value.slice a2 (cur ++ [x]).length c2 = _; rw [e6]
                  have hfin := unAppend (m := [x]) (o' := (a2, c2)) z1 hb0 hx8 (by rw [e6]; have := HMM.out.2; omega) (by rw [z5]; exact hgrow) (by rw [e6, e7]; exact hown1) (by rw [z5, e7]; exact hat)
                  rw [e7] at hfin
                  exact ⟨_, hfin.1, z2.trans hfin.2⟩
                go_wp2_with fail
                go_region_law (refine step_app1 (by rfl) _ _ (by rfl) (gu + 1) g0 M cap cur HMM.out.1 (by omega) (by rfl) (HZ.out.2.2.2.2.2.alloc _) (by simp; omega) ⟨wr.heap.size, 0, none⟩ 1 x (by rfl) (World.news_of_block (cs := #[.int .u8 x]) (t := 5) (fr := (0, 0)) (heap_alloc_new wr _)) ?_; intro a2 c2 w1 hown1 hgrow hat hold; have hb1 : w1.heap[gu]? = some _ := ((hgrow.block gu (by simp; omega) (by simp; omega)).trans (Below.heap_alloc _ _ _ (blk_lt HZ.out.1.blk))).trans HZ.out.1.blk; have hcw := blk_cell hb1 1; have hfw := blk_free hb1 1)
                all_goals (
                  clear hwr
                  go_wp2_with fail
                  refine ⟨⟨k + 1, by omega, by go_num, ?_⟩, by simp [intOf]; omega⟩
                  have hq := (Below.refl wr.heap.size wr).alloc (Nat.le_refl _) (.cells #[.int .u8 x] 5)
                  refine Lib.hid (HEND.out _ _ _ _ ?_ hown1 hgrow hat)
                  exact ⟨hq.os, hq.tape, hq.output, hq.size, hq.block⟩)
            · obtain rfl : k = n := by omega
              go_wp2_with fail
              go_ret
              obtain ⟨o', h1, h2⟩ := H.out
              exact ⟨_, o', h2, .inl ⟨p3, HC.out.1, rfl, h1⟩⟩
    · have hs : copS ns l limit p out ((j + 257 : Nat) : Int) = .error er := by unfold copS; rw [HV.out.1]; simp only [bind, Except.bind]; rw [hw]
      have HX := Lib.hid (And.intro hs (And.intro hne (HV.out.2.trans (stp_only ho))))
      have hd : (er != 0) = true := by simp [hne]
      clear hcall2 hw hne ho hs HV
      go_wp2_with fail
      go_ret
      exact ⟨out, o, HX.out.2.2, .inr ⟨er, HX.out.1, HX.out.2.1, rfl⟩⟩
  · have hs : copS ns l limit p out ((j + 257 : Nat) : Int) = .error er := by unfold copS; rw [hv]; rfl
    have HX := Lib.hid (And.intro hs (And.intro hne (stp_only (gu := gu) (out := out) (o := o) ho)))
    have hd : (er != 0) = true := by simp [hne]
    clear hcall hv hne ho hs HH
    go_wp2_with fail
    go_ret
    exact ⟨out, o, HX.out.2.2, .inr ⟨er, HX.out.1, HX.out.2.1, rfl⟩⟩
end
end Go.Proofs.YtdcpibglbanchaaDoor

set_option linter.unusedVariables false
set_option maxRecDepth 100000
namespace Go.Proofs.YtdcpibglbanchaaDoor
open Go.RowKit

theorem copS_val {nd : List Nat} {l : List Int} {limit p1 p' j : Nat} {out out' : List Int} (hp : p1 ≤ 8 * l.length) (h : copS nd l limit p1 out ((j + 257 : Nat) : Int) = .ok (p', out')) : p1 ≤ p' ∧ p' ≤ 8 * l.length := by
  unfold copS at h
  cases hl : lenS l p1 ((j + 257 : Nat) : Int) with
  | error e => rw [hl] at h; cases h
  | ok x =>
    obtain ⟨n, q⟩ := x
    obtain ⟨_, _, _, _, h1, h2⟩ := lenS_val hp hl
    rw [hl] at h
    simp only [bind, Except.bind] at h
    cases hd : disS nd l q with
    | error e => rw [hd] at h; cases h
    | ok y =>
      obtain ⟨far, q2⟩ := y
      obtain ⟨_, _, _, _, h3, h4⟩ := disS_val h2 hd
      rw [hd] at h
      simp only at h
      split at h
      · cases h
      · split at h
        · cases h
        · injection h with h
          injection h with h5 h6
          omega
theorem symS_bad {nl nd : List Nat} {l : List Int} {limit p : Nat} {out : List Int} {er : Int} (h : nxS nl l p = .error er) : symS nl nd l limit p out = .error er := by
  unfold symS; rw [h]; rfl
theorem symS_end {nl nd : List Nat} {l : List Int} {limit p p1 : Nat} {out : List Int} (h : nxS nl l p = .ok (256, p1)) : symS nl nd l limit p out = .ok (p1, none) := by
  unfold symS; rw [h]; rfl
theorem symS_lit {nl nd : List Nat} {l : List Int} {limit p p1 : Nat} {out : List Int} {s : Int} (h : nxS nl l p = .ok (s, p1)) (hs : s < 256) : symS nl nd l limit p out = if limit ≤ out.length then .error 8 else .ok (p1, some (out ++ [s])) := by
  unfold symS; rw [h]; simp only [bind, Except.bind]; rw [if_neg (by omega), if_pos hs]
theorem symS_cop {nl nd : List Nat} {l : List Int} {limit p p1 : Nat} {out : List Int} {s : Int} (h : nxS nl l p = .ok (s, p1)) (hs : 256 < s) : symS nl nd l limit p out = match copS nd l limit p1 out s with
    | .error e => .error e
    | .ok (p', o) => .ok (p', some o) := by
  unfold symS copS; rw [h]; simp only [bind, Except.bind]; rw [if_neg (by omega), if_neg (by omega)]
  cases lenS l p1 s with
  | error e => rfl
  | ok x =>
    obtain ⟨n, q⟩ := x
    simp only
    cases disS nd l q with
    | error e => rfl
    | ok y =>
      obtain ⟨far, q2⟩ := y
      simp only
      split
      · rfl
      · split <;> rfl
section
variable {w : World} {gu gr : Nat} {l : List Int} {limit : Nat} {fl fd : Option Addr} {p : Nat} {out : List Int} {o : Option Addr × Nat}
theorem got_ok {s : Except Int (Int × Nat)} {v : Int} {p' : Nat} (hs : s = .ok (v, p')) {e : Ending} {w' : World} (h : Got w gu gr l limit fl fd out o s e w') : e = .returned (.tuple #[.int .i64 v, .int .i64 0]) ∧ Only gr w w' ∧ Un w' gu gr l limit fl fd p' out o := by
  obtain ⟨ho, ⟨v1, p1, h1, h2, h3⟩ | ⟨er, y, h1, _, _⟩⟩ := h
  · rw [hs] at h1; injection h1 with h1; injection h1 with h4 h5; subst h4 h5; exact ⟨h2, ho, h3⟩
  · rw [hs] at h1; cases h1
theorem got_bad {s : Except Int (Int × Nat)} {er : Int} (hs : s = .error er) {e : Ending} {w' : World} (h : Got w gu gr l limit fl fd out o s e w') : ∃ y, e = .returned (.tuple #[.int .i64 y, .int .i64 er]) ∧ Only gr w w' ∧ er ≠ 0 := by
  obtain ⟨ho, ⟨v1, p1, h1, h2, h3⟩ | ⟨er', y, h1, h2, h3⟩⟩ := h
  · rw [hs] at h1; cases h1
  · rw [hs] at h1; injection h1 with h1; subst h1; exact ⟨y, h3, ho, h2⟩
set_option maxHeartbeats 4000000 in
theorem unSymbols {F : Nat → Prop} {g1 g2 : Nat} {nl nd : List Nat} (hF : Aside w gu gr out o F) (hc1 : PC w F g1 nl) (hc2 : PC w F g2 nd) (hn1 : nl.length ≤ 300) (hn2 : nd.length ≤ 300) (h : Un w gu gr l limit fl fd p out o) :
    Calls Tryd.prog 36 #[.pointer (some ⟨gu, 0, none⟩), .agg #[.pointer (some ⟨g1, 0, none⟩), .pointer (some ⟨g2, 0, none⟩)]] w (Lays w gu gr l limit fl fd out o (symsS nl nd l limit (8 * l.length + 1 - p) p out)) := by
  have hb0 := (Below.refl w.heap.size w).alloc (Nat.le_refl _) (.cells #[.pointer (some ⟨g1, 0, none⟩), .pointer (some ⟨g2, 0, none⟩)] 76)
  have hnew := heap_alloc_new w (.cells #[.pointer (some ⟨g1, 0, none⟩), .pointer (some ⟨g2, 0, none⟩)] 76)
  have hU0 := h.below hb0
  have hs0 : Stp gu gr w out o (w.alloc (.cells #[.pointer (some ⟨g1, 0, none⟩), .pointer (some ⟨g2, 0, none⟩)] 76)) out o := stp_below hb0
  have hA0 : Aside (w.alloc (.cells #[.pointer (some ⟨g1, 0, none⟩), .pointer (some ⟨g2, 0, none⟩)] 76)) gu gr out o (fun b => F b ∨ b = w.heap.size) := fun b hb => by
    rcases hb with hb | hb
    · exact (hF.step hs0) b hb
    · have := aside_new h (w' := w.alloc (.cells #[.pointer (some ⟨g1, 0, none⟩), .pointer (some ⟨g2, 0, none⟩)] 76)) (by simp) b
      exact this ⟨by omega, by rw [hb]; simp⟩
  have hk : ∀ b, F b → (w.alloc (.cells #[.pointer (some ⟨g1, 0, none⟩), .pointer (some ⟨g2, 0, none⟩)] 76)).heap[b]? = w.heap[b]? := fun b hb => hb0.block b (hF b hb).1
  have HC := Lib.hid (And.intro ((hc1.keep hk).more (F' := fun b => F b ∨ b = w.heap.size) fun b hb => .inl hb) (And.intro ((hc2.keep hk).more (F' := fun b => F b ∨ b = w.heap.size) fun b hb => .inl hb) (And.intro hA0 (And.intro hnew (And.intro hU0 hs0)))))
  clear hb0 hnew hU0 hs0 hA0 hk hF hc1 hc2 h
  go_enter Tryd.func36, Tryd.ntmps36
  go_wp2_with fail
  generalize (w.alloc (.cells #[.pointer (some ⟨g1, 0, none⟩), .pointer (some ⟨g2, 0, none⟩)] 76)) = w1 at *
  go_loopg [] (8 * l.length + 1) (fun K wr => ∃ (p' f : Nat) (out' : List Int) (o' : Option Addr × Nat), 8 * l.length + 1 ≤ p' + f ∧ 8 * l.length + 1 ≤ p' + K ∧ Hid (symsS nl nd l limit (8 * l.length + 1 - p) p out = symsS nl nd l limit f p' out' ∧ Un wr gu gr l limit fl fd p' out' o' ∧ Stp gu gr w1 out o wr out' o'))
  case atStart => exact ⟨p, 8 * l.length + 1 - p, out, o, by omega, by omega, Lib.hid ⟨rfl, HC.out.2.2.2.2.1, Stp.refl _ _ _ _ _⟩⟩
  case round =>
    obtain ⟨p', f, out', o', hf, hK, H⟩ := hrel
    obtain ⟨x1, x2, x3, x4, x5, x6⟩ := HC.out
    obtain ⟨e1, hU, hS⟩ := H.out
    have hp := hU.rdr.choose_spec.choose_spec.2.2.2.2.1
    have hA := x3.step hS
    have hkk := x3.blk hS
    have hblk : wr.heap[w.heap.size]? = some (.cells #[.pointer (some ⟨g1, 0, none⟩), .pointer (some ⟨g2, 0, none⟩)] 76 (0, 0)) := (hkk _ (.inr rfl)).trans x4
    have b0 : wr.cell? ⟨w.heap.size, 0, none⟩ = some (.pointer (some ⟨g1, 0, none⟩)) := blk_cell hblk 0
    have b1 : wr.cell? ⟨w.heap.size, 1, none⟩ = some (.pointer (some ⟨g2, 0, none⟩)) := blk_cell hblk 1
    have c0 : wr.cell? ⟨gu, 0, none⟩ = some (.pointer (some ⟨gr, 0, none⟩)) := blk_cell hU.blk 0
    obtain ⟨f, rfl⟩ : ∃ f', f = f' + 1 := ⟨f - 1, by omega⟩
    have hbd : Below wr.heap.size wr wr.drew := low_drewN (Below.refl _ _) 1
    have hUd : Un wr.drew gu gr l limit fl fd p' out' o' := hU.below hbd
    have hSd : Stp gu gr w1 out o wr.drew out' o' := hS.trans (stp_below hbd)
    have hAd : Aside wr.drew gu gr out' o' (fun b => F b ∨ b = w.heap.size) := hA
    have hP1 : PC wr.drew (fun b => F b ∨ b = w.heap.size) g1 nl := x1.keep hkk
    have hP2 : PC wr.drew (fun b => F b ∨ b = w.heap.size) g2 nd := x2.keep hkk
    have hcall := unNext hAd hP1 hUd
    have HK : Hid (∀ w2, Only gr wr.drew w2 → w2.cell? ⟨w.heap.size, 0, none⟩ = some (.pointer (some ⟨g1, 0, none⟩)) ∧ w2.cell? ⟨gu, 0, none⟩ = some (.pointer (some ⟨gr, 0, none⟩)) ∧ w2.heap[w.heap.size]? = some (.cells #[.pointer (some ⟨g1, 0, none⟩), .pointer (some ⟨g2, 0, none⟩)] 76 (0, 0))) := Lib.hid fun w2 ho => by
      have hq1 : w2.heap[w.heap.size]? = wr.heap[w.heap.size]? := ho.block _ (show w.heap.size < wr.heap.size from blk_lt hblk) (by intro e; injection e with e; exact (hA _ (.inr rfl)).2 (.inr (.inl e)))
      have hq2 : w2.heap[gu]? = wr.heap[gu]? := ho.block _ (show gu < wr.heap.size from blk_lt hU.blk) (by intro e; injection e with e; have := hU.under; omega)
      exact ⟨(cell_keep' hq1).trans b0, (cell_keep' hq2).trans c0, hq1.trans hblk⟩
    have HD := Lib.hid (And.intro hAd (And.intro hP2 (And.intro hSd (And.intro e1 hblk))))
    have HX := HC
    clear HC x1 x2 x3 x4 x5 x6 hU hS hA hkk hblk hbd hUd hSd hAd hP1 hP2 H
    cases hx : nxS nl l p' with
    | error er =>
      have hs : symsS nl nd l limit (f + 1) p' out' = .error er := by rw [symsS, symS_bad hx]
      rw [← e1] at hs
      have hne := nxS_bad hx
      have hd : (er != 0) = true := by simp [hne]
      have HNX := Lib.hid (hcall.mono fun e w' h => got_bad hx h)
      have HS := Lib.hid (And.intro hs hne)
      clear hcall e1 hs hx hne
      go_wp2_with fail
      go_region_held3 (fun W => W.cell? ⟨w.heap.size, 0, none⟩ = some (.pointer (some ⟨g1, 0, none⟩)) ∧ W.cell? ⟨gu, 0, none⟩ = some (.pointer (some ⟨gr, 0, none⟩))) (first | exact ⟨(HK.out _ ho).1, (HK.out _ ho).2.1⟩ | go_keep) ((go_at_call 47; (with_reducible refine HNX.out.mono ?_); rintro e w2 ⟨y, rfl, ho, hz⟩))
      have HR := Lib.hid ((HX.out.2.2.2.2.2.trans HD.out.2.2.1).trans (stp_only ho))
      clear HNX ho HK HX HD b0 b1 c0
      go_wp2_with fail
      go_ret
      exact ⟨out', o', HR.out, .inr ⟨er, HS.out.1, HS.out.2, rfl⟩⟩
    | ok x =>
      obtain ⟨v, p2⟩ := x
      obtain ⟨⟨s, hs, rfl⟩, hpp, hp2⟩ := nxS_ok hp hx
      have HNX := Lib.hid (hcall.mono fun e w' h => got_ok hx h)
      have HS := Lib.hid (And.intro e1 hx)
      clear hcall e1 hx
      have hs300 : s ≤ 300 := by omega
      clear hs
      by_cases h256 : s = 256
      · subst h256
        go_wp2_with fail
        go_region_held3 (fun W => W.cell? ⟨w.heap.size, 0, none⟩ = some (.pointer (some ⟨g1, 0, none⟩)) ∧ W.cell? ⟨gu, 0, none⟩ = some (.pointer (some ⟨gr, 0, none⟩))) (first | exact ⟨(HK.out _ ho).1, (HK.out _ ho).2.1⟩ | go_keep) ((go_at_call 47; (with_reducible refine HNX.out.mono ?_); rintro e w2 ⟨rfl, ho, hr⟩))
        have HR := Lib.hid (And.intro hr ((HX.out.2.2.2.2.2.trans HD.out.2.2.1).trans (stp_only ho)))
        have hs2 : symsS nl nd l limit (8 * l.length + 1 - p) p out = .ok (p2, out') := by rw [HS.out.1, symsS, symS_end HS.out.2]
        have HE := Lib.hid hs2
        clear HNX ho HK HX HD b0 b1 c0 hr hs2
        go_wp2_with fail
        go_ret
        exact ⟨out', o', HR.out.2, .inl ⟨p2, HE.out, rfl, HR.out.1⟩⟩
      · have hn256 : ((s : Int) == 256) = false := by simp; omega
        by_cases hlt : s < 256
        · have hd : decide ((s : Int) < 256) = true := by simp; omega
          have hwr : IntKind.u8.wrap (s : Int) = s := IntWalk.u8_in (s : Int) (by omega)
          go_wp2_with fail
          go_region_held3 (fun W => W.cell? ⟨w.heap.size, 0, none⟩ = some (.pointer (some ⟨g1, 0, none⟩)) ∧ W.cell? ⟨gu, 0, none⟩ = some (.pointer (some ⟨gr, 0, none⟩))) (first | exact ⟨(HK.out _ ho).1, (HK.out _ ho).2.1⟩ | go_keep) ((go_at_call 47; (with_reducible refine HNX.out.mono ?_); rintro e w2 ⟨rfl, ho, hr⟩))
          have hs2 := symS_lit (nd := nd) (limit := limit) (out := out') HS.out.2 (show (s : Int) < 256 by omega)
          have hlit := unLiteral (s : Int) ⟨by omega, by omega⟩ hr
          have HE := Lib.hid (And.intro hs2 (And.intro HS.out.1 (HD.out.2.2.1.trans (stp_only ho))))
          clear HNX ho HK HD b0 b1 c0 hs2 HS hr
          go_wp2_with fail
          refine hlit.mono ?_
          rintro e w3 (⟨hl, rfl, hst⟩ | ⟨hl, rfl, o3, hr3, hst⟩)
          · have hs3 : symsS nl nd l limit (8 * l.length + 1 - p) p out = .error 8 := by rw [HE.out.2.1, symsS, HE.out.1, if_pos hl]
            have HR := Lib.hid (And.intro hs3 ((HX.out.2.2.2.2.2.trans HE.out.2.2).trans hst))
            clear HE HX hst hs3 hlit
            go_wp2_with fail
            go_ret
            exact ⟨out', o', HR.out.2, .inr ⟨8, HR.out.1, by decide, rfl⟩⟩
          · have hs3 : symsS nl nd l limit (8 * l.length + 1 - p) p out = symsS nl nd l limit f p2 (out' ++ [(s : Int)]) := by rw [HE.out.2.1, symsS, HE.out.1, if_neg (by omega)]
            have HR := Lib.hid (And.intro hs3 (And.intro hr3 (HE.out.2.2.trans hst)))
            clear HE HX hst hs3 hlit hr3
            go_wp2_with fail
            go_roundg (8 * l.length + 1 - p2)
            case measure => omega
            case rel => exact ⟨p2, f, _, o3, by omega, by omega, HR⟩
        · have hd : decide ((s : Int) < 256) = false := by simp; omega
          obtain ⟨j, rfl⟩ : ∃ j, s = j + 257 := ⟨s - 257, by omega⟩
          go_wp2_with fail
          go_region_held3 (fun W => W.cell? ⟨w.heap.size, 0, none⟩ = some (.pointer (some ⟨g1, 0, none⟩)) ∧ W.cell? ⟨gu, 0, none⟩ = some (.pointer (some ⟨gr, 0, none⟩))) (first | exact ⟨(HK.out _ ho).1, (HK.out _ ho).2.1⟩ | go_keep) ((go_at_call 47; (with_reducible refine HNX.out.mono ?_); rintro e w2 ⟨rfl, ho, hr⟩))
          have hs2 := symS_cop (nd := nd) (limit := limit) (out := out') HS.out.2 (show 256 < ((j + 257 : Nat) : Int) by omega)
          have hcop := unCopied (F := fun b => F b ∨ b = w.heap.size) (j := j) (HD.out.1.step (stp_only ho)) (HD.out.2.1.keep fun b hb => (stp_only (gu := gu) (out := out') (o := o') ho).foot.block b (HD.out.1 b hb).1 (HD.out.1 b hb).2) hn2 (by omega) hr
          have k1 := blk_cell (HK.out _ ho).2.2 1
          have HE := Lib.hid (And.intro hs2 (And.intro HS.out.1 (HD.out.2.2.1.trans (stp_only ho))))
          clear HNX ho HK HD b0 b1 c0 hs2 HS hr
          go_wp2_with fail
          refine hcop.mono ?_
          rintro e w3 ⟨out3, o3, hst, ⟨p3, hc, rfl, hr3⟩ | ⟨er, hc, hne, rfl⟩⟩
          · obtain ⟨hq1, hq2⟩ := copS_val hp2 hc
            have hs3 : symsS nl nd l limit (8 * l.length + 1 - p) p out = symsS nl nd l limit f p3 out3 := by rw [HE.out.2.1, symsS, HE.out.1, hc]
            have HR := Lib.hid (And.intro hs3 (And.intro hr3 (HE.out.2.2.trans hst)))
            clear HE HX hst hs3 hcop hr3 hc
            go_wp2_with fail
            go_roundg (8 * l.length + 1 - p3)
            case measure => omega
            case rel => exact ⟨p3, f, _, o3, by omega, by omega, HR⟩
          · have hs3 : symsS nl nd l limit (8 * l.length + 1 - p) p out = .error er := by rw [HE.out.2.1, symsS, HE.out.1, hc]
            have hd2 : (er != 0) = true := by simp [hne]
            have HR := Lib.hid (And.intro hs3 (And.intro hne ((HX.out.2.2.2.2.2.trans HE.out.2.2).trans hst)))
            clear HE HX hst hs3 hcop hc hne
            go_wp2_with fail
            go_ret
            exact ⟨_, o3, HR.out.2.2, .inr ⟨er, HR.out.1, HR.out.2.1, rfl⟩⟩
end
end Go.Proofs.YtdcpibglbanchaaDoor

set_option linter.unusedVariables false
set_option maxRecDepth 100000
namespace Go.Proofs.YtdcpibglbanchaaDoor
open Go.RowKit

theorem lit_ints' (w : World) (t : TypeId) (l : List Int) (h : ∀ n ∈ l, (Lit.int .i64 n).wf = true) : Ints .i64 (w.alloc (.cells (l.map (Value.int .i64)).toArray t)) (w.alloc (.cells (l.map (Value.int .i64)).toArray t)).heap.size (some ⟨w.heap.size, 0, none⟩) l :=
  ⟨h, fun hn => ⟨w.heap.size, 0, rfl, by simp, fun i hi => by
    rw [blk_cell (heap_alloc_new w _), Nat.zero_add, List.getElem?_toArray, List.getElem?_map, List.getD_eq_getElem?_getD, List.getElem?_eq_getElem hi]; rfl⟩⟩
theorem not16 (A : Nat) (h : A < 65536) : bits .xor .u16 (if IntKind.u16.signed = true then -1 else IntKind.u16.max) (A : Int) = ((65535 - A : Nat) : Int) := by
  show IntKind.u16.wrap ((BitVec.ofInt 16 65535 ^^^ BitVec.ofInt 16 (A : Int)).toNat : Int) = _
  rw [show BitVec.ofInt 16 65535 = BitVec.allOnes 16 by decide, BitVec.allOnes_xor, BitVec.toNat_not, BitVec.ofInt_natCast, BitVec.toNat_ofNat, Nat.mod_eq_of_lt (by omega), IntWalk.u16_in _ (by omega)]
theorem storedS_bad {l : List Int} {limit q : Nat} {out : List Int} {er : Int} (h : takesS l (8 * q) [16, 16] = .error er) : storedS l limit q out = .error er := by
  unfold storedS
  unfold takesS takesS takesS at h
  cases h1 : takeS l (8 * q) 16 with
  | error e => rw [h1] at h; simp only at h; injection h with h; subst h; rfl
  | ok x =>
    obtain ⟨v, p1⟩ := x
    rw [h1] at h
    simp only at h
    simp only [bind, Except.bind]
    cases h2 : takeS l p1 16 with
    | error e => rw [h2] at h; simp only at h; injection h with h; subst h; rfl
    | ok y => obtain ⟨v2, p2⟩ := y; rw [h2] at h; simp only at h; cases h
theorem takesS_two {l : List Int} {q n0 n1 : Nat} {vs : List Int} {p' : Nat} (h : takesS l q [n0, n1] = .ok (vs, p')) : vs = [tk l q n0, tk l (q + n0) n1] ∧ p' = q + n0 + n1 ∧ q + n0 + n1 ≤ 8 * l.length ∧ takeS l q n0 = .ok (tk l q n0, q + n0) ∧ takeS l (q + n0) n1 = .ok (tk l (q + n0) n1, q + n0 + n1) := by
  unfold takesS takesS takesS at h
  cases h1 : takeS l q n0 with
  | error e => rw [h1] at h; cases h
  | ok x =>
    obtain ⟨v, p1⟩ := x
    obtain ⟨rfl, rfl, _⟩ := takeS_val h1
    rw [h1] at h
    simp only at h
    cases h2 : takeS l (q + n0) n1 with
    | error e => rw [h2] at h; cases h
    | ok y =>
      obtain ⟨v2, p2⟩ := y
      obtain ⟨rfl, rfl, h3⟩ := takeS_val h2
      rw [h2] at h
      simp only at h
      injection h with h
      injection h with h4 h5
      exact ⟨h4.symm, h5.symm, h3, rfl, rfl⟩
theorem storedS_ok {l : List Int} {limit q : Nat} {out : List Int} {vs : List Int} {p' : Nat} (h : takesS l (8 * q) [16, 16] = .ok (vs, p')) : storedS l limit q out = if tk l (8 * q) 16 + tk l (8 * q + 16) 16 ≠ 65535 then .error 4
    else if (limit : Int) - out.length < tk l (8 * q) 16 then .error 8
    else if l.length < q + 4 + (tk l (8 * q) 16).toNat then .error 2
    else .ok (8 * (q + 4 + (tk l (8 * q) 16).toNat), out ++ cutOf l (q + 4) (q + 4 + (tk l (8 * q) 16).toNat)) := by
  obtain ⟨_, _, _, h1, h2⟩ := takesS_two h
  unfold storedS
  rw [h1]
  simp only [bind, Except.bind]
  rw [h2]
section
variable {w : World} {gu gr : Nat} {l : List Int} {limit : Nat} {fl fd : Option Addr} {p : Nat} {out : List Int} {o : Option Addr × Nat}
set_option maxHeartbeats 4000000 in
theorem unStored (h : Un w gu gr l limit fl fd p out o) :
    Calls Tryd.prog 35 #[.pointer (some ⟨gu, 0, none⟩)] w (Lays w gu gr l limit fl fd out o (storedS l limit ((p + 7) / 8) out)) := by
  have c0 : w.cell? ⟨gu, 0, none⟩ = some (.pointer (some ⟨gr, 0, none⟩)) := blk_cell h.blk 0
  have hal := bitAlign h.rdr
  have HU := Lib.hid h
  clear h
  unfold upT at hal
  generalize (p + 7) / 8 = q at *
  go_enter Tryd.func35, Tryd.ntmps35
  go_wp2_with fail
  refine hal.mono ?_
  rintro e w1 ⟨rfl, hr1, ho1⟩
  have hU1 := HU.out.only hr1 ho1
  have hS1 : Stp gu gr w out o w1 out o := stp_only ho1
  have hb1 := (Below.refl w1.heap.size w1).alloc (Nat.le_refl _) (.cells #[.int .i64 16, .int .i64 16] 3)
  have hU2 := hU1.below hb1
  have hS2 := hS1.trans (stp_below (gu := gu) (gr := gr) (out := out) (o := o) hb1)
  have hints := lit_ints' w1 3 [16, 16] (by decide)
  have hgr : gr < w1.heap.size := by have := blk_lt hU1.blk; have := hU1.under; omega
  have htake := unTake (ws := [16, 16]) (a := some ⟨w1.heap.size, 0, none⟩) (n := 2) (c := 2) hU2 rfl (by decide) (by decide) hints (by intro b off e; injection e with e; injection e with e; omega)
  have HS := Lib.hid hS2
  clear hal HU hr1 ho1 hU1 hS1 hb1 hU2 hS2 hints c0
  go_wp2_with fail
  refine htake.mono ?_
  rintro e w2 ⟨ho2, ⟨vs, p2, hv, hvl, rfl, hblk, hU⟩ | ⟨er, hv, hne, rfl⟩⟩
  · have hs := storedS_ok (limit := limit) (out := out) hv
    obtain ⟨hvs, hp2, hpl, _, _⟩ := takesS_two hv
    subst hvs hp2
    have hb0 := tk_bd l (8 * q) 16
    have hb1 := tk_bd l (8 * q + 16) 16
    rw [show (2 : Int) ^ 16 = 65536 by decide] at hb0 hb1
    have hsz : (w1.alloc (.cells #[.int .i64 16, .int .i64 16] 3)).heap.size = w1.heap.size + 1 := by simp
    have hblk' : w2.heap[w1.heap.size + 1]? = some (.cells (arrN 2 fun i => [tk l (8 * q) 16, tk l (8 * q + 16) 16].getD i 0) 3 (0, 0)) := by rw [hsz] at hblk; exact hblk
    have k0 : w2.cell? ⟨w1.heap.size + 1, 0, none⟩ = some (.int .i64 (tk l (8 * q) 16)) := by rw [blk_cell hblk', arrN_get _ _ (by decide)]; rfl
    have k1 : w2.cell? ⟨w1.heap.size + 1, 1, none⟩ = some (.int .i64 (tk l (8 * q + 16) 16)) := by rw [blk_cell hblk', arrN_get _ _ (by decide)]; rfl
    obtain ⟨A, hA⟩ := Int.eq_ofNat_of_zero_le hb0.1
    obtain ⟨C, hC⟩ := Int.eq_ofNat_of_zero_le hb1.1
    rw [hA] at k0 hs hb0
    rw [hC] at k1 hs hb1
    have HR := Lib.hid (And.intro hs (And.intro hU (HS.out.trans (stp_only ho2))))
    have hx16 := not16 A (by omega)
    have hA16 : IntKind.u16.wrap (A : Int) = A := IntWalk.u16_in _ (by omega)
    have hC16 : IntKind.u16.wrap (C : Int) = C := IntWalk.u16_in _ (by omega)
    clear htake HS hs hv hvl hblk hblk' hU ho2 hA hC
    go_wp2_with fail
    go_quiet (fail)
    by_cases hop : A + C = 65535
    · have ht : ((C : Int) != ((65535 - A : Nat) : Int)) = false := by simp; omega
      have hs1 := HR.out.1
      rw [if_neg (by omega), Int.toNat_natCast] at hs1
      have hU3 := HR.out.2.1.below (low_drewN (Below.refl _ _) nq)
      have hS3 := HR.out.2.2.trans (stp_below (gu := gu) (gr := gr) (out := out) (o := o) (low_drewN (Below.refl w2.heap.size w2) nq))
      have hroom := unRoom hU3
      have H3 := Lib.hid (And.intro hU3 hS3)
      have HS1 := Lib.hid hs1
      clear HR hU3 hS3 hs1 k0 k1
      generalize w2.drewN nq = w3 at *
      go_wp2_with fail
      refine hroom.mono ?_
      rintro e w4 ⟨rfl, m4, rfl⟩
      have hU4 := H3.out.1.below (low_drewN (Below.refl _ _) m4)
      have hS4 := H3.out.2.trans (stp_below (gu := gu) (gr := gr) (out := out) (o := o) (low_drewN (Below.refl w3.heap.size w3) m4))
      by_cases hlong : (limit : Int) - out.length < A
      · have hd : decide ((A : Int) > (limit : Int) - out.length) = true := by simp; omega
        have hs : storedS l limit q out = .error 8 := by rw [HS1.out, if_pos hlong]
        have HS := Lib.hid (And.intro hs hS4)
        clear hs HS1 H3 hU4 hS4 hroom
        go_wp2_with fail
        go_ret
        exact ⟨out, o, HS.out.2, .inr ⟨8, HS.out.1, by decide, rfl⟩⟩
      · have hd : decide ((A : Int) > (limit : Int) - out.length) = false := by simp; omega
        have hby := bitBytes (A : Int) (by omega) hU4.rdr
        have hs := HS1.out
        rw [if_neg hlong] at hs
        have hl := hU4.bytes
        have hlim := hU4.lim
        have hsm := hU4.small
        have hlb : Bytes l := hU4.rdr.choose_spec.choose_spec.2.2.2.1.1
        obtain ⟨er, m, pp, her, hm, hpp, hB, hmA, hmb⟩ : ∃ er m pp, errB l (8 * q + 16 + 16) A = er ∧ bytesB l (8 * q + 16 + 16) A = m ∧ posB l (8 * q + 16 + 16) A = pp ∧ ((er = 2 ∧ storedS l limit q out = .error 2) ∨ (er = 0 ∧ storedS l limit q out = .ok (pp, out ++ m))) ∧ m.length ≤ A ∧ Bytes m := by
          have e8 : (8 * q + 16 + 16 + 7) / 8 = q + 4 := by omega
          by_cases hsh : l.length < q + 4 + A
          · obtain ⟨h1, h2, h3⟩ := b_short (l := l) (p := 8 * q + 16 + 16) (n := (A : Int)) (by omega) (by omega)
            rw [if_pos hsh] at hs
            exact ⟨_, _, _, h1, h2, h3, .inl ⟨rfl, hs⟩, Nat.zero_le _, Bytes.nil⟩
          · obtain ⟨h1, h2, h3⟩ := b_ok (l := l) (p := 8 * q + 16 + 16) (m := A) (by omega)
            rw [if_neg hsh] at hs
            rw [e8] at h2 h3
            exact ⟨_, _, _, h1, h2, h3, .inr ⟨rfl, hs⟩, by rw [cutOf_len (by omega)]; omega, cutOf_bytes hlb _ _⟩
        rw [her, hm, hpp] at hby
        have c0 : (w3.drewN m4).cell? ⟨gu, 0, none⟩ = some (.pointer (some ⟨gr, 0, none⟩)) := blk_cell hU4.blk 0
        have HB := Lib.hid (And.intro hB (And.intro hmb (And.intro hU4 hS4)))
        have hml : out.length + m.length ≤ limit := by omega
        clear her hm hpp hs HS1 H3 hU4 hS4 hroom hB hmb hl hlb hmA
        generalize w3.drewN m4 = w5 at *
        go_wp2_with fail
        refine hby.mono ?_
        rintro e w6 ⟨⟨a, c, rfl, hlc, hn0, hbs, ho6⟩, hr6⟩
        have hU6 := HB.out.2.2.1.only hr6 ho6
        have hS6 := HB.out.2.2.2.trans (stp_only ho6)
        have c1 : w6.cell? ⟨gu, 1, none⟩ = some (outV out o) := blk_cell hU6.blk 1
        have hA0 : a = none → m.length = 0 ∧ c = 0 := fun h => by have := hn0 h; omega
        have HZ := Lib.hid (And.intro hU6 (And.intro hS6 (And.intro hbs hA0)))
        have hgu := blk_lt hU6.blk
        clear hby hU6 hS6 hbs ho6 hr6 hA0 hn0 c0
        obtain ⟨ao, co⟩ := o
        go_wp2_with (at_builtin; refine wpList_app2 rfl _ _ rfl (gu + 1) (.slice ao out.length co) out.length out rfl HZ.out.1.row _ a m.length c m rfl rfl HZ.out.2.2.1 HZ.out.2.2.2 (by omega) (by omega) ?_; intro v2 w7 hown2 hg2 hl2; obtain ⟨a2, c2, rfl⟩ := own_shape hown2; have hf2 : w7.frozen? ⟨gu, 1, none⟩ = false := blk_free ((hg2.block gu (by omega) (fun e => by have := (HZ.out.1.row.lt gu e.symm).1; omega)).trans HZ.out.1.blk) 1; have hcu2 : w7.cell? ⟨gu, 1, none⟩ = some (.slice ao out.length co) := blk_cell ((hg2.block gu (by omega) (fun e => by have := (HZ.out.1.row.lt gu e.symm).1; omega)).trans HZ.out.1.blk) 1)
        have hfin := unAppend (m := m) (o' := (a2, c2)) HZ.out.1 (Below.refl _ _) HB.out.2.1 (by rw [List.length_append]; omega) hg2 (by simpa [outV] using hown2) (by simpa [outV] using hl2)
        have HF := Lib.hid (And.intro hfin.1 (HZ.out.2.1.trans hfin.2))
        have HBB := Lib.hid HB.out.1
        clear hfin hown2 hg2 hl2 c1 HZ HB
        go_wp2_with fail
        go_ret
        refine ⟨out ++ m, (a2, c2), by simpa [outV] using HF.out.2, ?_⟩
        rcases HBB.out with ⟨rfl, hs⟩ | ⟨rfl, hs⟩
        · exact .inr ⟨2, hs, by decide, rfl⟩
        · exact .inl ⟨pp, hs, rfl, by simpa [outV] using HF.out.1⟩
    · have ht : ((C : Int) != ((65535 - A : Nat) : Int)) = true := by simp; omega
      have hs : storedS l limit q out = .error 4 := by rw [HR.out.1, if_pos (by omega)]
      have HS := Lib.hid (And.intro hs (HR.out.2.2.trans (stp_below (low_drewN (Below.refl _ _) nq))))
      clear hs HR
      go_wp2_with fail
      go_ret
      exact ⟨out, o, HS.out.2, .inr ⟨4, HS.out.1, by decide, rfl⟩⟩
  · have hs := storedS_bad (limit := limit) (out := out) hv
    have HR := Lib.hid (And.intro hs (And.intro hne (HS.out.trans (stp_only ho2))))
    have hd : (er != 0) = true := by simp [hne]
    clear htake HS hs hv hne ho2
    go_wp2_with fail
    go_ret
    exact ⟨out, o, HR.out.2.2, .inr ⟨er, HR.out.1, HR.out.2.1, rfl⟩⟩
end
end Go.Proofs.YtdcpibglbanchaaDoor
