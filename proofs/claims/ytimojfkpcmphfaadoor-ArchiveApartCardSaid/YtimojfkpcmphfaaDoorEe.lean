/- Both directories of any bytes; the same records: contract of samovarref09.Same; the walk of ArchiveReads. Condition: the variable internal/bytealg.MaxLen has a value. -/
import Derived.Test.YtimojfkpcmphfaaDoorEd
import Derived.Test.YtimojfkpcmphfaaDoorSame
import Derived.Test.YtimojfkpcmphfaaDoorFix9
set_option linter.unusedVariables false
set_option maxRecDepth 100000
namespace Go.Proofs.YtimojfkpcmphfaaDoor
open Go.RowKit Go.Maps Go.ChangeMaps

/-- the directory of any bytes -/
def dirX (l : List Int) : Except Int (List (Nat × Nat)) := if 65536 < l.length then .error 8 else dirS l
def DirQ (T : TypeId) (l : List Int) (w : World) (e : Ending) (w' : World) : Prop :=
  (∃ er, dirX l = .error er ∧ er ≠ 0 ∧ e = .returned (.tuple #[.slice none 0 0, .int .i64 er]) ∧ Below w.heap.size w w') ∨
  (∃ es V, dirX l = .ok es ∧ es.length ≤ 64 ∧ e = .returned (.tuple #[V, .int .i64 0]) ∧ w'.ownsRow w.heap.size T 7 V es.length (recR l es) ∧ Below w.heap.size w w')
theorem dirS_len {l : List Int} (hB : Bytes l) {es : List (Nat × Nat)} (h : dirS l = .ok es) : es.length ≤ 64 := by
  unfold dirS at h
  cases he : endS l with
  | error e => rw [he] at h; cases h
  | ok x =>
    obtain ⟨fr, tt, ct⟩ := x
    rw [he] at h
    simp only at h
    obtain ⟨_, F, N, rfl, rfl, _, hN, _⟩ := endS_ok hB he
    simp only [Int.toNat_natCast] at h
    cases hc : cenS l tt N F [] with
    | error e => rw [hc] at h; cases h
    | ok ps =>
      rw [hc] at h
      simp only at h
      have hl := (cenS_ok (fr := F) (ps := []) (Nat.le_refl _) ⟨fun p hp => (by cases hp), List.nodup_nil⟩ hc).2
      cases hb : locsS l F ps with
      | none => rw [hb] at h; cases h
      | some bs =>
        rw [hb] at h
        simp only at h
        split at h
        · cases h
        · injection h with h
          subst h
          rw [List.length_zip, hl]; simp; omega
theorem dirP_Q {T : TypeId} {l : List Int} {w w' : World} {e : Ending} (hB : Bytes l) (hm : l.length ≤ 65536) (h : DirP T l w e w') : DirQ T l w e w' := by
  have hx : dirX l = dirS l := by unfold dirX; rw [if_neg (by omega)]
  rcases h with ⟨er, h1, h2, h3, h4⟩ | ⟨es, V, h1, h2, h3, h4⟩
  · exact .inl ⟨er, by rw [hx]; exact h1, h2, h3, h4⟩
  · exact .inr ⟨es, V, by rw [hx]; exact h1, dirS_len hB h1, h2, h3, h4⟩
theorem dirX_is (w : World) (b : Option Addr) (n c : Nat) (l : List Int) (hn : l.length = n) (hc : n ≤ c) (hM : n ≤ 140737488355328) (hb : Bs w w.heap.size b l) (hmx : Mx w) : Calls Tryd.prog 8 #[.slice b n c] w (DirQ 32 l w) := by
  subst hn
  by_cases hm : l.length ≤ 65536
  · exact (dir_is w b c l hc hm hb hmx).mono fun e w' h => dirP_Q hb.1 hm h
  · have hx : dirX l = .error 8 := by unfold dirX; rw [if_pos (by omega)]
    have hlen : decide ((l.length : Int) > 65536) = true := by simp; omega
    have HX := Lib.hid hx
    clear hx hb hmx
    go_enter Tryd.func8, Tryd.ntmps8
    go_wp2_with fail
    go_ret2
    exact .inl ⟨8, HX.out, by decide, rfl, Below.refl _ _⟩
theorem refDirX_is (w : World) (b : Option Addr) (n c : Nat) (l : List Int) (hn : l.length = n) (hc : n ≤ c) (hM : n ≤ 140737488355328) (hb : Bs w w.heap.size b l) : Calls Tryd.prog 9 #[.slice b n c] w (DirQ 32 l w) := by
  subst hn
  by_cases hm : l.length ≤ 65536
  · exact (refDir_is w b c l hc hm hb).mono fun e w' h => dirP_Q hb.1 hm h
  · have hx : dirX l = .error 8 := by unfold dirX; rw [if_pos (by omega)]
    have hlen : decide ((l.length : Int) > 65536) = true := by simp; omega
    have HX := Lib.hid hx
    clear hx hb
    go_enter Tryd.func9, Tryd.ntmps9
    go_wp2_with fail
    go_ret2
    exact .inl ⟨8, HX.out, by decide, rfl, Below.refl _ _⟩
theorem y_neR {a : Act} {w : World} {o : Oper} {x y : Operand} {l : List Int} {e : Nat × Nat} {ty : TypeId} (ho : o.op = .binOp .neq 32 x y ty) (hx : a.eval x = .agg (recC l e).toArray) (hy : a.eval y = .agg (recC l e).toArray) : (execOp a.eval o).run Tryd.prog w = .ok (.value (.bool false)) w := by
  have hg := run_eqGuard_agg (P := Tryd.prog) (w := w) .neq 32 x y (recC l e).toArray (recC l e).toArray (by kernel_rfl)
  have hS : Tryd.prog.underlying 32 = some (.struct (Tryd.prog.fieldsOf 32)) := by kernel_rfl
  have he : (Op.equalIn 10000 32 (.agg (recC l e).toArray) (.agg (recC l e).toArray)).run Tryd.prog w = .ok true w := by
    rw [show (10000 : Nat) = 9999 + 1 from rfl, run_equalIn_agg w 9999 32 _ _ hS (by kernel_rfl)]
    unfold recC
    simp only [Program.fieldsOf, Tryd.underlying32]
    go_simp
  have hb := run_neq_struct (P := Tryd.prog) (w := w) 32 (recC l e).toArray (recC l e).toArray
  rw [he] at hb
  unfold execOp
  simp only [ho, hx, hy, Sem.run_bind, hg, Result.andThen_ok, hb]
  rfl
set_option maxHeartbeats 4000000 in
theorem sameR {w : World} {B1 B2 n : Nat} {V1 V2 : Value} {l : List Int} {es : List (Nat × Nat)} (h1 : w.ownsRow B1 32 7 V1 n (recR l es)) (h2 : w.ownsRow B2 32 7 V2 n (recR l es)) (hn : es.length = n) (h64 : n ≤ 64) :
    Calls Tryd.prog 10 #[V1, V2] w fun e w' => e = .returned (.bool true) ∧ ∃ d, w' = w.drewN d := by
  obtain ⟨a1, c1, rfl⟩ := own_shape h1
  obtain ⟨a2, c2, rfl⟩ := own_shape h2
  have HO := Lib.hid (And.intro h1 (And.intro h2 hn))
  clear h1 h2 hn
  go_enter Tryd.func10, Tryd.ntmps10
  go_wp2_with fail
  go_loopw [5] (fun i wr => ∃ q d : Nat, q ≤ n ∧ i = .int .i64 q ∧ wr = w.drewN d) (fun i _ => n - (intOf i).toNat)
  case atStart => exact ⟨0, 0, Nat.zero_le _, rfl, rfl⟩
  case round =>
    obtain ⟨q, d, hq, rfl, rfl⟩ := hrel
    by_cases hq2 : q < n
    · obtain ⟨h1, h2, hn⟩ := HO.out
      obtain ⟨e, he⟩ : ∃ e, es[q]? = some e := ⟨_, List.getElem?_eq_getElem (by omega)⟩
      obtain ⟨G1, cp, hV, _, _⟩ := h1.form (by omega)
      injection hV with hV1 _ hV2
      subst hV1
      subst hV2
      obtain ⟨G2, cp, hV, _, _⟩ := h2.form (by omega)
      injection hV with hV1 _ hV2
      subst hV1
      subst hV2
      have hr1 : (w.drewN d).drew.rangeAt G1 (q * 7) (recC l e) := fun j v hv => by
        have hj : j < 7 := (List.getElem?_eq_some_iff.1 hv).1
        show w.cell? _ = _
        rw [h1.cellAt (q * 7 + j) (by omega), recR_at he hj]; exact hv
      have hr2 : (w.drewN d).drew.rangeAt G2 (q * 7) (recC l e) := fun j v hv => by
        have hj : j < 7 := (List.getElem?_eq_some_iff.1 hv).1
        show w.cell? _ = _
        rw [h2.cellAt (q * 7 + j) (by omega), recR_at he hj]; exact hv
      clear h1 h2 hn he
      go_upto_region 6 with (fail)
      rename_i hKK
      refine wp_region_listed (C := SameC (w.drewN d).drew) (G := GV [.slice (some ⟨G1, 0, none⟩) n c1, .int .i64 (q : Nat), .pointer (some ⟨G1, q * 7, none⟩), .agg (recC l e).toArray, .slice (some ⟨G2, 0, none⟩) n c2, .int .i64 (q : Nat), .pointer (some ⟨G2, q * 7, none⟩), .agg (recC l e).toArray, .bool false])
        (by kernel_rfl) (ordL_spec (by kernel_rfl)) (dstB_spec (by kernel_rfl)) (inB_spec (by kernel_rfl)) (sameC _ _) ?step ?fin
      case step =>
        intro i o a1 listed W1 ho hli hC hdep hsame
        obtain rfl : W1 = (w.drewN d).drew := hC
        have hltn : i < 9 := lt_of_some ho
        match i, hltn, ho with
        | 0, _, ho =>
          obtain rfl := Option.some.inj ho
          exact step_val ho rfl (y_move rfl (hsame 0 (notB_spec (by kernel_rfl)))) rfl (sameC _ _)
        | 1, _, ho =>
          obtain rfl := Option.some.inj ho
          exact step_val ho rfl (y_move rfl (hsame 5 (notB_spec (by kernel_rfl)))) rfl (sameC _ _)
        | 2, _, ho =>
          obtain rfl := Option.some.inj ho
          exact step_val ho rfl (y_index rfl ((hdep ⟨0, .data⟩ (by simp) rfl).2 _ _ rfl rfl) ((hdep ⟨1, .data⟩ (by simp) rfl).2 _ _ rfl rfl) (ia_rec G1 n c1 q _ hq2)) rfl (sameC _ _)
        | 3, _, ho =>
          obtain rfl := Option.some.inj ho
          exact step_val ho rfl (y_loadM rfl ((hdep ⟨2, .data⟩ (by simp) rfl).2 _ _ rfl rfl) hr1 Tryd.underlying32 rfl (by rw [recC_len]; exact rec_info7)) rfl (sameC _ _)
        | 4, _, ho =>
          obtain rfl := Option.some.inj ho
          exact step_val ho rfl (y_move rfl (hsame 1 (notB_spec (by kernel_rfl)))) rfl (sameC _ _)
        | 5, _, ho =>
          obtain rfl := Option.some.inj ho
          exact step_val ho rfl (y_move rfl (hsame 5 (notB_spec (by kernel_rfl)))) rfl (sameC _ _)
        | 6, _, ho =>
          obtain rfl := Option.some.inj ho
          exact step_val ho rfl (y_index rfl ((hdep ⟨4, .data⟩ (by simp) rfl).2 _ _ rfl rfl) ((hdep ⟨5, .data⟩ (by simp) rfl).2 _ _ rfl rfl) (ia_rec G2 n c2 q _ hq2)) rfl (sameC _ _)
        | 7, _, ho =>
          obtain rfl := Option.some.inj ho
          exact step_val ho rfl (y_loadM rfl ((hdep ⟨6, .data⟩ (by simp) rfl).2 _ _ rfl rfl) hr2 Tryd.underlying32 rfl (by rw [recC_len]; exact rec_info7)) rfl (sameC _ _)
        | 8, _, ho =>
          obtain rfl := Option.some.inj ho
          exact step_val ho rfl (y_neR rfl ((hdep ⟨3, .data⟩ (by simp) rfl).2 _ _ rfl rfl) ((hdep ⟨7, .data⟩ (by simp) rfl).2 _ _ rfl rfl)) rfl (sameC _ _)
        | n + 9, h, _ => exact absurd h (by omega)
      case fin =>
        intro a1 listed W1 hall hC hgood hsame hsize hdef
        obtain rfl : W1 = (w.drewN d).drew := hC
        refine hKK _ _ ?_
        have h25 : a1.eval (.tmp 25) = .bool false := hgood 8 _ _ rfl rfl
        have hact := act_of_same (List.range 26) (fun t => decide (17 ≤ t ∧ t ≤ 25)) (by kernel_rfl) (fun t ht => hsame t (wrB_spec (wr := fun t => decide (17 ≤ t ∧ t ≤ 25)) (by kernel_rfl) ht)) hsize hdef
        rw [show List.range 26 = [0, 1, 2, 3, 4, 5, 6, 7, 8, 9, 10, 11, 12, 13, 14, 15, 16, 17, 18, 19, 20, 21, 22, 23, 24, 25] by decide] at hact
        generalize a1.eval = f at hact h25
        simp only [List.map_cons, List.map_nil] at hact
        simp [Act.eval] at hact
        rw [h25] at hact
        rw [hact]
        clear hact hgood hsame hsize hdef hall h25 hKK hr1 hr2
        go_wp2_with fail
        go_roundw
        case rel => exact ⟨q + 1, d + 1, by omega, by go_num, rfl⟩
        case measure => simp [intOf]; omega
    · obtain rfl : n = q := by omega
      go_wp2_with fail
      go_ret
      exact ⟨rfl, d, rfl⟩
end Go.Proofs.YtimojfkpcmphfaaDoor
