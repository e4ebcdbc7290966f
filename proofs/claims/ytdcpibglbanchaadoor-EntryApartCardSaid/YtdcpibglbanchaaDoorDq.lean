/- What the look at a local header needs: two rows of bytes as arrays compared; the entries' cells written. No condition. The local header of an entry is read: contract of local. Conditions: the bytes are bytes. The local headers of all entries are read; do entries lie on one another: contracts of locals, overlap. Conditions: the bytes are bytes. -/
import Derived.Test.YtdcpibglbanchaaDoorDk
import Derived.Stop.BytesEq
import Derived.BigQuiet
set_option linter.unusedVariables false
set_option maxRecDepth 100000
namespace Go.Proofs.YtdcpibglbanchaaDoor
open Go.RowKit Go.Maps Go.ChangeMaps

theorem cells_u8 {L : List Int} (h : Bytes L) : L.map (Value.int .u8) = (L.map fun n => UInt8.ofNat n.toNat).map Extern.Stop.cell := by
  rw [List.map_map]
  refine List.map_congr_left fun n hn => ?_
  have hb := h n hn
  show Value.int .u8 n = Value.int .u8 ((UInt8.ofNat n.toNat).toNat : Nat)
  have e : (UInt8.ofNat n.toNat).toNat = n.toNat := by simp; omega
  rw [e, Int.toNat_of_nonneg hb.1]
theorem u8_beq : ∀ {L L' : List Int}, Bytes L → Bytes L' → ((L.map fun n => UInt8.ofNat n.toNat) == (L'.map fun n => UInt8.ofNat n.toNat)) = decide (L = L')
  | [], [], _, _ => by simp
  | [], _ :: _, _, _ => by simp
  | _ :: _, [], _, _ => by simp
  | x :: L, y :: L', h, h' => by
    have ih := u8_beq (L := L) (L' := L') (fun n hn => h n (by simp [hn])) (fun n hn => h' n (by simp [hn]))
    have hx := h x (by simp)
    have hy := h' y (by simp)
    rw [List.map_cons, List.map_cons, List.cons_beq_cons, ih]
    have e : (UInt8.ofNat x.toNat == UInt8.ofNat y.toNat) = decide (x = y) := by
      rw [Bool.eq_iff_iff]
      simp only [beq_iff_eq, decide_eq_true_eq, ← UInt8.toNat_inj]
      simp
      omega
    rw [e]
    by_cases e1 : x = y <;> by_cases e2 : L = L' <;> simp [e1, e2]
theorem strOf_inj {L L' : List Int} (h : Bytes L) (h' : Bytes L') : strOfNums L = strOfNums L' ↔ L = L' := by
  have := u8_beq h h'
  unfold strOfNums
  constructor
  · intro e
    have e2 : (L.map fun n => UInt8.ofNat n.toNat) = (L'.map fun n => UInt8.ofNat n.toNat) := by
      have := congrArg (fun s => s.data.toList) e
      simpa using this
    rw [e2] at this
    simpa using this
  · rintro rfl; rfl
theorem sz_u8 : ∀ w, (sizeOf 5).run Tryd.prog w = .ok 1 w := fun w => by kernel_rfl
theorem y_neT {a : Act} {w : World} {o : Oper} {x y : Operand} {L L' : List Int} {ty : TypeId} (ho : o.op = .binOp .neq 57 x y ty) (hL : Bytes L) (hL' : Bytes L') (hn : L.length = 24) (hn' : L'.length = 24) (hx : a.eval x = .agg (L.map (Value.int .u8)).toArray) (hy : a.eval y = .agg (L'.map (Value.int .u8)).toArray) :
    (execOp a.eval o).run Tryd.prog w = .ok (.value (.bool (!decide (L = L')))) w := by
  have hg := run_eqGuard_agg (P := Tryd.prog) (w := w) .neq 57 x y (L.map (Value.int .u8)).toArray (L'.map (Value.int .u8)).toArray (by kernel_rfl)
  have he := run_equalIn_bytes (P := Tryd.prog) w 9998 57 5 24 Tryd.underlying57 Tryd.underlying5 sz_u8 (L.map fun n => UInt8.ofNat n.toNat) (L'.map fun n => UInt8.ofNat n.toNat) (by simpa using hn) (by simpa using hn')
  rw [← cells_u8 hL, ← cells_u8 hL', u8_beq hL hL'] at he
  have hb := run_neq_struct (P := Tryd.prog) (w := w) 57 (L.map (Value.int .u8)).toArray (L'.map (Value.int .u8)).toArray
  rw [he] at hb
  unfold execOp
  simp only [ho, hx, hy, Sem.run_bind, hg, Result.andThen_ok, hb]
  rfl
section
variable {W w : World} {g mb k mn base : Nat} {b : Option Addr} {n c : Nat} {fr tt ct : Int} {m : Nat} {xs : List Value} {ns : List (List UInt8)} {G cp : Nat}
theorem LK.row_blk (h : LK W w g mb k mn base b n c fr tt ct (.slice (some ⟨G, 0, none⟩) m cp) m xs ns) : base ≤ G ∧ G < w.heap.size ∧ ∃ cur, w.heap[G]? = some (.cells cur 59 (0, 0)) := by
  rcases h.row.2 with ⟨e, _⟩ | ⟨g', cap, cur, e, h1, h2, _⟩
  · cases e
  · injection e with e1 e2 e3
    injection e1 with e1
    injection e1 with e1
    subst e1
    exact ⟨h1, blk_lt h2, cur, h2⟩
theorem LK.free (h : LK W w g mb k mn base b n c fr tt ct (.slice (some ⟨G, 0, none⟩) m cp) m xs ns) (i : Nat) : w.frozen? ⟨G, i, none⟩ = false := by
  obtain ⟨_, _, cur, hc⟩ := h.row_blk
  exact blk_free hc i
theorem LK.set (h : LK W w g mb k mn base b n c fr tt ct (.slice (some ⟨G, 0, none⟩) m cp) m xs ns) (i : Nat) (u : Value) : LK W (w.setCell ⟨G, i, none⟩ u) g mb k mn base b n c fr tt ct (.slice (some ⟨G, 0, none⟩) m cp) m (xs.set i u) ns := by
  obtain ⟨hb, hlt, _⟩ := h.row_blk
  have o0 := h.o0; have o1 := h.o1; have o2 := h.o2; have o3 := h.o3; have o4 := h.o4; have o5 := h.o5
  have hset : ∀ j, j ≠ G → (w.setCell ⟨G, i, none⟩ u).heap[j]? = w.heap[j]? := fun j hj => Below.heap_setCell _ ⟨G, i, none⟩ _ j hj
  have hsz : (w.setCell ⟨G, i, none⟩ u).heap.size = w.heap.size := by simp [World.setCell]
  refine ⟨h.low.setCell (p := ⟨G, i, none⟩) (by show W.heap.size ≤ G; omega) u, o0, o1, o2, o3, o4, by rw [hsz]; exact o5, (hset g (by omega)).trans h.blk, h.sig.blk (hset mb (by omega)), h.nam.keep (hset mn (by omega)), (h.row.stored i u).1, by rw [hsz]; exact h.mx.1, ?_⟩
  obtain ⟨hm1, mm, hm2⟩ := h.mx
  refine ⟨mm, ?_⟩
  have : (w.setCell ⟨G, i, none⟩ u).heap[1]? = w.heap[1]? := hset _ (by omega)
  rw [← hm2]
  simp [World.cell?, this]
end
end Go.Proofs.YtdcpibglbanchaaDoor

set_option linter.unusedVariables false
set_option maxRecDepth 100000
namespace Go.Proofs.YtdcpibglbanchaaDoor
open Go.RowKit Go.Maps Go.ChangeMaps

theorem fd_fa0 (G o : Nat) (W : World) : (Instr.fieldAt 59 (.pointer (some ⟨G, o, none⟩)) 0).run Tryd.prog W = .ok (.pointer (some ⟨G, o, none⟩)) W := by kernel_rfl
theorem fd_fa1 (G o : Nat) (W : World) : (Instr.fieldAt 59 (.pointer (some ⟨G, o, none⟩)) 1).run Tryd.prog W = .ok (.pointer (some ⟨G, o + 7, none⟩)) W := by kernel_rfl
theorem rc_fa6 (G o : Nat) (W : World) : (Instr.fieldAt 30 (.pointer (some ⟨G, o, none⟩)) 6).run Tryd.prog W = .ok (.pointer (some ⟨G, o + 6, none⟩)) W := by kernel_rfl
theorem y_slice1 {P : Program} {ρ : Operand → Value} {w : World} {o : Oper} {x p : Operand} {t : TypeId} {a b v : Value} (ho : o.op = .slice t x (some p) none none) (hx : ρ x = a) (hp : ρ p = b) (hr : (Instr.sliceAt t a (some b) none none).run P w = .ok v w) : (execOp ρ o).run P w = .ok (.value v) w := by
  simp [execOp, ho, hx, hp, hr, Result.andThen]
section
variable {W w : World} {g mb k mn base : Nat} {b : Option Addr} {c : Nat} {tt ct : Int} {m : Nat} {xs : List Value} {ns : List (List UInt8)} {G cp : Nat} {l : List Int} {F p o : Nat}
/-- what local answers -/
def LocP (l : List Int) (F p : Nat) (W : World) (g mb k mn base : Nat) (b : Option Addr) (c : Nat) (tt ct : Int) (G cp m : Nat) (xs : List Value) (ns : List (List UInt8)) (o : Nat) (e : Ending) (w' : World) : Prop :=
  (locS l F p = none ∧ e = .returned (.bool false) ∧ Below W.heap.size W w') ∨
  (∃ a, locS l F p = some a ∧ e = .returned (.bool true) ∧ LK W w' g mb k mn base b l.length c (F : Nat) tt ct (.slice (some ⟨G, 0, none⟩) m cp) m ((xs.set (o + 5) (.int .i64 (a : Nat))).set (o + 31) (.int .i64 ((a + pkL l p : Nat) : Int))) ns)
set_option maxHeartbeats 8000000 in
theorem local_is (h : LK W w g mb k mn base b l.length c (F : Nat) tt ct (.slice (some ⟨G, 0, none⟩) m cp) m xs ns) (hb : Bs W W.heap.size b l) (hc : l.length ≤ c) (hm : l.length ≤ 65536) (hF : F ≤ l.length) (hp : p + szL l p ≤ l.length) (ho : o + 32 ≤ m * 32) (hx : ∀ j u, (fndC l (p, 0) 0)[j]? = some u → xs[o + j]? = some u) :
    Calls Tryd.prog 20 #[.pointer (some ⟨g, 0, none⟩), .pointer (some ⟨G, o, none⟩)] w (LocP l F p W g mb k mn base b c tt ct G cp m xs ns o) := by
  have hB := hb.1
  have hsz := szL_ge l p
  have hcell : ∀ j u, (fndC l (p, 0) 0)[j]? = some u → w.cell? ⟨G, o + j, none⟩ = some u := fun j u hu => by
    have hj : j < 32 := by
      rcases Nat.lt_or_ge j 32 with q | q
      · exact q
      · rw [List.getElem?_eq_none (by rw [fndC_len (by show p + 30 ≤ l.length; omega)]; exact q)] at hu; cases hu
    rw [h.row.cellAt (o + j) (by omega)]; exact hx j u hu
  have k0 : w.cell? ⟨G, o, none⟩ = some (.string (nmT l p)) := hcell 0 _ rfl
  have k2 : w.cell? ⟨G, o + 2, none⟩ = some (.int .i64 (pkL l p)) := hcell 2 _ rfl
  have k5 : w.cell? ⟨G, o + 5, none⟩ = some (.int .i64 0) := hcell 5 _ rfl
  have k6 : w.cell? ⟨G, o + 6, none⟩ = some (.int .i64 (hdL l p)) := hcell 6 _ rfl
  have hlB : (cutOf l (p + 6) (p + 30)).length = 24 := by rw [cutOf_len (by omega)]; omega
  have hrB0 : w.rangeAt G (o + 7) ((cutOf l (p + 6) (p + 30)).map (Value.int .u8)) := fun j v hv => by
    have hj : j < 24 := by
      rcases Nat.lt_or_ge j 24 with q | q
      · exact q
      · rw [List.getElem?_eq_none (by rw [List.length_map, hlB]; exact q)] at hv; cases hv
    rw [Nat.add_assoc]
    refine hcell (7 + j) v ?_
    unfold fndC
    rw [List.append_assoc, List.getElem?_append_right (by rw [recC_len]; omega), recC_len, show 7 + j - 7 = j by omega, List.getElem?_append_left (by rw [List.length_map, hlB]; exact hj)]
    exact hv
  have k31 : w.cell? ⟨G, o + 31, none⟩ = some (.int .i64 0) := hcell 31 _ (by
    unfold fndC
    rw [List.getElem?_append_right (by rw [List.length_append, List.length_map, recC_len, hlB]; decide), List.length_append, List.length_map, recC_len, hlB]; rfl)
  have z5 := h.free (o + 5)
  have z31 := h.free (o + 31)
  have c0 : w.cell? ⟨g, 0, none⟩ = some (.slice b l.length c) := by rw [blk_cell h.blk]; rfl
  have c2 : w.cell? ⟨g, 2, none⟩ = some (.int .i64 (F : Int)) := by rw [blk_cell h.blk]; rfl
  have hdb := (numL_bd hB ((p : Int) + 42) 4 (by decide)).2
  have hpb := (numL_bd hB ((p : Int) + 20) 4 (by decide)).2
  have hd1 : hdL l p ≤ 4294967295 := by unfold hdL; omega
  have hp1 : pkL l p ≤ 4294967295 := by unfold pkL; omega
  have hnn : b = none → l.length = 0 ∧ c = 0 := fun e => by
    obtain ⟨_, hcs⟩ := hb
    obtain ⟨b', off, e2, _⟩ := hcs (by omega)
    rw [e] at e2; cases e2
  have hnl : (nmT l p).size = nmN l p := by
    unfold nmT
    rw [strOf_size, cutOf_len (by omega)]; omega
  have hLo : locS l F p = if F < hdL l p + 30 ∨ kindL l (hdL l p) ≠ 1 then none
      else if cutOf l (hdL l p + 4) (hdL l p + 28) ≠ cutOf l (p + 6) (p + 30) then none
      else if F < hdL l p + 30 + nmN l p + (numL l ((hdL l p : Int) + 28) 2).toNat + pkL l p ∨ strOfNums (cutOf l (hdL l p + 30) (hdL l p + 30 + nmN l p)) ≠ nmT l p then none
      else some (hdL l p + 30 + nmN l p + (numL l ((hdL l p : Int) + 28) 2).toNat) := rfl
  have HLo := Lib.hid hLo
  have HL := Lib.hid (And.intro h (And.intro hb hcell))
  have hbA : Bytes (cutOf l (p + 6) (p + 30)) := cutOf_bytes hB _ _
  clear hcell hdb hpb hsz h hb hLo hx
  have HP : Hid (∀ hd', (nmN l p : Int) ≤ 65536 ∧ hd' = hdL l p → True) := Lib.hid (fun _ _ => trivial)
  have hnb : nmN l p ≤ 65536 := by have := szL_ge l p; omega
  clear hp HP
  generalize hdL l p = hd at *
  generalize hpk : pkL l p = pk at *
  have HPK := Lib.hid hpk
  clear hpk
  generalize nmN l p = nn at *
  generalize nmT l p = nt at *
  generalize hBB : cutOf l (p + 6) (p + 30) = B at *
  clear hBB
  by_cases h1 : F < hd + 30
  · have t1 : decide ((F : Int) - hd < 30) = true := by simp; omega
    have hP : locS l F p = none := by rw [HLo.out, if_pos (.inl h1)]
    have HP := Lib.hid hP
    clear h1 hP k0 k2 k5 k31 hrB0 z5 z31 c0
    go_enter Tryd.func20, Tryd.ntmps20
    go_wp2_with fail
    go_quiet (fail)
    go_wp2_with fail
    go_ret
    exact .inl ⟨HP.out, rfl, low_drewN HL.out.1.low _⟩
  · have t1 : decide ((F : Int) - hd < 30) = false := by simp; omega
    have hkd : ∀ d, Calls Tryd.prog 25 #[.pointer (some ⟨g, 0, none⟩), .int .i64 hd] (w.drewN d) fun e w' => e = .returned (.int .i64 (kindL l hd)) ∧ ∃ m, w' = w.drewN m := fun d =>
      (lkKind (w := w.drewN d) (g := g) (B := W.heap.size) HL.out.1.blk (HL.out.1.sig.blk rfl) hc hm (HL.out.2.1.below (low_drewN HL.out.1.low d)) hd (by omega)).mono fun e w' ⟨h1, m, h2⟩ => ⟨h1, d + m, by rw [h2, World.drewN_drewN]⟩
    obtain ⟨K, hK⟩ : ∃ K, kindL l hd = K := ⟨_, rfl⟩
    rw [hK] at HLo
    have HKD : Hid (∀ d, Calls Tryd.prog 25 #[.pointer (some ⟨g, 0, none⟩), .int .i64 hd] (w.drewN d) fun e w' => e = .returned (.int .i64 K) ∧ ∃ m, w' = w.drewN m) := Lib.hid (by rw [← hK]; exact hkd)
    clear hkd hK
    by_cases h2 : K = 1
    rotate_left
    · have t2 : ((K : Int) != 1) = true := by simp; omega
      have hP : locS l F p = none := by rw [HLo.out, if_pos (.inr h2)]
      have HP := Lib.hid hP
      clear h1 h2 hP k0 k2 k5 k31 hrB0 z5 z31 c0
      go_enter Tryd.func20, Tryd.ntmps20
      go_wp2_with fail
      go_quiet ((go_at_call 25; exact HKD.out _))
      go_wp2_with fail
      go_ret
      exact .inl ⟨HP.out, rfl, low_drewN HL.out.1.low _⟩
    · have t2 : ((K : Int) != 1) = false := by simp [h2]
      have HLo2 : Hid (locS l F p = if cutOf l (hd + 4) (hd + 28) ≠ B then none
          else if F < hd + 30 + nn + (numL l ((hd : Int) + 28) 2).toNat + pk ∨ strOfNums (cutOf l (hd + 30) (hd + 30 + nn)) ≠ nt then none
          else some (hd + 30 + nn + (numL l ((hd : Int) + 28) 2).toNat)) := Lib.hid (by rw [HLo.out, if_neg (by omega)])
      have hH4 : IntKind.i64.wrap ((hd : Int) + 4) = ((hd + 4 : Nat) : Int) := by rw [IntWalk.i64_in _ (by omega)]; omega
      obtain ⟨a4, c4, r4, _, b4s, hc4, _, hn4⟩ := cut_l b l.length c l rfl hc hnn (hd + 4) (by omega)
      have hlen4 : (cutOf l (hd + 4) l.length).length = l.length - (hd + 4) := cutOf_len (Nat.le_refl _)
      obtain ⟨bb, off, rfl, hbl, hcl⟩ := (b4s _ _ (HL.out.2.1.below HL.out.1.low)).2 (by omega)
      obtain ⟨A, hA⟩ : ∃ A, cutOf l (hd + 4) (hd + 28) = A := ⟨_, rfl⟩
      have hlA : A.length = 24 := by rw [← hA, cutOf_len (by omega)]; omega
      have hbA' : Bytes A := by rw [← hA]; exact cutOf_bytes hB _ _
      have hrA0 : w.rangeAt bb off (A.map (Value.int .u8)) := fun j v hv => by
        rw [List.getElem?_map] at hv
        have hj : j < 24 := by
          rcases Nat.lt_or_ge j 24 with q | q
          · exact q
          · rw [List.getElem?_eq_none (by omega)] at hv; cases hv
        rw [hcl j (by omega)]
        rw [← hA] at hv
        unfold cutOf at hv ⊢
        rw [List.getElem?_take_of_lt (by omega), List.getElem?_drop] at hv
        rw [List.getD_eq_getElem?_getD, List.getElem?_take_of_lt (by omega), List.getElem?_drop]
        cases hq : l[hd + 4 + j]? with
        | none => rw [hq] at hv; cases hv
        | some u => rw [hq] at hv; exact hv
      have hap := fun (W : World) => run_arrayAt (w := W) (P := Tryd.prog) 57 _ 24 (some ⟨bb, off, none⟩) (l.length - (hd + 4)) c4 Tryd.underlying57 (by omega)
      rw [hA] at HLo2
      clear h2 HLo hA b4s hcl hlen4
      go_enter Tryd.func20, Tryd.ntmps20
      go_wp2_with fail
      go_quiet ((go_at_call 25; exact HKD.out _))
      clear HKD
      go_upto_region 3 with (fail)
      rename_i hKK
      refine wp_region_listed (C := SameC (w.drewN nq).drew) (G := GV [.pointer (some ⟨g, 0, none⟩), .pointer (some ⟨g, 0, none⟩), .pointer (some ⟨g, 0, none⟩), .slice b l.length c, .pointer (some ⟨G, o, none⟩), .pointer (some ⟨G, o, none⟩), .pointer (some ⟨G, o, none⟩), .pointer (some ⟨G, o + 6, none⟩), .int .i64 hd, .int .i64 ((hd + 4 : Nat) : Int), .slice (some ⟨bb, off, none⟩) (l.length - (hd + 4)) c4, .pointer (some ⟨bb, off, none⟩), .agg (A.map (Value.int .u8)).toArray, .pointer (some ⟨G, o, none⟩), .pointer (some ⟨G, o, none⟩), .pointer (some ⟨G, o + 7, none⟩), .agg (B.map (Value.int .u8)).toArray, .bool (!decide (A = B))])
        (by kernel_rfl) (ordL_spec (by kernel_rfl)) (dstB_spec (by kernel_rfl)) (inB_spec (by kernel_rfl)) (sameC _ _) ?step ?fin
      case step =>
        intro i o a1 listed W1 ho hli hC hdep hsame
        obtain rfl : W1 = (w.drewN nq).drew := hC
        have hltn : i < 18 := lt_of_some ho
        match i, hltn, ho with
        | 0, _, ho =>
          obtain rfl := Option.some.inj ho
          exact step_val ho rfl (y_move rfl (hsame 0 (notB_spec (by kernel_rfl)))) rfl (sameC _ _)
        | 1, _, ho =>
          obtain rfl := Option.some.inj ho
          exact step_val ho rfl (y_nil rfl ((hdep ⟨0, .data⟩ (by simp) rfl).2 _ _ rfl rfl)) rfl (sameC _ _)
        | 2, _, ho =>
          obtain rfl := Option.some.inj ho
          exact step_val ho rfl (y_field rfl ((hdep ⟨1, .data⟩ (by simp) rfl).2 _ _ rfl rfl) (lk_fa0 g _)) rfl (sameC _ _)
        | 3, _, ho =>
          obtain rfl := Option.some.inj ho
          exact step_val ho rfl (y_load rfl ((hdep ⟨2, .data⟩ (by simp) rfl).2 _ _ rfl rfl) (y_ld3 g 0 _ (.slice b l.length c) _ (by kernel_rfl) c0)) rfl (sameC _ _)
        | 4, _, ho =>
          obtain rfl := Option.some.inj ho
          exact step_val ho rfl (y_move rfl (hsame 1 (notB_spec (by kernel_rfl)))) rfl (sameC _ _)
        | 5, _, ho =>
          obtain rfl := Option.some.inj ho
          exact step_val ho rfl (y_nil rfl ((hdep ⟨4, .data⟩ (by simp) rfl).2 _ _ rfl rfl)) rfl (sameC _ _)
        | 6, _, ho =>
          obtain rfl := Option.some.inj ho
          exact step_val ho rfl (y_field rfl ((hdep ⟨5, .data⟩ (by simp) rfl).2 _ _ rfl rfl) (fd_fa0 G o _)) rfl (sameC _ _)
        | 7, _, ho =>
          obtain rfl := Option.some.inj ho
          exact step_val ho rfl (y_field rfl ((hdep ⟨6, .data⟩ (by simp) rfl).2 _ _ rfl rfl) (rc_fa6 G o _)) rfl (sameC _ _)
        | 8, _, ho =>
          obtain rfl := Option.some.inj ho
          exact step_val ho rfl (y_load rfl ((hdep ⟨7, .data⟩ (by simp) rfl).2 _ _ rfl rfl) (y_ld3 G (o + 6) _ (.int .i64 hd) _ (by kernel_rfl) k6)) rfl (sameC _ _)
        | 9, _, ho =>
          obtain rfl := Option.some.inj ho
          exact step_val ho rfl (y_addi rfl ((hdep ⟨8, .data⟩ (by simp) rfl).2 _ _ rfl rfl) rfl hH4) rfl (sameC _ _)
        | 10, _, ho =>
          obtain rfl := Option.some.inj ho
          exact step_val ho rfl (y_slice1 rfl ((hdep ⟨3, .data⟩ (by simp) rfl).2 _ _ rfl rfl) ((hdep ⟨9, .data⟩ (by simp) rfl).2 _ _ rfl rfl) (r4 _)) rfl (sameC _ _)
        | 11, _, ho =>
          obtain rfl := Option.some.inj ho
          exact step_val ho rfl (y_arr rfl ((hdep ⟨10, .data⟩ (by simp) rfl).2 _ _ rfl rfl) (hap _)) rfl (sameC _ _)
        | 12, _, ho =>
          obtain rfl := Option.some.inj ho
          exact step_val ho rfl (y_loadM rfl ((hdep ⟨11, .data⟩ (by simp) rfl).2 _ _ rfl rfl) hrA0 Tryd.underlying57 rfl (by rw [List.length_map, hlA]; kernel_rfl)) rfl (sameC _ _)
        | 13, _, ho =>
          obtain rfl := Option.some.inj ho
          exact step_val ho rfl (y_move rfl (hsame 1 (notB_spec (by kernel_rfl)))) rfl (sameC _ _)
        | 14, _, ho =>
          obtain rfl := Option.some.inj ho
          exact step_val ho rfl (y_nil rfl ((hdep ⟨13, .data⟩ (by simp) rfl).2 _ _ rfl rfl)) rfl (sameC _ _)
        | 15, _, ho =>
          obtain rfl := Option.some.inj ho
          exact step_val ho rfl (y_field rfl ((hdep ⟨14, .data⟩ (by simp) rfl).2 _ _ rfl rfl) (fd_fa1 G o _)) rfl (sameC _ _)
        | 16, _, ho =>
          obtain rfl := Option.some.inj ho
          exact step_val ho rfl (y_loadM rfl ((hdep ⟨15, .data⟩ (by simp) rfl).2 _ _ rfl rfl) hrB0 Tryd.underlying57 rfl (by rw [List.length_map, hlB]; kernel_rfl)) rfl (sameC _ _)
        | 17, _, ho =>
          obtain rfl := Option.some.inj ho
          exact step_val ho rfl (y_neT rfl hbA' hbA hlA hlB ((hdep ⟨12, .data⟩ (by simp) rfl).2 _ _ rfl rfl) ((hdep ⟨16, .data⟩ (by simp) rfl).2 _ _ rfl rfl)) rfl (sameC _ _)
        | n + 18, h, _ => exact absurd h (by omega)
      case fin =>
        intro a1 listed W1 hall hC hgood hsame hsize hdef
        obtain rfl : W1 = (w.drewN nq).drew := hC
        refine hKK _ _ ?_
        have h45 : a1.eval (.tmp 45) = .bool (!decide (A = B)) := hgood 17 _ _ rfl rfl
        have hact := act_of_same (List.range 113) (fun t => decide (28 ≤ t ∧ t ≤ 45)) (by kernel_rfl) (fun t ht => hsame t (wrB_spec (wr := fun t => decide (28 ≤ t ∧ t ≤ 45)) (by kernel_rfl) ht)) hsize hdef
        rw [show List.range 113 = [0, 1, 2, 3, 4, 5, 6, 7, 8, 9, 10, 11, 12, 13, 14, 15, 16, 17, 18, 19, 20, 21, 22, 23, 24, 25, 26, 27, 28, 29, 30, 31, 32, 33, 34, 35, 36, 37, 38, 39, 40, 41, 42, 43, 44, 45, 46, 47, 48, 49, 50, 51, 52, 53, 54, 55, 56, 57, 58, 59, 60, 61, 62, 63, 64, 65, 66, 67, 68, 69, 70, 71, 72, 73, 74, 75, 76, 77, 78, 79, 80, 81, 82, 83, 84, 85, 86, 87, 88, 89, 90, 91, 92, 93, 94, 95, 96, 97, 98, 99, 100, 101, 102, 103, 104, 105, 106, 107, 108, 109, 110, 111, 112] by decide] at hact
        generalize a1.eval = f at hact h45
        simp only [List.map_cons, List.map_nil] at hact
        simp [Act.eval] at hact
        rw [h45] at hact
        rw [hact]
        clear hact hgood hsame hsize hdef hall h45 hKK hap r4 hrA0 hrB0
        by_cases hAB : A = B
        rotate_left
        · rw [decide_eq_false hAB, Bool.not_false]
          have hP : locS l F p = none := by rw [HLo2.out, if_pos hAB]
          have HP := Lib.hid hP
          clear hP hAB k0 k2 k5 k31 z5 z31 c0
          go_wp2_with fail
          go_ret
          exact .inl ⟨HP.out, rfl, low_drewN (low_drewN HL.out.1.low _) 1⟩
        · rw [decide_eq_true hAB, Bool.not_true]
          have HLo3 : Hid (locS l F p = if F < hd + 30 + nn + (numL l ((hd : Int) + 28) 2).toNat + pk ∨ strOfNums (cutOf l (hd + 30) (hd + 30 + nn)) ≠ nt then none
              else some (hd + 30 + nn + (numL l ((hd : Int) + 28) 2).toNat)) := Lib.hid (by rw [HLo2.out, if_neg (by simpa using hAB)])
          have hnum := lkNum (w := (w.drewN nq).drew) (g := g) (B := W.heap.size) HL.out.1.blk hc hm (HL.out.2.1.below (low_drewN (low_drewN HL.out.1.low nq) 1)) ((hd : Int) + 28) 2 (by omega) (by decide)
          have hN := numL_bd hB ((hd : Int) + 28) 2 (by decide)
          obtain ⟨e28, he28⟩ : ∃ e28 : Nat, numL l ((hd : Int) + 28) 2 = e28 := ⟨_, (Int.toNat_of_nonneg hN.1).symm⟩
          rw [he28] at HLo3 hnum hN
          rw [Int.toNat_natCast] at HLo3
          have hN2 : e28 ≤ 4294967295 := by omega
          clear HLo2 hAB hN he28
          subst hnl
          go_wp2_with fail
          refine hnum.mono ?_
          rintro e w3 ⟨rfl, rfl⟩
          clear hnum
          have hL3 : LK W (w.drewN (nq + 1)) g mb k mn base b l.length c (F : Nat) tt ct (.slice (some ⟨G, 0, none⟩) m cp) m xs ns := HL.out.1.below (low_drewN (Below.refl _ _) (nq + 1))
          obtain ⟨at_, hat⟩ : ∃ at_ : Nat, hd + 30 + nt.size + e28 = at_ := ⟨_, rfl⟩
          have hati : (hd : Int) + 30 + nt.size + e28 = at_ := by omega
          have hat2 : at_ ≤ 12884901888 := by omega
          rw [hat] at HLo3
          have hL4 := hL3.set (o + 5) (.int .i64 (at_ : Int))
          have k5' : ((w.drewN (nq + 1)).setCell ⟨G, o + 5, none⟩ (.int .i64 (at_ : Int))).cell? ⟨G, o + 5, none⟩ = some (.int .i64 (at_ : Int)) := World.cell?_setCell_same _ _ _ k5
          have k2' : ((w.drewN (nq + 1)).setCell ⟨G, o + 5, none⟩ (.int .i64 (at_ : Int))).cell? ⟨G, o + 2, none⟩ = some (.int .i64 pk) := (World.cell?_setCell_other _ _ _ _ (by simp)).trans k2
          have k31' : ((w.drewN (nq + 1)).setCell ⟨G, o + 5, none⟩ (.int .i64 (at_ : Int))).cell? ⟨G, o + 31, none⟩ = some (.int .i64 0) := (World.cell?_setCell_other _ _ _ _ (by simp)).trans k31
          have k0' : ((w.drewN (nq + 1)).setCell ⟨G, o + 5, none⟩ (.int .i64 (at_ : Int))).cell? ⟨G, o, none⟩ = some (.string nt) := (World.cell?_setCell_other _ _ _ _ (by simp)).trans k0
          have HAT := Lib.hid (And.intro hat hati)
          clear hat
          go_wp2_with fail
          obtain ⟨E, hE⟩ : ∃ E : Nat, at_ + pk = E := ⟨_, rfl⟩
          have hL5 := (hL4.set (o + 31) (.int .i64 (E : Int))).drew
          generalize hw4 : (w.drewN (nq + 1)).setCell ⟨G, o + 5, none⟩ (.int .i64 (at_ : Int)) = w4 at *
          have z31' := hL4.free (o + 31)
          have hpe : (at_ : Int) + pk = E := by omega
          have hwE : IntKind.i64.wrap (E : Int) = E := IntWalk.i64_in _ (by omega)
          have k0'' : (w4.setCell ⟨G, o + 31, none⟩ (.int .i64 (E : Int))).drew.cell? ⟨G, o, none⟩ = some (.string nt) := (World.cell?_setCell_other w4 _ _ _ (by simp)).trans k0'
          have k31'' : (w4.setCell ⟨G, o + 31, none⟩ (.int .i64 (E : Int))).drew.cell? ⟨G, o + 31, none⟩ = some (.int .i64 (E : Int)) := World.cell?_setCell_same w4 _ _ k31'
          have HQ := Lib.hid (And.intro hL5 (And.intro k0'' (And.intro k31'' hE)))
          clear hw4 hL3 hL4 hL5 k5 k31 z5 z31 c0 c2 k6 k2 k0 k0' k0'' k31'' t1 t2 hH4 hn4 hE
          refine' cut_later (fun hT => ?_) ?_
          rotate_left
          focus
            go_region_law (fail)
            all_goals exact hT
          generalize hw5 : (w4.setCell ⟨G, o + 31, none⟩ (.int .i64 (E : Int))).drew = w5 at *
          clear hw5 k5' k2' k31' z31' hpe hwE
          have c0 : w5.cell? ⟨g, 0, none⟩ = some (.slice b l.length c) := by rw [blk_cell HQ.out.1.blk]; rfl
          have c2 : w5.cell? ⟨g, 2, none⟩ = some (.int .i64 (F : Int)) := by rw [blk_cell HQ.out.1.blk]; rfl
          have k0 := HQ.out.2.1
          have k31 := HQ.out.2.2.1
          have hE2 := HQ.out.2.2.2
          rw [hE2] at HLo3
          by_cases h3 : F < E
          · have t3 : decide ((E : Int) ≤ F) = false := by simp; omega
            have t3' : decide (E ≤ F) = false := by simp; omega
            have hP : locS l F p = none := by rw [HLo3.out, if_pos (.inl h3)]
            have HP := Lib.hid hP
            clear hP h3 hE2
            go_wp2_with fail
            go_quiet (fail)
            go_wp2_with fail
            go_ret
            exact .inl ⟨HP.out, rfl, low_drewN HQ.out.1.low _⟩
          · have t3 : decide ((E : Int) ≤ F) = true := by simp; omega
            have t3' : decide (E ≤ F) = true := by simp; omega
            have hAT := HAT.out.1
            obtain ⟨a6, c6, r6, _, b6s, hc6, _, _⟩ := cut_lh b l.length c l rfl hc hnn (hd + 30) (hd + 30 + nt.size) (by omega) (by omega)
            rw [show ((hd + 30 : Nat) : Int) = (hd : Int) + 30 by omega, show ((hd + 30 + nt.size : Nat) : Int) = (hd : Int) + 30 + nt.size by omega, show hd + 30 + nt.size - (hd + 30) = nt.size by omega] at r6
            have hcv : ∀ n, (convert 22 9 (.slice a6 nt.size c6)).run Tryd.prog (w5.drewN n) = .ok (.string (strOfNums (cutOf l (hd + 30) (hd + 30 + nt.size)))) (w5.drewN n) := fun n => conv_bs c6 (b6s _ _ (HL.out.2.1.below (low_drewN HQ.out.1.low n))) (by rw [cutOf_len (by omega)]; omega)
            generalize hst : strOfNums (cutOf l (hd + 30) (hd + 30 + nt.size)) = st at *
            clear hAT hE2
            by_cases hs : st = nt
            · have hP : locS l F p = some at_ := by rw [HLo3.out, if_neg (by rintro (q | q); exact h3 q; exact q hs)]
              have HP := Lib.hid hP
              have t4 : (st.toList == nt.toList) = true := by rw [hs]; exact beq_self_eq_true _
              clear hP h3 hs
              go_wp2_with fail
              go_quiet (fail)
              go_wp2_with fail
              go_ret
              refine .inr ⟨at_, HP.out, rfl, ?_⟩
              rw [HPK.out, HQ.out.2.2.2]
              exact HQ.out.1.below (low_drewN (Below.refl _ _) _)
            · have hP : locS l F p = none := by rw [HLo3.out, if_pos (.inr hs)]
              have HP := Lib.hid hP
              have t4 : (st.toList == nt.toList) = false := by
                rw [beq_eq_false_iff_ne, Lib.toList_data, Lib.toList_data]
                intro e
                exact hs (by cases st; cases nt; simp at e; subst e; rfl)
              clear hP h3 hs
              go_wp2_with fail
              go_quiet (fail)
              go_wp2_with fail
              go_ret
              exact .inl ⟨HP.out, rfl, low_drewN HQ.out.1.low _⟩
end
end Go.Proofs.YtdcpibglbanchaaDoor

set_option linter.unusedVariables false
set_option maxRecDepth 100000
namespace Go.Proofs.YtdcpibglbanchaaDoor
open Go.RowKit Go.Maps Go.ChangeMaps

/-- the cells of what was found, the first entries' local headers read -/
def fndA (l : List Int) (es : List (Nat × Nat)) (ps : List Nat) : List Value := es.flatMap (fun e => fndC l e (e.2 + pkL l e.1)) ++ fndR l ps
theorem flat_len {α : Type} {f : α → List Value} {k : Nat} : ∀ {l : List α}, (∀ x ∈ l, (f x).length = k) → (l.flatMap f).length = l.length * k
  | [], _ => by simp
  | x :: l, h => by
    rw [List.flatMap_cons, List.length_append, h x (by simp), flat_len (fun y hy => h y (by simp [hy])), List.length_cons, Nat.add_mul]; omega
theorem fndC_set {l : List Int} {p a en : Nat} (h : p + 30 ≤ l.length) : ((fndC l (p, 0) 0).set 5 (.int .i64 (a : Nat))).set 31 (.int .i64 (en : Nat)) = fndC l (p, a) en := by
  have hl : ((cutOf l (p + 6) (p + 30)).map (Value.int .u8)).length = 24 := by rw [List.length_map, cutOf_len h]; omega
  unfold fndC recC
  simp only [List.cons_append, List.nil_append, List.set_cons_succ, List.set_cons_zero]
  rw [List.set_append, if_neg (by omega), hl]
  rfl
theorem set_mid {α : Type} (a b c : List α) (k : Nat) (u : α) (h : k < b.length) : (a ++ (b ++ c)).set (a.length + k) u = a ++ (b.set k u ++ c) := by
  rw [List.set_append, if_neg (by omega), Nat.add_sub_cancel_left, List.set_append, if_pos h]
theorem locsS_snoc {l : List Int} {fr : Nat} : ∀ {ps : List Nat} {p : Nat}, locsS l fr (ps ++ [p]) = match locsS l fr ps with | none => none | some bs => (locS l fr p).map (fun a => bs ++ [a])
  | [], p => by
    show locsS l fr [p] = _
    unfold locsS
    cases locS l fr p with
    | none => rfl
    | some a => rfl
  | q :: ps, p => by
    show locsS l fr (q :: (ps ++ [p])) = _
    unfold locsS
    cases locS l fr q with
    | none => rfl
    | some a =>
      simp only [locsS_snoc (ps := ps)]
      cases locsS l fr ps with
      | none => rfl
      | some bs => cases locS l fr p <;> rfl
theorem locsS_none {l : List Int} {fr : Nat} {ps : List Nat} (qs : List Nat) (h : locsS l fr ps = none) : locsS l fr (ps ++ qs) = none := by
  induction ps with
  | nil => cases h
  | cons p ps ih =>
    rw [List.cons_append]
    unfold locsS at h ⊢
    cases h1 : locS l fr p with
    | none => rfl
    | some a =>
      rw [h1] at h
      simp only at h ⊢
      cases h2 : locsS l fr ps with
      | none => rw [ih h2]; rfl
      | some bs => rw [h2] at h; cases h
section
variable {W w : World} {g mb k mn base : Nat} {b : Option Addr} {c : Nat} {tt ct : Int} {V : Value} {l : List Int} {F : Nat} {ps : List Nat} {ns : List (List UInt8)}
/-- what locals answers -/
def LocsP (l : List Int) (F : Nat) (ps : List Nat) (W : World) (g mb k mn base : Nat) (b : Option Addr) (c : Nat) (tt ct : Int) (V : Value) (ns : List (List UInt8)) (e : Ending) (w' : World) : Prop :=
  (locsS l F ps = none ∧ e = .returned (.int .i64 15) ∧ Below W.heap.size W w') ∨
  (∃ bs, locsS l F ps = some bs ∧ e = .returned (.int .i64 0) ∧ LK W w' g mb k mn base b l.length c (F : Nat) tt ct V ps.length (fndA l (ps.zip bs) []) ns)
theorem fndA_split {es : List (Nat × Nat)} {ps : List Nat} {p q : Nat} (hes : es.length = q) (hall : ∀ e ∈ es, e.1 + 30 ≤ l.length) (hp : p + 30 ≤ l.length) :
    (es.flatMap (fun e => fndC l e (e.2 + pkL l e.1))).length = q * 32 ∧ fndA l es (p :: ps) = es.flatMap (fun e => fndC l e (e.2 + pkL l e.1)) ++ (fndC l (p, 0) 0 ++ fndR l ps) := by
  refine ⟨?_, rfl⟩
  rw [← hes]
  exact flat_len (fun e he => fndC_len (hall e he))
set_option maxHeartbeats 8000000 in
theorem locals_is (h : LK W w g mb k mn base b l.length c (F : Nat) tt ct V ps.length (fndR l ps) ns) (hb : Bs W W.heap.size b l) (hc : l.length ≤ c) (hm : l.length ≤ 65536) (hF : F ≤ l.length) (hps : ∀ p ∈ ps, p + szL l p ≤ l.length) (hN : ps.length ≤ 64) :
    Calls Tryd.prog 12 #[.pointer (some ⟨g, 0, none⟩)] w (LocsP l F ps W g mb k mn base b c tt ct V ns) := by
  have c6 : w.cell? ⟨g, 6, none⟩ = some V := by rw [blk_cell h.blk]; rfl
  obtain ⟨aV, cV, rfl⟩ := own_shape h.row
  have HL := Lib.hid (And.intro h (And.intro hb hps))
  clear h hb hps
  obtain ⟨N, hNN⟩ : ∃ N, ps.length = N := ⟨_, rfl⟩
  rw [hNN] at HL hN c6
  unfold LocsP
  rw [hNN]
  have HN := Lib.hid hNN
  clear hNN
  go_enter Tryd.func12, Tryd.ntmps12
  go_wp2_with fail
  go_loopw [9] (fun i wr => ∃ (q : Nat) (bs : List Nat), q ≤ N ∧ i = .int .i64 q ∧ Hid (bs.length = q ∧ locsS l F (ps.take q) = some bs ∧ LK W wr g mb k mn base b l.length c (F : Nat) tt ct (.slice aV N cV) N (fndA l ((ps.take q).zip bs) (ps.drop q)) ns)) (fun i _ => N - (intOf i).toNat)
  case atStart => exact ⟨0, [], Nat.zero_le _, rfl, Lib.hid ⟨rfl, rfl, HL.out.1⟩⟩
  case round =>
    obtain ⟨q, bs, hq, rfl, HI⟩ := hrel
    have c6r : wr.cell? ⟨g, 6, none⟩ = some (.slice aV N cV) := by rw [blk_cell HI.out.2.2.blk]; rfl
    clear c6
    by_cases hlt : q < N
    · obtain ⟨p, hp⟩ : ∃ p, ps[q]? = some p := ⟨_, List.getElem?_eq_getElem (by rw [HN.out]; exact hlt)⟩
      have hpm : p ∈ ps := List.mem_of_getElem? hp
      have hdrop : ps.drop q = p :: ps.drop (q + 1) := by rw [List.drop_eq_getElem?_toList_append, hp]; rfl
      have htake : ps.take (q + 1) = ps.take q ++ [p] := by rw [List.take_add_one, hp]; rfl
      have hsz := HL.out.2.2 p hpm
      have hsg := szL_ge l p
      obtain ⟨G, cp, hV, _, _⟩ := HI.out.2.2.row.form (by omega)
      injection hV with hV1 _ hV2
      subst hV1
      subst hV2
      have hzl : ((ps.take q).zip bs).length = q := by rw [List.length_zip, List.length_take, HI.out.1, HN.out]; omega
      obtain ⟨hA, hS⟩ := fndA_split (l := l) (es := (ps.take q).zip bs) (ps := ps.drop (q + 1)) (p := p) (q := q) hzl (fun e he => by
        have h1 := HL.out.2.2 e.1 (List.mem_of_mem_take (List.of_mem_zip he).1)
        have h2 := szL_ge l e.1
        omega) (by omega)
      have hL := HI.out.2.2
      rw [hdrop, hS] at hL
      have hfl : (fndC l (p, 0) 0).length = 32 := fndC_len (by show p + 30 ≤ l.length; omega)
      have hlo := local_is (p := p) (o := q * 32) hL HL.out.2.1 hc hm hF hsz (by omega) (fun j u hu => by
        have hj : j < 32 := by
          rcases Nat.lt_or_ge j 32 with z | z
          · exact z
          · rw [List.getElem?_eq_none (by omega)] at hu; cases hu
        rw [List.getElem?_append_right (by omega), hA, show q * 32 + j - q * 32 = j by omega, List.getElem?_append_left (by omega)]
        exact hu)
      have HD := Lib.hid (And.intro hp (And.intro hdrop (And.intro htake (And.intro hA (And.intro hfl (And.intro hsz hsg))))))
      clear hp hpm hdrop htake hsz hsg hA hS hL hfl hzl
      go_wp2_with fail
      refine hlo.mono ?_
      rintro e w2 (⟨h1, rfl, hlow⟩ | ⟨a, h1, rfl, hL2⟩)
      · have hP : locsS l F ps = none := by
          have h2 : locsS l F (ps.take (q + 1)) = none := by rw [HD.out.2.2.1, locsS_snoc, HI.out.2.1, h1]; rfl
          have h3 := locsS_none (ps.drop (q + 1)) h2
          rwa [List.take_append_drop] at h3
        have HP := Lib.hid (And.intro hP hlow)
        clear hP hlow h1 hlo c6r
        go_wp2_with fail
        go_ret
        exact .inl ⟨HP.out.1, rfl, HP.out.2⟩
      · obtain ⟨hp, hdrop, htake, hA, hfl, hsz, hsg⟩ := HD.out
        have hz1 : (ps.take (q + 1)).zip (bs ++ [a]) = (ps.take q).zip bs ++ [(p, a)] := by
          rw [htake, List.zip_append (by rw [List.length_take, HI.out.1, HN.out]; omega)]; rfl
        rw [← hA, set_mid _ _ _ 5 _ (by omega), set_mid _ _ _ 31 _ (by rw [List.length_set]; omega), fndC_set (by omega)] at hL2
        have hR : List.flatMap (fun e => fndC l e (e.2 + pkL l e.1)) ((ps.take q).zip bs) ++ (fndC l (p, a) (a + pkL l p) ++ fndR l (ps.drop (q + 1))) = fndA l ((ps.take (q + 1)).zip (bs ++ [a])) (ps.drop (q + 1)) := by
          rw [hz1]; unfold fndA; rw [List.flatMap_append]; simp
        rw [hR] at hL2
        have h2 : locsS l F (ps.take (q + 1)) = some (bs ++ [a]) := by rw [htake, locsS_snoc, HI.out.2.1, h1]; rfl
        have HO := Lib.hid (And.intro h2 hL2)
        have HB := Lib.hid HI.out.1
        clear hp hdrop htake hA hfl hsz hsg hz1 hL2 hR h2 h1 hlo HD HI c6r
        go_wp2_with fail
        go_roundw
        case rel => exact ⟨q + 1, bs ++ [a], by omega, by go_num, Lib.hid ⟨by rw [List.length_append, HB.out]; rfl, HO.out.1, HO.out.2⟩⟩
        case measure => simp [intOf]; omega
    · obtain rfl : N = q := by omega
      go_wp2_with fail
      go_ret
      have hT : ps.take N = ps := List.take_of_length_le (by rw [HN.out]; exact Nat.le_refl _)
      have hD : ps.drop N = [] := List.drop_eq_nil_of_le (by rw [HN.out]; exact Nat.le_refl _)
      obtain ⟨h1, h2, h3⟩ := HI.out
      rw [hT] at h2 h3
      rw [hD] at h3
      exact .inr ⟨bs, h2, rfl, h3⟩
end
end Go.Proofs.YtdcpibglbanchaaDoor
