/- What the look at a local header needs: two rows of bytes as arrays compared; the entries' cells written. No condition. -/
import Derived.Test.YtimojfkpcmphfaaDoorDk
import Derived.Stop.BytesEq
import Derived.BigQuiet
set_option linter.unusedVariables false
set_option maxRecDepth 100000
namespace Go.Proofs.YtimojfkpcmphfaaDoor
open Go.RowKit Go.Maps Go.ChangeMaps

theorem cells_u8 {L : List Int} (h : Bytes L) : L.map (Value.int .u8) = (L.map fun n => UInt8.ofNat n.toNat).map Extern.Stop.cell := by
  rw [List.map_map]
  refine List.map_congr_left fun n hn => ?_
  have hb := h n hn
  show Value.int .u8 n = Value.int .u8 ((UInt8.ofNat n.toNat).toNat : Nat)
  have e : (UInt8.ofNat n.toNat).toNat = n.toNat := by simp; omega
  rw [e, Int.toNat_of_nonneg hb.1]
theorem u8_beq : ∀ {L L' : List Int}, Bytes L → Bytes L' → ((L.map fun n => UInt8.ofNat n.toNat) == (L'.map fun n => UInt8.ofNat n.toNat)) = decide (L = L')
  | [], [], _, _ => by simp
  | [], _ :: _, _, _ => by simp
  | _ :: _, [], _, _ => by simp
  | x :: L, y :: L', h, h' => by
    have ih := u8_beq (L := L) (L' := L') (fun n hn => h n (by simp [hn])) (fun n hn => h' n (by simp [hn]))
    have hx := h x (by simp)
    have hy := h' y (by simp)
    rw [List.map_cons, List.map_cons, List.cons_beq_cons, ih]
    have e : (UInt8.ofNat x.toNat == UInt8.ofNat y.toNat) = decide (x = y) := by
      rw [Bool.eq_iff_iff]
      simp only [beq_iff_eq, decide_eq_true_eq, ← UInt8.toNat_inj]
      simp
      omega
    rw [e]
    by_cases e1 : x = y <;> by_cases e2 : L = L' <;> simp [e1, e2]
theorem strOf_inj {L L' : List Int} (h : Bytes L) (h' : Bytes L') : strOfNums L = strOfNums L' ↔ L = L' := by
  have := u8_beq h h'
  unfold strOfNums
  constructor
  · intro e
    have e2 : (L.map fun n => UInt8.ofNat n.toNat) = (L'.map fun n => UInt8.ofNat n.toNat) := by
      have := congrArg (fun s => s.data.toList) e
      simpa using this
    rw [e2] at this
    simpa using this
  · rintro rfl; rfl
theorem sz_u8 : ∀ w, (sizeOf 5).run Tryd.prog w = .ok 1 w := fun w => by kernel_rfl
theorem y_neT {a : Act} {w : World} {o : Oper} {x y : Operand} {L L' : List Int} {ty : TypeId} (ho : o.op = .binOp .neq 71 x y ty) (hL : Bytes L) (hL' : Bytes L') (hn : L.length = 24) (hn' : L'.length = 24) (hx : a.eval x = .agg (L.map (Value.int .u8)).toArray) (hy : a.eval y = .agg (L'.map (Value.int .u8)).toArray) :
    (execOp a.eval o).run Tryd.prog w = .ok (.value (.bool (!decide (L = L')))) w := by
  have hg := run_eqGuard_agg (P := Tryd.prog) (w := w) .neq 71 x y (L.map (Value.int .u8)).toArray (L'.map (Value.int .u8)).toArray (by kernel_rfl)
  have he := run_equalIn_bytes (P := Tryd.prog) w 9998 71 5 24 Tryd.underlying71 Tryd.underlying5 sz_u8 (L.map fun n => UInt8.ofNat n.toNat) (L'.map fun n => UInt8.ofNat n.toNat) (by simpa using hn) (by simpa using hn')
  rw [← cells_u8 hL, ← cells_u8 hL', u8_beq hL hL'] at he
  have hb := run_neq_struct (P := Tryd.prog) (w := w) 71 (L.map (Value.int .u8)).toArray (L'.map (Value.int .u8)).toArray
  rw [he] at hb
  unfold execOp
  simp only [ho, hx, hy, Sem.run_bind, hg, Result.andThen_ok, hb]
  rfl
section
variable {W w : World} {g mb k mn base : Nat} {b : Option Addr} {n c : Nat} {fr tt ct : Int} {m : Nat} {xs : List Value} {ns : List (List UInt8)} {G cp : Nat}
theorem LK.row_blk (h : LK W w g mb k mn base b n c fr tt ct (.slice (some ⟨G, 0, none⟩) m cp) m xs ns) : base ≤ G ∧ G < w.heap.size ∧ ∃ cur, w.heap[G]? = some (.cells cur 73 (0, 0)) := by
  rcases h.row.2 with ⟨e, _⟩ | ⟨g', cap, cur, e, h1, h2, _⟩
  · cases e
  · injection e with e1 e2 e3
    injection e1 with e1
    injection e1 with e1
    subst e1
    exact ⟨h1, blk_lt h2, cur, h2⟩
theorem LK.free (h : LK W w g mb k mn base b n c fr tt ct (.slice (some ⟨G, 0, none⟩) m cp) m xs ns) (i : Nat) : w.frozen? ⟨G, i, none⟩ = false := by
  obtain ⟨_, _, cur, hc⟩ := h.row_blk
  exact blk_free hc i
theorem LK.set (h : LK W w g mb k mn base b n c fr tt ct (.slice (some ⟨G, 0, none⟩) m cp) m xs ns) (i : Nat) (u : Value) : LK W (w.setCell ⟨G, i, none⟩ u) g mb k mn base b n c fr tt ct (.slice (some ⟨G, 0, none⟩) m cp) m (xs.set i u) ns := by
  obtain ⟨hb, hlt, _⟩ := h.row_blk
  have o0 := h.o0; have o1 := h.o1; have o2 := h.o2; have o3 := h.o3; have o4 := h.o4; have o5 := h.o5
  have hset : ∀ j, j ≠ G → (w.setCell ⟨G, i, none⟩ u).heap[j]? = w.heap[j]? := fun j hj => Below.heap_setCell _ ⟨G, i, none⟩ _ j hj
  have hsz : (w.setCell ⟨G, i, none⟩ u).heap.size = w.heap.size := by simp [World.setCell]
  refine ⟨h.low.setCell (p := ⟨G, i, none⟩) (by show W.heap.size ≤ G; omega) u, o0, o1, o2, o3, o4, by rw [hsz]; exact o5, (hset g (by omega)).trans h.blk, h.sig.blk (hset mb (by omega)), h.nam.keep (hset mn (by omega)), (h.row.stored i u).1, by rw [hsz]; exact h.mx.1, ?_⟩
  obtain ⟨hm1, mm, hm2⟩ := h.mx
  refine ⟨mm, ?_⟩
  have : (w.setCell ⟨G, i, none⟩ u).heap[0]? = w.heap[0]? := hset _ (by omega)
  rw [← hm2]
  simp [World.cell?, this]
end
end Go.Proofs.YtimojfkpcmphfaaDoor
