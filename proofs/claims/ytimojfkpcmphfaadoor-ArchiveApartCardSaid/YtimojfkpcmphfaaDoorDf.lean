/- The names that were read, as a map of texts: contract of keep. Condition: the variable internal/bytealg.MaxLen has a value. -/
import Derived.Test.YtimojfkpcmphfaaDoorDe
import Derived.Test.YtimojfkpcmphfaaDoorNc
import Derived.Maps.OwnSet
import Derived.StringKeys
set_option linter.unusedVariables false
set_option maxRecDepth 100000
namespace Go.Proofs.YtimojfkpcmphfaaDoor
open Go.RowKit Go.Maps Go.ChangeMaps

theorem strK9 : Keyed Tryd.prog 9 := string_keyed Tryd.underlying9
theorem mapN9 : Tryd.prog.underlying 43 = some (.map 9 99) := Tryd.underlying43
theorem zeroU9 (w : World) : (zeroValue 99).run Tryd.prog w = .ok (.agg #[]) w := by kernel_rfl
/-- block b is a map of at most n keys: the names ns -/
def NM (w : World) (b n : Nat) (ns : List (List UInt8)) : Prop := ∃ D : DataW Unit, w.ownsMap Tryd.prog 9 unitElem b n D ∧ ∀ l : List UInt8, Maps.has D (.string l) = decide (l ∈ ns)
theorem NM.keep {w w' : World} {b n : Nat} {ns : List (List UInt8)} (h : NM w b n ns) (hg : w'.heap[b]? = w.heap[b]?) : NM w' b n ns := by
  obtain ⟨D, ⟨es, clock, hb, hr⟩, hf⟩ := h
  exact ⟨D, ⟨es, clock, hg.trans hb, hr⟩, hf⟩
theorem NM.lt {w : World} {b n : Nat} {ns : List (List UInt8)} (h : NM w b n ns) : b < w.heap.size := by obtain ⟨D, h, _⟩ := h; exact h.lt
theorem key_str {s : ByteArray} (hs : s.size ≤ 65536) : keyOf Tryd.prog 9 (.string s) = some (.string s.data.toList) := WideMaps.keyOf_string_mk Tryd.underlying9 (by unfold maxLen; omega)
theorem NM.made (w : World) : NM (w.alloc (.map #[] 0)) w.heap.size 0 [] := ⟨_, World.ownsMap_made _ _ _ _, fun i => by simp; rfl⟩
theorem NM.look {w : World} {b n : Nat} {ns : List (List UInt8)} (h : NM w b n ns) {s : ByteArray} (hs : s.size ≤ 65536) {W : World} (hW : W.heap[b]? = w.heap[b]?) :
    (Instr.lookup 43 (.map (some b)) (.string s) true).run Tryd.prog W = .ok (.tuple #[.agg #[], .bool (decide (s.data.toList ∈ ns))]) W := by
  obtain ⟨D, h, hf⟩ := h.keep hW
  obtain ⟨v, ps, hr, hv⟩ := h.look_ok strK9 mapN9 (zeroU9 W) (zd := .agg []) (zp := []) unitElem_mk (key_str hs)
  obtain ⟨rfl, _⟩ := unitElem_inv hv
  rw [hf] at hr
  exact hr
theorem NM.put {w : World} {b n : Nat} {ns : List (List UInt8)} (h : NM w b n ns) (hn : n < maxLen) {s : ByteArray} (hs : s.size ≤ 65536) {W : World} (hW : W.heap[b]? = w.heap[b]?) :
    ∃ w', (Instr.mapUpdate 43 (.map (some b)) (.string s) (.agg #[])).run Tryd.prog W = .ok () w' ∧ NM w' b (n + 1) (ns ++ [s.data.toList]) ∧ W.grownBy w' (some b) := by
  obtain ⟨D, h, hf⟩ := h.keep hW
  obtain ⟨w', hr, ho, ht⟩ := h.store strK9 mapN9 hn (key_str hs) unitElem_mk
  refine ⟨w', hr, ⟨_, ho, fun l => ?_⟩, ht.grown⟩
  by_cases e : l = s.data.toList
  · subst e
    rw [has_put_same h.isMap (by trivial)]
    simp
  · rw [has_put_other (by intro e2; injection e2 with e2; exact e e2), hf]
    simp [e]
/-- the look at an archive, in memory, from the call's world on -/
structure LK (W w : World) (g mb k mn base : Nat) (b : Option Addr) (n c : Nat) (fr tt ct : Int) (V : Value) (m : Nat) (xs : List Value) (ns : List (List UInt8)) : Prop where
  low : Below W.heap.size W w
  o0 : 0 < W.heap.size
  o1 : W.heap.size ≤ mb
  o2 : mb < mn
  o3 : mn < g
  o4 : g < base
  o5 : base ≤ w.heap.size
  blk : w.heap[g]? = some (.cells #[.slice b n c, .map (some mb), .int .i64 fr, .int .i64 tt, .int .i64 ct, .map (some mn), V] 46 (0, 0))
  sig : Mp4 w mb k (sigF true true true)
  nam : NM w mn ns.length ns
  row : w.ownsRow base 73 32 V m xs
  mx : Mx w
theorem own_grown {w w' : World} {base mn : Nat} {t : TypeId} {v : Value} {n k : Nat} {xs : List Value} (h : w.ownsRow base t k v n xs) (hb : w.grownBy w' (some mn)) (hm : mn < base) : w'.ownsRow base t k v n xs := by
  refine ⟨h.1, ?_⟩
  rcases h.2 with h2 | ⟨g, cap, cur, h1, h2, h3, h4⟩
  · exact .inl h2
  · have hg : g < w.heap.size := by
      rcases Nat.lt_or_ge g w.heap.size with q | q
      · exact q
      · rw [Array.getElem?_eq_none q] at h3; cases h3
    exact .inr ⟨g, cap, cur, h1, h2, (hb.block g hg (by intro e; injection e with e; omega)).trans h3, h4⟩
theorem LK.below {W w w' : World} {g mb k mn base : Nat} {b : Option Addr} {n c : Nat} {fr tt ct : Int} {V : Value} {m : Nat} {xs : List Value} {ns : List (List UInt8)} (h : LK W w g mb k mn base b n c fr tt ct V m xs ns) (hb : Below w.heap.size w w') : LK W w' g mb k mn base b n c fr tt ct V m xs ns :=
  ⟨below_next h.low (Nat.le_refl _) hb, h.o0, h.o1, h.o2, h.o3, h.o4, Nat.le_trans h.o5 hb.size, (hb.block _ (Nat.lt_of_lt_of_le h.o4 h.o5)).trans h.blk, h.sig.blk (hb.block _ h.sig.lt), h.nam.keep (hb.block _ h.nam.lt), own_below h.row hb, h.mx.below hb⟩
section
variable {W w : World} {g mb k mn base : Nat} {b : Option Addr} {n c : Nat} {fr tt ct : Int} {V : Value} {m : Nat} {xs : List Value} {ns : List (List UInt8)}
theorem LK.named {w' : World} {s : List UInt8} (h : LK W w g mb k mn base b n c fr tt ct V m xs ns) (hn : NM w' mn (ns.length + 1) (ns ++ [s])) (hg : w.grownBy w' (some mn)) : LK W w' g mb k mn base b n c fr tt ct V m xs (ns ++ [s]) :=
  have o0 := h.o0; have o1 := h.o1; have o2 := h.o2; have o3 := h.o3; have o4 := h.o4; have o5 := h.o5; have s1 := hg.size; have s2 := h.sig.lt
  ⟨h.low.grown hg h.low.size (fun q e => by injection e with e; omega), h.o0, h.o1, h.o2, h.o3, h.o4, Nat.le_trans h.o5 hg.size, (hg.block g (by omega) (by intro e; injection e with e; omega)).trans h.blk, h.sig.blk (hg.block mb s2 (by intro e; injection e with e; omega)), by rw [List.length_append]; exact hn, own_grown h.row hg (by omega), Nat.lt_of_lt_of_le h.mx.1 hg.size, by
    obtain ⟨hm1, mm, hm2⟩ := h.mx
    refine ⟨mm, ?_⟩
    have : w'.heap[0]? = w.heap[0]? := hg.block 0 hm1 (by intro e; injection e with e; omega)
    rw [← hm2]
    simp [World.cell?, this]⟩
theorem LK.drew (h : LK W w g mb k mn base b n c fr tt ct V m xs ns) : LK W w.drew g mb k mn base b n c fr tt ct V m xs ns := h.below (low_drewN (Below.refl _ _) 1)
def keepW (w : World) (nm : ByteArray) (cs : List Value) : World := w.alloc (.cells (.string nm :: cs).toArray 73)
theorem LK.keepW (h : LK W w g mb k mn base b n c fr tt ct V m xs ns) (nm : ByteArray) (cs : List Value) : LK W (keepW w nm cs) g mb k mn base b n c fr tt ct V m xs ns := h.below ((Below.refl _ _).alloc (Nat.le_refl _) _)
set_option maxHeartbeats 4000000 in
theorem keep_bad (h : LK W w g mb k mn base b n c fr tt ct V m xs ns) (nm : ByteArray) (cs : List Value) (hl : cs.length = 31) (hn : nm.size ≤ 65536) (hbad : nameB nm = false) :
    Calls Tryd.prog 43 #[.pointer (some ⟨g, 0, none⟩), .agg (.string nm :: cs).toArray] w fun e w' => e = .returned (.int .i64 13) ∧ LK W w' g mb k mn base b n c fr tt ct V m xs ns := by
  have h1 := h.keepW nm cs
  have hnm := name_is nm (Go.Proofs.YtimojfkpcmphfaaDoor.keepW w nm cs) h1.mx
  rw [hbad] at hnm
  have HL := Lib.hid h1
  clear h h1
  unfold Go.Proofs.YtimojfkpcmphfaaDoor.keepW at hnm
  go_enter Tryd.func43, Tryd.ntmps43
  go_wp2_with fail
  refine hnm.mono ?_
  rintro e w1 ⟨rfl, hb1⟩
  have H1 := Lib.hid (HL.out.below hb1)
  clear hnm hb1
  go_wp2_with fail
  go_ret
  exact ⟨rfl, H1.out⟩
set_option maxHeartbeats 4000000 in
theorem keep_twice (h : LK W w g mb k mn base b n c fr tt ct V m xs ns) (nm : ByteArray) (cs : List Value) (hl : cs.length = 31) (hn : nm.size ≤ 65536) (hgood : nameB nm = true) (hin : nm.data.toList ∈ ns) :
    Calls Tryd.prog 43 #[.pointer (some ⟨g, 0, none⟩), .agg (.string nm :: cs).toArray] w fun e w' => e = .returned (.int .i64 14) ∧ LK W w' g mb k mn base b n c fr tt ct V m xs ns := by
  have h1 := h.keepW nm cs
  have hnm := name_is nm (Go.Proofs.YtimojfkpcmphfaaDoor.keepW w nm cs) h1.mx
  rw [hgood] at hnm
  have hnew : (Go.Proofs.YtimojfkpcmphfaaDoor.keepW w nm cs).heap[w.heap.size]? = some (.cells (.string nm :: cs).toArray 73 (0, 0)) := heap_alloc_new w _
  have HL := Lib.hid h1
  have HN := Lib.hid hnew
  clear h h1 hnew
  have hsz : w.heap.size < (Go.Proofs.YtimojfkpcmphfaaDoor.keepW w nm cs).heap.size := by unfold Go.Proofs.YtimojfkpcmphfaaDoor.keepW; simp
  unfold Go.Proofs.YtimojfkpcmphfaaDoor.keepW at hnm
  go_enter Tryd.func43, Tryd.ntmps43
  go_wp2_with fail
  refine hnm.mono ?_
  rintro e w1 ⟨rfl, hb1⟩
  have h1 := HL.out.below hb1
  have hnew1 := (hb1.block _ hsz).trans HN.out
  have c0 : w1.cell? ⟨w.heap.size, 0, none⟩ = some (.string nm) := by rw [blk_cell hnew1]; simp
  have c5 : w1.cell? ⟨g, 5, none⟩ = some (.map (some mn)) := by rw [blk_cell h1.blk]; rfl
  have h2 := h1.below ((Below.refl w1.heap.size w1).alloc (Nat.le_refl _) (.cells #[] 99))
  have hnew2 : (w1.alloc (.cells #[] 99)).heap[w.heap.size]? = some (.cells (.string nm :: cs).toArray 73 (0, 0)) := (((Below.refl w1.heap.size w1).alloc (Nat.le_refl _) (.cells #[] 99)).block _ (blk_lt hnew1)).trans hnew1
  have c0' : (w1.alloc (.cells #[] 99)).cell? ⟨w.heap.size, 0, none⟩ = some (.string nm) := by rw [blk_cell hnew2]; simp
  have c5' : (w1.alloc (.cells #[] 99)).cell? ⟨g, 5, none⟩ = some (.map (some mn)) := by rw [blk_cell h2.blk]; rfl
  have hlook := h2.nam.look hn (W := (w1.alloc (.cells #[] 99)).drew) rfl
  have hlook' := h1.nam.look hn (W := w1.drew) rfl
  rw [decide_eq_true hin] at hlook hlook'
  have H1 := Lib.hid h2
  clear hnm hb1 h1 h2 hnew1 hnew2 hsz
  go_wp2_with fail
  go_region_law (fail)
  go_wp2_with fail
  all_goals (go_ret; exact ⟨rfl, H1.out.drew⟩)
end
end Go.Proofs.YtimojfkpcmphfaaDoor
