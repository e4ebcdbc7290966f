/- Files in memory: contract of Put. No condition but what the words say. -/
import Derived.Test.YtpnnfekfoomgaaaFk
import Derived.Deep.RegionHeld3
set_option linter.unusedVariables false
set_option maxRecDepth 100000
namespace Go.Proofs.Ytpnnfekfoomgaaa
open Go.RowKit Go.Maps Go.ChangeMaps

theorem filesPutNil (s : ByteArray) (v : Value) (w : World) : Calls Try.prog 8 #[.pointer none, .string s, v] w fun e w' => e = .returned (.int .i64 1) ∧ w' = w := by
  go_enter Try.func8, Try.ntmps8
  go_wp2_with fail
  go_ret
  exact ⟨rfl, rfl⟩
theorem filesPutName (g : Nat) (s : ByteArray) (v : Value) (hs : nameB s = false) (w : World) : Calls Try.prog 8 #[.pointer (some ⟨g, 0, none⟩), .string s, v] w fun e w' => e = .returned (.int .i64 13) ∧ w' = w := by
  have hi := filesIsName s w
  rw [hs] at hi
  go_enter Try.func8, Try.ntmps8
  go_wp2_with fail
  refine hi.mono ?_
  rintro e w' ⟨rfl, rfl⟩
  go_wp2_with fail
  go_ret
  exact ⟨rfl, rfl⟩
theorem filesPutLong (g : Nat) (s : ByteArray) (a : Option Addr) (n c : Nat) (hs : nameB s = true) (hn : 65536 < n) (w : World) : Calls Try.prog 8 #[.pointer (some ⟨g, 0, none⟩), .string s, .slice a n c] w fun e w' => e = .returned (.int .i64 8) ∧ w' = w := by
  have hi := filesIsName s w
  rw [hs] at hi
  have hd : decide ((n : Int) > 65536) = true := by simp; omega
  go_enter Try.func8, Try.ntmps8
  go_wp2_with fail
  refine hi.mono ?_
  rintro e w' ⟨rfl, rfl⟩
  go_wp2_with fail
  go_ret
  exact ⟨rfl, rfl⟩
theorem cell_kept {w w' : World} {b o : Nat} (h : w'.heap[b]? = w.heap[b]?) : w'.cell? ⟨b, o, none⟩ = w.cell? ⟨b, o, none⟩ := by simp [World.cell?, h]
theorem FS.put {w W : World} {g b m reads : Nat} {rv fv : Option Nat} {kl : Lit} {v? : Option Value} {fs : Int → Bool} {v : Value} (h : FS w g rv fv m reads kl v? fs) (hblk : W.heap[g]? = some (.cells #[.map (some b), .int .i64 reads, .map fv] 47 (0, 0))) (hb : b ≠ g) (hbf : fv ≠ some b) (hr : RM W b (m + 1) kl (some v))
    (ho : ∀ q, q < w.heap.size → q ≠ g → q ≠ b → W.heap[q]? = w.heap[q]?) : FS W g (some b) fv (m + 1) reads kl (some v) fs := by
  refine ⟨hblk, ⟨hb, hr⟩, ?_⟩
  have h3 := h.fails
  cases fv with
  | none => exact h3
  | some bf =>
    obtain ⟨D, hd, hx⟩ := h3.2.2.keep (ho bf h3.2.2.lt h3.1 (by intro e; exact hbf (by rw [e])))
    exact ⟨h3.1, fun e => hbf e.symm, D, hd.mono (by omega), hx⟩
theorem Bs.off {w w' : World} {B B' g : Nat} {a : Option Addr} {l : List Int} (h : Bs w B a l) (hag : 0 < l.length → ∀ x, a = some x → x.block ≠ g) (hB : B ≤ B') (ho : ∀ q, q < B → q ≠ g → w'.heap[q]? = w.heap[q]?) : Bs w' B' a l := ⟨h.1, fun hn => by
  obtain ⟨b, off, e, hb, hc⟩ := h.2 hn
  exact ⟨b, off, e, by omega, fun i hi => (cell_kept (ho b hb (hag hn _ e))).trans (hc i hi)⟩⟩
set_option maxHeartbeats 4000000 in
theorem filesPut {w : World} {g : Nat} {rv fv : Option Nat} {m reads : Nat} {kl : Lit} {v? : Option Value} {fs : Int → Bool} (h : FS w g rv fv m reads kl v? fs) (s : ByteArray) (hs : nameB s = true) (hk : keyOf Try.prog 9 (.string s) = some kl) (hkl : WideAt.IsKeyLit kl) (hm : m < 16)
    (a : Option Addr) (n c : Nat) (l : List Int) (hl : l.length = n) (hn : n ≤ 65536) (hb : Bs w w.heap.size a l) (hag : 0 < l.length → ∀ x, a = some x → x.block ≠ g) :
    Calls Try.prog 8 #[.pointer (some ⟨g, 0, none⟩), .string s, .slice a n c] w fun e w' => e = .returned (.int .i64 0) ∧ ∃ rv' a' c', FS w' g rv' fv (m + 1) reads kl (some (.slice a' n c')) fs ∧ Foot (FF g rv) w w' ∧ Newer w rv rv' ∧ w'.ownsRow w.heap.size 5 1 (.slice a' n c') n (l.map (Value.int .u8)) := by
  subst hl
  have hi := filesIsName s w
  rw [hs] at hi
  have hd : decide ((l.length : Int) > 65536) = false := by simp; omega
  have c0 : w.cell? ⟨g, 0, none⟩ = some (.map rv) := blk_cell h.blk 0
  have f0 := blk_free h.blk 0
  have hg := blk_lt h.blk
  have hmax : m < maxLen := by unfold maxLen; omega
  cases rv with
  | some b =>
    have hr := h.rows
    have l1 := hr.2.look hk (W := w) rfl
    obtain ⟨sz, hsz, hlen⟩ := hr.2.len 3 (W := w) rfl
    have hsz16 : ((sz : Int) == 16) = false := by simp; omega
    have q1 := eqlSs b
    have hcl := clone_any a l.length c l rfl (by omega) w.drew hb
    have H := Lib.hid (And.intro h hr)
    clear h hr
    have hvs : ∃ vs, v?.isSome = vs := ⟨_, rfl⟩
    obtain ⟨vs, hvs⟩ := hvs
    rw [hvs] at l1
    clear hvs
    have HK : Hid (∀ W, Below w.drew.heap.size w.drew W → W.cell? ⟨g, 0, none⟩ = some (.map (some b)) ∧ W.heap[b]? = w.heap[b]?) := Lib.hid fun W hW => ⟨(hW.cell (p := ⟨g, 0, none⟩) hg).trans c0, hW.block b H.out.2.2.lt⟩
    cases vs
    all_goals
      go_enter Try.func8, Try.ntmps8
      go_wp2_with fail
      refine hi.mono ?_
      rintro e w' ⟨rfl, hw'⟩
      rw [hw']
      clear hw' w'
      go_wp2_with fail
      go_region_held3 (fun W => W.cell? ⟨g, 0, none⟩ = some (.map (some b))) (first | exact hc4 | exact (HK.out _ hbc).1 | go_keep) ((go_at_call 17; (with_reducible refine hcl.mono ?_); rintro e wc ⟨ac, cc, rfl, howc, hbc⟩; obtain ⟨w4, hup, hr4, hg4⟩ := H.out.2.2.put hmax hk hkl (.slice ac l.length cc) (W := wc) (HK.out _ hbc).2; have hc4 : w4.cell? ⟨g, 0, none⟩ = some (.map (some b)) := (cell_kept (hg4.block g (Nat.lt_of_lt_of_le hg hbc.size) (by intro e; injection e with e; exact H.out.2.1 e.symm))).trans (HK.out _ hbc).1))
      have hlb := H.out.2.2.lt
      have hoc : ∀ q, q < w.heap.size → wc.heap[q]? = w.heap[q]? := fun q hq => hbc.block q hq
      have hws : w.heap.size ≤ wc.heap.size := hbc.size
      have HF : Hid (FS w4 g (some b) fv (m + 1) reads kl (some (.slice ac l.length cc)) fs ∧ Foot (FF g (some b)) w w4 ∧ Newer w (some b) (some b) ∧ w4.ownsRow w.heap.size 5 1 (.slice ac l.length cc) l.length (l.map (Value.int .u8))) := Lib.hid ⟨H.out.1.put ((hg4.block g (by omega) (by intro e; injection e with e; exact H.out.2.1 e.symm)).trans ((hoc g hg).trans H.out.1.blk)) H.out.2.1 (by
          have h3 := H.out.1.fails
          intro e
          subst e
          exact h3.2.1 rfl) hr4 (fun q hq hne hnb => (hg4.block q (by omega) (by intro e; injection e with e; exact hnb e)).trans (hoc q hq)), ((Foot.of_below (F := FF g (some b)) (a := w) ⟨hbc.os, hbc.tape, hbc.output, hbc.size, hbc.block⟩).grown hg4 (fun q e => .inl (.inr e))), .inl rfl, howc.kept hg4 (.inr fun e => by have := (howc.lt b e).1; have : w.heap.size ≤ b := this; omega)⟩
      clear hup hr4 hg4 hc4 howc hbc hoc
      go_wp2_with fail
      go_ret
      exact ⟨rfl, _, _, _, HF.out⟩
  | none =>
    have hv0 : v? = none := h.rows
    subst hv0
    have hmm := @run_makeMap Try.prog
    obtain ⟨w1, hw1⟩ : ∃ w1, (w.setCell ⟨g, 0, none⟩ (.map (some w.heap.size))).alloc (.map #[] 0) = w1 := ⟨_, rfl⟩
    have hs0 : (w.setCell ⟨g, 0, none⟩ (.map (some w.heap.size))).heap.size = w.heap.size := by simp [World.setCell]
    have hks : ∀ i, i < w.heap.size → i ≠ g → w1.heap[i]? = w.heap[i]? := fun i hi hne => by rw [← hw1, Below.heap_alloc _ _ _ (by omega)]; exact Below.heap_setCell _ ⟨g, 0, none⟩ _ i hne
    have hset : w1.heap[g]? = some (.cells #[.map (some w.heap.size), .int .i64 reads, .map fv] 47 (0, 0)) := by rw [← hw1, Below.heap_alloc _ _ _ (by omega)]; exact blk_set h.blk 0 _
    have hft : Foot (FF g none) w w1 := by rw [← hw1]; exact ((Foot.refl _ _).set (.inl (.inl rfl))).alloc _
    have hsz : w1.heap.size = w.heap.size + 1 := by rw [← hw1]; simp [World.setCell]
    have hrm : RM w1 w.heap.size m kl none := by
      have := RM.made (w.setCell ⟨g, 0, none⟩ (.map (some w.heap.size))) kl
      rw [hs0, hw1] at this
      obtain ⟨D, hd, hx⟩ := this
      exact ⟨D, hd.mono (Nat.zero_le _), hx⟩
    have hb1 : Bs w1.drew w1.drew.heap.size a l := hb.off hag (by show w.heap.size ≤ w1.heap.size; omega) hks
    have hcl := clone_any a l.length c l rfl (by omega) w1.drew hb1
    have k0 : w1.cell? ⟨g, 0, none⟩ = some (.map (some w.heap.size)) := blk_cell hset 0
    have hfn : fv ≠ some w.heap.size := by
      intro e
      subst e
      have := h.fails.2.2.lt
      omega
    have l1 : (Instr.lookup 44 (.map none) (.string s) true).run Try.prog w = .ok (.tuple #[.slice none 0 0, .bool false]) w := Maps.look_nil true strK mapS (zeroS _) hk
    have l2 : (Builtin.len_ #[44] 3 #[.map none]).run Try.prog w = .ok (.int .i64 0) w := Maps.len_nil mapS 3
    have q1 := eqlSn
    have H := Lib.hid (And.intro h (And.intro hks (And.intro hset (And.intro hft (And.intro hrm hfn)))))
    have HW := Lib.hid hw1
    have HK : Hid (∀ W, Below w1.drew.heap.size w1.drew W → W.cell? ⟨g, 0, none⟩ = some (.map (some w.heap.size)) ∧ W.heap[w.heap.size]? = w1.heap[w.heap.size]?) := Lib.hid fun W hW => ⟨(hW.cell (p := ⟨g, 0, none⟩) (by show g < w1.heap.size; omega)).trans k0, hW.block _ (by show w.heap.size < w1.heap.size; omega)⟩
    clear h hks hset hft hrm hw1 hs0 hb1 hfn hb
    go_enter Try.func8, Try.ntmps8
    go_wp2_with fail
    refine hi.mono ?_
    rintro e w' ⟨rfl, hw'⟩
    rw [hw']
    clear hw' w'
    go_wp2_with fail
    rw [HW.out]
    clear c0 f0 l1 l2 q1 HW hmm
    go_region_held3 (fun W => W.cell? ⟨g, 0, none⟩ = some (.map (some w.heap.size))) (first | exact hc4 | exact (HK.out _ hbc).1 | go_keep) ((go_at_call 17; (with_reducible refine hcl.mono ?_); rintro e wc ⟨ac, cc, rfl, howc, hbc⟩; obtain ⟨w4, hup, hr4, hg4⟩ := H.out.2.2.2.2.1.put hmax hk hkl (.slice ac l.length cc) (W := wc) (HK.out _ hbc).2; have hc4 : w4.cell? ⟨g, 0, none⟩ = some (.map (some w.heap.size)) := (cell_kept (hg4.block g (Nat.lt_of_lt_of_le (by show g < w1.heap.size; omega) hbc.size) (by intro e; injection e with e; omega))).trans (HK.out _ hbc).1))
    have hoc : ∀ q, q < w1.heap.size → wc.heap[q]? = w1.heap[q]? := fun q hq => hbc.block q hq
    have hws : w1.heap.size ≤ wc.heap.size := hbc.size
    have HF : Hid (FS w4 g (some w.heap.size) fv (m + 1) reads kl (some (.slice ac l.length cc)) fs ∧ Foot (FF g none) w w4 ∧ Newer w none (some w.heap.size) ∧ w4.ownsRow w.heap.size 5 1 (.slice ac l.length cc) l.length (l.map (Value.int .u8))) := Lib.hid ⟨H.out.1.put ((hg4.block g (by omega) (by intro e; injection e with e; omega)).trans ((hoc g (by omega)).trans H.out.2.2.1)) (by omega) H.out.2.2.2.2.2 hr4 (fun q hq hne hnb => (hg4.block q (by omega) (by intro e; injection e with e; exact hnb e)).trans ((hoc q (by omega)).trans (H.out.2.1 q hq hne))), ((H.out.2.2.2.1.trans2 (Foot.of_below (F := fun _ => False) (b := wc) ⟨hbc.os, hbc.tape, hbc.output, hbc.size, hbc.block⟩) (fun i hi => hi.elim)).grown hg4 (fun q e => .inr (by injection e with e; omega))), .inr ⟨_, rfl, Nat.le_refl _⟩, own_base (howc.kept hg4 (.inr fun e => by have := (howc.lt _ e).1; have : w1.heap.size ≤ w.heap.size := this; omega)) (by show w.heap.size ≤ w1.heap.size; omega)⟩
    clear hup hr4 hg4 hc4 howc hbc hoc
    go_wp2_with fail
    go_ret
    exact ⟨rfl, _, _, _, HF.out⟩
end Go.Proofs.Ytpnnfekfoomgaaa
