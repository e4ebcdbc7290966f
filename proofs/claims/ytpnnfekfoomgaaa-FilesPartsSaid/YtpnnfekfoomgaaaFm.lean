/- Files in memory: contract of Read. No condition but what the words say. -/
import Derived.Test.YtpnnfekfoomgaaaFl
set_option linter.unusedVariables false
set_option maxRecDepth 100000
namespace Go.Proofs.Ytpnnfekfoomgaaa
open Go.RowKit Go.Maps Go.ChangeMaps

theorem cut_h (a : Option Addr) (n c : Nat) (l : List Int) (hn : l.length = n) (hc : n ≤ c) (hA : a = none → n = 0 ∧ c = 0) (hi : Nat) (h2 : hi ≤ n) :
    ∃ a' c', (∀ W, (Instr.sliceAt 22 (.slice a n c) none (some (.int .i64 hi)) none).run Try.prog W = .ok (.slice a' hi c') W) ∧ (∀ W, (Instr.slice 22 (.slice a n c) none (some (.int .i64 hi)) none).run Try.prog W = .ok (.slice a' hi c') W) ∧
      (∀ W B, Bs W B a l → Bs W B a' (l.take hi)) ∧ hi ≤ c' ∧ c' ≤ c ∧ (a' = none → hi = 0 ∧ c' = 0) := by
  subst hn
  have hr : ∀ W, (Instr.slice 22 (.slice a l.length c) none (some (.int .i64 hi)) none).run Try.prog W = .ok (.slice (if c = 0 then a else a.map (·.add (0 * 1))) hi (c - 0)) W := fun W => by
    rw [run_slice_h W 22 a l.length c elem_u8 .i64 hi (by omega) (by omega), sized_u8]
    simp [Result.andThen, sliced]
  refine ⟨_, c - 0, fun W => ?_, hr, fun W B hb => ?_, by omega, by omega, fun h => ?_⟩
  · rw [run_sliceAt_slice _ _ _ _ _ _ elem_u8]; exact hr W
  · have := bs_piece 0 hi (Nat.zero_le _) h2 hc W B hb
    unfold cutOf at this
    simpa using this
  · have : a = none := by
      cases a with
      | none => rfl
      | some x => split at h <;> simp at h
    have := hA this
    omega
/-- a row of bytes of the call's own -/
def Fil (w : World) (base : Nat) (v : Value) (l : List Int) : Prop := ∃ a c, v = .slice a l.length c ∧ w.ownsRow base 5 1 (.slice a l.length c) l.length (l.map (Value.int .u8)) ∧ Bytes l
theorem own_foot {F : Nat → Prop} {w w' : World} {base : Nat} {t : TypeId} {v : Value} {n k : Nat} {xs : List Value} (h : w.ownsRow base t k v n xs) (hf : Foot F w w') (hn : ∀ q, v.ownBlock = some q → ¬ F q) : w'.ownsRow base t k v n xs := by
  refine ⟨h.1, ?_⟩
  rcases h.2 with h2 | ⟨g, cap, cur, h1, h2, h3, h4⟩
  · exact .inl h2
  · subst h1
    exact .inr ⟨g, cap, cur, rfl, h2, (hf.block g (h.lt g rfl).2 (hn g rfl)).trans h3, h4⟩
theorem Fil.foot {F : Nat → Prop} {w w' : World} {base : Nat} {v : Value} {l : List Int} (h : Fil w base v l) (hf : Foot F w w') (hn : ∀ q, v.ownBlock = some q → ¬ F q) : Fil w' base v l := by
  obtain ⟨a, c, rfl, ho, hb⟩ := h
  exact ⟨a, c, rfl, own_foot ho hf hn, hb⟩
theorem Fil.below {w w' : World} {base : Nat} {v : Value} {l : List Int} (h : Fil w base v l) (hf : Below w.heap.size w w') : Fil w' base v l := by
  obtain ⟨a, c, rfl, ho, hb⟩ := h
  exact ⟨a, c, rfl, own_below ho hf, hb⟩
theorem Fil.lt {w : World} {base : Nat} {v : Value} {l : List Int} (h : Fil w base v l) : ∀ q, v.ownBlock = some q → base ≤ q ∧ q < w.heap.size := by
  obtain ⟨a, c, rfl, ho, hb⟩ := h
  exact ho.lt
theorem filesReadNil (s : ByteArray) (at_ n : Int) (w : World) : Calls Try.prog 10 #[.pointer none, .string s, .int .i64 at_, .int .i64 n] w fun e w' => e = .returned (.tuple #[.slice none 0 0, .int .i64 21]) ∧ w' = w := by
  go_enter Try.func10, Try.ntmps10
  go_wp2_with fail
  go_ret2
  exact ⟨rfl, rfl⟩
theorem filesReadShort {w : World} {g : Nat} {rv fv : Option Nat} {m reads base : Nat} {kl : Lit} {v : Value} {fs : Int → Bool} (h : FS w g rv fv m reads kl (some v) fs) (s : ByteArray) (hk : keyOf Try.prog 9 (.string s) = some kl) (l : List Int) (hv : Fil w base v l) (hl : l.length ≤ 65536) (at_ n : Nat) (hat : at_ ≤ l.length) (hn : l.length - at_ < n) (hn2 : n ≤ 1000000) :
    Calls Try.prog 10 #[.pointer (some ⟨g, 0, none⟩), .string s, .int .i64 at_, .int .i64 n] w fun e w' => e = .returned (.tuple #[.slice none 0 0, .int .i64 2]) ∧ w' = w := by
  have c0 : w.cell? ⟨g, 0, none⟩ = some (.map rv) := blk_cell h.blk 0
  cases rv with
  | none => have := h.rows; cases this
  | some b =>
    have l1 := h.rows.2.look hk (W := w) rfl
    obtain ⟨a, c, rfl, ho, hb⟩ := hv
    obtain ⟨a3, c3, r3, r3', b3, hc3, hc3', n3⟩ := cut_l a l.length c l rfl (own_cap ho).1 (own_none ho) at_ hat
    have hd : decide ((n : Int) > ((l.length - at_ : Nat) : Int)) = true := by simp; omega
    have hd' : decide (l.length - at_ < n) = true := by simp; omega
    have hd2 : decide ((l.length : Int) < (at_ : Int)) = false := by simp; omega
    clear h ho hb b3 n3 hc3 hc3'
    simp only [Option.getD_some, Option.isSome_some] at l1
    go_enter Try.func10, Try.ntmps10
    go_wp2_with fail
    go_ret2
    exact ⟨rfl, rfl⟩
/-- what a read answers -/
def ReadE (w : World) (r : Bool) (l : List Int) (e : Ending) (w' : World) : Prop :=
  if r then e = .returned (.tuple #[.slice none 0 0, .int .i64 20]) else ∃ v, e = .returned (.tuple #[v, .int .i64 0]) ∧ Fil w' w.heap.size v l
set_option maxHeartbeats 4000000 in
theorem filesRead {w : World} {g : Nat} {rv fv : Option Nat} {m reads base : Nat} {kl : Lit} {v : Value} {fs : Int → Bool} (h : FS w g rv fv m reads kl (some v) fs) (hr : reads ≤ 1000000) (s : ByteArray) (hk : keyOf Try.prog 9 (.string s) = some kl) (l : List Int) (hv : Fil w base v l) (hvn : ∀ q, v.ownBlock = some q → ¬ FF g fv q) (hl : l.length ≤ 65536) (at_ n : Nat) (hn : at_ + n ≤ l.length) :
    Calls Try.prog 10 #[.pointer (some ⟨g, 0, none⟩), .string s, .int .i64 at_, .int .i64 n] w fun e w' => ReadE w (fs (reads + 1)) ((l.drop at_).take n) e w' ∧ FS w' g rv fv m (reads + 1) kl (some v) (fun j => !decide (j = reads + 1) && fs j) ∧ Foot (FF g fv) w w' := by
  have c0 : w.cell? ⟨g, 0, none⟩ = some (.map rv) := blk_cell h.blk 0
  cases rv with
  | none => have := h.rows; cases this
  | some b =>
    have l1 := h.rows.2.look hk (W := w) rfl
    have hcount := filesCount h hr
    have hv0 := hv
    obtain ⟨a, c, rfl, ho, hb⟩ := hv
    obtain ⟨a3, c3, r3, r3', b3, hc3, hc3', n3⟩ := cut_l a l.length c l rfl (own_cap ho).1 (own_none ho) at_ (by omega)
    have hcl : (cutOf l at_ l.length).length = l.length - at_ := by rw [cutOf_len (Nat.le_refl _)]
    obtain ⟨a4, c4, r4, r4', b4, hc4, hc4', n4⟩ := cut_h a3 (l.length - at_) c3 (cutOf l at_ l.length) hcl hc3 n3 n (by omega)
    have hct : (cutOf l at_ l.length).take n = (l.drop at_).take n := by unfold cutOf; rw [List.take_take]; congr 1; omega
    have hlen : ((l.drop at_).take n).length = n := by rw [List.length_take, List.length_drop]; omega
    obtain ⟨L, hLL⟩ : ∃ L, (l.drop at_).take n = L := ⟨_, rfl⟩
    rw [hLL] at hct hlen ⊢
    clear hLL
    have HLEN := Lib.hid hlen
    clear hlen
    have hd : decide ((n : Int) > ((l.length - at_ : Nat) : Int)) = false := by simp; omega
    have hd' : decide (l.length - at_ < n) = false := by simp; omega
    have hd2 : decide ((l.length : Int) < (at_ : Int)) = false := by simp; omega
    obtain ⟨r, hrr⟩ : ∃ r, fs (reads + 1) = r := ⟨_, rfl⟩
    rw [hrr] at hcount ⊢
    have H := Lib.hid (And.intro hv0 (And.intro hvn (And.intro b3 (And.intro b4 (And.intro hct hb)))))
    clear h ho hb b3 n3 hv0 hvn b4 n4 hct hcl hrr
    simp only [Option.getD_some, Option.isSome_some] at l1
    cases r with
    | true =>
      go_enter Try.func10, Try.ntmps10
      go_wp2_with fail
      refine hcount.mono ?_
      rintro e w1 ⟨rfl, hS, hF⟩
      have HR := Lib.hid (And.intro hS hF)
      clear hcount hS hF
      go_wp2_with fail
      go_ret2
      exact ⟨rfl, HR.out⟩
    | false =>
      go_enter Try.func10, Try.ntmps10
      go_wp2_with fail
      refine hcount.mono ?_
      rintro e w1 ⟨rfl, hS, hF⟩
      have hf1 := H.out.1.foot hF H.out.2.1
      obtain ⟨a', c', e', ho', hb'⟩ := hf1
      injection e' with e1 e2 e3
      subst e1 e3
      have hb1 := Bs.of_own ho' hb'
      have hb4 := H.out.2.2.2.1 _ _ (H.out.2.2.1 _ _ hb1)
      rw [H.out.2.2.2.2.1] at hb4
      have hcl := clone_any a4 n c4 L HLEN.out (by omega) w1 hb4
      have HR := Lib.hid (And.intro hS (And.intro hF (And.intro hb4.1 HLEN.out)))
      clear hcount hS hF ho' hb' hb1 hb4
      go_wp2_with fail
      refine hcl.mono ?_
      rintro e w2 ⟨ac, cc, rfl, howc, hbc⟩
      have HF : Hid ((Fil w2 w.heap.size (.slice ac L.length cc) L) ∧ FS w2 g (some b) fv m (reads + 1) kl (some (.slice a l.length c)) (fun j => !decide (j = reads + 1) && fs j) ∧ Foot (FF g fv) w w2) := Lib.hid ⟨⟨ac, cc, rfl, own_base howc HR.out.2.1.size, HR.out.2.2.1⟩, HR.out.1.keep hbc, HR.out.2.1.trans2 (Foot.of_below (F := fun _ => False) hbc) (fun i hi => hi.elim)⟩
      clear hcl howc hbc
      go_wp2_with fail
      go_ret2
      exact ⟨⟨_, rfl, HF.out.1⟩, HF.out.2⟩
end Go.Proofs.Ytpnnfekfoomgaaa
