/- Descriptors of methods: what they are, as plain mathematics; contracts of strings.CutPrefix and HasPrefix of one sign, an append of one value. No condition but what the words say. -/
import Derived.Test.YtbeekjfjfcaobaaDoorMf
import Derived.Maps.AppendAt
set_option linter.unusedVariables false
set_option maxRecDepth 100000
namespace Go.Proofs.YtbeekjfjfcaobaaDoor
open Go.RowKit Go.Lib Go.Maps

/-- the parameters of a method, and what stands behind their end -/
def parS : Nat → List UInt8 → Option (List (List UInt8) × List UInt8)
  | 0, _ => none
  | n + 1, l => match l with
    | [] => none
    | c :: r => if c = 41 then some ([], r) else if descN (c :: r) = 0 then none else (parS n ((c :: r).drop (descN (c :: r)))).map fun x => ((c :: r).take (descN (c :: r)) :: x.1, x.2)
def parT (l : List UInt8) : Option (List (List UInt8) × List UInt8) := parS (l.length + 1) l
/-- how many slots descriptors have together -/
def slS (ps : List (List UInt8)) : Nat := (ps.map slotsN).sum
def badR (x : List (List UInt8) × List UInt8) : Prop := 63 < slS x.1 ∨ (x.2 ≠ [86] ∧ descB x.2 = false)
instance (x : List (List UInt8) × List UInt8) : Decidable (badR x) := by unfold badR; infer_instance
/-- a method's descriptor: its parameters and its result -/
def metS (l : List UInt8) : Option (List (List UInt8) × List UInt8) := match l with
  | [] => none
  | c :: r => if c = 40 then (parT r).bind (fun x => if badR x then none else some x) else none
theorem parS_fuel : ∀ (k n : Nat) (l : List UInt8), l.length ≤ k → l.length < n → parS n l = parS (l.length + 1) l
  | _, 0, l, _, h => absurd h (Nat.not_lt_zero _)
  | k, n + 1, [], _, _ => rfl
  | 0, n + 1, c :: r, h, _ => absurd h (by simp)
  | k + 1, n + 1, c :: r, hk, hn => by
    have e : ∀ m, parS (m + 1) (c :: r) = if c = 41 then some ([], r) else if descN (c :: r) = 0 then none else (parS m ((c :: r).drop (descN (c :: r)))).map fun x => ((c :: r).take (descN (c :: r)) :: x.1, x.2) := fun m => rfl
    rw [e n, e]
    by_cases h0 : descN (c :: r) = 0
    · simp only [h0, if_true]
    · have hlen : ((c :: r).drop (descN (c :: r))).length ≤ r.length := by rw [List.length_drop, List.length_cons]; omega
      simp only [List.length_cons] at hk hn ⊢
      rw [parS_fuel k n _ (by omega) (by omega), parS_fuel k (r.length + 1) _ (by omega) (by omega)]
theorem parT_nil : parT [] = none := rfl
theorem parT_end (r : List UInt8) : parT (41 :: r) = some ([], r) := rfl
theorem parT_bad {c : UInt8} {r : List UInt8} (hc : ¬c = 41) (h : descN (c :: r) = 0) : parT (c :: r) = none := by
  unfold parT
  rw [parS, if_neg hc, if_pos h]
theorem parT_step {c : UInt8} {r : List UInt8} (hc : ¬c = 41) (h : ¬descN (c :: r) = 0) : parT (c :: r) = (parT ((c :: r).drop (descN (c :: r)))).map fun x => ((c :: r).take (descN (c :: r)) :: x.1, x.2) := by
  unfold parT
  rw [parS, if_neg hc, if_neg h]
  have hlen : ((c :: r).drop (descN (c :: r))).length ≤ r.length := by rw [List.length_drop, List.length_cons]; omega
  rw [parS_fuel r.length (c :: r).length _ hlen (by simp only [List.length_cons]; omega)]
theorem slS_app (a b : List (List UInt8)) : slS (a ++ b) = slS a + slS b := by unfold slS; simp
theorem slS_one (a : List UInt8) : slS [a] = slotsN a := by unfold slS; simp
theorem slots_le (l : List UInt8) : slotsN l ≤ 2 := by unfold slotsN; split; omega; split <;> omega
theorem slots_nil : slotsN [] = 0 := rfl
/-- what has been read of the parameters, L, and what is left, R -/
def Got (l : List UInt8) (L : List (List UInt8)) (R : List UInt8) : Prop := parT l = (parT R).map fun x => (L ++ x.1, x.2)
theorem Got.start (l : List UInt8) : Got l [] l := by
  unfold Got
  cases parT l <;> rfl
theorem Got.fails {l : List UInt8} {L : List (List UInt8)} {R : List UInt8} (h : Got l L R) (hn : parT R = none) : parT l = none := by
  unfold Got at h; rw [h, hn]; rfl
theorem Got.step {l : List UInt8} {L : List (List UInt8)} {c : UInt8} {r : List UInt8} (h : Got l L (c :: r)) (hc : ¬c = 41) (hd : ¬descN (c :: r) = 0) : Got l (L ++ [(c :: r).take (descN (c :: r))]) ((c :: r).drop (descN (c :: r))) := by
  unfold Got at h ⊢
  rw [h, parT_step hc hd]
  cases parT ((c :: r).drop (descN (c :: r))) with
  | none => rfl
  | some x => simp
theorem Got.stop {l : List UInt8} {L : List (List UInt8)} {r : List UInt8} (h : Got l L (41 :: r)) : parT l = some (L, r) := by
  unfold Got at h
  rw [h, parT_end]; simp
theorem Got.many {l : List UInt8} {L : List (List UInt8)} {R : List UInt8} (h : Got l L R) (hs : 63 < slS L) : (parT l).bind (fun x => if badR x then none else some x) = none := by
  unfold Got at h
  rw [h]
  cases parT R with
  | none => rfl
  | some x =>
    show (if badR (L ++ x.1, x.2) then none else some (L ++ x.1, x.2)) = none
    rw [if_pos (.inl (by rw [slS_app]; omega))]
theorem metS_bad {l : List UInt8} (h : ∀ r, l ≠ 40 :: r) : metS l = none := by
  unfold metS
  cases l with
  | nil => rfl
  | cons c r =>
    by_cases hc : c = 40
    · exact absurd (by rw [hc]) (h r)
    · simp only [if_neg hc]
theorem metS_is (r : List UInt8) : metS (40 :: r) = (parT r).bind (fun x => if badR x then none else some x) := rfl
theorem metS_none {r : List UInt8} (h : parT r = none) : metS (40 :: r) = none := by rw [metS_is, h]; rfl
theorem metS_some {r : List UInt8} {x : List (List UInt8) × List UInt8} (h : parT r = some x) (hb : ¬badR x) : metS (40 :: r) = some x := by
  rw [metS_is, h]; show (if badR x then none else some x) = some x; rw [if_neg hb]
theorem metS_not {r : List UInt8} {x : List (List UInt8) × List UInt8} (h : parT r = some x) (hb : badR x) : metS (40 :: r) = none := by
  rw [metS_is, h]; show (if badR x then none else some x) = none; rw [if_pos hb]
theorem desc_one (c : UInt8) : descN [c] ≤ 1 := descN_le [c]
theorem metS_short {l : List UInt8} (h : l.length < 3) : metS l = none := by
  match l, h with
  | [], _ => rfl
  | [c], _ =>
    by_cases hc : c = 40
    · subst hc; exact metS_none parT_nil
    · exact metS_bad (fun r e => by injection e with e; exact hc e)
  | [c, d], _ =>
    by_cases hc : c = 40
    · subst hc
      by_cases hd : d = 41
      · subst hd
        exact metS_not (parT_end []) (.inr ⟨by simp, descB_nil rfl⟩)
      · by_cases h0 : descN [d] = 0
        · exact metS_none (parT_bad hd h0)
        · have h1 : descN [d] = 1 := by have := desc_one d; omega
          refine metS_none ?_
          rw [parT_step hd h0, h1]; rfl
    · exact metS_bad (fun r e => by injection e with e; exact hc e)
/-- an append of one value that lies in a new block -/
theorem one_app {w : World} {ops : Array Oper} {rest : List Oper} {o : Oper} {a : Act} {Q : Exit → Act → World → Prop} {T ST : TypeId} {i : TypeInfo} {z : Value} {B : Nat} (hgd : o.guard = none) (s x : Operand)
    (ho : o.op = .call { callee := .builtin .append, args := #[s, x], argTypes := #[ST, ST] }) (hST : Tryd.prog.underlying ST = some (.slice T)) (hi : Tryd.prog.info? T = some i) (hz : i.zero = some z) (h1s : i.size = 1) (hby : i.bytes = B) (hzs : z.cells.size = 1) (hB : B ≤ 24) (base : Nat) (v : Value) (n : Nat) (xs : List Value) (hs : a.eval s = v) (hown : w.ownsRow base T 1 v n xs)
    (q : Nat) (u : Value) (hx : a.eval x = .slice (some ⟨q, 0, none⟩) 1 1) (hh : w.heap[q]? = some (.cells #[u] T (0, 0))) (h1 : u.oneCell' = true) (hn : n ≤ 1000000) (hbase : base ≤ w.heap.size)
    (h : ∀ v' w', w'.ownsRow base T 1 v' (n + 1) (xs ++ [u]) → w.grownBy w' v.ownBlock → (v'.ownBlock = v.ownBlock ∨ v'.ownBlock = some w.heap.size) → wpList Tryd.prog ops Q rest (a.put o.dst v') w') : wpList Tryd.prog ops Q (o :: rest) a w := by
  obtain ⟨v', w', hr, h2, h3, _, h4⟩ := run_append_own_at (P := Tryd.prog) (w := w) base ST o.type T i z 1 B hST hi hz h1s hby hzs (by decide) v n xs hown ⟨q, 0, none⟩ 1 1 [u] rfl (fun j u' hu => by
    rw [show Addr.add ⟨q, 0, none⟩ j = ⟨q, j, none⟩ by simp [Addr.add]; exact fun h => h.symm, blk_cell hh]; simpa using hu) (by simpa using h1) (by unfold maxLen; omega) (by
    have : (n + 1) * B ≤ (n + 1) * 24 := Nat.mul_le_mul_left _ hB
    omega) hbase
  refine wpList_plain hgd fun _ hK => ?_
  have hx2 : (execOp a.eval o).run Tryd.prog w = .ok (.value v') w' := ?_
  · unfold Oper.wp; rw [hx2]; exact hK _ _ (h v' w' h2 h3 h4)
  unfold execOp
  simp only [ho, resolve, invoke, builtin, Sem.run_bind, Sem.run_pure, Result.andThen_ok, List.map_toArray, List.map_cons, List.map_nil, hs, hx, hr]
theorem txt_info : (Tryd.prog.info? 9).bind (fun i => i.zero.map fun z => (i.size, i.bytes, z.cells.size)) = some (1, 16, 1) := by kernel_rfl
theorem txt_parts : ∃ i z, Tryd.prog.info? 9 = some i ∧ i.zero = some z ∧ i.size = 1 ∧ i.bytes = 16 ∧ z.cells.size = 1 := by
  have h := txt_info
  cases hi : Tryd.prog.info? 9 with
  | none => rw [hi] at h; cases h
  | some i =>
    rw [hi] at h
    cases hz : i.zero with
    | none => simp [hz] at h
    | some z =>
      simp [hz] at h
      exact ⟨i, z, rfl, hz, h.1, h.2.1, h.2.2⟩
theorem txt_app {w : World} {ops : Array Oper} {rest : List Oper} {o : Oper} {a : Act} {Q : Exit → Act → World → Prop} (hgd : o.guard = none) (s x : Operand)
    (ho : o.op = .call { callee := .builtin .append, args := #[s, x], argTypes := #[26, 26] }) (base : Nat) (v : Value) (n : Nat) (xs : List Value) (hs : a.eval s = v) (hown : w.ownsRow base 9 1 v n xs)
    (q : Nat) (u : ByteArray) (hx : a.eval x = .slice (some ⟨q, 0, none⟩) 1 1) (hh : w.heap[q]? = some (.cells #[.string u] 9 (0, 0))) (hn : n ≤ 1000000) (hbase : base ≤ w.heap.size)
    (h : ∀ v' w', w'.ownsRow base 9 1 v' (n + 1) (xs ++ [.string u]) → w.grownBy w' v.ownBlock → (v'.ownBlock = v.ownBlock ∨ v'.ownBlock = some w.heap.size) → wpList Tryd.prog ops Q rest (a.put o.dst v') w') : wpList Tryd.prog ops Q (o :: rest) a w := by
  obtain ⟨i, z, hi, hz, h32, h96, hzs⟩ := txt_parts
  exact one_app hgd s x ho Tryd.underlying26 hi hz h32 h96 hzs (by decide) base v n xs hs hown q _ hx hh rfl hn hbase h
theorem pre_one (c : UInt8) (l : List UInt8) : Lib.hasPrefix (c :: l) [40] = (c == 40) ∧ Lib.hasPrefix (c :: l) [41] = (c == 41) := by
  unfold Lib.hasPrefix
  constructor
  · show ((40 == c) && List.isPrefixOf [] l) = _
    rw [Bool.beq_comm]; simp
  · show ((41 == c) && List.isPrefixOf [] l) = _
    rw [Bool.beq_comm]; simp
theorem pre_nil (c : UInt8) : Lib.hasPrefix [] [c] = false := rfl
set_option maxHeartbeats 2000000 in
theorem slCut (s : ByteArray) (w : World) (b : Bool) (hs : s.size ≤ 20000) (hb : Lib.hasPrefix s.data.toList [40] = b) (h1 : b = true → 1 ≤ s.size) : Calls Tryd.prog 39 #[.string s, .string ⟨#[40]⟩] w fun e w' => e = .returned (.tuple #[.string (if b then s.extract 1 s.size else s), .bool b]) ∧ w' = w := by
  have hp := Tryd.stringslite_HasPrefix s ⟨#[40]⟩ w
  rw [show (⟨#[40]⟩ : ByteArray).data.toList = [40] from rfl, hb] at hp
  clear hb
  cases b with
  | false =>
    go_enter Tryd.func39, Tryd.ntmps39
    go_wp2_with fail
    refine hp.mono ?_
    rintro e w1 ⟨rfl, rfl⟩
    clear hp
    go_wp2_with fail
    go_ret2
    exact ⟨rfl, rfl⟩
  | true =>
    have h2 := h1 rfl
    have h3 : ((⟨#[40]⟩ : ByteArray).size : Int) = 1 := rfl
    have h4 : (⟨#[40]⟩ : ByteArray).size = 1 := rfl
    go_enter Tryd.func39, Tryd.ntmps39
    go_wp2_with fail
    refine hp.mono ?_
    rintro e w1 ⟨rfl, rfl⟩
    clear hp
    go_wp2_with fail
    go_ret2
    exact ⟨rfl, rfl⟩
set_option maxHeartbeats 2000000 in
theorem cutPrefix (s : ByteArray) (w : World) (b : Bool) (hs : s.size ≤ 20000) (hb : Lib.hasPrefix s.data.toList [40] = b) (h1 : b = true → 1 ≤ s.size) : Calls Tryd.prog 31 #[.string s, .string ⟨#[40]⟩] w fun e w' => e = .returned (.tuple #[.string (if b then s.extract 1 s.size else s), .bool b]) ∧ w' = w := by
  have hp := slCut s w b hs hb h1
  clear hb h1
  generalize (if b = true then s.extract 1 s.size else s) = R at *
  go_enter Tryd.func31, Tryd.ntmps31
  go_wp2_with fail
  refine hp.mono ?_
  rintro e w1 ⟨rfl, rfl⟩
  clear hp
  go_wp2_with fail
  go_ret2
  exact ⟨rfl, rfl⟩
end Go.Proofs.YtbeekjfjfcaobaaDoor
