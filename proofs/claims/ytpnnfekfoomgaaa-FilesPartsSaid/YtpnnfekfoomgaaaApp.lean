/- An append onto a row of the call's own, of whatever elements of one cell, wherever they come from; where the new row lies. No condition. -/
import Derived.Test.YtpnnfekfoomgaaaLib
import Derived.Maps.AppendAt
set_option linter.unusedVariables false
set_option maxRecDepth 100000
namespace Go.Proofs.Ytpnnfekfoomgaaa
open Go.RowKit

/-- the slice that begins at A holds these cells -/
def Src (w : World) (A : Option Addr) (news : List Value) : Prop := 0 < news.length → ∃ b off, A = some ⟨b, off, none⟩ ∧ ∀ j, j < news.length → w.cell? ⟨b, off + j, none⟩ = news[j]?
theorem src_one (w : World) (x : Value) (t : TypeId) : Src (w.alloc (.cells #[x] t)) (some ⟨w.heap.size, 0, none⟩) [x] := fun _ => ⟨w.heap.size, 0, rfl, fun j hj => by
  have hj0 : j = 0 := by simpa using hj
  subst hj0
  rw [blk_cell (heap_alloc_new w _)]; rfl⟩
theorem src_bytes {w : World} {B : Nat} {A : Option Addr} {l : List Int} (h : Bs w B A l) : Src w A (l.map (Value.int .u8)) := fun hp => by
  rw [List.length_map] at hp
  obtain ⟨b, off, e, _, hc⟩ := h.2 hp
  refine ⟨b, off, e, fun j hj => ?_⟩
  rw [List.length_map] at hj
  rw [hc j hj, List.getElem?_map, List.getD_eq_getElem?_getD, List.getElem?_eq_getElem hj]; rfl
theorem run_appG (T E ty : TypeId) (z : Value) (bytes : Nat) (hT : Try.prog.underlying T = some (.slice E)) (hinf : (Try.prog.info? E).map (fun i => (i.zero, i.size, i.bytes)) = some (some z, 1, bytes)) (hz : z.cells.size = 1)
    (w : World) (base : Nat) (v : Value) (n : Nat) (xs : List Value) (hown : w.ownsRow base E 1 v n xs) (A : Option Addr) (m c : Nat) (news : List Value) (hm : news.length = m) (hs : Src w A news) (h1 : ∀ u ∈ news, u.oneCell' = true) (hA : A = none → m = 0 ∧ c = 0)
    (h63 : n + m ≤ maxLen) (hbound : (n + m) * bytes ≤ 140737488355328) (hbase : base ≤ w.heap.size) :
    ∃ v' w', (Builtin.append_ #[T, T] ty #[v, .slice A m c]).run Try.prog w = .ok v' w' ∧ w'.ownsRow base E 1 v' (n + m) (xs ++ news) ∧ w.grownBy w' v.ownBlock ∧ (v'.ownBlock = v.ownBlock ∨ v'.ownBlock = some w.heap.size) := by
  obtain ⟨i0, hi, hz0, hz1, hz2⟩ := info_parts hinf
  cases A with
  | none =>
    obtain ⟨q1, q2⟩ := hA rfl
    subst q1; subst q2
    have hl : news = [] := List.eq_nil_of_length_eq_zero hm
    subst hl
    exact ⟨v, w, run_append_owned_none (P := Try.prog) (w := w) base T ty E i0 1 hT hi v n _ hown, by simpa using hown, World.grownBy.refl w _, .inl rfl⟩
  | some ad =>
    obtain ⟨v', w', hr, h2, h3, _, h4⟩ := run_append_own_at (P := Try.prog) w base T ty E i0 z 1 bytes hT hi hz0 hz1 hz2 hz (by decide) v n _ hown ad m c news (by simp [hm]) (by
      intro j u hu
      have hj : j < news.length := by
        rcases Nat.lt_or_ge j news.length with h | h
        · exact h
        · rw [List.getElem?_eq_none h] at hu; cases hu
      obtain ⟨b, off, e, hc⟩ := hs (by omega)
      injection e with e
      subst e
      have e2 : (⟨b, off, none⟩ : Addr).add j = ⟨b, off + j, none⟩ := by unfold Addr.add; split <;> simp_all
      rw [e2, hc j hj, hu]) h1 h63 hbound hbase
    exact ⟨v', w', hr, h2, h3, h4⟩
theorem wpList_appG (T E : TypeId) (z : Value) (bytes : Nat) (hT : Try.prog.underlying T = some (.slice E)) (hinf : (Try.prog.info? E).map (fun i => (i.zero, i.size, i.bytes)) = some (some z, 1, bytes)) (hz : z.cells.size = 1)
    {w : World} {ops : Array Oper} {rest : List Oper} {o : Oper} {a : Act} {Q : Exit → Act → World → Prop} (hgd : o.guard = none) (s x : Operand)
    (ho : o.op = .call { callee := .builtin .append, args := #[s, x], argTypes := #[T, T] }) (base : Nat) (v : Value) (n : Nat) (xs : List Value) (hs : a.eval s = v)
    (hown : w.ownsRow base E 1 v n xs) (A : Option Addr) (m c : Nat) (news : List Value) (hx : a.eval x = .slice A m c) (hm : news.length = m) (hsrc : Src w A news) (h1 : ∀ u ∈ news, u.oneCell' = true) (hA : A = none → m = 0 ∧ c = 0)
    (h63 : n + m ≤ maxLen) (hbound : (n + m) * bytes ≤ 140737488355328) (hbase : base ≤ w.heap.size)
    (h : ∀ v' w', w'.ownsRow base E 1 v' (n + m) (xs ++ news) → w.grownBy w' v.ownBlock → (v'.ownBlock = v.ownBlock ∨ v'.ownBlock = some w.heap.size) → wpList Try.prog ops Q rest (a.put o.dst v') w') : wpList Try.prog ops Q (o :: rest) a w :=
  wpList_plain hgd fun _ hK => by
    obtain ⟨v', w', hr, h2, h3, h4⟩ := run_appG T E o.type z bytes hT hinf hz w base v n xs hown A m c news hm hsrc h1 hA h63 hbound hbase
    unfold Oper.wp execOp
    simp only [ho, resolve, invoke, builtin, Sem.run_bind, Sem.run_pure, Result.andThen_ok, List.map_toArray, List.map_cons, List.map_nil, hs, hx, hr]
    exact hK _ _ (h v' w' h2 h3 h4)
theorem bytes_one {l : List Int} : ∀ u ∈ l.map (Value.int .u8), u.oneCell' = true := by intro u hu; obtain ⟨x, _, rfl⟩ := List.mem_map.1 hu; rfl
theorem wpList_app2 {w : World} {ops : Array Oper} {rest : List Oper} {o : Oper} {a : Act} {Q : Exit → Act → World → Prop} (hgd : o.guard = none) (s x : Operand)
    (ho : o.op = .call { callee := .builtin .append, args := #[s, x], argTypes := #[22, 22] }) (base : Nat) (v : Value) (n : Nat) (l : List Int) (hs : a.eval s = v)
    (hown : w.ownsRow base 5 1 v n (l.map (Value.int .u8))) (B : Nat) (A : Option Addr) (m c : Nat) (l2 : List Int) (hx : a.eval x = .slice A m c) (hm : l2.length = m) (hb : Bs w B A l2) (hA : A = none → m = 0 ∧ c = 0)
    (hbound : n + m ≤ 140737488355328) (hbase : base ≤ w.heap.size)
    (h : ∀ v' w', w'.ownsRow base 5 1 v' (n + m) ((l ++ l2).map (Value.int .u8)) → w.grownBy w' v.ownBlock → (v'.ownBlock = v.ownBlock ∨ v'.ownBlock = some w.heap.size) → wpList Try.prog ops Q rest (a.put o.dst v') w') : wpList Try.prog ops Q (o :: rest) a w :=
  wpList_appG 22 5 (.int .u8 0) 1 Try.underlying22 u8_info rfl hgd s x ho base v n _ hs hown A m c _ hx (by simpa using hm) (src_bytes hb) bytes_one hA (by simp only [maxLen]; omega) (by omega) hbase
    (fun v' w' h2 h3 h4 => h v' w' (by rw [List.map_append]; exact h2) h3 h4)
end Go.Proofs.Ytpnnfekfoomgaaa
