/- Both directories of any bytes; the same records: contract of samovarref09.Same; the walk of ArchiveReads. Condition: the variable internal/bytealg.MaxLen has a value. What a byte that is another one changes of a directory, as plain mathematics. No condition; no program is named. What the laws on directories need: bytes copied, records stored, what is known of one entry. No condition. -/
import Derived.Test.YtdcpibglbanchaaDoorEd
import Derived.Test.YtdcpibglbanchaaDoorSame
set_option linter.unusedVariables false
set_option maxRecDepth 100000
namespace Go.Proofs.YtdcpibglbanchaaDoor
open Go.RowKit Go.Maps Go.ChangeMaps

/-- the directory of any bytes -/
def dirX (l : List Int) : Except Int (List (Nat × Nat)) := if 65536 < l.length then .error 8 else dirS l
def DirQ (T : TypeId) (l : List Int) (w : World) (e : Ending) (w' : World) : Prop :=
  (∃ er, dirX l = .error er ∧ er ≠ 0 ∧ e = .returned (.tuple #[.slice none 0 0, .int .i64 er]) ∧ Below w.heap.size w w') ∨
  (∃ es V, dirX l = .ok es ∧ es.length ≤ 64 ∧ e = .returned (.tuple #[V, .int .i64 0]) ∧ w'.ownsRow w.heap.size T 7 V es.length (recR l es) ∧ Below w.heap.size w w')
theorem dirS_len {l : List Int} (hB : Bytes l) {es : List (Nat × Nat)} (h : dirS l = .ok es) : es.length ≤ 64 := by
  unfold dirS at h
  cases he : endS l with
  | error e => rw [he] at h; cases h
  | ok x =>
    obtain ⟨fr, tt, ct⟩ := x
    rw [he] at h
    simp only at h
    obtain ⟨_, F, N, rfl, rfl, _, hN, _⟩ := endS_ok hB he
    simp only [Int.toNat_natCast] at h
    cases hc : cenS l tt N F [] with
    | error e => rw [hc] at h; cases h
    | ok ps =>
      rw [hc] at h
      simp only at h
      have hl := (cenS_ok (fr := F) (ps := []) (Nat.le_refl _) ⟨fun p hp => (by cases hp), List.nodup_nil⟩ hc).2
      cases hb : locsS l F ps with
      | none => rw [hb] at h; cases h
      | some bs =>
        rw [hb] at h
        simp only at h
        split at h
        · cases h
        · injection h with h
          subst h
          rw [List.length_zip, hl]; simp; omega
theorem dirP_Q {T : TypeId} {l : List Int} {w w' : World} {e : Ending} (hB : Bytes l) (hm : l.length ≤ 65536) (h : DirP T l w e w') : DirQ T l w e w' := by
  have hx : dirX l = dirS l := by unfold dirX; rw [if_neg (by omega)]
  rcases h with ⟨er, h1, h2, h3, h4⟩ | ⟨es, V, h1, h2, h3, h4⟩
  · exact .inl ⟨er, by rw [hx]; exact h1, h2, h3, h4⟩
  · exact .inr ⟨es, V, by rw [hx]; exact h1, dirS_len hB h1, h2, h3, h4⟩
theorem dirX_is (w : World) (b : Option Addr) (n c : Nat) (l : List Int) (hn : l.length = n) (hc : n ≤ c) (hM : n ≤ 140737488355328) (hb : Bs w w.heap.size b l) (hmx : Mx w) : Calls Tryd.prog 5 #[.slice b n c] w (DirQ 30 l w) := by
  subst hn
  by_cases hm : l.length ≤ 65536
  · exact (dir_is w b c l hc hm hb hmx).mono fun e w' h => dirP_Q hb.1 hm h
  · have hx : dirX l = .error 8 := by unfold dirX; rw [if_pos (by omega)]
    have hlen : decide ((l.length : Int) > 65536) = true := by simp; omega
    have HX := Lib.hid hx
    clear hx hb hmx
    go_enter Tryd.func5, Tryd.ntmps5
    go_wp2_with fail
    go_ret2
    exact .inl ⟨8, HX.out, by decide, rfl, Below.refl _ _⟩
theorem y_neR {a : Act} {w : World} {o : Oper} {x y : Operand} {l : List Int} {e : Nat × Nat} {ty : TypeId} (ho : o.op = .binOp .neq 30 x y ty) (hx : a.eval x = .agg (recC l e).toArray) (hy : a.eval y = .agg (recC l e).toArray) : (execOp a.eval o).run Tryd.prog w = .ok (.value (.bool false)) w := by
  have hg := run_eqGuard_agg (P := Tryd.prog) (w := w) .neq 30 x y (recC l e).toArray (recC l e).toArray (by kernel_rfl)
  have hS : Tryd.prog.underlying 30 = some (.struct (Tryd.prog.fieldsOf 30)) := by kernel_rfl
  have he : (Op.equalIn 10000 30 (.agg (recC l e).toArray) (.agg (recC l e).toArray)).run Tryd.prog w = .ok true w := by
    rw [show (10000 : Nat) = 9999 + 1 from rfl, run_equalIn_agg w 9999 30 _ _ hS (by kernel_rfl)]
    unfold recC
    simp only [Program.fieldsOf, Tryd.underlying30]
    go_simp
  have hb := run_neq_struct (P := Tryd.prog) (w := w) 30 (recC l e).toArray (recC l e).toArray
  rw [he] at hb
  unfold execOp
  simp only [ho, hx, hy, Sem.run_bind, hg, Result.andThen_ok, hb]
  rfl
end Go.Proofs.YtdcpibglbanchaaDoor

set_option linter.unusedVariables false
set_option maxRecDepth 100000
namespace Go.Proofs.YtdcpibglbanchaaDoor
open Go.RowKit

/-- what is known of a directory that is accepted -/
structure DirK (l : List Int) (F T N : Nat) (ps bs : List Nat) : Prop where
  ends : endS l = .ok ((F : Int), T, (N : Int))
  ft : F ≤ T
  tl : T + 22 ≤ l.length
  endc : endC l T
  n64 : N ≤ 64
  cen : cenS l T N F [] = .ok ps
  cenk : CenK l F T ps
  len : ps.length = N
  locs : locsS l F ps = some bs
  over : ovS l [] (ps.zip bs) = false
  blen : bs.length = ps.length
theorem dirS_inv {l : List Int} (hB : Bytes l) {es : List (Nat × Nat)} (h : dirS l = .ok es) : ∃ F T N ps bs, DirK l F T N ps bs ∧ es = ps.zip bs := by
  unfold dirS at h
  cases he : endS l with
  | error e => rw [he] at h; cases h
  | ok x =>
    obtain ⟨fr, tt, ct⟩ := x
    rw [he] at h
    simp only at h
    obtain ⟨h1, F, N, rfl, rfl, h2, hN, h3, _⟩ := endS_ok hB he
    simp only [Int.toNat_natCast] at h
    cases hc : cenS l tt N F [] with
    | error e => rw [hc] at h; cases h
    | ok ps =>
      rw [hc] at h
      simp only at h
      obtain ⟨hk, hl⟩ := cenS_ok (fr := F) (ps := []) (Nat.le_refl _) ⟨fun p hp => (by cases hp), List.nodup_nil⟩ hc
      cases hb : locsS l F ps with
      | none => rw [hb] at h; cases h
      | some bs =>
        rw [hb] at h
        simp only at h
        split at h
        · cases h
        · rename_i ho
          injection h with h
          exact ⟨F, tt, N, ps, bs, ⟨he, h2, h1, h3, hN, hc, hk, by simpa using hl, hb, by simpa using ho, locsS_len hb⟩, h.symm⟩
theorem DirK.dir {l : List Int} {F T N : Nat} {ps bs : List Nat} (h : DirK l F T N ps bs) : dirS l = .ok (ps.zip bs) := by
  unfold dirS
  rw [h.ends]
  simp only [Int.toNat_natCast]
  rw [h.cen]
  simp only
  rw [h.locs]
  simp only
  rw [h.over]; rfl
theorem epS_uniq {l : List Int} {T : Nat} (hT : endC l T) : ∀ k, T < k → 1 ≤ (epS l k).2 ∧ ((epS l k).2 = 1 → (epS l k).1 = T)
  | 0, h => absurd h (Nat.not_lt_zero _)
  | k + 1, h => by
    unfold epS
    by_cases hk : endC l k
    · rw [if_pos hk]
      refine ⟨by show 1 ≤ _ + 1; omega, fun h1 => ?_⟩
      rcases Nat.lt_or_ge T k with q | q
      · have := (epS_uniq hT k q).1
        simp only at h1; omega
      · show k = T; omega
    · rw [if_neg hk]
      rcases Nat.lt_or_ge T k with q | q
      · exact epS_uniq hT k q
      · obtain rfl : T = k := by omega
        exact absurd hT hk
section
variable {l l' : List Int} {F T N : Nat} {ps bs : List Nat}
theorem Agr.endC_ (h : Agr l l' F l.length) (hT : F ≤ T) (hl : T + 22 ≤ l.length) (he : endC l T) : endC l' T := by
  unfold endC at he ⊢
  have h20 := h.num2 T 20 hT (by omega)
  rw [show ((T : Int) + (20 : Nat)) = (T : Int) + 20 from rfl] at h20
  rw [← h.1, ← h.kind T hT (by omega), ← h20]
  exact he
theorem agr_loc {p a : Nat} (hd : Agr l l' F T) (hp : F ≤ p) (hz : p + szL l p ≤ T) (ha : Agr l l' (hdL l p) a) (hl : locS l F p = some a) : hdL l' p = hdL l p ∧ pkL l' p = pkL l p ∧ locS l' F p = some a := by
  have hs := szL_ge l p
  obtain ⟨h1, h2, h3, h4, h5, h6, h7⟩ := locS_ok hl
  have e1 : hdL l' p = hdL l p := by unfold hdL; rw [show ((p : Int) + 42) = (p : Int) + (42 : Nat) from rfl, hd.num4 p 42 hp (by omega)]
  have e2 : pkL l' p = pkL l p := by unfold pkL; rw [show ((p : Int) + 20) = (p : Int) + (20 : Nat) from rfl, hd.num4 p 20 hp (by omega)]
  have e3 : nmN l' p = nmN l p := (hd.nmN p hp (by omega)).symm
  have e4 : nmT l' p = nmT l p := (hd.nmT p hp hz).symm
  refine ⟨e1, e2, ?_⟩
  rw [← hl]
  unfold locS
  rw [e1, e2, e3, e4]
  have k1 := ha.kind (hdL l p) (Nat.le_refl _) (by omega)
  have k2 := ha.cut (p := hdL l p + 4) (q := hdL l p + 28) (by omega) (by omega)
  have k3 := ha.num2 (hdL l p) 28 (Nat.le_refl _) (by omega)
  have k4 := ha.cut (p := hdL l p + 30) (q := hdL l p + 30 + nmN l p) (by omega) (by omega)
  have k5 := hd.cut (p := p + 6) (q := p + 30) (by omega) (by omega)
  rw [show ((hdL l p : Int) + (28 : Nat)) = (hdL l p : Int) + 28 from rfl] at k3
  rw [k1, k2, k3, k4, k5]
theorem ovS_congr (es : List (Nat × Nat)) : ∀ (dn : List (Nat × Nat)), (∀ e ∈ dn, hdL l' e.1 = hdL l e.1 ∧ pkL l' e.1 = pkL l e.1) → (∀ e ∈ es, hdL l' e.1 = hdL l e.1 ∧ pkL l' e.1 = pkL l e.1) → ovS l' dn es = ovS l dn es := by
  induction es with
  | nil => intro dn _ _; rfl
  | cons e es ih =>
    intro dn h1 h2
    have he := h2 e (by simp)
    have hany : (dn.any fun d => onOne l' e d) = (dn.any fun d => onOne l e d) := by
      rw [Bool.eq_iff_iff, List.any_eq_true, List.any_eq_true]
      have hon : ∀ d ∈ dn, onOne l' e d = onOne l e d := fun d hd => by
        unfold onOne
        rw [he.1, he.2, (h1 d hd).1, (h1 d hd).2]
      constructor
      · rintro ⟨d, hd, h⟩; exact ⟨d, hd, by rw [← hon d hd]; exact h⟩
      · rintro ⟨d, hd, h⟩; exact ⟨d, hd, by rw [hon d hd]; exact h⟩
    show ((dn.any fun d => onOne l' e d) || ovS l' (dn ++ [e]) es) = ((dn.any fun d => onOne l e d) || ovS l (dn ++ [e]) es)
    rw [hany, ih (dn ++ [e]) (fun x hx => by
      rcases List.mem_append.1 hx with hx | hx
      · exact h1 x hx
      · obtain rfl := List.mem_singleton.1 hx; exact he) (fun x hx => h2 x (by simp [hx]))]
theorem locsS_congr (fr : Nat) : ∀ {ps bs : List Nat}, locsS l fr ps = some bs → (∀ e ∈ ps.zip bs, locS l' fr e.1 = some e.2) → locsS l' fr ps = some bs
  | [], bs, h, _ => h
  | p :: ps, bs, h, hh => by
    unfold locsS at h ⊢
    cases h1 : locS l fr p with
    | none => rw [h1] at h; cases h
    | some a =>
      rw [h1] at h
      simp only at h
      cases h2 : locsS l fr ps with
      | none => rw [h2] at h; cases h
      | some cs =>
        rw [h2] at h; injection h with h; subst h
        rw [hh (p, a) (by simp)]
        simp only
        rw [locsS_congr fr h2 (fun e he => hh e (by rw [List.zip_cons_cons]; exact List.mem_cons_of_mem _ he))]; rfl
/-- bytes that are the same in the directory and in all local headers -/
theorem DirK.agr (h : DirK l F T N ps bs) (hd : Agr l l' F l.length) (hent : ∀ e ∈ ps.zip bs, Agr l l' (hdL l e.1) e.2) :
    (endP l' < 0 ∧ dirS l' = .error 9) ∨ (0 ≤ endP l' ∧ dirS l' = .ok (ps.zip bs) ∧ recR l' (ps.zip bs) = recR l (ps.zip bs)) := by
  have hM : l'.length - 21 = l.length - 21 := by rw [hd.1]
  have hec := hd.endC_ h.ft h.tl h.endc
  have hu := epS_uniq hec (l'.length - 21) (by have := h.tl; omega)
  rcases endS_P l' with ⟨h1, h2⟩ | ⟨p, h1, h2, h3⟩
  · refine .inl ⟨h1, ?_⟩
    unfold dirS; rw [h2]
  · refine .inr ⟨by rw [h1]; omega, ?_⟩
    have hone : (epS l' (l'.length - 21)).2 = 1 := by
      by_cases hq : (epS l' (l'.length - 21)).2 = 1
      · exact hq
      · exfalso
        unfold endP at h1
        rw [endV_2 hq] at h1; omega
    have hpT : p = T := by
      unfold endP at h1
      rw [endV_1 hone] at h1
      have := hu.2 hone
      omega
    subst hpT
    have hpl := h.tl
    have hft := h.ft
    have n4 := hd.num2 p 4 hft (by omega)
    have n6 := hd.num2 p 6 hft (by omega)
    have n8 := hd.num2 p 8 hft (by omega)
    have n10 := hd.num2 p 10 hft (by omega)
    have n12 := hd.num4 p 12 hft (by omega)
    have n16 := hd.num4 p 16 hft (by omega)
    have he := h.ends
    have hends : endS l' = .ok ((F : Int), p, (N : Int)) := by
      rw [h3, ← he]
      rcases endS_P l with ⟨g1, g2⟩ | ⟨p2, g1, g2, g3⟩
      · rw [g2] at he; cases he
      · have hp2 : p2 = p := by
          rw [g3] at he
          split at he
          · cases he
          · injection he with he
            injection he with _ he
            injection he with he
        subst hp2
        rw [g3]
        rw [show ((p2 : Int) + (4 : Nat)) = (p2 : Int) + 4 from rfl] at n4
        rw [show ((p2 : Int) + (6 : Nat)) = (p2 : Int) + 6 from rfl] at n6
        rw [show ((p2 : Int) + (8 : Nat)) = (p2 : Int) + 8 from rfl] at n8
        rw [show ((p2 : Int) + (10 : Nat)) = (p2 : Int) + 10 from rfl] at n10
        rw [show ((p2 : Int) + (12 : Nat)) = (p2 : Int) + 12 from rfl] at n12
        rw [show ((p2 : Int) + (16 : Nat)) = (p2 : Int) + 16 from rfl] at n16
        rw [n4, n6, n8, n10, n12, n16]
    have hdT : Agr l l' F p := hd.cutR (Nat.le_refl _) (by omega)
    have hcen : cenS l' p N F [] = .ok ps := by rw [← hdT.cen N F [] (Nat.le_refl _) rfl]; exact h.cen
    have hloc : ∀ e ∈ ps.zip bs, hdL l' e.1 = hdL l e.1 ∧ pkL l' e.1 = pkL l e.1 ∧ locS l' F e.1 = some e.2 := fun e hem => by
      have hk := h.cenk.at_ e.1 (List.of_mem_zip hem).1
      exact agr_loc hdT hk.1 hk.2.1 (hent e hem) (locsS_at h.locs e hem)
    have hlocs : locsS l' F ps = some bs := locsS_congr F h.locs (fun e hem => (hloc e hem).2.2)
    have hov : ovS l' [] (ps.zip bs) = false := by
      rw [ovS_congr (l := l) _ [] (fun e hx => (by cases hx)) (fun e hem => ⟨(hloc e hem).1, (hloc e hem).2.1⟩)]; exact h.over
    refine ⟨?_, ?_⟩
    · unfold dirS
      rw [hends]
      simp only [Int.toNat_natCast]
      rw [hcen]
      simp only
      rw [hlocs]
      simp only
      rw [hov]; rfl
    · unfold recR
      have hrec : ∀ e ∈ ps.zip bs, recC l' e = recC l e := fun e hem => by
        have hk := h.cenk.at_ e.1 (List.of_mem_zip hem).1
        have hs := szL_ge l e.1
        unfold recC
        rw [(hloc e hem).1, (hloc e hem).2.1, ← hdT.nmT e.1 hk.1 hk.2.1]
        have m10 := hdT.num2 e.1 10 hk.1 (by omega)
        have m24 := hdT.num4 e.1 24 hk.1 (by omega)
        have m16 := hdT.num4 e.1 16 hk.1 (by omega)
        rw [show ((e.1 : Int) + (10 : Nat)) = (e.1 : Int) + 10 from rfl] at m10
        rw [show ((e.1 : Int) + (24 : Nat)) = (e.1 : Int) + 24 from rfl] at m24
        rw [show ((e.1 : Int) + (16 : Nat)) = (e.1 : Int) + 16 from rfl] at m16
        rw [m10, m24, m16]
      clear hov hlocs
      generalize ps.zip bs = es at *
      induction es with
      | nil => rfl
      | cons e es ih =>
        rw [List.flatMap_cons, List.flatMap_cons, hrec e (by simp), ih (fun x hx => hent x (by simp [hx])) (fun x hx => hloc x (by simp [hx])) (fun x hx => hrec x (by simp [hx]))]
end
end Go.Proofs.YtdcpibglbanchaaDoor

set_option linter.unusedVariables false
set_option maxRecDepth 100000
namespace Go.Proofs.YtdcpibglbanchaaDoor
open Go.RowKit Go.Maps Go.ChangeMaps

/-- a copy of bytes in a row of one's own -/
theorem copy_own {w : World} {ops : Array Oper} {rest : List Oper} {o : Oper} {a : Act} {Q : Exit → Act → World → Prop} (hgd : o.guard = none) (s x : Operand)
    (ho : o.op = .call { callee := .builtin .append, args := #[s, x], argTypes := #[22, 22] }) (w0 : World) (hw : w = w0.alloc (.cells #[] 5)) (hs : a.eval s = .slice (some ⟨w0.heap.size, 0, none⟩) 0 0) (A : Option Addr) (m c : Nat) (l : List Int) (hm : l.length = m) (hc : m ≤ c) (hx : a.eval x = .slice A m c) (hb : Bs w0 w0.heap.size A l) (hA : A = none → c = 0) (hM : m ≤ 140737488351232)
    (h : ∀ a' c' w', m ≤ c' → Bs w' w'.heap.size a' l → Below w0.heap.size w0 w' → wpList Tryd.prog ops Q rest (a.put o.dst (.slice a' m c')) w') : wpList Tryd.prog ops Q (o :: rest) a w := by
  subst hw
  refine wpList_app2 hgd s x ho w0.heap.size (.slice (some ⟨w0.heap.size, 0, none⟩) 0 0) 0 [] hs (World.ownsRow_lit w0 #[] 0 (Nat.le_refl _) (by decide) rfl) w0.heap.size A m c l hx hm (hb.alloc (Nat.le_refl _) _) (fun e => by have := hA e; omega) (by omega) (by simp) ?_
  intro v3 w3 hown3 hg3 hob3
  have hb3 : Below w0.heap.size w0 w3 := ((Below.refl w0.heap.size w0).alloc (Nat.le_refl _) _).grown hg3 (by simp) (fun j e => by simp [Value.ownBlock] at e; omega)
  obtain ⟨a3, c3, rfl⟩ := own_shape hown3
  have hown4 := own_cast hown3 (Nat.zero_add m) (show ([] ++ l : List Int).map (Value.int .u8) = l.map (Value.int .u8) by rw [List.nil_append])
  rw [Nat.zero_add]
  refine h a3 c3 w3 (own_cap hown4).1 ?_ hb3
  subst hm
  exact Bs.of_own hown4 hb.1
theorem copy_own2 {w : World} {ops : Array Oper} {rest : List Oper} {o : Oper} {a : Act} {Q : Exit → Act → World → Prop} (hgd : o.guard = none) (s x : Operand)
    (ho : o.op = .call { callee := .builtin .append, args := #[s, x], argTypes := #[22, 22] }) (w0 : World) (hw : w = w0.alloc (.cells #[] 5)) (hs : a.eval s = .slice (some ⟨w0.heap.size, 0, none⟩) 0 0) (A : Option Addr) (m c : Nat) (l : List Int) (hm : l.length = m) (hc : m ≤ c) (hx : a.eval x = .slice A m c) (hb : Bs w0 w0.heap.size A l) (hA : A = none → c = 0) (hM : m ≤ 140737488351232)
    (h : ∀ a' c' w', w'.ownsRow w0.heap.size 5 1 (.slice a' m c') m (l.map (Value.int .u8)) → Below w0.heap.size w0 w' → wpList Tryd.prog ops Q rest (a.put o.dst (.slice a' m c')) w') : wpList Tryd.prog ops Q (o :: rest) a w := by
  subst hw
  refine wpList_app2 hgd s x ho w0.heap.size (.slice (some ⟨w0.heap.size, 0, none⟩) 0 0) 0 [] hs (World.ownsRow_lit w0 #[] 0 (Nat.le_refl _) (by decide) rfl) w0.heap.size A m c l hx hm (hb.alloc (Nat.le_refl _) _) (fun e => by have := hA e; omega) (by omega) (by simp) ?_
  intro v3 w3 hown3 hg3 hob3
  have hb3 : Below w0.heap.size w0 w3 := ((Below.refl w0.heap.size w0).alloc (Nat.le_refl _) _).grown hg3 (by simp) (fun j e => by simp [Value.ownBlock] at e; omega)
  obtain ⟨a3, c3, rfl⟩ := own_shape hown3
  rw [Nat.zero_add]
  exact h a3 c3 w3 (own_cast hown3 (Nat.zero_add m) (show ([] ++ l : List Int).map (Value.int .u8) = l.map (Value.int .u8) by rw [List.nil_append])) hb3
theorem rec_st {ops : Array Oper} {rest : List Oper} {op : Oper} {a : Act} {W : World} {Q : Exit → Act → World → Prop} {x y : Operand} {cs old : Array Value} (hgd : op.guard = none) (ho : op.op = .store 30 x y) (b : Nat) (hx : a.eval x = .pointer (some ⟨b, 0, none⟩)) (hy : a.eval y = .agg cs) (hs : cs.size = 7) (ho' : old.size = 7) (h1 : cs.all (·.oneCell') = true) (hh : W.heap[b]? = some (.cells old 30 (0, 0)))
    (h : ∀ W', W'.heap[b]? = some (.cells cs 30 (0, 0)) → Only b W W' → wpList Tryd.prog ops Q rest (a.put op.dst undef) W') : wpList Tryd.prog ops Q (op :: rest) a W :=
  wpList_skp hgd (y_store ho hx hy (by
    simp only [Instr.storeAt, Instr.sureAddr, Sem.run_bind, Sem.run_pure, Result.andThen_ok, run_storeVar_row W b 30 30 old cs hh (by rw [hs]; exact rec_info7) (by omega) h1])) (h _ (setRow_heap _ _ _ _ _ _ hh) ⟨rfl, rfl, rfl, by simp, fun k hk hne => setRow_other W b k cs (fun e => hne (by rw [e]))⟩)
/-- the least place of a local header, or m -/
def leastS (l : List Int) (m : Nat) : List (Nat × Nat) → Nat
  | [] => m
  | e :: es => leastS l (min m (hdL l e.1)) es
theorem leastS_snoc (l : List Int) : ∀ (es : List (Nat × Nat)) (m : Nat) (e : Nat × Nat), leastS l m (es ++ [e]) = min (leastS l m es) (hdL l e.1)
  | [], m, e => rfl
  | x :: es, m, e => by show leastS l _ (es ++ [e]) = _; rw [leastS_snoc l es]; rfl
theorem leastS_le (l : List Int) : ∀ (es : List (Nat × Nat)) (m : Nat), leastS l m es ≤ m ∧ ∀ e ∈ es, leastS l m es ≤ hdL l e.1
  | [], m => ⟨Nat.le_refl _, fun e h => by cases h⟩
  | x :: es, m => by
    obtain ⟨h1, h2⟩ := leastS_le l es (min m (hdL l x.1))
    refine ⟨Nat.le_trans h1 (Nat.min_le_left _ _), fun e he => ?_⟩
    rcases List.mem_cons.1 he with rfl | he
    · exact Nat.le_trans h1 (Nat.min_le_right _ _)
    · exact h2 e he
theorem dirX_inv {l : List Int} {es : List (Nat × Nat)} (h : dirX l = .ok es) : l.length ≤ 65536 ∧ dirS l = .ok es := by
  unfold dirX at h
  split at h
  · cases h
  · exact ⟨by omega, h⟩
theorem xor_bd (x y : Int) : 0 ≤ bits .xor .u8 x y ∧ bits .xor .u8 x y ≤ 255 := by
  have e : bits .xor .u8 x y = IntKind.u8.wrap (((BitVec.ofInt 8 x ^^^ BitVec.ofInt 8 y).toNat : Nat) : Int) := rfl
  rw [e, u8_wrap']; omega
theorem own_frozen {w : World} {base G n c sz : Nat} {t : TypeId} {xs : List Value} (h : w.ownsRow base t sz (.slice (some ⟨G, 0, none⟩) n c) n xs) (i : Nat) : w.frozen? ⟨G, i, none⟩ = false := by
  rcases h.2 with ⟨e, _⟩ | ⟨g', cap, cur, e, _, hg', _⟩
  · cases e
  · injection e with e1
    injection e1 with e1
    injection e1 with e1
    subst e1
    exact blk_free hg' _
theorem ovS_no {l : List Int} : ∀ (es dn : List (Nat × Nat)), ovS l dn es = false → ∀ (q : Nat) (e : Nat × Nat), es[q]? = some e → (∀ d ∈ dn, onOne l e d = false) ∧ ∀ (k : Nat) (d : Nat × Nat), k < q → es[k]? = some d → onOne l e d = false
  | [], dn, _, q, e, he => by simp at he
  | x :: es, dn, h, q, e, he => by
    unfold ovS at h
    rw [Bool.or_eq_false_iff] at h
    obtain ⟨h1, h2⟩ := h
    cases q with
    | zero =>
      injection he with he
      subst he
      refine ⟨fun d hd => ?_, fun k d hk => absurd hk (Nat.not_lt_zero _)⟩
      rw [List.any_eq_false] at h1
      have := h1 d hd
      simpa using this
    | succ q =>
      have ih := ovS_no es (dn ++ [x]) h2 q e (by simpa using he)
      refine ⟨fun d hd => ih.1 d (by simp [hd]), fun k d hk hd => ?_⟩
      cases k with
      | zero =>
        injection hd with hd
        subst hd
        exact ih.1 x (by simp)
      | succ k => exact ih.2 k d (by omega) (by simpa using hd)
theorem sized_rec (W : World) : (sizeOf (Tryd.prog.elem 25)).run Tryd.prog W = .ok 7 W := by kernel_rfl
theorem elem_rec : Tryd.prog.underlying 25 = some (.slice (Tryd.prog.elem 25)) := by kernel_rfl
theorem cutR_h (g n c hi : Nat) (h : hi ≤ n) (hc : n ≤ c) (h0 : 0 < n) : ∀ W, (Instr.slice 25 (.slice (some ⟨g, 0, none⟩) n c) none (some (.int .i64 hi)) none).run Tryd.prog W = .ok (.slice (some ⟨g, 0, none⟩) hi c) W := by
  intro W
  rw [run_slice_h W 25 (some ⟨g, 0, none⟩) n c elem_rec .i64 hi (by omega) (by omega), sized_rec]
  simp [Result.andThen, sliced, Addr.add]
/-- what is known of one entry -/
theorem DirK.ent {l : List Int} {F T N : Nat} {ps bs : List Nat} (h : DirK l F T N ps bs) {e : Nat × Nat} (he : e ∈ ps.zip bs) :
    nameB (nmT l e.1) = true ∧ (nmT l e.1).size = nmN l e.1 ∧ hdL l e.1 + 30 + nmN l e.1 ≤ e.2 ∧ e.2 + pkL l e.1 ≤ F ∧ F + 22 ≤ l.length ∧ (numL l ((e.1 : Int) + 10) 2 = 0 ∨ numL l ((e.1 : Int) + 10) 2 = 8) ∧ strOfNums (cutOf l (hdL l e.1 + 30) (hdL l e.1 + 30 + nmN l e.1)) = nmT l e.1 := by
  have hk := h.cenk.at_ e.1 (List.of_mem_zip he).1
  have hs := szL_ge l e.1
  have hl := locS_ok (locsS_at h.locs e he)
  have := h.ft
  have := h.tl
  refine ⟨hk.2.2.1, ?_, hl.2.1, hl.2.2.1, by omega, hk.2.2.2, hl.2.2.2.2.2.2⟩
  unfold nmT
  rw [strOf_size, cutOf_len (by omega)]; omega
theorem DirK.unlike {l : List Int} {F T N : Nat} {ps bs : List Nat} (h : DirK l F T N ps bs) {q k : Nat} {e d : Nat × Nat} (hk : k < q) (he : (ps.zip bs)[q]? = some e) (hd : (ps.zip bs)[k]? = some d) : nmU l d.1 ≠ nmU l e.1 := by
  rw [List.getElem?_zip_eq_some] at he hd
  have hn := h.cenk.apart
  intro hh
  have h1 : (ps.map (nmU l))[k]? = some (nmU l d.1) := by rw [List.getElem?_map, hd.1]; rfl
  have h2 : (ps.map (nmU l))[q]? = some (nmU l e.1) := by rw [List.getElem?_map, he.1]; rfl
  obtain ⟨a1, b1⟩ := List.getElem?_eq_some_iff.1 h1
  obtain ⟨a2, b2⟩ := List.getElem?_eq_some_iff.1 h2
  exact (List.pairwise_iff_getElem.1 hn) k q a1 a2 hk (by rw [b1, b2, hh])
def StopHere (p : Prop) : Prop := p
theorem stopHere {p : Prop} (h : StopHere p) : p := h
end Go.Proofs.YtdcpibglbanchaaDoor
