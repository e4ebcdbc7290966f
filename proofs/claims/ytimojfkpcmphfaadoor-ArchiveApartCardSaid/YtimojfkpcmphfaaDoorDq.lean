/- The local headers of all entries are read; do entries lie on one another: contracts of locals, overlap. Conditions: the bytes are bytes. -/
import Derived.Test.YtimojfkpcmphfaaDoorDo
set_option linter.unusedVariables false
set_option maxRecDepth 100000
namespace Go.Proofs.YtimojfkpcmphfaaDoor
open Go.RowKit Go.Maps Go.ChangeMaps

/-- the cells of what was found, the first entries' local headers read -/
def fndA (l : List Int) (es : List (Nat × Nat)) (ps : List Nat) : List Value := es.flatMap (fun e => fndC l e (e.2 + pkL l e.1)) ++ fndR l ps
theorem flat_len {α : Type} {f : α → List Value} {k : Nat} : ∀ {l : List α}, (∀ x ∈ l, (f x).length = k) → (l.flatMap f).length = l.length * k
  | [], _ => by simp
  | x :: l, h => by
    rw [List.flatMap_cons, List.length_append, h x (by simp), flat_len (fun y hy => h y (by simp [hy])), List.length_cons, Nat.add_mul]; omega
theorem fndC_set {l : List Int} {p a en : Nat} (h : p + 30 ≤ l.length) : ((fndC l (p, 0) 0).set 5 (.int .i64 (a : Nat))).set 31 (.int .i64 (en : Nat)) = fndC l (p, a) en := by
  have hl : ((cutOf l (p + 6) (p + 30)).map (Value.int .u8)).length = 24 := by rw [List.length_map, cutOf_len h]; omega
  unfold fndC recC
  simp only [List.cons_append, List.nil_append, List.set_cons_succ, List.set_cons_zero]
  rw [List.set_append, if_neg (by omega), hl]
  rfl
theorem set_mid {α : Type} (a b c : List α) (k : Nat) (u : α) (h : k < b.length) : (a ++ (b ++ c)).set (a.length + k) u = a ++ (b.set k u ++ c) := by
  rw [List.set_append, if_neg (by omega), Nat.add_sub_cancel_left, List.set_append, if_pos h]
theorem locsS_snoc {l : List Int} {fr : Nat} : ∀ {ps : List Nat} {p : Nat}, locsS l fr (ps ++ [p]) = match locsS l fr ps with | none => none | some bs => (locS l fr p).map (fun a => bs ++ [a])
  | [], p => by
    show locsS l fr [p] = _
    unfold locsS
    cases locS l fr p with
    | none => rfl
    | some a => rfl
  | q :: ps, p => by
    show locsS l fr (q :: (ps ++ [p])) = _
    unfold locsS
    cases locS l fr q with
    | none => rfl
    | some a =>
      simp only [locsS_snoc (ps := ps)]
      cases locsS l fr ps with
      | none => rfl
      | some bs => cases locS l fr p <;> rfl
theorem locsS_none {l : List Int} {fr : Nat} {ps : List Nat} (qs : List Nat) (h : locsS l fr ps = none) : locsS l fr (ps ++ qs) = none := by
  induction ps with
  | nil => cases h
  | cons p ps ih =>
    rw [List.cons_append]
    unfold locsS at h ⊢
    cases h1 : locS l fr p with
    | none => rfl
    | some a =>
      rw [h1] at h
      simp only at h ⊢
      cases h2 : locsS l fr ps with
      | none => rw [ih h2]; rfl
      | some bs => rw [h2] at h; cases h
section
variable {W w : World} {g mb k mn base : Nat} {b : Option Addr} {c : Nat} {tt ct : Int} {V : Value} {l : List Int} {F : Nat} {ps : List Nat} {ns : List (List UInt8)}
/-- what locals answers -/
def LocsP (l : List Int) (F : Nat) (ps : List Nat) (W : World) (g mb k mn base : Nat) (b : Option Addr) (c : Nat) (tt ct : Int) (V : Value) (ns : List (List UInt8)) (e : Ending) (w' : World) : Prop :=
  (locsS l F ps = none ∧ e = .returned (.int .i64 15) ∧ Below W.heap.size W w') ∨
  (∃ bs, locsS l F ps = some bs ∧ e = .returned (.int .i64 0) ∧ LK W w' g mb k mn base b l.length c (F : Nat) tt ct V ps.length (fndA l (ps.zip bs) []) ns)
theorem fndA_split {es : List (Nat × Nat)} {ps : List Nat} {p q : Nat} (hes : es.length = q) (hall : ∀ e ∈ es, e.1 + 30 ≤ l.length) (hp : p + 30 ≤ l.length) :
    (es.flatMap (fun e => fndC l e (e.2 + pkL l e.1))).length = q * 32 ∧ fndA l es (p :: ps) = es.flatMap (fun e => fndC l e (e.2 + pkL l e.1)) ++ (fndC l (p, 0) 0 ++ fndR l ps) := by
  refine ⟨?_, rfl⟩
  rw [← hes]
  exact flat_len (fun e he => fndC_len (hall e he))
set_option maxHeartbeats 8000000 in
theorem locals_is (h : LK W w g mb k mn base b l.length c (F : Nat) tt ct V ps.length (fndR l ps) ns) (hb : Bs W W.heap.size b l) (hc : l.length ≤ c) (hm : l.length ≤ 65536) (hF : F ≤ l.length) (hps : ∀ p ∈ ps, p + szL l p ≤ l.length) (hN : ps.length ≤ 64) :
    Calls Tryd.prog 19 #[.pointer (some ⟨g, 0, none⟩)] w (LocsP l F ps W g mb k mn base b c tt ct V ns) := by
  have c6 : w.cell? ⟨g, 6, none⟩ = some V := by rw [blk_cell h.blk]; rfl
  obtain ⟨aV, cV, rfl⟩ := own_shape h.row
  have HL := Lib.hid (And.intro h (And.intro hb hps))
  clear h hb hps
  obtain ⟨N, hNN⟩ : ∃ N, ps.length = N := ⟨_, rfl⟩
  rw [hNN] at HL hN c6
  unfold LocsP
  rw [hNN]
  have HN := Lib.hid hNN
  clear hNN
  go_enter Tryd.func19, Tryd.ntmps19
  go_wp2_with fail
  go_loopw [9] (fun i wr => ∃ (q : Nat) (bs : List Nat), q ≤ N ∧ i = .int .i64 q ∧ Hid (bs.length = q ∧ locsS l F (ps.take q) = some bs ∧ LK W wr g mb k mn base b l.length c (F : Nat) tt ct (.slice aV N cV) N (fndA l ((ps.take q).zip bs) (ps.drop q)) ns)) (fun i _ => N - (intOf i).toNat)
  case atStart => exact ⟨0, [], Nat.zero_le _, rfl, Lib.hid ⟨rfl, rfl, HL.out.1⟩⟩
  case round =>
    obtain ⟨q, bs, hq, rfl, HI⟩ := hrel
    have c6r : wr.cell? ⟨g, 6, none⟩ = some (.slice aV N cV) := by rw [blk_cell HI.out.2.2.blk]; rfl
    clear c6
    by_cases hlt : q < N
    · obtain ⟨p, hp⟩ : ∃ p, ps[q]? = some p := ⟨_, List.getElem?_eq_getElem (by rw [HN.out]; exact hlt)⟩
      have hpm : p ∈ ps := List.mem_of_getElem? hp
      have hdrop : ps.drop q = p :: ps.drop (q + 1) := by rw [List.drop_eq_getElem?_toList_append, hp]; rfl
      have htake : ps.take (q + 1) = ps.take q ++ [p] := by rw [List.take_add_one, hp]; rfl
      have hsz := HL.out.2.2 p hpm
      have hsg := szL_ge l p
      obtain ⟨G, cp, hV, _, _⟩ := HI.out.2.2.row.form (by omega)
      injection hV with hV1 _ hV2
      subst hV1
      subst hV2
      have hzl : ((ps.take q).zip bs).length = q := by rw [List.length_zip, List.length_take, HI.out.1, HN.out]; omega
      obtain ⟨hA, hS⟩ := fndA_split (l := l) (es := (ps.take q).zip bs) (ps := ps.drop (q + 1)) (p := p) (q := q) hzl (fun e he => by
        have h1 := HL.out.2.2 e.1 (List.mem_of_mem_take (List.of_mem_zip he).1)
        have h2 := szL_ge l e.1
        omega) (by omega)
      have hL := HI.out.2.2
      rw [hdrop, hS] at hL
      have hfl : (fndC l (p, 0) 0).length = 32 := fndC_len (by show p + 30 ≤ l.length; omega)
      have hlo := local_is (p := p) (o := q * 32) hL HL.out.2.1 hc hm hF hsz (by omega) (fun j u hu => by
        have hj : j < 32 := by
          rcases Nat.lt_or_ge j 32 with z | z
          · exact z
          · rw [List.getElem?_eq_none (by omega)] at hu; cases hu
        rw [List.getElem?_append_right (by omega), hA, show q * 32 + j - q * 32 = j by omega, List.getElem?_append_left (by omega)]
        exact hu)
      have HD := Lib.hid (And.intro hp (And.intro hdrop (And.intro htake (And.intro hA (And.intro hfl (And.intro hsz hsg))))))
      clear hp hpm hdrop htake hsz hsg hA hS hL hfl hzl
      go_wp2_with fail
      refine hlo.mono ?_
      rintro e w2 (⟨h1, rfl, hlow⟩ | ⟨a, h1, rfl, hL2⟩)
      · have hP : locsS l F ps = none := by
          have h2 : locsS l F (ps.take (q + 1)) = none := by rw [HD.out.2.2.1, locsS_snoc, HI.out.2.1, h1]; rfl
          have h3 := locsS_none (ps.drop (q + 1)) h2
          rwa [List.take_append_drop] at h3
        have HP := Lib.hid (And.intro hP hlow)
        clear hP hlow h1 hlo c6r
        go_wp2_with fail
        go_ret
        exact .inl ⟨HP.out.1, rfl, HP.out.2⟩
      · obtain ⟨hp, hdrop, htake, hA, hfl, hsz, hsg⟩ := HD.out
        have hz1 : (ps.take (q + 1)).zip (bs ++ [a]) = (ps.take q).zip bs ++ [(p, a)] := by
          rw [htake, List.zip_append (by rw [List.length_take, HI.out.1, HN.out]; omega)]; rfl
        rw [← hA, set_mid _ _ _ 5 _ (by omega), set_mid _ _ _ 31 _ (by rw [List.length_set]; omega), fndC_set (by omega)] at hL2
        have hR : List.flatMap (fun e => fndC l e (e.2 + pkL l e.1)) ((ps.take q).zip bs) ++ (fndC l (p, a) (a + pkL l p) ++ fndR l (ps.drop (q + 1))) = fndA l ((ps.take (q + 1)).zip (bs ++ [a])) (ps.drop (q + 1)) := by
          rw [hz1]; unfold fndA; rw [List.flatMap_append]; simp
        rw [hR] at hL2
        have h2 : locsS l F (ps.take (q + 1)) = some (bs ++ [a]) := by rw [htake, locsS_snoc, HI.out.2.1, h1]; rfl
        have HO := Lib.hid (And.intro h2 hL2)
        have HB := Lib.hid HI.out.1
        clear hp hdrop htake hA hfl hsz hsg hz1 hL2 hR h2 h1 hlo HD HI c6r
        go_wp2_with fail
        go_roundw
        case rel => exact ⟨q + 1, bs ++ [a], by omega, by go_num, Lib.hid ⟨by rw [List.length_append, HB.out]; rfl, HO.out.1, HO.out.2⟩⟩
        case measure => simp [intOf]; omega
    · obtain rfl : N = q := by omega
      go_wp2_with fail
      go_ret
      have hT : ps.take N = ps := List.take_of_length_le (by rw [HN.out]; exact Nat.le_refl _)
      have hD : ps.drop N = [] := List.drop_eq_nil_of_le (by rw [HN.out]; exact Nat.le_refl _)
      obtain ⟨h1, h2, h3⟩ := HI.out
      rw [hT] at h2 h3
      rw [hD] at h3
      exact .inr ⟨bs, h2, rfl, h3⟩
end
end Go.Proofs.YtimojfkpcmphfaaDoor
