/- The central records are read: contract of central. Conditions: the bytes are bytes; the variable internal/bytealg.MaxLen has a value. -/
import Derived.Test.YtimojfkpcmphfaaDoorDj
set_option linter.unusedVariables false
set_option maxRecDepth 100000
namespace Go.Proofs.YtimojfkpcmphfaaDoor
open Go.RowKit Go.Maps Go.ChangeMaps

/-- what was found of central records at these places -/
def fndR (l : List Int) (ps : List Nat) : List Value := ps.flatMap fun p => fndC l (p, 0) 0
theorem fndR_app (l : List Int) (ps : List Nat) (p : Nat) : fndR l (ps ++ [p]) = fndR l ps ++ fndC l (p, 0) 0 := by unfold fndR; simp
section
variable {W w : World} {g mb k mn base : Nat} {b : Option Addr} {c : Nat} {V : Value} {l : List Int} {T F N : Nat}
/-- what central answers -/
def CenP (l : List Int) (T F N : Nat) (W : World) (g mb k mn base : Nat) (b : Option Addr) (c : Nat) (e : Ending) (w' : World) : Prop :=
  (∃ er, cenS l T N F [] = .error er ∧ er ≠ 0 ∧ e = .returned (.int .i64 er) ∧ Below W.heap.size W w') ∨
  (∃ ps V', cenS l T N F [] = .ok ps ∧ e = .returned (.int .i64 0) ∧ LK W w' g mb k mn base b l.length c (F : Nat) (T : Nat) (N : Nat) V' ps.length (fndR l ps) (ps.map (nmU l)))
set_option maxHeartbeats 4000000 in
theorem central_is (h : LK W w g mb k mn base b l.length c (F : Nat) (T : Nat) (N : Nat) (.slice none 0 0) 0 [] []) (hb : Bs W W.heap.size b l) (hc : l.length ≤ c) (hm : l.length ≤ 65536) (hT : T ≤ l.length) (hF : F ≤ T) (hN : N ≤ 64) :
    Calls Tryd.prog 18 #[.pointer (some ⟨g, 0, none⟩)] w (CenP l T F N W g mb k mn base b c) := by
  have c2 : w.cell? ⟨g, 2, none⟩ = some (.int .i64 (F : Int)) := by rw [blk_cell h.blk]; rfl
  have c4 : w.cell? ⟨g, 4, none⟩ = some (.int .i64 (N : Int)) := by rw [blk_cell h.blk]; rfl
  have HL := Lib.hid (And.intro h hb)
  clear h hb
  go_enter Tryd.func18, Tryd.ntmps18
  go_wp2_with fail
  go_loopw [3, 14] (fun v i wr => ∃ (q a : Nat) (ps : List Nat) (V' : Value), q ≤ N ∧ ps.length = q ∧ a ≤ T ∧ v = .int .i64 a ∧ i = .int .i64 q ∧ Hid (cenS l T N F [] = cenS l T (N - q) a ps) ∧ Hid (LK W wr g mb k mn base b l.length c (F : Nat) (T : Nat) (N : Nat) V' q (fndR l ps) (ps.map (nmU l)))) (fun _ i _ => N - (intOf i).toNat)
  case atStart => exact ⟨0, F, [], _, Nat.zero_le _, rfl, hF, rfl, rfl, Lib.hid rfl, HL.out.1⟩
  case round =>
    obtain ⟨q, a, ps, V', hq, hps, ha, rfl, rfl, HC, HW⟩ := hrel
    by_cases hlt : q < N
    · have hrec := record_is (at_ := a) HW.out HL.out.2 hc hm hT ha (by rw [List.length_map]; omega) (by omega)
      obtain ⟨M, hM⟩ : ∃ M, N - q = M + 1 := ⟨N - q - 1, by omega⟩
      have hstep : cenS l T (M + 1) a ps = if recS l T a (ps.map (nmU l)) ≠ 0 then .error (recS l T a (ps.map (nmU l))) else cenS l T M (a + szL l a) (ps ++ [a]) := rfl
      have HS := Lib.hid (And.intro hM hstep)
      clear hM hstep c2 c4
      go_wp2_with fail
      refine hrec.mono ?_
      rintro e w2 (⟨s, h1, rfl, hlow⟩ | ⟨h1, rfl, V2, hL2⟩)
      · have t1 : (recS l T a (ps.map (nmU l)) != 0) = true := by simpa using h1
        have HO := Lib.hid (And.intro h1 hlow)
        clear hrec h1 hlow
        generalize hE : recS l T a (ps.map (nmU l)) = er at *
        go_wp2_with fail
        go_ret
        refine .inl ⟨er, ?_, HO.out.1, rfl, HO.out.2⟩
        rw [HC.out, HS.out.1, HS.out.2, if_pos HO.out.1]
      · have hok := recS_ok h1
        have HO := Lib.hid (And.intro h1 hL2)
        have hsz : a + szL l a ≤ T := hok.2.2.1
        clear hrec h1 hL2 hok
        generalize hZ : szL l a = z at *
        go_wp2_with fail
        go_roundw
        case rel =>
          refine ⟨q + 1, a + z, ps ++ [a], V2, by omega, by simp [hps], by omega, by go_num, by go_num, Lib.hid ?_, Lib.hid ?_⟩
          · rw [HC.out, HS.out.1, HS.out.2, if_neg (by rw [HO.out.1]; simp), show N - (q + 1) = M by have := HS.out.1; omega]
          · rw [fndR_app, List.map_append]; exact HO.out.2
        case measure => simp [intOf]; omega
    · obtain rfl : N = q := by omega
      have c3 : wr.cell? ⟨g, 3, none⟩ = some (.int .i64 (T : Int)) := by rw [blk_cell HW.out.blk]; rfl
      have hend : cenS l T N F [] = if a < T then .error 11 else .ok ps := by rw [HC.out, Nat.sub_self]; rfl
      have HE := Lib.hid hend
      clear hend HC c2 c4
      by_cases h1 : a < T
      · have t1 : decide ((a : Int) < T) = true := by simp; omega
        go_wp2_with fail
        go_ret
        exact .inl ⟨11, by rw [HE.out, if_pos h1], by decide, rfl, HW.out.low⟩
      · have t1 : decide ((a : Int) < T) = false := by simp; omega
        go_wp2_with fail
        go_ret
        exact .inr ⟨ps, V', by rw [HE.out, if_neg h1], rfl, by rw [hps]; exact HW.out⟩
end
end Go.Proofs.YtimojfkpcmphfaaDoor
