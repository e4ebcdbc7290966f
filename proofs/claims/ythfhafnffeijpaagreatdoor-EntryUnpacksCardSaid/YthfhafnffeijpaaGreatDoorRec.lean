/- A record as an argument; what an answered entry has. No condition. -/
import Derived.Test.YthfhafnffeijpaaGreatDoorFix10
import Derived.Test.YthfhafnffeijpaaGreatDoorTiedE
import Derived.ChangeArms
set_option linter.unusedVariables false
set_option maxRecDepth 100000
namespace Go.Proofs.YthfhafnffeijpaaGreatDoor
open Go.RowKit Go.Maps Go.ChangeMaps

theorem len7 {cs : List Value} (h : cs.length = 7) : ∃ a b c d e f g, cs = [a, b, c, d, e, f, g] := by
  rcases cs with _ | ⟨a, _ | ⟨b, _ | ⟨c, _ | ⟨d, _ | ⟨e, _ | ⟨f, _ | ⟨g, _ | ⟨x, r⟩⟩⟩⟩⟩⟩⟩⟩ <;> simp at h
  exact ⟨a, b, c, d, e, f, g, rfl⟩
theorem One.record {H : Type} {enc : TypeId × Value → H} {K : Option Nat} {W : World} {v : Value} {d : DataW H} {p : List MemPlace} (h : One H enc K W 23 v d p) :
    ∃ (nm : ByteArray) (me pk sz sm at_ hd : Int), v = recV nm me pk sz sm at_ hd ∧ nm.size ≤ maxLen ∧ (Lit.int .i64 me).wf = true ∧ (Lit.int .i64 pk).wf = true ∧ (Lit.int .i64 sz).wf = true ∧ (Lit.int .i64 sm).wf = true ∧ (Lit.int .i64 at_).wf = true ∧ (Lit.int .i64 hd).wf = true := by
  obtain ⟨base, hv⟩ := h.size
  simp only [Value.okWide, Tryz.underlying23] at hv
  obtain ⟨cs, rfl, hcs, _⟩ := hv
  obtain ⟨fuel, hf⟩ := h.read
  obtain ⟨xs, n, _, _, hl, hxs, hfs⟩ := DataW.trod_struct Tryz.underlying23 hf
  simp only [Value.cells] at hl hfs
  have hc : Tryz.prog.cellsOf 23 = 7 := by kernel_rfl
  rw [hc] at hl
  obtain ⟨c0, c1, c2, c3, c4, c5, c6, e⟩ := len7 hl
  have hx7 : xs.length = 7 := hxs
  have get : ∀ i, i < 7 → ∃ y, xs[i]? = some y := fun i hi => ⟨xs[i]'(by omega), List.getElem?_eq_getElem (by omega)⟩
  rw [e] at hfs
  have hci : Tryz.prog.cellsOf 3 = 1 := by kernel_rfl
  have hcs' : Tryz.prog.cellsOf 9 = 1 := by kernel_rfl
  obtain ⟨y0, k0⟩ := get 0 (by decide)
  obtain ⟨y1, k1⟩ := get 1 (by decide)
  obtain ⟨y2, k2⟩ := get 2 (by decide)
  obtain ⟨y3, k3⟩ := get 3 (by decide)
  obtain ⟨y4, k4⟩ := get 4 (by decide)
  obtain ⟨y5, k5⟩ := get 5 (by decide)
  obtain ⟨y6, k6⟩ := get 6 (by decide)
  have q0 := (hfs 0 _ rfl).trans k0
  have q1 := (hfs 1 _ rfl).trans k1
  have q2 := (hfs 2 _ rfl).trans k2
  have q3 := (hfs 3 _ rfl).trans k3
  have q4 := (hfs 4 _ rfl).trans k4
  have q5 := (hfs 5 _ rfl).trans k5
  have q6 := (hfs 6 _ rfl).trans k6
  change DataW.trod enc Tryz.prog W 0 (fun _ => true) true n 9 (List.take (Tryz.prog.cellsOf 9) [c0, c1, c2, c3, c4, c5, c6]) = some y0 at q0
  change DataW.trod enc Tryz.prog W 0 (fun _ => true) true n 3 (List.take (Tryz.prog.cellsOf 3) [c1, c2, c3, c4, c5, c6]) = some y1 at q1
  change DataW.trod enc Tryz.prog W 0 (fun _ => true) true n 3 (List.take (Tryz.prog.cellsOf 3) [c2, c3, c4, c5, c6]) = some y2 at q2
  change DataW.trod enc Tryz.prog W 0 (fun _ => true) true n 3 (List.take (Tryz.prog.cellsOf 3) [c3, c4, c5, c6]) = some y3 at q3
  change DataW.trod enc Tryz.prog W 0 (fun _ => true) true n 3 (List.take (Tryz.prog.cellsOf 3) [c4, c5, c6]) = some y4 at q4
  change DataW.trod enc Tryz.prog W 0 (fun _ => true) true n 3 (List.take (Tryz.prog.cellsOf 3) [c5, c6]) = some y5 at q5
  change DataW.trod enc Tryz.prog W 0 (fun _ => true) true n 3 (List.take (Tryz.prog.cellsOf 3) [c6]) = some y6 at q6
  rw [hcs'] at q0
  rw [hci] at q1 q2 q3 q4 q5 q6
  obtain ⟨s, s0, _, s2⟩ := DataW.trod_string Tryz.underlying9 q0
  obtain ⟨n1, r1, _, t1⟩ := DataW.trod_int Tryz.underlying3 q1
  obtain ⟨n2, r2, _, t2⟩ := DataW.trod_int Tryz.underlying3 q2
  obtain ⟨n3, r3, _, t3⟩ := DataW.trod_int Tryz.underlying3 q3
  obtain ⟨n4, r4, _, t4⟩ := DataW.trod_int Tryz.underlying3 q4
  obtain ⟨n5, r5, _, t5⟩ := DataW.trod_int Tryz.underlying3 q5
  obtain ⟨n6, r6, _, t6⟩ := DataW.trod_int Tryz.underlying3 q6
  injection s0 with s0
  injection r1 with r1
  injection r2 with r2
  injection r3 with r3
  injection r4 with r4
  injection r5 with r5
  injection r6 with r6
  subst s0 r1 r2 r3 r4 r5 r6
  refine ⟨s, n1, n2, n3, n4, n5, n6, ?_, s2, t1, t2, t3, t4, t5, t6⟩
  unfold recV
  congr 1
  exact Array.ext' (by simpa using e)
theorem byE_getD {l : List Int} (h : Bytes l) (i : Nat) : 0 ≤ l.getD i 0 ∧ l.getD i 0 ≤ 255 := by
  rw [List.getD_eq_getElem?_getD]
  by_cases hi : i < l.length
  · rw [List.getElem?_eq_getElem hi]; exact h _ (List.getElem_mem hi)
  · rw [List.getElem?_eq_none (by omega)]; decide
theorem own_cellE {w : World} {base g n c : Nat} {l : List Int} (h : w.ownsRow base 5 1 (.slice (some ⟨g, 0, none⟩) n c) n (l.map (Value.int .u8))) (hl : l.length = n) {i : Nat} (hi : i < n) : w.cell? ⟨g, i, none⟩ = some (.int .u8 (l.getD i 0)) := by
  rw [own_byte h hl hi, List.getD_eq_getElem?_getD, List.getElem?_eq_getElem (by omega)]
theorem unpack_val {me pk sz sm : Int} {l b : List Int} (h : unpackS me pk sz sm l = .ok b) : (b.length : Int) = sz ∧ sumOf 0 b = sm := by
  unfold unpackS at h
  split at h
  · cases h
  · rename_i hbad
    split at h
    · cases h
    · cases hp : plainS me pk sz l with
      | error e => rw [hp] at h; cases h
      | ok b' =>
        rw [hp] at h
        unfold sumS at h
        simp only at h
        split at h
        · cases h
        · rename_i hsm
          injection h with h
          subst h
          refine ⟨?_, by simpa using hsm⟩
          unfold plainS at hp
          split at hp
          · split at hp
            · cases hp
            · rename_i hps
              injection hp with hp
              subst hp
              have : pk = sz := by simpa using hps
              omega
          · split at hp
            · cases hp
            · split at hp
              · cases hp
              · rename_i hc
                injection hp with hp
                subst hp
                exact Decidable.byContradiction fun e => hc (.inl e)
end Go.Proofs.YthfhafnffeijpaaGreatDoor
