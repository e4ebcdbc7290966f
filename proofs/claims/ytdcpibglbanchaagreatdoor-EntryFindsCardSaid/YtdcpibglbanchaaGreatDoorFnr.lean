/- The entry of a name, as the document finds it: contract of samovarref10.Find. Conditions: the bytes are bytes, no more than 6000. -/
import Derived.Test.YtdcpibglbanchaaGreatDoorFnd
import Derived.Test.YtdcpibglbanchaaGreatDoorRefT
set_option linter.unusedVariables false
set_option maxRecDepth 100000
namespace Go.Proofs.YtdcpibglbanchaaGreatDoor
open Go.RowKit Go.Maps Go.ChangeMaps

theorem unpRok {w w' : World} {s : Except Int (List Int)} {e : Ending} (h : UnpR w s e w') {b : List Int} (hs : s = .ok b) : Below w.heap.size w w' ∧ ∃ a c, e = .returned (.tuple #[.slice a b.length c, .int .i64 0]) ∧ Bytes b ∧ w'.ownsRow w.heap.size 5 1 (.slice a b.length c) b.length (b.map (Value.int .u8)) := by
  obtain ⟨hb, ⟨b', v, h1, h2, h3, a, c, rfl, h4⟩ | ⟨er, h1, _, _⟩⟩ := h
  · rw [hs] at h1; injection h1 with h1; subst h1; exact ⟨hb, a, c, h2, h3, h4⟩
  · rw [hs] at h1; cases h1
theorem unpRbad {w w' : World} {s : Except Int (List Int)} {e : Ending} (h : UnpR w s e w') {er : Int} (hs : s = .error er) : Below w.heap.size w w' ∧ er ≠ 0 ∧ e = .returned (.tuple #[.slice none 0 0, .int .i64 er]) := by
  obtain ⟨hb, ⟨b', v, h1, _⟩ | ⟨er', h1, h2, h3⟩⟩ := h
  · rw [hs] at h1; cases h1
  · rw [hs] at h1; injection h1 with h1; subst h1; exact ⟨hb, h2, h3⟩
theorem blk_lt_cell {w : World} {p : Addr} {v : Value} (h : w.cell? p = some v) : p.block < w.heap.size := by
  rcases Nat.lt_or_ge p.block w.heap.size with h1 | h1
  · exact h1
  · simp [World.cell?, Array.getElem?_eq_none h1] at h
set_option maxHeartbeats 16000000 in
theorem refFind_is (w : World) (a : Option Addr) (n c : Nat) (l : List Int) (hl : l.length = n) (hc : n ≤ c) (h6 : n ≤ 6000) (hcm : c ≤ 140737488351232) (hcA : a = none → c = 0) (hb : Bs w w.heap.size a l) (nm : ByteArray) :
    Calls Tryz.prog 13 #[.slice a n c, .string nm] w (UnpR w (findS l nm)) := by
  have hd := refDirX_is w a n c l hl hc (by omega) hb
  have HB := Lib.hid (And.intro hb (And.intro hcA (And.intro hl (And.intro hc trivial))))
  clear hb hcA
  go_enter Tryz.func13, Tryz.ntmps13
  go_wp2_with fail
  refine hd.mono ?_
  rintro e w2 (⟨er, h1, h2, rfl, hb2⟩ | ⟨es, V, h1, h64, rfl, ho, hb2⟩)
  · have t2 : (er != 0) = true := by simp [h2]
    have hS : findS l nm = .error er := by unfold findS; rw [h1]
    have H2 := Lib.hid (And.intro hb2 (And.intro hS h2))
    clear hd hb2 h1 h2 hS
    go_wp2_with fail
    go_ret2
    exact ⟨H2.out.1, .inr ⟨er, H2.out.2.1, H2.out.2.2, rfl⟩⟩
  · obtain ⟨aV, cV, rfl⟩ := own_shape ho
    have hcV := own_cap ho
    obtain ⟨hlen, hdS⟩ := dirX_inv h1
    obtain ⟨F, T, N, ps, bs, hK, hes⟩ := dirS_inv HB.out.1.1 hdS
    have hn65 : n ≤ 65536 := by have := HB.out.2.2.1; omega
    have hS : findS l nm = fndS l nm es := by unfold findS; rw [h1]
    obtain ⟨m, hmE⟩ : ∃ m, es.length = m := ⟨_, rfl⟩
    rw [hmE] at ho h64 hcV ⊢
    have H2 := Lib.hid (And.intro hb2 (And.intro ho (And.intro hmE (And.intro hK (And.intro hes hS)))))
    clear hd hb2 h1 ho hK hes hdS hlen hmE hS
    go_wp2_with fail
    go_loopw [8] (fun i wr => ∃ q : Nat, q ≤ m ∧ i = .int .i64 q ∧ Hid (Below w2.heap.size w2 wr ∧ fndS l nm es = fndS l nm (es.drop q))) (fun i _ => m - (intOf i).toNat)
    case atStart => exact ⟨0, Nat.zero_le _, rfl, Lib.hid ⟨Below.refl _ _, by rw [List.drop_zero]⟩⟩
    case round =>
      obtain ⟨q, hq, rfl, HI⟩ := hrel
      by_cases hq2 : q < m
      · obtain ⟨e, he⟩ : ∃ e, es[q]? = some e := ⟨_, List.getElem?_eq_getElem (by rw [H2.out.2.2.1]; exact hq2)⟩
        have hem : e ∈ ps.zip bs := by rw [← H2.out.2.2.2.2.1]; exact List.mem_of_getElem? he
        obtain ⟨_, _, f3, f4, f5, _, _⟩ := H2.out.2.2.2.1.ent hem
        have hown := own_below H2.out.2.1 HI.out.1
        obtain ⟨G, cp, hV, _, _⟩ := hown.form (by omega)
        injection hV with hV1 _ hV2
        subst hV1
        subst hV2
        have hrg : wr.rangeAt G (q * 7) (recC l e) := fun j v hv => by
          have hj : j < 7 := (List.getElem?_eq_some_iff.1 hv).1
          rw [hown.cellAt (q * 7 + j) (by omega), recR_at he hj]; exact hv
        have hdrop : es.drop q = e :: es.drop (q + 1) := by rw [List.drop_eq_getElem?_toList_append, he]; rfl
        have hfn : fndS l nm es = if nmT l e.1 = nm then entS l e else fndS l nm (es.drop (q + 1)) := by rw [HI.out.2, hdrop]; rfl
        obtain ⟨hd0, hhd0⟩ : ∃ x, hdL l e.1 = x := ⟨_, rfl⟩
        obtain ⟨pk0, hpk0⟩ : ∃ x, pkL l e.1 = x := ⟨_, rfl⟩
        obtain ⟨at0, hat0⟩ : ∃ x, e.2 = x := ⟨_, rfl⟩
        obtain ⟨nt, hnt⟩ : ∃ x, nmT l e.1 = x := ⟨_, rfl⟩
        obtain ⟨me, hme⟩ : ∃ x, numL l ((e.1 : Int) + 10) 2 = x := ⟨_, rfl⟩
        obtain ⟨sz, hsz⟩ : ∃ x, numL l ((e.1 : Int) + 24) 4 = x := ⟨_, rfl⟩
        obtain ⟨sm, hsm⟩ : ∃ x, numL l ((e.1 : Int) + 16) 4 = x := ⟨_, rfl⟩
        have hRC : recC l e = [.string nt, .int .i64 me, .int .i64 (pk0 : Nat), .int .i64 sz, .int .i64 sm, .int .i64 (at0 : Nat), .int .i64 (hd0 : Nat)] := by
          unfold recC; rw [hhd0, hpk0, hat0, hnt, hme, hsz, hsm]
        have hent : entS l e = unpackS me (pk0 : Nat) sz sm (cutOf l at0 (at0 + pk0)) := by unfold entS; rw [hpk0, hat0, hme, hsz, hsm]
        rw [hnt, hent] at hfn
        rw [hRC] at hrg
        have hS0 : wr.cell? ⟨G, q * 7, none⟩ = some (.string nt) ∧ wr.cell? ⟨G, q * 7 + 1, none⟩ = some (.int .i64 me) ∧ wr.cell? ⟨G, q * 7 + 2, none⟩ = some (.int .i64 (pk0 : Nat)) ∧ wr.cell? ⟨G, q * 7 + 3, none⟩ = some (.int .i64 sz) ∧ wr.cell? ⟨G, q * 7 + 4, none⟩ = some (.int .i64 sm) ∧ wr.cell? ⟨G, q * 7 + 5, none⟩ = some (.int .i64 (at0 : Nat)) ∧ wr.cell? ⟨G, q * 7 + 6, none⟩ = some (.int .i64 (hd0 : Nat)) := ⟨hrg 0 _ rfl, hrg 1 _ rfl, hrg 2 _ rfl, hrg 3 _ rfl, hrg 4 _ rfl, hrg 5 _ rfl, hrg 6 _ rfl⟩
        have hG : G < wr.heap.size := blk_lt_cell (hrg 0 _ rfl)
        have hbnd : at0 + pk0 ≤ n ∧ n ≤ 6000 := by have := HB.out.2.2.1; omega
        have HFN := Lib.hid hfn
        have x0 := hS0.1
        clear he hem f3 f4 f5 hown hdrop hfn hRC hhd0 hpk0 hat0 hnt hme hsz hsm hent hrg
        by_cases hnm : nt = nm
        · have t6 : (nt.toList == nm.toList) = true := by rw [beq_text, hnm]; simp
          have hfn := HFN.out
          rw [if_pos hnm] at hfn
          have HFN := Lib.hid (H2.out.2.2.2.2.2.trans hfn)
          clear hnm hfn
          have hA : a = none → n = 0 ∧ c = 0 := fun z => by
            obtain ⟨b, off, e, _⟩ := HB.out.1.2 (by have := HB.out.2.2.1; have := H2.out.2.2.2.1.tl; omega)
            rw [z] at e; cases e
          obtain ⟨E0, hE0⟩ : ∃ E0, at0 + pk0 = E0 := ⟨_, rfl⟩
          have a1' : IntKind.i64.wrap ((at0 : Int) + (pk0 : Int)) = (E0 : Int) := by rw [IntWalk.i64_in _ (by omega)]; omega
          obtain ⟨a2, c2, r2a, r2, b2, hc2, hc2', hA2⟩ := cut_lh a n c l HB.out.2.2.1 HB.out.2.2.2.1 hA at0 E0 (by omega) (by omega)
          rw [show E0 - at0 = pk0 by omega] at r2 r2a hc2 hA2
          have hlp : (cutOf l at0 E0).length = pk0 := by rw [cutOf_len (by have := HB.out.2.2.1; omega)]; omega
          have hbw : Below w.heap.size w wr.drew := low_drewN (below_next H2.out.1 (Nat.le_refl _) HI.out.1) 1
          have hbs : Bs wr.drew wr.drew.heap.size a2 (cutOf l at0 E0) := b2 _ _ (HB.out.1.next hbw)
          have hun := refUnpack wr.drew a2 pk0 c2 (cutOf l at0 E0) hlp hc2 (by omega) (by omega) (fun z => (hA2 z).2) hbs nt me (pk0 : Nat) sz sm (at0 : Nat) (hd0 : Nat)
          have HW := Lib.hid hbw
          have HFN := Lib.hid (show findS l nm = unpackS me (pk0 : Nat) sz sm (cutOf l at0 E0) by rw [← hE0]; exact HFN.out)
          unfold recV at hun
          have hSS : ∀ W, Below wr.drew.heap.size wr.drew W → W.cell? ⟨G, q * 7, none⟩ = some (.string nt) ∧ W.cell? ⟨G, q * 7 + 1, none⟩ = some (.int .i64 me) ∧ W.cell? ⟨G, q * 7 + 2, none⟩ = some (.int .i64 (pk0 : Nat)) ∧ W.cell? ⟨G, q * 7 + 3, none⟩ = some (.int .i64 sz) ∧ W.cell? ⟨G, q * 7 + 4, none⟩ = some (.int .i64 sm) ∧ W.cell? ⟨G, q * 7 + 5, none⟩ = some (.int .i64 (at0 : Nat)) ∧ W.cell? ⟨G, q * 7 + 6, none⟩ = some (.int .i64 (hd0 : Nat)) := fun W hb => by
            have hk : ∀ i, W.cell? ⟨G, i, none⟩ = wr.cell? ⟨G, i, none⟩ := fun i => hb.cell (p := ⟨G, i, none⟩) hG
            rw [hk, hk, hk, hk, hk, hk, hk]; exact hS0
          clear hA b2 hc2 hc2' hA2 hbw hbs x0 hG
          go_wp2_with fail
          cases hu : unpackS me (pk0 : Nat) sz sm (cutOf l at0 E0) with
          | error er =>
            have hun2 := hun.mono (R' := fun e w' => e = .returned (.tuple #[.slice none 0 0, .int .i64 er]) ∧ (w'.cell? ⟨G, q * 7, none⟩ = some (.string nt) ∧ w'.cell? ⟨G, q * 7 + 1, none⟩ = some (.int .i64 me) ∧ w'.cell? ⟨G, q * 7 + 2, none⟩ = some (.int .i64 (pk0 : Nat)) ∧ w'.cell? ⟨G, q * 7 + 3, none⟩ = some (.int .i64 sz) ∧ w'.cell? ⟨G, q * 7 + 4, none⟩ = some (.int .i64 sm) ∧ w'.cell? ⟨G, q * 7 + 5, none⟩ = some (.int .i64 (at0 : Nat)) ∧ w'.cell? ⟨G, q * 7 + 6, none⟩ = some (.int .i64 (hd0 : Nat))) ∧ Hid (er ≠ 0 ∧ Below w.heap.size w w')) (fun e w' h => by
              obtain ⟨h1, h2, h3⟩ := unpRbad h hu
              exact ⟨h3, hSS w' h1, Lib.hid ⟨h2, below_next HW.out (Nat.le_refl _) h1⟩⟩)
            have HU := Lib.hid hu
            clear hun hu hSS hlp hE0
            go_region_held3 (fun W => W.cell? ⟨G, q * 7, none⟩ = some (.string nt) ∧ W.cell? ⟨G, q * 7 + 1, none⟩ = some (.int .i64 me) ∧ W.cell? ⟨G, q * 7 + 2, none⟩ = some (.int .i64 (pk0 : Nat)) ∧ W.cell? ⟨G, q * 7 + 3, none⟩ = some (.int .i64 sz) ∧ W.cell? ⟨G, q * 7 + 4, none⟩ = some (.int .i64 sm) ∧ W.cell? ⟨G, q * 7 + 5, none⟩ = some (.int .i64 (at0 : Nat)) ∧ W.cell? ⟨G, q * 7 + 6, none⟩ = some (.int .i64 (hd0 : Nat))) (first | exact hS0 | exact h5 | go_keep) ((go_at_call 33; (with_reducible refine hun2.mono ?_); rintro e w6 ⟨rfl, h5, h6⟩))
            clear h5 hun2 hS0
            go_wp2_with fail
            go_ret2
            exact ⟨h6.out.2, .inr ⟨er, by rw [HFN.out, HU.out], h6.out.1, rfl⟩⟩
          | ok b =>
            have hun2 := hun.mono (R' := fun e w' => ∃ a3 c3, e = .returned (.tuple #[.slice a3 b.length c3, .int .i64 0]) ∧ (w'.cell? ⟨G, q * 7, none⟩ = some (.string nt) ∧ w'.cell? ⟨G, q * 7 + 1, none⟩ = some (.int .i64 me) ∧ w'.cell? ⟨G, q * 7 + 2, none⟩ = some (.int .i64 (pk0 : Nat)) ∧ w'.cell? ⟨G, q * 7 + 3, none⟩ = some (.int .i64 sz) ∧ w'.cell? ⟨G, q * 7 + 4, none⟩ = some (.int .i64 sm) ∧ w'.cell? ⟨G, q * 7 + 5, none⟩ = some (.int .i64 (at0 : Nat)) ∧ w'.cell? ⟨G, q * 7 + 6, none⟩ = some (.int .i64 (hd0 : Nat))) ∧ Hid (Bytes b ∧ w'.ownsRow w.heap.size 5 1 (.slice a3 b.length c3) b.length (b.map (Value.int .u8)) ∧ Below w.heap.size w w')) (fun e w' h => by
              obtain ⟨h1, a3, c3, h2, h3, h5⟩ := unpRok h hu
              exact ⟨a3, c3, h2, hSS w' h1, Lib.hid ⟨h3, own_base h5 HW.out.size, below_next HW.out (Nat.le_refl _) h1⟩⟩)
            have HU := Lib.hid hu
            clear hun hu hSS hlp hE0
            go_region_held3 (fun W => W.cell? ⟨G, q * 7, none⟩ = some (.string nt) ∧ W.cell? ⟨G, q * 7 + 1, none⟩ = some (.int .i64 me) ∧ W.cell? ⟨G, q * 7 + 2, none⟩ = some (.int .i64 (pk0 : Nat)) ∧ W.cell? ⟨G, q * 7 + 3, none⟩ = some (.int .i64 sz) ∧ W.cell? ⟨G, q * 7 + 4, none⟩ = some (.int .i64 sm) ∧ W.cell? ⟨G, q * 7 + 5, none⟩ = some (.int .i64 (at0 : Nat)) ∧ W.cell? ⟨G, q * 7 + 6, none⟩ = some (.int .i64 (hd0 : Nat))) (first | exact hS0 | exact h5 | go_keep) ((go_at_call 33; (with_reducible refine hun2.mono ?_); rintro e w6 ⟨a3, c3, rfl, h5, h6⟩))
            clear h5 hun2 hS0
            go_wp2_with fail
            go_ret2
            exact ⟨h6.out.2.2, .inl ⟨b, _, by rw [HFN.out, HU.out], rfl, h6.out.1, ⟨a3, c3, rfl, h6.out.2.1⟩⟩⟩
        · have t6 : (nt.toList == nm.toList) = false := by rw [beq_text, decide_eq_false hnm]
          have hfn := HFN.out
          rw [if_neg hnm] at hfn
          have HFN := Lib.hid hfn
          clear hnm hfn hS0
          go_wp2_with fail
          go_roundw
          case rel => exact ⟨q + 1, by omega, by go_num, Lib.hid ⟨HI.out.1, HFN.out⟩⟩
          case measure => simp [intOf]; omega
      · obtain rfl : m = q := by omega
        have hfn : findS l nm = .error 21 := by rw [H2.out.2.2.2.2.2, HI.out.2, List.drop_eq_nil_of_le (by rw [H2.out.2.2.1]; exact Nat.le_refl _)]; rfl
        have HFN := Lib.hid hfn
        clear hfn
        go_wp2_with fail
        go_ret2
        exact ⟨below_next H2.out.1 (Nat.le_refl _) HI.out.1, .inr ⟨21, HFN.out, by decide, rfl⟩⟩
end Go.Proofs.YtdcpibglbanchaaGreatDoor
