/- The entry of a name: contract of entry's Find. Conditions: the bytes are bytes; the order of the lengths lies where the program's own text lays it; the variable internal/bytealg.MaxLen has a value. -/
import Derived.Test.YtdcpibglbanchaaDoorEg
import Derived.Test.YtdcpibglbanchaaDoorFix10
set_option linter.unusedVariables false
set_option maxRecDepth 100000
namespace Go.Proofs.YtdcpibglbanchaaDoor
open Go.RowKit Go.Maps Go.ChangeMaps

/-- the bytes of the entry that a record tells -/
def entS (l : List Int) (e : Nat × Nat) : Except Int (List Int) := unpackS (numL l ((e.1 : Int) + 10) 2) (pkL l e.1) (numL l ((e.1 : Int) + 24) 4) (numL l ((e.1 : Int) + 16) 4) (cutOf l e.2 (e.2 + pkL l e.1))
/-- the bytes of the first entry of a name among some -/
def fndS (l : List Int) (nm : ByteArray) : List (Nat × Nat) → Except Int (List Int)
  | [] => .error 21
  | e :: es => if nmT l e.1 = nm then entS l e else fndS l nm es
/-- the bytes of the entry of a name -/
def findS (l : List Int) (nm : ByteArray) : Except Int (List Int) := match dirX l with
  | .error e => .error e
  | .ok es => fndS l nm es
theorem beq_text {a b : ByteArray} : (a.toList == b.toList) = decide (a = b) := by
  rw [Bool.eq_iff_iff, beq_iff_eq, decide_eq_true_iff, Lib.toList_data, Lib.toList_data]
  constructor
  · intro h
    have h2 : a.data = b.data := Array.toList_inj.1 h
    cases a; cases b; simp at h2; rw [h2]
  · rintro rfl; rfl
set_option maxHeartbeats 16000000 in
theorem find_is (w : World) (a : Option Addr) (n c : Nat) (l : List Int) (hl : l.length = n) (hc : n ≤ c) (hM : n ≤ 140737488355328) (hb : Bs w w.heap.size a l) (nm : ByteArray) (hmx : Mx w) (hord : Ord w) :
    Calls Tryd.prog 6 #[.slice a n c, .string nm] w (Unp w (findS l nm)) := by
  have hd := dirX_is w a n c l hl hc hM hb hmx
  have HB := Lib.hid (And.intro hb (And.intro hmx (And.intro hl (And.intro hc hord))))
  clear hb hmx hord
  go_enter Tryd.func6, Tryd.ntmps6
  go_wp2_with fail
  refine hd.mono ?_
  rintro e w2 (⟨er, h1, h2, rfl, hb2⟩ | ⟨es, V, h1, h64, rfl, ho, hb2⟩)
  · have t2 : (er != 0) = true := by simp [h2]
    have hS : findS l nm = .error er := by unfold findS; rw [h1]
    have H2 := Lib.hid (And.intro hb2 (And.intro hS h2))
    clear hd hb2 h1 h2 hS
    go_wp2_with fail
    go_ret2
    exact ⟨H2.out.1, .inr ⟨er, H2.out.2.1, H2.out.2.2, rfl⟩⟩
  · obtain ⟨aV, cV, rfl⟩ := own_shape ho
    have hcV := own_cap ho
    obtain ⟨hlen, hdS⟩ := dirX_inv h1
    obtain ⟨F, T, N, ps, bs, hK, hes⟩ := dirS_inv HB.out.1.1 hdS
    have hn65 : n ≤ 65536 := by have := HB.out.2.2.1; omega
    have hS : findS l nm = fndS l nm es := by unfold findS; rw [h1]
    obtain ⟨m, hmE⟩ : ∃ m, es.length = m := ⟨_, rfl⟩
    rw [hmE] at ho h64 hcV ⊢
    have H2 := Lib.hid (And.intro hb2 (And.intro ho (And.intro hmE (And.intro hK (And.intro hes hS)))))
    clear hd hb2 h1 ho hK hes hdS hlen hmE hS
    go_wp2_with fail
    go_loopw [20] (fun i wr => ∃ q : Nat, q ≤ m ∧ i = .int .i64 q ∧ Hid (Below w2.heap.size w2 wr ∧ fndS l nm es = fndS l nm (es.drop q))) (fun i _ => m - (intOf i).toNat)
    case atStart => exact ⟨0, Nat.zero_le _, rfl, Lib.hid ⟨Below.refl _ _, by rw [List.drop_zero]⟩⟩
    case round =>
      obtain ⟨q, hq, rfl, HI⟩ := hrel
      by_cases hq2 : q < m
      · obtain ⟨e, he⟩ : ∃ e, es[q]? = some e := ⟨_, List.getElem?_eq_getElem (by rw [H2.out.2.2.1]; exact hq2)⟩
        have hem : e ∈ ps.zip bs := by rw [← H2.out.2.2.2.2.1]; exact List.mem_of_getElem? he
        obtain ⟨_, _, f3, f4, f5, _, _⟩ := H2.out.2.2.2.1.ent hem
        have hown := own_below H2.out.2.1 HI.out.1
        obtain ⟨G, cp, hV, _, _⟩ := hown.form (by omega)
        injection hV with hV1 _ hV2
        subst hV1
        subst hV2
        have hrg : wr.rangeAt G (q * 7) (recC l e) := fun j v hv => by
          have hj : j < 7 := (List.getElem?_eq_some_iff.1 hv).1
          rw [hown.cellAt (q * 7 + j) (by omega), recR_at he hj]; exact hv
        have hdrop : es.drop q = e :: es.drop (q + 1) := by rw [List.drop_eq_getElem?_toList_append, he]; rfl
        have hfn : fndS l nm es = if nmT l e.1 = nm then entS l e else fndS l nm (es.drop (q + 1)) := by rw [HI.out.2, hdrop]; rfl
        have hone := all_oneCell_toArray (recC_one l e)
        have h7r := recC_len l e
        obtain ⟨hd0, hhd0⟩ : ∃ x, hdL l e.1 = x := ⟨_, rfl⟩
        obtain ⟨pk0, hpk0⟩ : ∃ x, pkL l e.1 = x := ⟨_, rfl⟩
        obtain ⟨at0, hat0⟩ : ∃ x, e.2 = x := ⟨_, rfl⟩
        obtain ⟨nt, hnt⟩ : ∃ x, nmT l e.1 = x := ⟨_, rfl⟩
        obtain ⟨me, hme⟩ : ∃ x, numL l ((e.1 : Int) + 10) 2 = x := ⟨_, rfl⟩
        obtain ⟨sz, hsz⟩ : ∃ x, numL l ((e.1 : Int) + 24) 4 = x := ⟨_, rfl⟩
        obtain ⟨sm, hsm⟩ : ∃ x, numL l ((e.1 : Int) + 16) 4 = x := ⟨_, rfl⟩
        have hRC : recC l e = [.string nt, .int .i64 me, .int .i64 (pk0 : Nat), .int .i64 sz, .int .i64 sm, .int .i64 (at0 : Nat), .int .i64 (hd0 : Nat)] := by
          unfold recC; rw [hhd0, hpk0, hat0, hnt, hme, hsz, hsm]
        have hent : entS l e = unpackS me (pk0 : Nat) sz sm (cutOf l at0 (at0 + pk0)) := by unfold entS; rw [hpk0, hat0, hme, hsz, hsm]
        rw [hnt, hent] at hfn
        rw [hRC] at hone h7r hrg
        have hF : ∀ (wf : World) (o : Obj), wf.heap[wr.heap.size]? = some (.cells #[.string nt, .int .i64 me, .int .i64 (pk0 : Nat), .int .i64 sz, .int .i64 sm, .int .i64 (at0 : Nat), .int .i64 (hd0 : Nat)] 30 (0, 0)) → Only wr.heap.size (wr.alloc o) wf →
            Hid (Below w2.heap.size w2 wf) ∧ wf.cell? ⟨wr.heap.size, 0, none⟩ = some (.string nt) ∧ wf.cell? ⟨wr.heap.size, 1, none⟩ = some (.int .i64 me) ∧ wf.cell? ⟨wr.heap.size, 2, none⟩ = some (.int .i64 (pk0 : Nat)) ∧ wf.cell? ⟨wr.heap.size, 3, none⟩ = some (.int .i64 sz) ∧ wf.cell? ⟨wr.heap.size, 4, none⟩ = some (.int .i64 sm) ∧ wf.cell? ⟨wr.heap.size, 5, none⟩ = some (.int .i64 (at0 : Nat)) ∧ wf.cell? ⟨wr.heap.size, 6, none⟩ = some (.int .i64 (hd0 : Nat)) ∧ wr.heap.size < wf.heap.size := fun wf o hwf hof => by
          have hbf : Below wr.heap.size wr wf := low_only ((Below.refl wr.heap.size wr).alloc (Nat.le_refl _) o) hof (Nat.le_refl _) (Nat.le_refl _)
          exact ⟨Lib.hid (below_next HI.out.1 (Nat.le_refl _) hbf), by rw [blk_cell hwf]; rfl, by rw [blk_cell hwf]; rfl, by rw [blk_cell hwf]; rfl, by rw [blk_cell hwf]; rfl, by rw [blk_cell hwf]; rfl, by rw [blk_cell hwf]; rfl, by rw [blk_cell hwf]; rfl, blk_lt hwf⟩
        have hbnd : at0 + pk0 ≤ n ∧ n ≤ 65536 := by have := HB.out.2.2.1; omega
        have HFN := Lib.hid hfn
        clear he hem f3 f4 f5 hown hdrop hfn hRC hhd0 hpk0 hat0 hnt hme hsz hsm hent
        by_cases hnm : nt = nm
        · have t6 : (nt.toList == nm.toList) = true := by rw [beq_text, hnm]; simp
          have hfn := HFN.out
          rw [if_pos hnm] at hfn
          have HFN := Lib.hid (H2.out.2.2.2.2.2.trans hfn)
          clear hnm hfn
          go_wp2_with (first | (refine rec_ld rfl rfl G (q * 7) rfl h7r hrg ?_) | (refine rec_st rfl rfl wr.heap.size rfl rfl (by simp) rfl hone (heap_alloc_new _ _) ?_; intro wf hwf hof; obtain ⟨HF, x0, x1, x2, x3, x4, x5, x6, hlt⟩ := hF wf _ hwf hof; clear hwf hof hF))
          have hA : a = none → n = 0 ∧ c = 0 := fun z => by
            obtain ⟨b, off, e, _⟩ := HB.out.1.2 (by have := HB.out.2.2.1; have := H2.out.2.2.2.1.tl; omega)
            rw [z] at e; cases e
          obtain ⟨a1, c1, _, r1, b1, hc1, hc1', hA1⟩ := cut_l a n c l HB.out.2.2.1 HB.out.2.2.2.1 hA at0 (by omega)
          have hlc : (cutOf l at0 n).length = n - at0 := cutOf_len (by have := HB.out.2.2.1; omega)
          obtain ⟨a2, c2, _, r2, b2, hc2, hc2', hA2⟩ := DI.cut_h a1 (n - at0) c1 (cutOf l at0 n) hlc hc1 hA1 pk0 (by omega)
          have hcc : (cutOf l at0 n).take pk0 = cutOf l at0 (at0 + pk0) := by
            unfold cutOf; rw [List.take_take]; congr 1; omega
          have hlp : (cutOf l at0 (at0 + pk0)).length = pk0 := by rw [cutOf_len (by have := HB.out.2.2.1; omega)]; omega
          have hbw : Below w.heap.size w wf.drew := low_drewN (below_next H2.out.1 (Nat.le_refl _) HF.out) 1
          have hbs : Bs wf.drew wf.drew.heap.size a2 (cutOf l at0 (at0 + pk0)) := by rw [← hcc]; exact b2 _ _ (b1 _ _ (HB.out.1.next hbw))
          have hun := unpack_is wf.drew a2 pk0 c2 (cutOf l at0 (at0 + pk0)) hlp (by omega) hbs nt me (pk0 : Nat) sz sm (at0 : Nat) (hd0 : Nat) (HB.out.2.2.2.2.below hbw)
          have HW := Lib.hid hbw
          unfold recV at hun
          clear hA b1 hc1 hc1' hA1 hlc b2 hc2 hc2' hA2 hcc hlp hbw hbs
          generalize wr.heap.size = bf at *
          have hS0 : wf.cell? ⟨bf, 0, none⟩ = some (.string nt) ∧ wf.cell? ⟨bf, 1, none⟩ = some (.int .i64 me) ∧ wf.cell? ⟨bf, 2, none⟩ = some (.int .i64 (pk0 : Nat)) ∧ wf.cell? ⟨bf, 3, none⟩ = some (.int .i64 sz) ∧ wf.cell? ⟨bf, 4, none⟩ = some (.int .i64 sm) ∧ wf.cell? ⟨bf, 5, none⟩ = some (.int .i64 (at0 : Nat)) ∧ wf.cell? ⟨bf, 6, none⟩ = some (.int .i64 (hd0 : Nat)) := ⟨x0, x1, x2, x3, x4, x5, x6⟩
          have hSS : ∀ W, Below wf.drew.heap.size wf.drew W → W.cell? ⟨bf, 0, none⟩ = some (.string nt) ∧ W.cell? ⟨bf, 1, none⟩ = some (.int .i64 me) ∧ W.cell? ⟨bf, 2, none⟩ = some (.int .i64 (pk0 : Nat)) ∧ W.cell? ⟨bf, 3, none⟩ = some (.int .i64 sz) ∧ W.cell? ⟨bf, 4, none⟩ = some (.int .i64 sm) ∧ W.cell? ⟨bf, 5, none⟩ = some (.int .i64 (at0 : Nat)) ∧ W.cell? ⟨bf, 6, none⟩ = some (.int .i64 (hd0 : Nat)) := fun W hb => by
            have hk : ∀ i, W.cell? ⟨bf, i, none⟩ = wf.cell? ⟨bf, i, none⟩ := fun i => hb.cell (p := ⟨bf, i, none⟩) hlt
            rw [hk, hk, hk, hk, hk, hk, hk]; exact hS0
          clear x0 x1 x2 x3 x4 x5 x6
          cases hu : unpackS me (pk0 : Nat) sz sm (cutOf l at0 (at0 + pk0)) with
          | error er =>
            have hun2 := hun.mono (R' := fun e w' => e = .returned (.tuple #[.slice none 0 0, .int .i64 er]) ∧ (w'.cell? ⟨bf, 0, none⟩ = some (.string nt) ∧ w'.cell? ⟨bf, 1, none⟩ = some (.int .i64 me) ∧ w'.cell? ⟨bf, 2, none⟩ = some (.int .i64 (pk0 : Nat)) ∧ w'.cell? ⟨bf, 3, none⟩ = some (.int .i64 sz) ∧ w'.cell? ⟨bf, 4, none⟩ = some (.int .i64 sm) ∧ w'.cell? ⟨bf, 5, none⟩ = some (.int .i64 (at0 : Nat)) ∧ w'.cell? ⟨bf, 6, none⟩ = some (.int .i64 (hd0 : Nat))) ∧ Hid (er ≠ 0 ∧ Below w.heap.size w w')) (fun e w' h => by
              obtain ⟨h1, h2, h3⟩ := unp_bad h hu
              exact ⟨h3, hSS w' h1, Lib.hid ⟨h2, below_next HW.out (Nat.le_refl _) h1⟩⟩)
            have HU := Lib.hid hu
            clear hun hu hSS
            go_region_held3 (fun W => W.cell? ⟨bf, 0, none⟩ = some (.string nt) ∧ W.cell? ⟨bf, 1, none⟩ = some (.int .i64 me) ∧ W.cell? ⟨bf, 2, none⟩ = some (.int .i64 (pk0 : Nat)) ∧ W.cell? ⟨bf, 3, none⟩ = some (.int .i64 sz) ∧ W.cell? ⟨bf, 4, none⟩ = some (.int .i64 sm) ∧ W.cell? ⟨bf, 5, none⟩ = some (.int .i64 (at0 : Nat)) ∧ W.cell? ⟨bf, 6, none⟩ = some (.int .i64 (hd0 : Nat))) (first | exact hS0 | exact h5 | go_keep) ((go_at_call 8; (with_reducible refine hun2.mono ?_); rintro e w6 ⟨rfl, h5, h6⟩))
            clear h5 hun2 hS0
            go_wp2_with fail
            go_ret2
            exact ⟨h6.out.2, .inr ⟨er, by rw [HFN.out, HU.out], h6.out.1, rfl⟩⟩
          | ok b =>
            have hun2 := hun.mono (R' := fun e w' => ∃ a3 c3, e = .returned (.tuple #[.slice a3 b.length c3, .int .i64 0]) ∧ (w'.cell? ⟨bf, 0, none⟩ = some (.string nt) ∧ w'.cell? ⟨bf, 1, none⟩ = some (.int .i64 me) ∧ w'.cell? ⟨bf, 2, none⟩ = some (.int .i64 (pk0 : Nat)) ∧ w'.cell? ⟨bf, 3, none⟩ = some (.int .i64 sz) ∧ w'.cell? ⟨bf, 4, none⟩ = some (.int .i64 sm) ∧ w'.cell? ⟨bf, 5, none⟩ = some (.int .i64 (at0 : Nat)) ∧ w'.cell? ⟨bf, 6, none⟩ = some (.int .i64 (hd0 : Nat))) ∧ Hid (Bytes b ∧ b.length ≤ 32768 ∧ w'.ownsRow w.heap.size 5 1 (.slice a3 b.length c3) b.length (b.map (Value.int .u8)) ∧ Below w.heap.size w w')) (fun e w' h => by
              obtain ⟨h1, a3, c3, h2, h3, h4, h5⟩ := unp_ok h hu
              exact ⟨a3, c3, h2, hSS w' h1, Lib.hid ⟨h3, h4, own_base h5 HW.out.size, below_next HW.out (Nat.le_refl _) h1⟩⟩)
            have HU := Lib.hid hu
            clear hun hu hSS
            go_region_held3 (fun W => W.cell? ⟨bf, 0, none⟩ = some (.string nt) ∧ W.cell? ⟨bf, 1, none⟩ = some (.int .i64 me) ∧ W.cell? ⟨bf, 2, none⟩ = some (.int .i64 (pk0 : Nat)) ∧ W.cell? ⟨bf, 3, none⟩ = some (.int .i64 sz) ∧ W.cell? ⟨bf, 4, none⟩ = some (.int .i64 sm) ∧ W.cell? ⟨bf, 5, none⟩ = some (.int .i64 (at0 : Nat)) ∧ W.cell? ⟨bf, 6, none⟩ = some (.int .i64 (hd0 : Nat))) (first | exact hS0 | exact h5 | go_keep) ((go_at_call 8; (with_reducible refine hun2.mono ?_); rintro e w6 ⟨a3, c3, rfl, h5, h6⟩))
            clear h5 hun2 hS0
            go_wp2_with fail
            go_ret2
            exact ⟨h6.out.2.2.2, .inl ⟨b, a3, c3, by rw [HFN.out, HU.out], rfl, h6.out.1, h6.out.2.1, h6.out.2.2.1⟩⟩
        · have t6 : (nt.toList == nm.toList) = false := by rw [beq_text, decide_eq_false hnm]
          have hfn := HFN.out
          rw [if_neg hnm] at hfn
          have HFN := Lib.hid hfn
          clear hnm hfn
          go_wp2_with (first | (refine rec_ld rfl rfl G (q * 7) rfl h7r hrg ?_) | (refine rec_st rfl rfl wr.heap.size rfl rfl (by simp) rfl hone (heap_alloc_new _ _) ?_; intro wf hwf hof; obtain ⟨HF, x0, x1, x2, x3, x4, x5, x6, hlt⟩ := hF wf _ hwf hof; clear hwf hof hF))
          go_roundw
          case rel => exact ⟨q + 1, by omega, by go_num, Lib.hid ⟨HF.out, HFN.out⟩⟩
          case measure => simp [intOf]; omega
      · obtain rfl : m = q := by omega
        have hfn : findS l nm = .error 21 := by rw [H2.out.2.2.2.2.2, HI.out.2, List.drop_eq_nil_of_le (by rw [H2.out.2.2.1]; exact Nat.le_refl _)]; rfl
        have HFN := Lib.hid hfn
        clear hfn
        go_wp2_with fail
        go_ret2
        exact ⟨below_next H2.out.1 (Nat.le_refl _) HI.out.1, .inr ⟨21, HFN.out, by decide, rfl⟩⟩
end Go.Proofs.YtdcpibglbanchaaDoor
