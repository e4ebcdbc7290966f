/- All of what the document unpacks: contract of samovarref06.All, what inflS says. No condition but what the words say. -/
import Derived.Test.YtdcpibglbanchaaGreatDoorRo
import Derived.Test.YtdcpibglbanchaaGreatDoorBs
set_option linter.unusedVariables false
set_option maxRecDepth 100000
namespace Go.Proofs.YtdcpibglbanchaaGreatDoor
open Go.RowKit

/-- what the document's All answers -/
def AllR (w : World) (s : Except Int (List Int × Nat)) (e : Ending) (w' : World) : Prop :=
  Below w.heap.size w w' ∧ ((∃ out used v, s = .ok (out, used) ∧ e = .returned (.tuple #[v, .int .i64 (used : Nat), .int .i64 0]) ∧ OwnT 5 .u8 w' w.heap.size v out) ∨ (∃ er, s = .error er ∧ er ≠ 0 ∧ e = .returned (.tuple #[.slice none 0 0, .int .i64 0, .int .i64 er])))
theorem AllR.bad {w : World} {s : Except Int (List Int × Nat)} {er : Int} {w' : World} (hs : s = .error er) (hne : er ≠ 0) (hf : Below w.heap.size w w') : AllR w s (.returned (.tuple #[.slice none 0 0, .int .i64 0, .int .i64 er])) w' := ⟨hf, .inr ⟨er, hs, hne, rfl⟩⟩
theorem foot_g {w w' : World} {g : Nat} {v0 : Value} (ho : Only g w w') : Foot (fun i => i = g ∨ v0.ownBlock = some i) w w' := ⟨ho.os, ho.tape, ho.output, ho.size, fun i hi hne => ho.block i hi (by intro e; injection e with e; exact hne (.inl e))⟩
theorem RS.comp {T : TypeId} {k : IntKind} {w1 w2 w : World} {base g p p' : Nat} {v0 v : Value} {l out o : List Int} (h : RS T k w1 base g (.slice none 0 0) l w2 p v0 out) (h2 : RS T k w2 base g v0 l w p' v o) : RS T k w1 base g (.slice none 0 0) l w p' v o :=
  ⟨h2.rdr, h2.own, h.foot.trans2 h2.foot (fun i hi => by
    rcases hi with hi | hi
    · exact .inl (.inl hi)
    · rcases h.new i hi with h3 | h3
      · simp [Value.ownBlock] at h3
      · exact .inr h3), fun q hq => by
    rcases h2.new q hq with h3 | h3
    · exact h.new q h3
    · exact .inr (Nat.le_trans h.size h3), h2.up, h.low⟩
theorem comp_foot {T : TypeId} {k : IntKind} {w1 w2 w : World} {base g p : Nat} {v0 : Value} {l out : List Int} (h : RS T k w1 base g (.slice none 0 0) l w2 p v0 out) (h2 : Foot (fun i => i = g ∨ v0.ownBlock = some i) w2 w) : Only g w1 w := by
  have hf := h.foot.trans2 h2 (F := fun i => i = g ∨ (Value.slice none 0 0).ownBlock = some i) (fun i hi => by
    rcases hi with hi | hi
    · exact .inl (.inl hi)
    · rcases h.new i hi with h3 | h3
      · simp [Value.ownBlock] at h3
      · exact .inr h3)
  exact ⟨hf.os, hf.tape, hf.output, hf.size, fun i hi hne => hf.block i hi (by rintro (e | e); { exact hne (by rw [e]) }; { simp [Value.ownBlock] at e })⟩
section
variable {l : List Int} {lim f p p1 p2 : Nat} {out : List Int}
theorem blk_1 {er : Int} (h : takeS l p 1 = .error er) : blocksS l lim (f + 1) p out = .error er := by
  rw [blocksS]
  have : blockS l lim p out = .error er := by unfold blockS; rw [h]; rfl
  rw [this]
theorem blk_2 {er last : Int} (h : takeS l p 1 = .ok (last, p1)) (h2 : takeS l p1 2 = .error er) : blocksS l lim (f + 1) p out = .error er := by
  rw [blocksS]
  have : blockS l lim p out = .error er := by unfold blockS; rw [h]; simp only [bind, Except.bind]; rw [h2]
  rw [this]
theorem blk_k {last kind : Int} (h : takeS l p 1 = .ok (last, p1)) (h2 : takeS l p1 2 = .ok (kind, p2)) : blocksS l lim (f + 1) p out = match kindS l lim p2 out kind with | .error e => .error e | .ok (p3, o) => if last = 1 then .ok (o, (p3 + 7) / 8) else blocksS l lim f p3 o := by
  obtain ⟨e1, rfl, _⟩ := takeS_val h
  obtain ⟨e2, rfl, _⟩ := takeS_val h2
  have ht : takesS l p [1, 2] = .ok ([last, kind], p + 1 + 2) := by
    unfold takesS; rw [h]; simp only []
    unfold takesS; rw [h2]; simp only []
    rfl
  rw [blocksS, blockS_is, ht]
  simp only
  rw [← e2]
  cases kindS l lim (p + 1 + 2) out kind with
  | error e => rfl
  | ok y =>
    obtain ⟨p3, o⟩ := y
    simp only
    by_cases h1 : last = 1
    · rw [if_pos h1, ← e1, h1]; rfl
    · rw [if_neg h1, ← e1, beq_false_of_ne h1]
theorem st_short {q : Nat} (h : l.length < q + 4) : storedS l lim q out = .error 2 := by
  unfold storedS
  by_cases h1 : 8 * q + 16 ≤ 8 * l.length
  · rw [takeS_ok h1]; simp only [bind, Except.bind]; rw [takeS_bad (by omega)]
  · rw [takeS_bad h1]; rfl
theorem st_all {q : Nat} (hby : Bytes l) (h : q + 4 ≤ l.length) {N M : Nat} (hN : l.getD q 0 + l.getD (q + 1) 0 * 256 = N) (hM : l.getD (q + 2) 0 + l.getD (q + 3) 0 * 256 = M) : storedS l lim q out = if N + M ≠ 65535 then .error 4 else if (lim : Int) - out.length < N then .error 8 else if l.length < q + 4 + N then .error 2 else .ok (8 * (q + 4 + N), out ++ cutOf l (q + 4) (q + 4 + N)) := by
  have e0 := tk_16 l hby q
  have e1 := tk_16 l hby (q + 2)
  rw [hN] at e0
  rw [hM, show 8 * (q + 2) = 8 * q + 16 by omega] at e1
  unfold storedS
  rw [takeS_ok (by omega), e0]
  simp only [bind, Except.bind]
  rw [takeS_ok (by omega), e1]
  simp only
  rw [Int.toNat_natCast]
  by_cases h4 : N + M ≠ 65535
  · rw [if_pos h4, if_pos (by omega)]
  · rw [if_neg h4, if_neg (by omega)]
end
theorem fix_err : errN fixL false = 0 ∧ errN fixD true = 0 := by constructor <;> kernel_rfl
theorem own_ints {w : World} {base n c : Nat} {a : Option Addr} {q : List Int} (h : OwnT 3 .i64 w base (.slice a n c) q) (hw : ∀ x ∈ q, 0 ≤ x ∧ x ≤ 18) : q.length = n ∧ Ints .i64 w w.heap.size a q := by
  obtain ⟨h1, h2⟩ := h.is
  refine ⟨h1.symm, fun x hx => by have := hw x hx; simp [Lit.wf, IntKind.min, IntKind.max, IntKind.signed, IntKind.bits]; omega, fun hp => ?_⟩
  rcases h2.2 with ⟨e, hn⟩ | ⟨gq, cap, cur, e, _⟩
  · omega
  · injection e with e1 e2 e3
    subst e1 e3
    have := (row_ints h2 h1.symm hw q.length).1
    rw [List.take_length] at this
    exact this.2 hp
theorem fix_bd : (∀ x ∈ fixL, 0 ≤ x ∧ x ≤ 18) ∧ (∀ x ∈ fixD, 0 ≤ x ∧ x ≤ 18) := by
  have h : (fixL.all fun x => decide (0 ≤ x ∧ x ≤ 18)) = true ∧ (fixD.all fun x => decide (0 ≤ x ∧ x ≤ 18)) = true := by constructor <;> kernel_rfl
  exact ⟨fun x hx => by simpa using List.all_eq_true.1 h.1 x hx, fun x hx => by simpa using List.all_eq_true.1 h.2 x hx⟩

set_option maxHeartbeats 8000000 in
theorem refAll {w : World} (a : Option Addr) (n c : Nat) (l : List Int) (hn : l.length = n) (hnc : n ≤ c) (hm : n ≤ 1000000) (hA : a = none → c = 0) (hb : Bs w w.heap.size a l) (limit : Int) (hl : -9223372036854775808 ≤ limit ∧ limit ≤ 9223372036854775807) :
    Calls Tryz.prog 58 #[.slice a n c, .int .i64 limit] w (AllR w (inflS l limit)) := by
  by_cases hbad : limit < 0 ∨ 32768 < limit
  · have hs : inflS l limit = .error 1 := if_pos hbad
    rw [hs]
    clear hs hb
    by_cases h0 : limit < 0
    · have hd : decide (limit < 0) = true := by simp [h0]
      go_enter Tryz.func58, Tryz.ntmps58
      go_wp2_with fail
      go_ret3
      exact AllR.bad rfl (by decide) (Below.refl _ _)
    · have hd : decide (limit < 0) = false := by simp; omega
      have hd2 : decide (limit > 32768) = true := by simp; omega
      go_enter Tryz.func58, Tryz.ntmps58
      go_wp2_with fail
      go_ret3
      exact AllR.bad rfl (by decide) (Below.refl _ _)
  · obtain ⟨lim, rfl⟩ := Int.eq_ofNat_of_zero_le (show 0 ≤ limit by omega)
    subst hn
    have hd : decide ((lim : Int) < 0) = false := by simp
    have hd2 : decide ((lim : Int) > 32768) = false := by simp; omega
    have hlim : lim ≤ 32768 := by omega
    have hR : inflS l (lim : Int) = blocksS l lim (8 * l.length + 1) 0 [] := by unfold inflS; rw [if_neg hbad, Int.toNat_natCast]
    obtain ⟨R0, hR0⟩ : ∃ R0, inflS l (lim : Int) = R0 := ⟨_, rfl⟩
    rw [hR0]
    have HR0 := Lib.hid (hR0.symm.trans hR)
    have HLN : Hid (a = none → l.length = 0 ∧ c = 0) := Lib.hid fun h => ⟨by have := hA h; omega, hA h⟩
    clear hR hR0 hbad hA
    go_enter Tryz.func58, Tryz.ntmps58
    go_wp2_with (at_builtin; refine wpList_app rfl _ _ rfl w.heap.size (.slice (some ⟨w.heap.size, 0, none⟩) 0 0) 0 [] rfl (World.ownsRow_lit w #[] 0 (Nat.le_refl _) (by decide) rfl) w.heap.size a l.length c l rfl rfl (hb.alloc (Nat.le_refl _) _) HLN.out (by omega) (by simp) ?_; intro v1 w1 hown1 hg1; obtain ⟨ax, cx, rfl⟩ := own_shape hown1)
    have hb1 : Below w.heap.size w w1 := ((Below.refl w.heap.size w).alloc (Nat.le_refl _) _).grown hg1 (by simp) (fun k hk => by simp [Value.ownBlock] at hk; omega)
    rw [List.nil_append] at hown1
    have own1 := own_cast (n' := l.length) hown1 (by omega) rfl
    have hs1 := hb1.size
    have lx := own1.lt
    have hb2 : Below w.heap.size w (w1.alloc (.cells #[.slice ax l.length cx, .int .i64 0] 136)) := hb1.alloc hs1 _
    have hr2 := rdr_of_row (T := 136) (l := l) (p := 0) (heap_alloc_new w1 (.cells #[.slice ax l.length cx, .int .i64 0] 136)) (own1.alloc _) hb.1 (by omega) (fun k e => (lx k e).2) (by omega)
    have hs2 : (w1.alloc (.cells #[.slice ax l.length cx, .int .i64 0] 136)).heap.size = w1.heap.size + 1 := by simp
    obtain ⟨g, hg⟩ : ∃ g, g = w1.heap.size := ⟨_, rfl⟩
    rw [← hg] at hr2 hs2 ⊢
    have hgw : w.heap.size ≤ g := by omega
    have hbyl := hb.1
    clear hown1 own1 hg1 hb1 lx hb hs1
    generalize (w1.alloc (.cells #[.slice ax l.length cx, .int .i64 0] 136)) = w2 at *
    clear hg
    have hS : RS 5 .u8 w2 (g + 1) g (.slice none 0 0) l w2 0 (.slice none 0 0) [] := ⟨hr2, OwnT.nil _ _, Foot.refl _ _, fun q e => by simp [Value.ownBlock] at e, by omega, by omega⟩
    have HS0 := Lib.hid hS
    have HB2 := Lib.hid (And.intro hb2 hbyl)
    clear hS hr2 hb2 hbyl
    go_wp2_with fail
    go_loopg [8] (8 * l.length + 1) (fun K vv wr => ∃ (p f : Nat) (out : List Int) (a : Option Addr) (c : Nat), vv = .slice a out.length c ∧ 8 * l.length + 1 ≤ p + f ∧ 8 * l.length + 1 ≤ p + K ∧ out.length ≤ lim ∧ Hid (R0 = blocksS l lim f p out ∧ RS 5 .u8 w2 (g + 1) g (.slice none 0 0) l wr p (.slice a out.length c) out))
    case atStart => exact ⟨0, 8 * l.length + 1, [], none, 0, rfl, by omega, by omega, Nat.zero_le _, Lib.hid ⟨HR0.out, HS0.out⟩⟩
    case round =>
      obtain ⟨p, f, out, a, c, rfl, hf, hK, hol, H⟩ := hrel
      obtain ⟨e1, hS⟩ := H.out
      have hp := hS.inl
      have hlow : ∀ {W : World}, Only g w2 W → Below w.heap.size w W := fun {W} ho => HB2.out.1.trans (only_low ho hgw (by omega))
      obtain ⟨f, rfl⟩ : ∃ f', f = f' + 1 := ⟨f - 1, by omega⟩
      cases h1 : takeS l p 1 with
      | error er =>
        have hcall := takeR_bad (by decide) hS.rdr h1
        have hs := e1.trans (blk_1 h1)
        have HE := Lib.hid (And.intro hs hS)
        clear e1 hS h1 hs H
        go_wp2_with fail
        refine hcall.mono ?_
        rintro e w3 ⟨rfl, hne, hr3, ho3⟩
        have hd : (er != 0) = true := by simp [hne]
        have HF := Lib.hid (And.intro hne (hlow (comp_foot HE.out.2 (foot_g ho3))))
        clear hcall hr3 ho3 hne
        go_wp2_with fail
        go_ret3
        exact AllR.bad HE.out.1 HF.out.1 HF.out.2
      | ok x =>
      obtain ⟨last, p1⟩ := x
      have hcall := takeR_ok (by decide) hS.rdr h1
      obtain ⟨hlv, hp1, hp18⟩ := takeS_val h1
      clear hlv
      have HE := Lib.hid (And.intro e1 (And.intro hS h1))
      clear e1 hS h1 H
      go_wp2_with fail
      refine hcall.mono ?_
      rintro e w3 ⟨rfl, hr3, ho3⟩
      have hS3 := HE.out.2.1.only ho3 hr3
      have HS3 := Lib.hid hS3
      clear hcall ho3 hr3
      cases h2 : takeS l p1 2 with
      | error er =>
        have hcall := takeR_bad (by decide) hS3.rdr h2
        have hs := HE.out.1.trans (blk_2 HE.out.2.2 h2)
        have HE2 := Lib.hid hs
        clear h2 hs hS3
        go_wp2_with fail
        refine hcall.mono ?_
        rintro e w4 ⟨rfl, hne, hr4, ho4⟩
        have hd : (er != 0) = true := by simp [hne]
        have HF := Lib.hid (And.intro hne (hlow (comp_foot HS3.out (foot_g ho4))))
        clear hcall hr4 ho4 hne
        go_wp2_with fail
        go_ret3
        exact AllR.bad HE2.out HF.out.1 HF.out.2
      | ok x =>
      obtain ⟨kind, p2⟩ := x
      obtain ⟨hkv, hp2, hp28⟩ := takeS_val h2
      have hkb := tk_bd l p1 2
      rw [← hkv, show (2 : Int) ^ 2 = 4 by decide] at hkb
      rw [← hp2] at hp28
      have hcall := takeR_ok (by decide) hS3.rdr h2
      have hs := HE.out.1.trans (blk_k HE.out.2.2 h2)
      have HK := Lib.hid hs
      clear h2 hs hS3 hkv HE
      go_wp2_with fail
      refine hcall.mono ?_
      rintro e w4 ⟨rfl, hr4, ho4⟩
      have HS4 := Lib.hid (HS3.out.only ho4 hr4)
      clear hcall ho4 hr4 HS3
      have hpp : p < p2 := by omega
      rcases (show kind = 0 ∨ kind = 3 ∨ kind = 1 ∨ kind = 2 by omega) with rfl | rfl | rfl | rfl
      · have hk0 : kindS l lim p2 out 0 = storedS l lim ((p2 + 7) / 8) out := by unfold kindS; rw [if_pos rfl]
        have hs := HK.out
        rw [hk0] at hs
        obtain ⟨q, hq⟩ : ∃ q, (p2 + 7) / 8 = q := ⟨_, rfl⟩
        have hq1 : p2 ≤ 8 * q := by omega
        rw [hq] at hs
        have HK1 := Lib.hid hs
        clear hs hk0 HK
        have hby := refBytes 4 (by decide) HS4.out.rdr
        by_cases hq4 : l.length < q + 4
        · obtain ⟨b1, b2, b3⟩ := b_short (l := l) (p := p2) (n := 4) (by decide) (by omega)
          rw [b1, b2, b3] at hby
          have hs := HK1.out
          rw [st_short hq4] at hs
          simp only at hs
          have HE := Lib.hid hs
          clear hs HK1 b1 b2 b3
          go_wp2_with fail
          refine hby.mono ?_
          rintro e w5 ⟨⟨a5, c5, rfl, _, _, _, ho5⟩, hr5⟩
          have HF := Lib.hid (hlow (comp_foot HS4.out (foot_g ho5)))
          clear hby hr5 ho5
          go_wp2_with fail
          go_ret3
          exact AllR.bad HE.out (by decide) HF.out
        · obtain ⟨b1, b2, b3⟩ := b_ok (l := l) (p := p2) (m := 4) (by omega)
          rw [hq] at b2 b3
          rw [show ((4 : Nat) : Int) = 4 from rfl] at b1 b2 b3
          rw [b1, b2, b3] at hby
          have hcl : (cutOf l q (q + 4)).length = 4 := by rw [cutOf_len (by omega)]; omega
          have hcg : ∀ i, i < 4 → (cutOf l q (q + 4)).getD i 0 = l.getD (q + i) 0 := fun i hi => by
            unfold cutOf
            simp [List.getD_eq_getElem?_getD, hi]
          have x0 := HB2.out.2.at_ q
          have x1 := HB2.out.2.at_ (q + 1)
          have x2 := HB2.out.2.at_ (q + 2)
          have x3 := HB2.out.2.at_ (q + 3)
          obtain ⟨N, hN⟩ := Int.eq_ofNat_of_zero_le (show 0 ≤ l.getD q 0 + l.getD (q + 1) 0 * 256 by omega)
          obtain ⟨M, hM⟩ := Int.eq_ofNat_of_zero_le (show 0 ≤ l.getD (q + 2) 0 + l.getD (q + 3) 0 * 256 by omega)
          have hst := st_all (lim := lim) (out := out) HB2.out.2 (by omega) hN hM
          have HST := Lib.hid hst
          clear hst b1 b2 b3
          go_wp2_with fail
          refine hby.mono ?_
          rintro e w5 ⟨⟨a5, c5, he, _, _, hbs5, ho5⟩, hr5⟩
          rw [hcl] at he
          subst he
          obtain ⟨b0, off, rfl, hb0, hcc⟩ := hbs5.2 (by omega)
          rw [hcl] at hcc
          have c0 : w5.cell? ⟨b0, off, none⟩ = some (.int .u8 (l.getD q 0)) := by have := hcc 0 (by decide); rw [hcg 0 (by decide)] at this; exact this
          have c1 : w5.cell? ⟨b0, off + 1, none⟩ = some (.int .u8 (l.getD (q + 1) 0)) := by have := hcc 1 (by decide); rw [hcg 1 (by decide)] at this; exact this
          have c2 : w5.cell? ⟨b0, off + 2, none⟩ = some (.int .u8 (l.getD (q + 2) 0)) := by have := hcc 2 (by decide); rw [hcg 2 (by decide)] at this; exact this
          have c3 : w5.cell? ⟨b0, off + 3, none⟩ = some (.int .u8 (l.getD (q + 3) 0)) := by have := hcc 3 (by decide); rw [hcg 3 (by decide)] at this; exact this
          have HS5 := Lib.hid (HS4.out.only ho5 hr5)
          clear hby hr5 ho5 hbs5 hcc hcg hcl hb0
          generalize l.getD q 0 = X0 at *
          generalize l.getD (q + 1) 0 = X1 at *
          generalize l.getD (q + 2) 0 = X2 at *
          generalize l.getD (q + 3) 0 = X3 at *
          have HNM := Lib.hid (And.intro hN hM)
          clear hN hM
          go_wp2_with fail
          go_quiet (fail)
          have e14 : X0 + 256 * X1 = (N : Int) := by have := HNM.out.1; omega
          rw [e14]
          have hS6 : RS 5 .u8 w2 (g + 1) g (.slice none 0 0) l (w5.drewN nq) (8 * (q + 4)) (.slice a out.length c) out := HS5.out.below (low_drewN (Below.refl _ _) nq)
          have d2 : (w5.drewN nq).cell? ⟨b0, off + 2, none⟩ = some (.int .u8 X2) := c2
          have d3 : (w5.drewN nq).cell? ⟨b0, off + 3, none⟩ = some (.int .u8 X3) := c3
          have HS6 := Lib.hid hS6
          clear c0 c1 c2 c3 hS6 HS5 e14
          generalize w5.drewN nq = w6 at *
          have hN3 : N ≤ 65535 := by have := HNM.out.1; omega
          by_cases h4 : N + M ≠ 65535
          · have hs := HK1.out
            rw [HST.out, if_pos h4] at hs
            simp only at hs
            have HE := Lib.hid hs
            have ht : ((N : Int) + X2 + 256 * X3 != 65535) = true := by have := HNM.out.2; simp; omega
            clear hs HK1 HST h4
            go_wp2_with fail
            go_quiet (fail)
            go_wp2_with fail
            go_ret3
            exact AllR.bad HE.out (by decide) (low_drewN (hlow (foot_only HS6.out)) _)
          · have hs := HK1.out
            rw [HST.out, if_neg h4] at hs
            have HK2 := Lib.hid hs
            have ht : ((N : Int) + X2 + 256 * X3 != 65535) = false := by have := HNM.out.2; simp; omega
            clear hs HK1 HST h4
            go_wp2_with fail
            go_quiet (fail)
            have hS7 : RS 5 .u8 w2 (g + 1) g (.slice none 0 0) l (w6.drewN nq) (8 * (q + 4)) (.slice a out.length c) out := HS6.out.below (low_drewN (Below.refl _ _) nq)
            have HS7 := Lib.hid hS7
            clear d2 d3 hS7 HS6 ht HNM x0 x1 x2 x3
            generalize w6.drewN nq = w7 at *
            by_cases h8 : (lim : Int) - out.length < N
            · have hs := HK2.out
              rw [if_pos h8] at hs
              simp only at hs
              have HE := Lib.hid hs
              have hd8 : decide ((N : Int) > (lim : Int) - out.length) = true := by simp; omega
              clear hs HK2
              go_wp2_with fail
              go_ret3
              exact AllR.bad HE.out (by decide) (hlow (foot_only HS7.out))
            · have hd8 : decide ((N : Int) > (lim : Int) - out.length) = false := by simp; omega
              have hs := HK2.out
              rw [if_neg h8] at hs
              have hby := refBytes (N : Int) (by omega) HS7.out.rdr
              by_cases h2 : l.length < q + 4 + N
              · rw [if_pos h2] at hs
                simp only at hs
                have HE := Lib.hid hs
                obtain ⟨b1, b2, b3⟩ := b_short (l := l) (p := 8 * (q + 4)) (n := (N : Int)) (by omega) (by omega)
                rw [b1, b2, b3] at hby
                clear hs HK2 b1 b2 b3
                go_wp2_with fail
                refine hby.mono ?_
                rintro e w8 ⟨⟨a5, c5, rfl, _, _, _, ho8⟩, hr8⟩
                have HF := Lib.hid (hlow (comp_foot HS7.out (foot_g ho8)))
                clear hby hr8 ho8
                go_wp2_with fail
                go_ret3
                exact AllR.bad HE.out (by decide) HF.out
              · rw [if_neg h2] at hs
                simp only at hs
                obtain ⟨b1, b2, b3⟩ := b_ok (l := l) (p := 8 * (q + 4)) (m := N) (by omega)
                rw [show (8 * (q + 4) + 7) / 8 = q + 4 by omega] at b2 b3
                rw [b1, b2, b3] at hby
                have hxl : (cutOf l (q + 4) (q + 4 + N)).length = N := by rw [cutOf_len (by omega)]; omega
                obtain ⟨X, hX⟩ : ∃ X, cutOf l (q + 4) (q + 4 + N) = X := ⟨_, rfl⟩
                obtain ⟨p3, hp3⟩ : ∃ p3, 8 * (q + 4 + N) = p3 := ⟨_, rfl⟩
                rw [hX] at hs hby hxl
                rw [hp3] at hs hby
                have HX := Lib.hid hs
                have hpl2 : p3 ≤ 8 * l.length := by omega
                have hpl1 : p < p3 := by omega
                clear hs HK2 b1 b2 b3 hX
                go_wp2_with fail
                refine hby.mono ?_
                rintro e w8 ⟨⟨a5, c5, he, _, hn5, hbs8, ho8⟩, hr8⟩
                rw [hxl] at he
                subst he
                have hS8 := HS7.out.only ho8 hr8
                have HS8 := Lib.hid hS8
                have hown := hS8.own.is.2
                have hsz8 := hS8.size
                have HN5 : Hid (a5 = none → N = 0 ∧ c5 = 0) := Lib.hid fun h => by
                  refine ⟨?_, hn5 h⟩
                  rcases Nat.eq_zero_or_pos N with h0 | h0
                  · exact h0
                  · obtain ⟨b, o, e, _⟩ := hbs8.2 (by omega)
                    rw [h] at e; cases e
                clear hby ho8 hr8 hS8
                by_cases hlast : last = 1
                · have hl1 : (last == 1) = true := by simp [hlast]
                  go_wp2_with (at_builtin; refine wpList_app2 rfl _ _ rfl (g + 1) (.slice a out.length c) out.length out rfl hown _ a5 N c5 X rfl hxl hbs8 HN5.out (by omega) (by omega) ?_; intro v9 w10 o9 g9 l9; obtain ⟨a9, c9, rfl⟩ := own_shape o9)
                  have hR10 := HS8.out.grown (x := X) o9 (by rw [List.length_append, hxl]) g9 l9
                  obtain ⟨O9, hO9⟩ : ∃ O9, out ++ X = O9 := ⟨_, rfl⟩
                  have hO9l : out.length + N = O9.length := by rw [← hO9, List.length_append, hxl]
                  rw [hO9] at hR10 HX
                  rw [hO9l] at hR10 ⊢
                  have hol9 : O9.length ≤ lim := by omega
                  have HS10 := Lib.hid hR10
                  clear o9 g9 l9 hR10 hown hbs8 hO9 hO9l
                  have hs := HX.out
                  rw [if_pos hlast] at hs
                  have HE9 := Lib.hid hs
                  have c1 : w10.cell? ⟨g, 1, none⟩ = some (.int .i64 (p3 : Int)) := blk_cell HS10.out.rdr.choose_spec.choose_spec.1 1
                  have hp3i : ((p3 : Int) + 7) / 8 = (((p3 + 7) / 8 : Nat) : Int) := by omega
                  have hp3w : IntKind.i64.wrap ((p3 : Int) + 7) = (p3 : Int) + 7 := IntWalk.i64_in _ (by omega)
                  clear hs hlast
                  go_quiet (fail)
                  go_wp2_with fail
                  go_ret3
                  exact ⟨low_drewN (hlow (foot_only HS10.out)) _, .inl ⟨O9, (p3 + 7) / 8, _, HE9.out, ret3' rfl (congrArg (Value.int .i64) hp3i) rfl, HS10.out.own.down (by omega)⟩⟩
                · have hl1 : (last == 1) = false := by simp [hlast]
                  go_wp2_with (at_builtin; refine wpList_app2 rfl _ _ rfl (g + 1) (.slice a out.length c) out.length out rfl hown _ a5 N c5 X rfl hxl hbs8 HN5.out (by omega) (by omega) ?_; intro v9 w10 o9 g9 l9; obtain ⟨a9, c9, rfl⟩ := own_shape o9)
                  have hR10 := HS8.out.grown (x := X) o9 (by rw [List.length_append, hxl]) g9 l9
                  obtain ⟨O9, hO9⟩ : ∃ O9, out ++ X = O9 := ⟨_, rfl⟩
                  have hO9l : out.length + N = O9.length := by rw [← hO9, List.length_append, hxl]
                  rw [hO9] at hR10 HX
                  rw [hO9l] at hR10 ⊢
                  have hol9 : O9.length ≤ lim := by omega
                  have HS10 := Lib.hid hR10
                  clear o9 g9 l9 hR10 hown hbs8 hO9 hO9l
                  have hs := HX.out
                  rw [if_neg hlast] at hs
                  have HE9 := Lib.hid hs
                  clear hs hlast
                  go_roundg (8 * l.length + 1 - p3)
                  case measure => omega
                  case rel => exact ⟨p3, f, O9, a9, c9, rfl, by omega, by omega, hol9, Lib.hid ⟨HE9.out, HS10.out⟩⟩
      · have hs := HK.out
        have hk3 : kindS l lim p2 out 3 = .error 3 := by unfold kindS; rw [if_neg (by decide), if_neg (by decide), if_neg (by decide)]
        rw [hk3] at hs
        have HE := Lib.hid hs
        clear hs hk3
        go_wp2_with fail
        go_ret3
        exact AllR.bad HE.out (by decide) (hlow (foot_only HS4.out))
      · have hk1 : kindS l lim p2 out 1 = symsS (nsOf fixL) (nsOf fixD) l lim (8 * l.length + 1 - p2) p2 out := by unfold kindS; rw [if_neg (by decide), if_pos rfl]
        have hs := HK.out
        rw [hk1] at hs
        have HK1 := Lib.hid hs
        clear hs hk1 HK
        have hfx := refFixed w4
        go_wp2_with fail
        refine hfx.mono ?_
        rintro e w5 ⟨hb5, v1, v2, rfl, hv1, hv2⟩
        obtain ⟨a1, c1, rfl, _⟩ := id hv1
        obtain ⟨a2, c2, rfl, _⟩ := id hv2
        have hi1 := own_ints hv1 fix_bd.1
        have hi2 := own_ints hv2 fix_bd.2
        have hm1 : fixL.length ≤ 300 := by rw [show fixL.length = 288 by rfl]; decide
        have hm2 : fixD.length ≤ 300 := by rw [show fixD.length = 32 by rfl]; decide
        have hkk : R0 = (match codeS fixL false with | .error e => .error e | .ok nl => match codeS fixD true with | .error e => .error e | .ok nd => match symsS nl nd l lim (8 * l.length + 1 - p2) p2 out with | .error e => .error e | .ok (p3, o) => if last = 1 then .ok (o, (p3 + 7) / 8) else blocksS l lim f p3 o) := by
          have e1 : codeS fixL false = .ok (nsOf fixL) := if_pos fix_err.1
          have e2 : codeS fixD true = .ok (nsOf fixD) := if_pos fix_err.2
          rw [e1, e2]
          exact HK1.out
        have HKK := Lib.hid hkk
        have HS5 := Lib.hid (HS4.out.below hb5)
        have HI5 := Lib.hid (And.intro hi1.2 hi2.2)
        clear hkk HK1 hi1 hi2 hv1 hv2 hb5 hfx
        obtain ⟨p5, hp5⟩ : ∃ p5, p2 = p5 := ⟨_, rfl⟩
        have hp58 : p5 ≤ 8 * l.length := by omega
        have HPP : Hid (∀ nl nd, codeS fixL false = .ok nl → codeS fixD true = .ok nd → p < p5) := Lib.hid fun _ _ _ _ => by omega
        rw [hp5] at HKK HS5
        clear hp5
        generalize fixL = L1 at *
        generalize fixD = L2 at *
        obtain ⟨n1, hn1⟩ : ∃ n1, L1.length = n1 := ⟨_, rfl⟩
        obtain ⟨n2, hn2⟩ : ∃ n2, L2.length = n2 := ⟨_, rfl⟩
        rw [hn1] at hm1
        rw [hn2] at hm2
        rw [hn1, hn2]
        go_wp2_with fail
        have hsz5 := HS5.out.size
        have hv0lt := fun q e => (HS5.out.own.lt q e).2
        have hnw := refNew (w := w5) a1 n1 c1 L1 hn1 (by omega) HI5.out.1 false
        refine hnw.mono ?_
        rintro e w6 ⟨hb6, cs1, h321, hone1, rfl, hcd1⟩
        clear hnw
        have hz := zeroC
        have hs6 := hb6.size
        by_cases he1 : errN L1 false = 0
        · have hcd1 := hcd1 he1
          rw [he1]
          have hk : codeS L1 false = .ok (nsOf L1) := if_pos he1
          have hs := HKK.out
          rw [hk] at hs
          simp only at hs
          have HK6 := Lib.hid hs
          obtain ⟨hq1, hin1, hok1⟩ := errN_zr he1
          have HKL := Lib.hid hk
          have HKR1 := Lib.hid (And.intro (okN_kraft hok1) (inR_le hin1))
          have HCD1 := Lib.hid hcd1
          clear hs hk HKK hin1 hok1 he1 hcd1
          go_wp2_with (refine code_st rfl rfl w6.heap.size rfl rfl h321 zero_size hone1 (heap_alloc_new w6 _) ?_)
          have hset1 := setRow_heap (w6.alloc (.cells zeroCode 145)) w6.heap.size _ cs1 _ _ (heap_alloc_new w6 (.cells zeroCode 145))
          have hb7 : Below w6.heap.size w6 ((w6.alloc (.cells zeroCode 145)).setRow w6.heap.size cs1) := low_setRow ((Below.refl w6.heap.size w6).alloc (Nat.le_refl _) _) (Nat.le_refl _) cs1
          have hsz7 : ((w6.alloc (.cells zeroCode 145)).setRow w6.heap.size cs1).heap.size = w6.heap.size + 1 := by rw [size_setRow]; simp
          generalize ((w6.alloc (.cells zeroCode 145)).setRow w6.heap.size cs1) = w7 at *
          have hb57 := below_next hb6 (Nat.le_refl _) hb7
          have hi2 := (HI5.out.2.below hb57).more hb57.size
          have HB7 := Lib.hid (And.intro hb6 (And.intro hb7 (And.intro hset1 hb57)))
          clear hb6 hb7 hset1 hb57
          have hnw := refNew (w := w7) a2 n2 c2 L2 hn2 (by omega) hi2 true
          refine hnw.mono ?_
          rintro e w8 ⟨hb8, cs2, h322, hone2, rfl, hcd2⟩
          clear hnw hi2
          have hs8 := hb8.size
          by_cases he2 : errN L2 true = 0
          · have hcd2 := hcd2 he2
            rw [he2]
            have hk : codeS L2 true = .ok (nsOf L2) := if_pos he2
            have hs := HK6.out
            rw [hk] at hs
            simp only at hs
            have HK8 := Lib.hid hs
            obtain ⟨hq2, hin2, hok2⟩ := errN_zr he2
            have hpp5 : p < p5 := HPP.out _ _ HKL.out hk
            have HKR2 := Lib.hid (And.intro (okN_kraft hok2) (inR_le hin2))
            have HCD2 := Lib.hid hcd2
            clear hs hk HK6 hin2 hok2 he2 hcd2
            obtain ⟨w9, hw9⟩ : ∃ w9, ((w8.alloc (.cells zeroCode 145)).setRow w8.heap.size cs2) = w9 := ⟨_, rfl⟩
            have hset2 : w9.heap[w8.heap.size]? = some (.cells cs2 145 (0, 0)) := by rw [← hw9]; exact setRow_heap (w8.alloc (.cells zeroCode 145)) w8.heap.size _ cs2 _ _ (heap_alloc_new w8 (.cells zeroCode 145))
            have hb9 : Below w8.heap.size w8 w9 := by rw [← hw9]; exact low_setRow ((Below.refl w8.heap.size w8).alloc (Nat.le_refl _) _) (Nat.le_refl _) cs2
            have hsz9 : w9.heap.size = w8.heap.size + 1 := by rw [← hw9, size_setRow]; simp
            have HW9 := Lib.hid hw9
            clear hw9
            have hb79 := below_next hb8 (Nat.le_refl _) hb9
            have hb59 := below_next HB7.out.2.2.2 (Nat.le_refl _) hb79
            have hset1 : w9.heap[w6.heap.size]? = some (.cells cs1 145 (0, 0)) := (hb79.block _ (by omega)).trans HB7.out.2.2.1
            have hF : ∀ b, (fun b => (w5.heap.size ≤ b ∧ b < w6.heap.size) ∨ (w7.heap.size ≤ b ∧ b < w8.heap.size)) b → b < w9.heap.size ∧ b ≠ g ∧ (Value.slice a out.length c).ownBlock ≠ some b := fun b hb => by
              refine ⟨?_, ?_, fun e => ?_⟩
              · rcases hb with hb | hb <;> omega
              · rcases hb with hb | hb <;> omega
              · have := hv0lt b e
                rcases hb with hb | hb <;> omega
            have hc1 : Cd w9 (fun b => (w5.heap.size ≤ b ∧ b < w6.heap.size) ∨ (w7.heap.size ≤ b ∧ b < w8.heap.size)) (nsOf L1) cs1 := (HCD1.out.keep fun b hb => (hb79.block b (by omega)).trans (HB7.out.2.1.block b hb.2)).more fun b hb => .inl hb
            have hc2 : Cd w9 (fun b => (w5.heap.size ≤ b ∧ b < w6.heap.size) ∨ (w7.heap.size ≤ b ∧ b < w8.heap.size)) (nsOf L2) cs2 := (HCD2.out.keep fun b hb => hb9.block b hb.2).more fun b hb => .inr hb
            have hsym := refSymbols hF hc1 hc2 h321 h322 HKR1.out.2 HKR2.out.2 HKR1.out.1 HKR2.out.1 (by simp only [nsOf, List.length_map]; omega) (by simp only [nsOf, List.length_map]; omega) (HS5.out.start hb59) hlim hol (f0 := 8 * l.length + 1 - p5) (by omega)
            have HS9 := Lib.hid (HS5.out.below hb59)
            have HB9 := Lib.hid (And.intro hset1 hset2)
            clear hF hc1 hc2 hb8 hb9 hb79 hb59 HCD1 HCD2 hset1 hset2 HB7 hone1
            go_wp2_with (first | (refine code_st rfl rfl w8.heap.size rfl rfl h322 zero_size hone2 (heap_alloc_new w8 _) ?_; rw [HW9.out]) | refine code_ld rfl rfl w6.heap.size rfl h321 HB9.out.1 ?_ | refine code_ld rfl rfl w8.heap.size rfl h322 HB9.out.2 ?_)
            clear HW9 hone2 hz
            refine hsym.mono ?_
            rintro e w10 (⟨p3, O9, v9, hs9, he, hR⟩ | ⟨er, hs9, hne, rfl, hf⟩)
            · have hs := HK8.out
              rw [hs9] at hs
              simp only at hs
              obtain ⟨a9, c9, hv9, _⟩ := hR.own
              subst hv9
              subst he
              have hol9 := (symsS_small _ _ _ hp58 hol hs9).1
              obtain ⟨hpl1, hpl2⟩ := symsS_le _ _ _ hp58 hs9
              have HX := Lib.hid hs
              have HS10 := Lib.hid (HS9.out.comp hR)
              clear hs hs9 hR hsym HK8 HB9 h321 h322
              by_cases hlast : last = 1
              · have hl1 : (last == 1) = true := by simp [hlast]
                have hs := HX.out
                rw [if_pos hlast] at hs
                have HE9 := Lib.hid hs
                have c1 : w10.cell? ⟨g, 1, none⟩ = some (.int .i64 (p3 : Int)) := blk_cell HS10.out.rdr.choose_spec.choose_spec.1 1
                have hp3i : ((p3 : Int) + 7) / 8 = (((p3 + 7) / 8 : Nat) : Int) := by omega
                have hp3w : IntKind.i64.wrap ((p3 : Int) + 7) = (p3 : Int) + 7 := IntWalk.i64_in _ (by omega)
                clear hs hlast
                go_wp2_with fail
                go_quiet (fail)
                go_wp2_with fail
                go_ret3
                exact ⟨low_drewN (hlow (foot_only HS10.out)) _, .inl ⟨O9, (p3 + 7) / 8, _, HE9.out, ret3' rfl (congrArg (Value.int .i64) hp3i) rfl, HS10.out.own.down (by omega)⟩⟩
              · have hl1 : (last == 1) = false := by simp [hlast]
                have hs := HX.out
                rw [if_neg hlast] at hs
                have HE9 := Lib.hid hs
                clear hs hlast
                go_wp2_with fail
                go_roundg (8 * l.length + 1 - p3)
                case measure => omega
                case rel => exact ⟨p3, f, O9, a9, c9, rfl, by omega, by omega, hol9, Lib.hid ⟨HE9.out, HS10.out⟩⟩
            · have hs := HK8.out
              rw [hs9] at hs
              simp only at hs
              have hd : (er != 0) = true := by simp [hne]
              have HF := Lib.hid (And.intro hs (And.intro hne (hlow (comp_foot HS9.out hf))))
              clear hs hs9 hf hsym hne HK8 HB9
              go_wp2_with fail
              go_ret3
              exact AllR.bad HF.out.1 HF.out.2.1 HF.out.2.2
          · have hk : codeS L2 true = .error (errN L2 true) := if_neg he2
            have hs := HK6.out
            rw [hk] at hs
            simp only at hs
            have hd : (errN L2 true != 0) = true := by simp [he2]
            have HF := Lib.hid (And.intro hs he2)
            clear hs hk HK6 hcd2 he2
            generalize errN L2 true = er at *
            go_wp2_with (refine code_st rfl rfl w8.heap.size rfl rfl h322 zero_size hone2 (heap_alloc_new w8 _) ?_)
            have hset2 := setRow_heap (w8.alloc (.cells zeroCode 145)) w8.heap.size _ cs2 _ _ (heap_alloc_new w8 (.cells zeroCode 145))
            have hb9 : Below w8.heap.size w8 ((w8.alloc (.cells zeroCode 145)).setRow w8.heap.size cs2) := low_setRow ((Below.refl w8.heap.size w8).alloc (Nat.le_refl _) _) (Nat.le_refl _) cs2
            have hsz9 : ((w8.alloc (.cells zeroCode 145)).setRow w8.heap.size cs2).heap.size = w8.heap.size + 1 := by rw [size_setRow]; simp
            generalize ((w8.alloc (.cells zeroCode 145)).setRow w8.heap.size cs2) = w9 at *
            have hb59 := below_next HB7.out.2.2.2 (Nat.le_refl _) (below_next hb8 (Nat.le_refl _) hb9)
            have HF2 := Lib.hid (hlow (foot_only (HS5.out.below hb59)))
            clear hset2 hb9 hb8 hb59
            go_wp2_with fail
            go_ret3
            exact AllR.bad HF.out.1 HF.out.2 HF2.out
        · have hk : codeS L1 false = .error (errN L1 false) := if_neg he1
          have hs := HKK.out
          rw [hk] at hs
          simp only at hs
          have hd : (errN L1 false != 0) = true := by simp [he1]
          have HF := Lib.hid (And.intro hs he1)
          clear hs hk HKK hcd1 he1
          generalize errN L1 false = er at *
          go_wp2_with (refine code_st rfl rfl w6.heap.size rfl rfl h321 zero_size hone1 (heap_alloc_new w6 _) ?_)
          have hset1 := setRow_heap (w6.alloc (.cells zeroCode 145)) w6.heap.size _ cs1 _ _ (heap_alloc_new w6 (.cells zeroCode 145))
          have hb7 : Below w6.heap.size w6 ((w6.alloc (.cells zeroCode 145)).setRow w6.heap.size cs1) := low_setRow ((Below.refl w6.heap.size w6).alloc (Nat.le_refl _) _) (Nat.le_refl _) cs1
          have hsz7 : ((w6.alloc (.cells zeroCode 145)).setRow w6.heap.size cs1).heap.size = w6.heap.size + 1 := by rw [size_setRow]; simp
          generalize ((w6.alloc (.cells zeroCode 145)).setRow w6.heap.size cs1) = w7 at *
          have hb57 := below_next hb6 (Nat.le_refl _) hb7
          have HF2 := Lib.hid (hlow (foot_only (HS5.out.below hb57)))
          clear hset1 hb7 hb6 hb57
          go_wp2_with fail
          go_ret3
          exact AllR.bad HF.out.1 HF.out.2 HF2.out
      · have hk2 : kindS l lim p2 out 2 = toldB l lim p2 out := by unfold kindS; rw [if_neg (by decide), if_neg (by decide), if_pos rfl]
        have hs := HK.out
        rw [hk2] at hs
        have HK1 := Lib.hid hs
        clear hs hk2 HK
        have hfx := refFixed w4
        go_wp2_with fail
        refine hfx.mono ?_
        rintro e u5 ⟨hu5, v1, v2, rfl, _, _⟩
        have HU5 := Lib.hid (HS4.out.below hu5)
        have htl := refTold HU5.out.rdr
        clear hfx hu5
        go_wp2_with fail
        refine htl.mono ?_
        rintro e w5 ⟨ho5, ⟨p5, row, n1, n2, a1, c1, a2, c2, hs5, rfl, hr5, hrl, hm1, hm2, hi1, hi2⟩ | ⟨er, hs5, hne, rfl⟩⟩
        · have hkk : R0 = (match codeS (row.take n1) false with | .error e => .error e | .ok nl => match codeS (row.drop n1) true with | .error e => .error e | .ok nd => match symsS nl nd l lim (8 * l.length + 1 - p5) p5 out with | .error e => .error e | .ok (p3, o) => if last = 1 then .ok (o, (p3 + 7) / 8) else blocksS l lim f p3 o) := by
            have e0 := HK1.out
            unfold toldB at e0
            rw [hs5] at e0
            rw [e0]
            cases codeS (row.take n1) false with
            | error e => rfl
            | ok nl =>
              simp only
              cases codeS (row.drop n1) true with
              | error e => rfl
              | ok nd => rfl
          have hpos : p5 ≤ 8 * l.length := hr5.choose_spec.choose_spec.2.2.2.2.1
          have hp58 := hpos
          have HPP : Hid (∀ nl nd, codeS (row.take n1) false = .ok nl → codeS (row.drop n1) true = .ok nd → p < p5) := Lib.hid fun nl nd q1 q2 => by
            rw [q1] at hs5
            simp only at hs5
            rw [q2] at hs5
            have := (toldS_le hp28 hs5).1
            omega
          have HKK := Lib.hid hkk
          have HS5 := Lib.hid (HU5.out.only ho5 hr5)
          obtain ⟨L1, hL1⟩ : ∃ L1, row.take n1 = L1 := ⟨_, rfl⟩
          obtain ⟨L2, hL2⟩ : ∃ L2, row.drop n1 = L2 := ⟨_, rfl⟩
          have hn1 : L1.length = n1 := by rw [← hL1, List.length_take]; omega
          have hn2 : L2.length = n2 := by rw [← hL2, List.length_drop]; omega
          rw [hL1, hL2] at HKK HPP
          rw [hL1] at hi1
          rw [hL2] at hi2
          have HI5 := Lib.hid (And.intro hi1 hi2)
          clear hkk HK1 hi1 hi2 hs5 hr5 ho5 htl HU5 hL1 hL2 hrl hpos
          go_wp2_with fail
          have hsz5 := HS5.out.size
          have hv0lt := fun q e => (HS5.out.own.lt q e).2
          have hnw := refNew (w := w5) a1 n1 c1 L1 hn1 (by omega) HI5.out.1 false
          refine hnw.mono ?_
          rintro e w6 ⟨hb6, cs1, h321, hone1, rfl, hcd1⟩
          clear hnw
          have hz := zeroC
          have hs6 := hb6.size
          by_cases he1 : errN L1 false = 0
          · have hcd1 := hcd1 he1
            rw [he1]
            have hk : codeS L1 false = .ok (nsOf L1) := if_pos he1
            have hs := HKK.out
            rw [hk] at hs
            simp only at hs
            have HK6 := Lib.hid hs
            obtain ⟨hq1, hin1, hok1⟩ := errN_zr he1
            have HKL := Lib.hid hk
            have HKR1 := Lib.hid (And.intro (okN_kraft hok1) (inR_le hin1))
            have HCD1 := Lib.hid hcd1
            clear hs hk HKK hin1 hok1 he1 hcd1
            go_wp2_with (refine code_st rfl rfl w6.heap.size rfl rfl h321 zero_size hone1 (heap_alloc_new w6 _) ?_)
            have hset1 := setRow_heap (w6.alloc (.cells zeroCode 145)) w6.heap.size _ cs1 _ _ (heap_alloc_new w6 (.cells zeroCode 145))
            have hb7 : Below w6.heap.size w6 ((w6.alloc (.cells zeroCode 145)).setRow w6.heap.size cs1) := low_setRow ((Below.refl w6.heap.size w6).alloc (Nat.le_refl _) _) (Nat.le_refl _) cs1
            have hsz7 : ((w6.alloc (.cells zeroCode 145)).setRow w6.heap.size cs1).heap.size = w6.heap.size + 1 := by rw [size_setRow]; simp
            generalize ((w6.alloc (.cells zeroCode 145)).setRow w6.heap.size cs1) = w7 at *
            have hb57 := below_next hb6 (Nat.le_refl _) hb7
            have hi2 := (HI5.out.2.below hb57).more hb57.size
            have HB7 := Lib.hid (And.intro hb6 (And.intro hb7 (And.intro hset1 hb57)))
            clear hb6 hb7 hset1 hb57
            have hnw := refNew (w := w7) a2 n2 c2 L2 hn2 (by omega) hi2 true
            refine hnw.mono ?_
            rintro e w8 ⟨hb8, cs2, h322, hone2, rfl, hcd2⟩
            clear hnw hi2
            have hs8 := hb8.size
            by_cases he2 : errN L2 true = 0
            · have hcd2 := hcd2 he2
              rw [he2]
              have hk : codeS L2 true = .ok (nsOf L2) := if_pos he2
              have hs := HK6.out
              rw [hk] at hs
              simp only at hs
              have HK8 := Lib.hid hs
              obtain ⟨hq2, hin2, hok2⟩ := errN_zr he2
              have hpp5 : p < p5 := HPP.out _ _ HKL.out hk
              have HKR2 := Lib.hid (And.intro (okN_kraft hok2) (inR_le hin2))
              have HCD2 := Lib.hid hcd2
              clear hs hk HK6 hin2 hok2 he2 hcd2
              obtain ⟨w9, hw9⟩ : ∃ w9, ((w8.alloc (.cells zeroCode 145)).setRow w8.heap.size cs2) = w9 := ⟨_, rfl⟩
              have hset2 : w9.heap[w8.heap.size]? = some (.cells cs2 145 (0, 0)) := by rw [← hw9]; exact setRow_heap (w8.alloc (.cells zeroCode 145)) w8.heap.size _ cs2 _ _ (heap_alloc_new w8 (.cells zeroCode 145))
              have hb9 : Below w8.heap.size w8 w9 := by rw [← hw9]; exact low_setRow ((Below.refl w8.heap.size w8).alloc (Nat.le_refl _) _) (Nat.le_refl _) cs2
              have hsz9 : w9.heap.size = w8.heap.size + 1 := by rw [← hw9, size_setRow]; simp
              have HW9 := Lib.hid hw9
              clear hw9
              have hb79 := below_next hb8 (Nat.le_refl _) hb9
              have hb59 := below_next HB7.out.2.2.2 (Nat.le_refl _) hb79
              have hset1 : w9.heap[w6.heap.size]? = some (.cells cs1 145 (0, 0)) := (hb79.block _ (by omega)).trans HB7.out.2.2.1
              have hF : ∀ b, (fun b => (w5.heap.size ≤ b ∧ b < w6.heap.size) ∨ (w7.heap.size ≤ b ∧ b < w8.heap.size)) b → b < w9.heap.size ∧ b ≠ g ∧ (Value.slice a out.length c).ownBlock ≠ some b := fun b hb => by
                refine ⟨?_, ?_, fun e => ?_⟩
                · rcases hb with hb | hb <;> omega
                · rcases hb with hb | hb <;> omega
                · have := hv0lt b e
                  rcases hb with hb | hb <;> omega
              have hc1 : Cd w9 (fun b => (w5.heap.size ≤ b ∧ b < w6.heap.size) ∨ (w7.heap.size ≤ b ∧ b < w8.heap.size)) (nsOf L1) cs1 := (HCD1.out.keep fun b hb => (hb79.block b (by omega)).trans (HB7.out.2.1.block b hb.2)).more fun b hb => .inl hb
              have hc2 : Cd w9 (fun b => (w5.heap.size ≤ b ∧ b < w6.heap.size) ∨ (w7.heap.size ≤ b ∧ b < w8.heap.size)) (nsOf L2) cs2 := (HCD2.out.keep fun b hb => hb9.block b hb.2).more fun b hb => .inr hb
              have hsym := refSymbols hF hc1 hc2 h321 h322 HKR1.out.2 HKR2.out.2 HKR1.out.1 HKR2.out.1 (by simp only [nsOf, List.length_map]; omega) (by simp only [nsOf, List.length_map]; omega) (HS5.out.start hb59) hlim hol (f0 := 8 * l.length + 1 - p5) (by omega)
              have HS9 := Lib.hid (HS5.out.below hb59)
              have HB9 := Lib.hid (And.intro hset1 hset2)
              clear hF hc1 hc2 hb8 hb9 hb79 hb59 HCD1 HCD2 hset1 hset2 HB7 hone1
              go_wp2_with (first | (refine code_st rfl rfl w8.heap.size rfl rfl h322 zero_size hone2 (heap_alloc_new w8 _) ?_; rw [HW9.out]) | refine code_ld rfl rfl w6.heap.size rfl h321 HB9.out.1 ?_ | refine code_ld rfl rfl w8.heap.size rfl h322 HB9.out.2 ?_)
              clear HW9 hone2 hz
              refine hsym.mono ?_
              rintro e w10 (⟨p3, O9, v9, hs9, he, hR⟩ | ⟨er, hs9, hne, rfl, hf⟩)
              · have hs := HK8.out
                rw [hs9] at hs
                simp only at hs
                obtain ⟨a9, c9, hv9, _⟩ := hR.own
                subst hv9
                subst he
                have hol9 := (symsS_small _ _ _ hp58 hol hs9).1
                obtain ⟨hpl1, hpl2⟩ := symsS_le _ _ _ hp58 hs9
                have HX := Lib.hid hs
                have HS10 := Lib.hid (HS9.out.comp hR)
                clear hs hs9 hR hsym HK8 HB9 h321 h322
                by_cases hlast : last = 1
                · have hl1 : (last == 1) = true := by simp [hlast]
                  have hs := HX.out
                  rw [if_pos hlast] at hs
                  have HE9 := Lib.hid hs
                  have c1 : w10.cell? ⟨g, 1, none⟩ = some (.int .i64 (p3 : Int)) := blk_cell HS10.out.rdr.choose_spec.choose_spec.1 1
                  have hp3i : ((p3 : Int) + 7) / 8 = (((p3 + 7) / 8 : Nat) : Int) := by omega
                  have hp3w : IntKind.i64.wrap ((p3 : Int) + 7) = (p3 : Int) + 7 := IntWalk.i64_in _ (by omega)
                  clear hs hlast
                  go_wp2_with fail
                  go_quiet (fail)
                  go_wp2_with fail
                  go_ret3
                  exact ⟨low_drewN (hlow (foot_only HS10.out)) _, .inl ⟨O9, (p3 + 7) / 8, _, HE9.out, ret3' rfl (congrArg (Value.int .i64) hp3i) rfl, HS10.out.own.down (by omega)⟩⟩
                · have hl1 : (last == 1) = false := by simp [hlast]
                  have hs := HX.out
                  rw [if_neg hlast] at hs
                  have HE9 := Lib.hid hs
                  clear hs hlast
                  go_wp2_with fail
                  go_roundg (8 * l.length + 1 - p3)
                  case measure => omega
                  case rel => exact ⟨p3, f, O9, a9, c9, rfl, by omega, by omega, hol9, Lib.hid ⟨HE9.out, HS10.out⟩⟩
              · have hs := HK8.out
                rw [hs9] at hs
                simp only at hs
                have hd : (er != 0) = true := by simp [hne]
                have HF := Lib.hid (And.intro hs (And.intro hne (hlow (comp_foot HS9.out hf))))
                clear hs hs9 hf hsym hne HK8 HB9
                go_wp2_with fail
                go_ret3
                exact AllR.bad HF.out.1 HF.out.2.1 HF.out.2.2
            · have hk : codeS L2 true = .error (errN L2 true) := if_neg he2
              have hs := HK6.out
              rw [hk] at hs
              simp only at hs
              have hd : (errN L2 true != 0) = true := by simp [he2]
              have HF := Lib.hid (And.intro hs he2)
              clear hs hk HK6 hcd2 he2
              generalize errN L2 true = er at *
              go_wp2_with (refine code_st rfl rfl w8.heap.size rfl rfl h322 zero_size hone2 (heap_alloc_new w8 _) ?_)
              have hset2 := setRow_heap (w8.alloc (.cells zeroCode 145)) w8.heap.size _ cs2 _ _ (heap_alloc_new w8 (.cells zeroCode 145))
              have hb9 : Below w8.heap.size w8 ((w8.alloc (.cells zeroCode 145)).setRow w8.heap.size cs2) := low_setRow ((Below.refl w8.heap.size w8).alloc (Nat.le_refl _) _) (Nat.le_refl _) cs2
              have hsz9 : ((w8.alloc (.cells zeroCode 145)).setRow w8.heap.size cs2).heap.size = w8.heap.size + 1 := by rw [size_setRow]; simp
              generalize ((w8.alloc (.cells zeroCode 145)).setRow w8.heap.size cs2) = w9 at *
              have hb59 := below_next HB7.out.2.2.2 (Nat.le_refl _) (below_next hb8 (Nat.le_refl _) hb9)
              have HF2 := Lib.hid (hlow (foot_only (HS5.out.below hb59)))
              clear hset2 hb9 hb8 hb59
              go_wp2_with fail
              go_ret3
              exact AllR.bad HF.out.1 HF.out.2 HF2.out
          · have hk : codeS L1 false = .error (errN L1 false) := if_neg he1
            have hs := HKK.out
            rw [hk] at hs
            simp only at hs
            have hd : (errN L1 false != 0) = true := by simp [he1]
            have HF := Lib.hid (And.intro hs he1)
            clear hs hk HKK hcd1 he1
            generalize errN L1 false = er at *
            go_wp2_with (refine code_st rfl rfl w6.heap.size rfl rfl h321 zero_size hone1 (heap_alloc_new w6 _) ?_)
            have hset1 := setRow_heap (w6.alloc (.cells zeroCode 145)) w6.heap.size _ cs1 _ _ (heap_alloc_new w6 (.cells zeroCode 145))
            have hb7 : Below w6.heap.size w6 ((w6.alloc (.cells zeroCode 145)).setRow w6.heap.size cs1) := low_setRow ((Below.refl w6.heap.size w6).alloc (Nat.le_refl _) _) (Nat.le_refl _) cs1
            have hsz7 : ((w6.alloc (.cells zeroCode 145)).setRow w6.heap.size cs1).heap.size = w6.heap.size + 1 := by rw [size_setRow]; simp
            generalize ((w6.alloc (.cells zeroCode 145)).setRow w6.heap.size cs1) = w7 at *
            have hb57 := below_next hb6 (Nat.le_refl _) hb7
            have HF2 := Lib.hid (hlow (foot_only (HS5.out.below hb57)))
            clear hset1 hb7 hb6 hb57
            go_wp2_with fail
            go_ret3
            exact AllR.bad HF.out.1 HF.out.2 HF2.out
        · have hs := HK1.out
          unfold toldB at hs
          rw [hs5] at hs
          simp only at hs
          have hd : (er != 0) = true := by simp [hne]
          have HF := Lib.hid (And.intro hs (And.intro hne (hlow (comp_foot HU5.out (foot_g ho5)))))
          clear hs hs5 ho5 hne htl HK1 HU5
          go_wp2_with fail
          go_ret3
          exact AllR.bad HF.out.1 HF.out.2.1 HF.out.2.2

end Go.Proofs.YtdcpibglbanchaaGreatDoor
