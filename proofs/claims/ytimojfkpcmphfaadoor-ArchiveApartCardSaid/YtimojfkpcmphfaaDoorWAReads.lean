/- The law ArchiveReads: walk. Condition: the variable internal/bytealg.MaxLen has a value. -/
import Derived.Test.YtimojfkpcmphfaaDoorEe
set_option linter.unusedVariables false
set_option maxRecDepth 100000
namespace Go.Proofs.YtimojfkpcmphfaaDoor
open Go.RowKit Go.Maps Go.ChangeMaps

/-- a copy of bytes in a row of one's own -/
theorem copy_own {w : World} {ops : Array Oper} {rest : List Oper} {o : Oper} {a : Act} {Q : Exit → Act → World → Prop} (hgd : o.guard = none) (s x : Operand)
    (ho : o.op = .call { callee := .builtin .append, args := #[s, x], argTypes := #[22, 22] }) (w0 : World) (hw : w = w0.alloc (.cells #[] 5)) (hs : a.eval s = .slice (some ⟨w0.heap.size, 0, none⟩) 0 0) (A : Option Addr) (m c : Nat) (l : List Int) (hm : l.length = m) (hc : m ≤ c) (hx : a.eval x = .slice A m c) (hb : Bs w0 w0.heap.size A l) (hA : A = none → c = 0) (hM : m ≤ 140737488351232)
    (h : ∀ a' c' w', m ≤ c' → Bs w' w'.heap.size a' l → Below w0.heap.size w0 w' → wpList Tryd.prog ops Q rest (a.put o.dst (.slice a' m c')) w') : wpList Tryd.prog ops Q (o :: rest) a w := by
  subst hw
  refine wpList_app2 hgd s x ho w0.heap.size (.slice (some ⟨w0.heap.size, 0, none⟩) 0 0) 0 [] hs (World.ownsRow_lit w0 #[] 0 (Nat.le_refl _) (by decide) rfl) w0.heap.size A m c l hx hm (hb.alloc (Nat.le_refl _) _) (fun e => by have := hA e; omega) (by omega) (by simp) ?_
  intro v3 w3 hown3 hg3 hob3
  have hb3 : Below w0.heap.size w0 w3 := ((Below.refl w0.heap.size w0).alloc (Nat.le_refl _) _).grown hg3 (by simp) (fun j e => by simp [Value.ownBlock] at e; omega)
  obtain ⟨a3, c3, rfl⟩ := own_shape hown3
  have hown4 := own_cast hown3 (Nat.zero_add m) (show ([] ++ l : List Int).map (Value.int .u8) = l.map (Value.int .u8) by rw [List.nil_append])
  rw [Nat.zero_add]
  refine h a3 c3 w3 (own_cap hown4).1 ?_ hb3
  subst hm
  exact Bs.of_own hown4 hb.1
set_option maxHeartbeats 4000000 in
theorem archivereads_walk (w : World) (a : Option Addr) (n c : Nat) (l : List Int) (hl : l.length = n) (hc : n ≤ c) (hm : c ≤ 140737488351232) (hA : a = none → c = 0) (hb : Bs w w.heap.size a l) (hmx : Mx w) :
    Calls Tryd.prog 3 #[.slice a n c] w fun e w' => e = .returned (.bool true) ∧ Below w.heap.size w w' := by
  have hf := fixed9 w hmx
  have hn1 : n ≤ 140737488351232 := by omega
  have HB := Lib.hid (And.intro hb (And.intro hmx (And.intro hl (And.intro hc hA))))
  clear hb hmx hA
  by_cases h7 : n > 70000
  · have t1 : decide ((n : Int) > 70000) = true := by simp; omega
    clear h7
    go_enter Tryd.func3, Tryd.ntmps3
    go_wp2_with fail
    refine hf.mono ?_
    rintro e w1 ⟨rfl, hb1⟩
    have H1 := Lib.hid hb1
    clear hf hb1
    go_wp2_with fail
    go_ret
    exact ⟨rfl, H1.out⟩
  · have t1 : decide ((n : Int) > 70000) = false := by simp; omega
    go_enter Tryd.func3, Tryd.ntmps3
    go_wp2_with fail
    refine hf.mono ?_
    rintro e w1 ⟨rfl, hb1⟩
    have hbs1 := HB.out.1.next hb1
    have H1 := Lib.hid hb1
    clear hf hb1
    go_wp2_with (at_builtin; refine copy_own rfl _ _ rfl w1 rfl rfl a n c l HB.out.2.2.1 HB.out.2.2.2.1 rfl hbs1 HB.out.2.2.2.2 hn1 ?_; intro a2 c2 w2 hc2 hbs2 hb2)
    have H2 := Lib.hid (And.intro (below_next H1.out (Nat.le_refl _) hb2) hbs2)
    have hd := dirX_is w2 a2 n c2 l HB.out.2.2.1 hc2 (by omega) hbs2 (HB.out.2.1.below H2.out.1)
    clear hbs1 hbs2 hb2 H1
    go_wp2_with fail
    have hfin : ∀ (er : Int) (V1 V2 : Value) (es : List (Nat × Nat)) (B1 B2 k : Nat) (w4 : World), w4.ownsRow B1 32 7 V1 k (recR l es) → w4.ownsRow B2 32 7 V2 k (recR l es) → es.length = k → k ≤ 64 → Below w2.heap.size w2 w4 →
        Hid (Below w.heap.size w w4) ∧ Calls Tryd.prog 10 #[V1, V2] w4 (fun e w' => e = .returned (.bool true) ∧ ∃ d, w' = w4.drewN d) ∧ (∀ d, Calls Tryd.prog 11 #[.slice a2 n c2, .slice a n c] (w4.drewN d) fun e w' => e = .returned (.bool true) ∧ ∃ d2, w' = w4.drewN d2) := fun er V1 V2 es B1 B2 k w4 h1 h2 h3 h4 hb4 => by
      refine ⟨Lib.hid (below_next H2.out.1 (Nat.le_refl _) hb4), sameR h1 h2 h3 h4, fun d => ?_⟩
      have e := refSame a2 a n c2 n c l l HB.out.2.2.1 HB.out.2.2.1 (by unfold maxLen; rw [HB.out.2.2.1]; omega) (by unfold maxLen; rw [HB.out.2.2.1]; omega) (w4.drewN d) _ _ (H2.out.2.next (low_drewN hb4 d)) (HB.out.1.next (below_next H2.out.1 (Nat.le_refl _) (low_drewN hb4 d)))
      exact e.mono fun e w' ⟨h1, d2, h2⟩ => ⟨by rw [h1]; unfold eqB; simp, d + d2, by rw [h2, World.drewN_drewN]⟩
    have HF := Lib.hid hfin
    clear hfin
    refine hd.mono ?_
    rintro e w3 (⟨er, h1, h2, rfl, hb3⟩ | ⟨es, V, h1, h64, rfl, ho, hb3⟩)
    · have hr := refDirX_is w3 a n c l HB.out.2.2.1 hc (by omega) (HB.out.1.next (below_next H2.out.1 (Nat.le_refl _) hb3))
      have H3 := Lib.hid (And.intro h1 hb3)
      clear hd h1 h2 hb3
      go_wp2_with fail
      refine hr.mono ?_
      rintro e w4 (⟨er2, g1, g2, rfl, hb4⟩ | ⟨es, V, g1, g64, rfl, go, hb4⟩)
      · have e0 : er = er2 := by have := H3.out.1; rw [g1] at this; injection this with this; exact this.symm
        subst e0
        obtain ⟨H4, hs1, hs2⟩ := HF.out er (.slice none 0 0) (.slice none 0 0) [] 0 0 0 w4 (World.ownsRow_nil _ _ _ _) (World.ownsRow_nil _ _ _ _) rfl (by decide) (below_next H3.out.2 (Nat.le_refl _) hb4)
        have t2 : (er == er) = true := by simp
        clear hr g1 g2 hb4
        go_wp2_with fail
        refine hs1.mono ?_
        rintro e w5 ⟨rfl, d, rfl⟩
        have hs3 := hs2 d
        clear hs1 hs2
        go_wp2_with fail
        refine hs3.mono ?_
        rintro e w6 ⟨rfl, d2, rfl⟩
        clear hs3
        go_wp2_with fail
        go_ret
        exact ⟨rfl, low_drewN H4.out _⟩
      · have := H3.out.1
        rw [g1] at this; cases this
    · have hr := refDirX_is w3 a n c l HB.out.2.2.1 hc (by omega) (HB.out.1.next (below_next H2.out.1 (Nat.le_refl _) hb3))
      have H3 := Lib.hid (And.intro h1 (And.intro ho (And.intro h64 hb3)))
      clear hd h1 ho h64 hb3
      go_wp2_with fail
      refine hr.mono ?_
      rintro e w4 (⟨er2, g1, g2, rfl, hb4⟩ | ⟨es2, V2, g1, g64, rfl, go, hb4⟩)
      · have := H3.out.1
        rw [g1] at this; cases this
      · have e0 : es = es2 := by have := H3.out.1; rw [g1] at this; injection this with this; exact this.symm
        subst e0
        obtain ⟨H4, hs1, hs2⟩ := HF.out 0 V V2 es w2.heap.size w3.heap.size es.length w4 (own_below H3.out.2.1 hb4) go rfl g64 (below_next H3.out.2.2.2 (Nat.le_refl _) hb4)
        clear hr g1 go hb4 g64
        go_wp2_with fail
        refine hs1.mono ?_
        rintro e w5 ⟨rfl, d, rfl⟩
        have hs3 := hs2 d
        clear hs1 hs2
        go_wp2_with fail
        refine hs3.mono ?_
        rintro e w6 ⟨rfl, d2, rfl⟩
        clear hs3
        go_wp2_with fail
        go_ret
        exact ⟨rfl, low_drewN H4.out _⟩
end Go.Proofs.YtimojfkpcmphfaaDoor
