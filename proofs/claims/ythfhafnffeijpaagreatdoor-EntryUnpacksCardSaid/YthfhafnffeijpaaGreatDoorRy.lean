/- A block's symbols as the document unpacks them: contract of samovarref06.symbols, what symsS says. No condition but what the words say. -/
import Derived.Test.YthfhafnffeijpaaGreatDoorRs
import Derived.Test.YthfhafnffeijpaaGreatDoorLl
set_option linter.unusedVariables false
set_option maxRecDepth 100000
namespace Go.Proofs.YthfhafnffeijpaaGreatDoor
open Go.RowKit

/-- what symbols answers -/
def SymR (w0 : World) (base g : Nat) (v0 : Value) (l : List Int) (s : Except Int (Nat × List Int)) (e : Ending) (w' : World) : Prop :=
  (∃ p' o v, s = .ok (p', o) ∧ e = .returned (.tuple #[v, .int .i64 0]) ∧ RS 5 .u8 w0 base g v0 l w' p' v o) ∨
  (∃ er, s = .error er ∧ er ≠ 0 ∧ e = .returned (.tuple #[.slice none 0 0, .int .i64 er]) ∧ Foot (fun i => i = g ∨ v0.ownBlock = some i) w0 w')
theorem SymR.bad {w0 : World} {base g : Nat} {v0 : Value} {l : List Int} {s : Except Int (Nat × List Int)} {er : Int} {w' : World} (hs : s = .error er) (hne : er ≠ 0) (hf : Foot (fun i => i = g ∨ v0.ownBlock = some i) w0 w') : SymR w0 base g v0 l s (.returned (.tuple #[.slice none 0 0, .int .i64 er])) w' := .inr ⟨er, hs, hne, rfl, hf⟩

theorem RS.start {T : TypeId} {k : IntKind} {w0 w w1 : World} {base g p : Nat} {v0 v : Value} {l out : List Int} (h : RS T k w0 base g v0 l w p v out) (hb : Below w.heap.size w w1) : RS T k w1 base g v l w1 p v out :=
  ⟨rdr_low' h.rdr hb (by have := h.up; have := h.low; have := h.size; omega), h.own.below hb, Foot.refl _ _, fun q e => .inl e, h.up, by have := h.low; have := h.size; have := hb.size; omega⟩
theorem RS.back {T : TypeId} {k : IntKind} {w0 w w1 : World} {base g p : Nat} {v0 v : Value} {l out : List Int} (h : RS T k w1 base g v0 l w p v out) (hb : Below w0.heap.size w0 w1) (hl : base ≤ w0.heap.size) : RS T k w0 base g v0 l w p v out :=
  ⟨h.rdr, h.own, (Foot.of_below hb).trans2 h.foot (fun i hi => .inl hi), fun q e => by
    rcases h.new q e with h1 | h1
    · exact .inl h1
    · exact .inr (Nat.le_trans hb.size h1), h.up, hl⟩
/-- the row doesn't lie in a block that was made behind the first one and ahead of the walk -/
theorem RS.off {T : TypeId} {k : IntKind} {w1 w : World} {base g p n0 : Nat} {v0 v : Value} {l out : List Int} (h : RS T k w1 base g v0 l w p v out) (h0 : ∀ q, v0.ownBlock = some q → q < n0) {b : Nat} (hb : n0 ≤ b) (hb1 : b < w1.heap.size) : v.ownBlock ≠ some b := fun e => by
  rcases h.new b e with h1 | h1
  · have := h0 b h1; omega
  · omega
theorem foot_back {F : Nat → Prop} {w0 w1 w : World} (hb : Below w0.heap.size w0 w1) (h : Foot F w1 w) : Foot F w0 w := (Foot.of_below hb).trans2 h (fun i hi => .inl hi)
theorem pow_le13 : ∀ m : Nat, m ≤ 13 → (2 : Int) ^ m ≤ 8192 := by decide
theorem pow_le5 : ∀ m : Nat, m ≤ 5 → (2 : Int) ^ m ≤ 32 := by decide
set_option maxHeartbeats 8000000 in
theorem refSymbols {w : World} {base g : Nat} {v0 : Value} {l out : List Int} {p : Nat} {F : Nat → Prop} {nl nd : List Nat} {cs1 cs2 : Array Value} {limit f0 : Nat} (hF : ∀ b, F b → b < w.heap.size ∧ b ≠ g ∧ v0.ownBlock ≠ some b)
    (h1 : Cd w F nl cs1) (h2 : Cd w F nd cs2) (hs1 : cs1.size = 32) (hs2 : cs2.size = 32) (ha1 : ∀ n ∈ nl, n ≤ 15) (ha2 : ∀ n ∈ nd, n ≤ 15) (hk1 : kraft nl ≤ 2 ^ 15) (hk2 : kraft nd ≤ 2 ^ 15) (hl1 : nl.length ≤ 300) (hl2 : nd.length ≤ 300)
    (h : RS 5 .u8 w base g v0 l w p v0 out) (hlim : limit ≤ 32768) (ho : out.length ≤ limit) (hf0 : 8 * l.length + 1 ≤ p + f0) :
    Calls Tryz.prog 26 #[.pointer (some ⟨g, 0, none⟩), .agg cs1, .agg cs2, v0, .int .i64 limit] w (SymR w base g v0 l (symsS nl nd l limit f0 p out)) := by
  obtain ⟨a0, c0, rfl, _⟩ := h.own
  have hB := (Below.refl w.heap.size w).alloc (Nat.le_refl _) (.cells cs1 59)
  have hB2 := hB.alloc hB.size (.cells cs2 59)
  have hn1 := heap_alloc_new w (.cells cs1 59)
  have hn2 := heap_alloc_new (w.alloc (.cells cs1 59)) (.cells cs2 59)
  rw [show (w.alloc (.cells cs1 59)).heap.size = w.heap.size + 1 by simp] at hn2
  have hn1' : ((w.alloc (.cells cs1 59)).alloc (.cells cs2 59)).heap[w.heap.size]? = some (.cells cs1 59 (0, 0)) := (Below.heap_alloc _ _ _ (by simp)).trans hn1
  have hsz2 : ((w.alloc (.cells cs1 59)).alloc (.cells cs2 59)).heap.size = w.heap.size + 2 := by simp
  have hR := h.start hB2
  have hbk : ∀ b, F b → ((w.alloc (.cells cs1 59)).alloc (.cells cs2 59)).heap[b]? = w.heap[b]? := fun b hb => hB2.block b (hF b hb).1
  have hv0 : ∀ q, (Value.slice a0 out.length c0).ownBlock = some q → q < w.heap.size := fun q e => (h.own.lt q e).2
  have hl8 := h.rdr.choose_spec.choose_spec.2.2.1
  have hc1 := h1.keep hbk
  have hc2 := h2.keep hbk
  have HC := Lib.hid (And.intro hF (And.intro hc1 (And.intro hc2 (And.intro ha1 (And.intro ha2 (And.intro hk1 (And.intro hk2 (And.intro hn1' (And.intro hn2 hR)))))))))
  have HB := Lib.hid (And.intro hB2 (And.intro h.low hv0))
  have hlow := h.low
  have hup := h.up
  clear hF h1 h2 ha1 ha2 hk1 hk2 hn1 hn2 hn1' hR hB hB2 h hbk hc1 hc2 hv0
  go_enter Tryz.func26, Tryz.ntmps26
  go_wp2_with fail
  generalize ((w.alloc (.cells cs1 59)).alloc (.cells cs2 59)) = w1 at *
  obtain ⟨R0, hR0⟩ : ∃ R0, symsS nl nd l limit f0 p out = R0 := ⟨_, rfl⟩
  rw [hR0]
  have HR0 := Lib.hid hR0
  clear hR0
  go_loopg [3] (8 * l.length + 1) (fun K vv wr => ∃ (p' f : Nat) (out' : List Int) (a : Option Addr) (c : Nat), vv = .slice a out'.length c ∧ 8 * l.length + 1 ≤ p' + f ∧ 8 * l.length + 1 ≤ p' + K ∧ out'.length ≤ limit ∧ Hid (R0 = symsS nl nd l limit f p' out' ∧ RS 5 .u8 w1 base g (.slice a0 out.length c0) l wr p' (.slice a out'.length c) out' ∧ wr.heap[w.heap.size]? = some (.cells cs1 59 (0, 0)) ∧ wr.heap[w.heap.size + 1]? = some (.cells cs2 59 (0, 0))))
  case atStart => exact ⟨p, f0, out, a0, c0, rfl, hf0, by omega, ho, Lib.hid ⟨HR0.out.symm, HC.out.2.2.2.2.2.2.2.2.2, HC.out.2.2.2.2.2.2.2.1, HC.out.2.2.2.2.2.2.2.2.1⟩⟩
  case round =>
    obtain ⟨p', f, out', a, c, rfl, hf, hK, hol, H⟩ := hrel
    obtain ⟨e1, hR, hb1, hb2⟩ := H.out
    obtain ⟨hF, hc1, hc2, ha1, ha2, hk1, hk2, _⟩ := HC.out
    have hp := hR.inl
    have hg0 : g < w.heap.size := by omega
    obtain ⟨f, rfl⟩ : ∃ f', f = f' + 1 := ⟨f - 1, by omega⟩
    have hkeep : ∀ {W : World} {q : Nat} {u : Value} {oo : List Int}, RS 5 .u8 w1 base g (.slice a0 out.length c0) l W q u oo → Cd W F nl cs1 ∧ Cd W F nd cs2 ∧ (∀ b, F b → b < W.heap.size ∧ b ≠ g) := fun {W q u oo} hS => by
      have hb : ∀ b, F b → W.heap[b]? = w1.heap[b]? := fun b hb => hS.keep (by have := (hF b hb).1; omega) (hF b hb).2.1 (hF b hb).2.2
      exact ⟨hc1.keep hb, hc2.keep hb, fun b hb => ⟨by have := (hF b hb).1; have := hS.size; omega, (hF b hb).2.1⟩⟩
    have hck := hkeep hR
    rw [symsS] at e1
    cases hx : nxS nl l p' with
    | error er =>
      have hs : R0 = .error er := by rw [e1, symS_bad hx]
      have hcall := nxtR_bad hck.2.2 hck.1 ha1 hk1 hR.rdr hx
      have HE := Lib.hid (And.intro hs (And.intro hR hb1))
      clear hck hkeep hR hb2 e1 hs hx hF hc1 hc2 ha1 ha2 hk1 hk2 H HC HR0
      go_wp2_with (refine code_ld rfl rfl w.heap.size rfl hs1 hb1 ?_)
      refine hcall.mono ?_
      rintro e w2 ⟨y, q, rfl, hne, hr2, ho2⟩
      have hd : (er != 0) = true := by simp [hne]
      have HF := Lib.hid (HE.out.2.1.only ho2 hr2).foot
      have HNE := Lib.hid hne
      clear hcall hr2 ho2 hne hb1
      go_wp2_with fail
      go_ret2
      exact SymR.bad HE.out.1 HNE.out (foot_back HB.out.1 HF.out)
    | ok x =>
      obtain ⟨v, p1⟩ := x
      obtain ⟨⟨s, hs300, rfl⟩, hpp, hp1⟩ := nxS_ok hp hx
      have hcall := nxtR_ok hck.2.2 hck.1 ha1 hk1 hR.rdr hx
      have hlen300 : s ≤ 300 := by omega
      have HE := Lib.hid (And.intro e1 (And.intro hx (And.intro hR (And.intro hb2 hb1))))
      have HKP : Hid (∀ (W : World) (q : Nat) (u : Value) (oo : List Int), RS 5 .u8 w1 base g (.slice a0 out.length c0) l W q u oo → Cd W F nl cs1 ∧ Cd W F nd cs2 ∧ (∀ b, F b → b < W.heap.size ∧ b ≠ g)) := Lib.hid fun W q u oo h => hkeep h
      clear hck hkeep hR hb2 e1 hx hF hc1 hc2 ha1 ha2 hk1 hk2 H HR0 hs300
      go_wp2_with (refine code_ld rfl rfl w.heap.size rfl hs1 hb1 ?_)
      refine hcall.mono ?_
      rintro e w2 ⟨rfl, hr2, ho2⟩
      have hR2 := HE.out.2.2.1.only ho2 hr2
      have hg1 : w2.heap[w.heap.size]? = some (.cells cs1 59 (0, 0)) := (ho2.block _ (blk_lt HE.out.2.2.2.2) (by intro e; injection e with e; omega)).trans HE.out.2.2.2.2
      have hg2 : w2.heap[w.heap.size + 1]? = some (.cells cs2 59 (0, 0)) := (ho2.block _ (blk_lt HE.out.2.2.2.1) (by intro e; injection e with e; omega)).trans HE.out.2.2.2.1
      have H2 := Lib.hid (And.intro hR2 (And.intro hg1 hg2))
      clear hcall hr2 ho2 hR2 hb1 hg1 hg2
      by_cases h256 : s = 256
      · subst h256
        have hs : R0 = .ok (p1, out') := by rw [HE.out.1, symS_end HE.out.2.1]
        have HS := Lib.hid hs
        clear hs
        go_wp2_with fail
        go_ret2
        exact .inl ⟨_, _, _, HS.out, rfl, H2.out.1.back HB.out.1 HB.out.2.1⟩
      · by_cases hlit : s < 256
        · have hs : R0 = (if limit ≤ out'.length then .error 8 else symsS nl nd l limit f p1 (out' ++ [(s : Int)])) := by
            rw [HE.out.1, symS_lit HE.out.2.1 (by omega)]
            by_cases hq : limit ≤ out'.length
            · rw [if_pos hq, if_pos hq]
            · rw [if_neg hq, if_neg hq]
          by_cases hq : limit ≤ out'.length
          · rw [if_pos hq] at hs
            have HS := Lib.hid hs
            clear hs
            go_wp2_with fail
            go_ret2
            exact SymR.bad HS.out (by decide) (foot_back HB.out.1 H2.out.1.foot)
          · rw [if_neg hq] at hs
            have HS := Lib.hid hs
            have hs8 : IntKind.u8.wrap (s : Int) = s := IntWalk.u8_in _ (by omega)
            have hbase := H2.out.1.low
            have hsz := H2.out.1.size
            have hown := H2.out.1.own.is.2
            clear hs
            go_wp2_with (at_builtin; refine wpList_appG 24 5 (.int .u8 0) 1 Tryz.underlying24 u8_info rfl rfl _ _ rfl base (.slice a out'.length c) out'.length (out'.map (Value.int .u8)) rfl (hown.alloc _) (some ⟨w2.heap.size, 0, none⟩) 1 1 [.int .u8 s] rfl rfl (src_one w2 _ _) (by intro u hu; simp at hu; subst hu; rfl) (by simp) (by simp only [maxLen]; omega) (by omega) (by simp; omega) ?_; intro v3 w3 o3 g3 l3; obtain ⟨a3, c3, rfl⟩ := own_shape o3)
            have hR3 := (H2.out.1.below ((Below.refl _ _).alloc (Nat.le_refl _) (.cells #[.int .u8 s] 5))).grown (x := [(s : Int)]) (by rw [List.map_append]; exact o3) (by simp) g3 l3
            have hq1 : w3.heap[w.heap.size]? = some (.cells cs1 59 (0, 0)) := by
              rw [g3.block _ (by have := blk_lt H2.out.2.1; simp; omega) (fun e => H2.out.1.off HB.out.2.2 (Nat.le_refl _) (by omega) e.symm), Below.heap_alloc _ _ _ (blk_lt H2.out.2.1)]; exact H2.out.2.1
            have hq2 : w3.heap[w.heap.size + 1]? = some (.cells cs2 59 (0, 0)) := by
              rw [g3.block _ (by have := blk_lt H2.out.2.2; simp; omega) (fun e => H2.out.1.off HB.out.2.2 (by omega) (by omega) e.symm), Below.heap_alloc _ _ _ (blk_lt H2.out.2.2)]; exact H2.out.2.2
            have H3 := Lib.hid (And.intro hR3 (And.intro hq1 hq2))
            clear o3 g3 l3 hR3 hq1 hq2 hown
            go_roundg (8 * l.length + 1 - p1)
            case measure => omega
            case rel =>
              refine ⟨p1, f, out' ++ [(s : Int)], a3, c3, by simp, by omega, by omega, by simp; omega, Lib.hid ⟨HS.out, by simpa using H3.out.1, H3.out.2⟩⟩
        · by_cases h285 : 285 < s
          · have hs : R0 = .error 6 := by
              rw [HE.out.1, symS_cop HE.out.2.1 (by omega), copS_is]
              have : lenS l p1 (s : Int) = .error 6 := by unfold lenS; rw [if_pos (by omega)]
              rw [this]
            have HS := Lib.hid hs
            clear hs
            go_wp2_with fail
            go_ret2
            exact SymR.bad HS.out (by decide) (foot_back HB.out.1 H2.out.1.foot)
          · have hs : R0 = (match copS nd l limit p1 out' (s : Int) with | .error e => .error e | .ok (q, oo) => symsS nl nd l limit f q oo) := by
              rw [HE.out.1, symS_cop HE.out.2.1 (by omega)]
              cases copS nd l limit p1 out' (s : Int) with
              | error e => rfl
              | ok y => obtain ⟨q, oo⟩ := y; rfl
            rw [copS_is, lenS_is hp1 (by omega) (by omega)] at hs
            have hlen := refLen s (by omega) (by omega) w2
            obtain ⟨hm5, hl258⟩ := least_bd s (by omega)
            have HS := Lib.hid hs
            clear hs
            go_wp2_with fail
            refine hlen.mono ?_
            rintro e w3 ⟨rfl, rfl⟩
            generalize LN s = LS at *
            generalize MN s = MS at *
            clear hlen
            cases ht : takeS l p1 MS with
            | error er =>
              have hcall := takeR_bad (by omega) H2.out.1.rdr ht
              have hs : R0 = .error er := by rw [HS.out, ht]
              have HT := Lib.hid hs
              clear hs ht
              go_wp2_with fail
              refine hcall.mono ?_
              rintro e w3 ⟨rfl, hne, hr3, ho3⟩
              have hd : (er != 0) = true := by simp [hne]
              have HF := Lib.hid (And.intro hne (H2.out.1.only ho3 hr3).foot)
              clear hcall hr3 ho3 hne
              go_wp2_with fail
              go_ret2
              exact SymR.bad HT.out HF.out.1 (foot_back HB.out.1 HF.out.2)
            | ok y =>
              obtain ⟨k, p2⟩ := y
              obtain ⟨hkv, hp2, hp28⟩ := takeS_val ht
              rw [← hp2] at hp28
              have hkb := tk_bd l p1 MS
              have hk32 : (2 : Int) ^ MS ≤ 32 := pow_le5 MS hm5
              rw [← hkv] at hkb
              have hcall := takeR_ok (by omega) H2.out.1.rdr ht
              have hs := HS.out
              rw [ht] at hs
              simp only at hs
              have HT := Lib.hid hs
              clear hs ht HS hkv
              go_wp2_with fail
              refine hcall.mono ?_
              rintro e w3 ⟨rfl, hr3, ho3⟩
              have hR3 := H2.out.1.only ho3 hr3
              have hg1 : w3.heap[w.heap.size]? = some (.cells cs1 59 (0, 0)) := (ho3.block _ (blk_lt H2.out.2.1) (by intro e; injection e with e; omega)).trans H2.out.2.1
              have hg2 : w3.heap[w.heap.size + 1]? = some (.cells cs2 59 (0, 0)) := (ho3.block _ (blk_lt H2.out.2.2) (by intro e; injection e with e; omega)).trans H2.out.2.2
              have hck := HKP.out _ _ _ _ hR3
              have HK := HC.out
              obtain ⟨_, _, _, _, ha2, _, hk2, _⟩ := HK
              have H3 := Lib.hid (And.intro hR3 (And.intro hg1 hg2))
              clear hcall hr3 ho3 hg1 H2
              cases hx2 : nxS nd l p2 with
              | error er =>
                have hcall := nxtR_bad hck.2.2 hck.2.1 ha2 hk2 H3.out.1.rdr hx2
                have hs : R0 = .error er := by rw [HT.out, disS_any, hx2]
                have HT2 := Lib.hid hs
                clear hs hx2 hck HKP ha2 hk2
                go_wp2_with (refine code_ld rfl rfl (w.heap.size + 1) rfl hs2 hg2 ?_)
                refine hcall.mono ?_
                rintro e w4 ⟨y, q, rfl, hne, hr4, ho4⟩
                have hd : (er != 0) = true := by simp [hne]
                have HF := Lib.hid (And.intro hne (H3.out.1.only ho4 hr4).foot)
                clear hcall hr4 ho4 hne hg2
                go_wp2_with fail
                go_ret2
                exact SymR.bad HT2.out HF.out.1 (foot_back HB.out.1 HF.out.2)
              | ok y =>
                obtain ⟨t', p3⟩ := y
                obtain ⟨⟨t, ht300, rfl⟩, hpp3, hp3⟩ := nxS_ok hp28 hx2
                have hcall := nxtR_ok hck.2.2 hck.2.1 ha2 hk2 H3.out.1.rdr hx2
                have ht3 : t ≤ 300 := by omega
                have hs := HT.out
                rw [disS_any, hx2] at hs
                simp only at hs
                have HT2 := Lib.hid hs
                clear hs hx2 hck HKP ha2 hk2 HT ht300
                go_wp2_with (refine code_ld rfl rfl (w.heap.size + 1) rfl hs2 hg2 ?_)
                refine hcall.mono ?_
                rintro e w4 ⟨rfl, hr4, ho4⟩
                have hR4 := H3.out.1.only ho4 hr4
                have hg1 : w4.heap[w.heap.size]? = some (.cells cs1 59 (0, 0)) := (ho4.block _ (blk_lt H3.out.2.1) (by intro e; injection e with e; omega)).trans H3.out.2.1
                have hg2' : w4.heap[w.heap.size + 1]? = some (.cells cs2 59 (0, 0)) := (ho4.block _ (blk_lt H3.out.2.2) (by intro e; injection e with e; omega)).trans H3.out.2.2
                have H4 := Lib.hid (And.intro hR4 (And.intro hg1 hg2'))
                clear hcall hr4 ho4 hg1 hg2 hg2' hR4 H3
                by_cases h29 : 29 < t
                · have hs : R0 = .error 6 := by rw [HT2.out, if_pos (by omega)]
                  have HS := Lib.hid hs
                  clear hs
                  go_wp2_with fail
                  go_ret2
                  exact SymR.bad HS.out (by decide) (foot_back HB.out.1 H4.out.1.foot)
                · have hs := HT2.out
                  rw [if_neg (by omega), Int.toNat_natCast] at hs
                  obtain ⟨hmd, hld1, hld2⟩ := leastD_bd t (by omega)
                  have hdist := refDistance t (by omega) w4
                  have HT3 := Lib.hid hs
                  clear hs HT2
                  go_wp2_with fail
                  refine hdist.mono ?_
                  rintro e w5 ⟨rfl, rfl⟩
                  clear hdist
                  generalize leastD t = LD at *
                  generalize moreD t = MD at *
                  cases ht2 : takeS l p3 MD with
                  | error er =>
                    have hcall := takeR_bad (by omega) H4.out.1.rdr ht2
                    have hs : R0 = .error er := by rw [HT3.out, ht2]
                    have HT4 := Lib.hid hs
                    clear hs ht2
                    go_wp2_with fail
                    refine hcall.mono ?_
                    rintro e w5 ⟨rfl, hne, hr5, ho5⟩
                    have hd : (er != 0) = true := by simp [hne]
                    have HF := Lib.hid (And.intro hne (H4.out.1.only ho5 hr5).foot)
                    clear hcall hr5 ho5 hne
                    go_wp2_with fail
                    go_ret2
                    exact SymR.bad HT4.out HF.out.1 (foot_back HB.out.1 HF.out.2)
                  | ok z =>
                    obtain ⟨k2, p4⟩ := z
                    obtain ⟨hkv2, hp4, hp48⟩ := takeS_val ht2
                    rw [← hp4] at hp48
                    have hkb2 := tk_bd l p3 MD
                    have hk33 : (2 : Int) ^ MD ≤ 8192 := pow_le13 MD hmd
                    rw [← hkv2] at hkb2
                    have hcall := takeR_ok (by omega) H4.out.1.rdr ht2
                    have hs := HT3.out
                    rw [ht2] at hs
                    simp only at hs
                    obtain ⟨NN, hNN⟩ := Int.eq_ofNat_of_zero_le (show 0 ≤ (LS : Int) + k by omega)
                    obtain ⟨FF, hFF⟩ := Int.eq_ofNat_of_zero_le (show 0 ≤ (LD : Int) + k2 by omega)
                    rw [hNN, hFF, Int.toNat_natCast, Int.toNat_natCast] at hs
                    have hNb : NN ≤ 290 := by omega
                    have hFb : 1 ≤ FF ∧ FF ≤ 33000 := by omega
                    have HT4 := Lib.hid hs
                    clear hs ht2 HT3 hkv2
                    go_wp2_with fail
                    refine hcall.mono ?_
                    rintro e w5 ⟨rfl, hr5, ho5⟩
                    have hR5 := H4.out.1.only ho5 hr5
                    have hg1 : w5.heap[w.heap.size]? = some (.cells cs1 59 (0, 0)) := (ho5.block _ (blk_lt H4.out.2.1) (by intro e; injection e with e; omega)).trans H4.out.2.1
                    have hg2 : w5.heap[w.heap.size + 1]? = some (.cells cs2 59 (0, 0)) := (ho5.block _ (blk_lt H4.out.2.2) (by intro e; injection e with e; omega)).trans H4.out.2.2
                    have H5 := Lib.hid (And.intro hR5 (And.intro hg1 hg2))
                    clear hcall hr5 ho5 hg1 hg2 hR5 H4
                    by_cases h7 : out'.length < FF
                    · have hs : R0 = .error 7 := by rw [HT4.out, if_pos (by omega)]
                      have HS := Lib.hid hs
                      clear hs
                      go_wp2_with fail
                      go_ret2
                      exact SymR.bad HS.out (by decide) (foot_back HB.out.1 H5.out.1.foot)
                    · by_cases h8 : (limit : Int) - out'.length < NN
                      · have hs : R0 = .error 8 := by rw [HT4.out, if_neg (by omega), if_pos h8]
                        have HS := Lib.hid hs
                        have hd8 : decide ((NN : Int) > (limit : Int) - out'.length) = true := by simp; omega
                        clear hs
                        go_wp2_with fail
                        go_ret2
                        exact SymR.bad HS.out (by decide) (foot_back HB.out.1 H5.out.1.foot)
                      · have hs : R0 = symsS nl nd l limit f p4 (copyN out' FF NN) := by rw [HT4.out, if_neg (by omega), if_neg h8]
                        have HS := Lib.hid hs
                        have hd8 : decide ((NN : Int) > (limit : Int) - out'.length) = false := by simp; omega
                        clear hs HT4
                        go_wp2_with fail
                        have hgap : out'.length + NN ≤ limit := by omega
                        clear hNN hFF hkb hkb2 hk32 hk33 hmd hld1 hld2 hm5 hl258
                        go_loopw [3, 19] (fun vv iv wq => ∃ (i : Nat) (a : Option Addr) (c : Nat), i ≤ NN ∧ iv = .int .i64 i ∧ vv = .slice a (out'.length + i) c ∧ Hid (RS 5 .u8 w1 base g (.slice a0 out.length c0) l wq p4 (.slice a (out'.length + i) c) (copyN out' FF i) ∧ wq.heap[w.heap.size]? = some (.cells cs1 59 (0, 0)) ∧ wq.heap[w.heap.size + 1]? = some (.cells cs2 59 (0, 0)))) (fun _ iv _ => NN - (intOf iv).toNat)
                        case atStart => exact ⟨0, a, c, Nat.zero_le _, rfl, rfl, H5⟩
                        case round =>
                          obtain ⟨i, a6, c6, hi, rfl, rfl, HI⟩ := hrel
                          by_cases hlt : i < NN
                          · have hown := HI.out.1.own.is.2
                            have hlen := copyN_len FF i out'
                            obtain ⟨gq, rfl⟩ : ∃ gq, a6 = some ⟨gq, 0, none⟩ := by
                              rcases hown.2 with ⟨e, hn⟩ | ⟨gq, cap, cur, e, _⟩
                              · omega
                              · injection e with e1 e2 e3
                                exact ⟨gq, e1⟩
                            obtain ⟨J, hJ⟩ : ∃ J : Nat, out'.length + i - FF = J := ⟨_, rfl⟩
                            have hJ1 : ((out'.length : Int) + (i : Int)) - (FF : Int) = (J : Int) := by omega
                            have hJ2 : J < out'.length + i := by omega
                            have hcell := own_byte hown (by rw [hlen]) hJ2
                            obtain ⟨X, hX⟩ : ∃ X, (copyN out' FF i).getD J 0 = X := ⟨_, rfl⟩
                            rw [hX] at hcell
                            have hsucc := copyN_succ FF i out'
                            rw [hlen, hJ, hX] at hsucc
                            have hbase := HI.out.1.low
                            have hsz := HI.out.1.size
                            have HZ := Lib.hid (And.intro hsucc hlen)
                            clear hsucc hX hlen hJ
                            go_wp2_with (at_builtin; refine wpList_appG 24 5 (.int .u8 0) 1 Tryz.underlying24 u8_info rfl rfl _ _ rfl base (.slice (some ⟨gq, 0, none⟩) (out'.length + i) c6) (out'.length + i) ((copyN out' FF i).map (Value.int .u8)) rfl (hown.alloc _) (some ⟨wr.heap.size, 0, none⟩) 1 1 [.int .u8 X] rfl rfl (src_one wr _ _) (by intro u hu; simp at hu; subst hu; rfl) (by simp) (by simp only [maxLen]; omega) (by omega) (by simp; omega) ?_; intro v7 w7 o7 g7 l7; obtain ⟨a7, c7, rfl⟩ := own_shape o7)
                            have hR7 := (HI.out.1.below ((Below.refl _ _).alloc (Nat.le_refl _) (.cells #[.int .u8 X] 5))).grown (x := [X]) (by rw [List.map_append]; exact o7) (by rw [List.length_append, HZ.out.2]; rfl) g7 l7
                            have hq1 : w7.heap[w.heap.size]? = some (.cells cs1 59 (0, 0)) := by
                              rw [g7.block _ (by have := blk_lt HI.out.2.1; simp; omega) (fun e => HI.out.1.off HB.out.2.2 (Nat.le_refl _) (by omega) e.symm), Below.heap_alloc _ _ _ (blk_lt HI.out.2.1)]; exact HI.out.2.1
                            have hq2 : w7.heap[w.heap.size + 1]? = some (.cells cs2 59 (0, 0)) := by
                              rw [g7.block _ (by have := blk_lt HI.out.2.2; simp; omega) (fun e => HI.out.1.off HB.out.2.2 (by omega) (by omega) e.symm), Below.heap_alloc _ _ _ (blk_lt HI.out.2.2)]; exact HI.out.2.2
                            rw [← HZ.out.1] at hR7
                            have H7 := Lib.hid (And.intro hR7 (And.intro hq1 hq2))
                            clear o7 g7 l7 hR7 hq1 hq2 hown hcell
                            case roundEnd => exact ⟨⟨i + 1, a7, c7, by omega, by simp, by rw [Nat.add_assoc], H7⟩, by simp [intOf]; omega⟩
                          · have hi' : i = NN := by omega
                            subst hi'
                            have hlen := copyN_len FF i out'
                            have HL := Lib.hid hlen
                            clear hlen
                            go_wp2_with fail
                            go_roundg (8 * l.length + 1 - p4)
                            case measure => omega
                            case rel =>
                              exact ⟨p4, f, copyN out' FF i, a6, c6, by rw [HL.out], by omega, by omega, by rw [HL.out]; omega, Lib.hid ⟨HS.out, by rw [HL.out]; exact HI.out.1, HI.out.2⟩⟩
end Go.Proofs.YthfhafnffeijpaaGreatDoor
