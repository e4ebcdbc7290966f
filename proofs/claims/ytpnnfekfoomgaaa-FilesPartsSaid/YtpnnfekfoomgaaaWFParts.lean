/- The walk of the law FilesParts: it returns true and turns nothing that was there. No condition but what the words say. -/
import Derived.Test.YtpnnfekfoomgaaaWFFails
import Derived.Test.YtpnnfekfoomgaaaSame
import Derived.Test.YtpnnfekfoomgaaaArgs
set_option linter.unusedVariables false
set_option maxRecDepth 100000
namespace Go.Proofs.Ytpnnfekfoomgaaa
open Go.RowKit Go.Maps Go.ChangeMaps Go.WideShapes Go.ChangeAt Go.WideMaps

theorem index_mem : ∀ (l : List UInt8), 0 ≤ Lib.indexByte l 0 → (0 : UInt8) ∈ l
  | [], h => by simp [Lib.indexByte] at h
  | b :: l, h => by
    unfold Lib.indexByte at h
    by_cases hb : b = 0
    · subst hb; simp
    · rw [if_neg (by simpa using hb)] at h
      by_cases h1 : Lib.indexByte l 0 = -1
      · rw [if_pos (by simp [h1])] at h; omega
      · have := Lib.indexByte_ge l 0
        exact List.mem_cons_of_mem _ (index_mem l (by omega))
theorem refNameZero (s : ByteArray) (hz : 0 ≤ Lib.indexByte s.data.toList 0) (hs : s.size ≤ 64) (w : World) : Calls Try.prog 9 #[.string s] w fun e w' => e = .returned (.bool false) ∧ w' = w := by
  obtain ⟨q, hq, hq0⟩ := List.getElem_of_mem (index_mem _ hz)
  have hqs : q < s.size := by simpa using hq
  have hqv : s[q] = 0 := hq0
  clear hz hq hq0
  go_enter Try.func9, Try.ntmps9
  go_wp2_with fail
  go_loopw [3] (fun iv wr => ∃ i : Nat, i ≤ q ∧ iv = .int .i64 i ∧ wr = w) (fun iv _ => s.size - (intOf iv).toNat)
  case atStart => exact ⟨0, Nat.zero_le _, rfl, rfl⟩
  case round =>
    obtain ⟨i, hi, rfl, rfl⟩ := hrel
    have hlt : i < s.size := by omega
    cases hb : (((s[i].toNat : Nat) : Int) == 0) with
    | true =>
      go_wp2_with fail
      go_ret
      exact ⟨rfl, rfl⟩
    | false =>
      have hne : i ≠ q := by
        intro e
        subst e
        rw [hqv] at hb
        exact absurd hb (by decide)
      go_wp2_with fail
      exact ⟨⟨i + 1, by omega, by go_num, trivial⟩, by simp [intOf]; omega⟩
/-- what the walk is told of its files: where they stand, the file's row, and that no read is to fail -/
theorem fil_slice {w : World} {base : Nat} {v : Value} {l : List Int} (h : Fil w base v l) : ∃ a c, v = .slice a l.length c := by obtain ⟨a, c, e, _⟩ := h; exact ⟨a, c, e⟩
theorem own_off {w : World} {base : Nat} {t : TypeId} {a : Option Addr} {n c k g : Nat} {xs : List Value} (h : w.ownsRow base t k (.slice a n c) n xs) (hg : g < base) : ∀ x, a = some x → x.block ≠ g := fun x e => by
  rcases h.2 with ⟨e1, _⟩ | ⟨q, cap, cur, e1, h2, h3, h4⟩
  · injection e1 with e1 _ _; rw [e1] at e; cases e
  · have := (h.lt q (by rw [e1]; rfl)).1
    injection e1 with e1 _ _
    rw [e1] at e; injection e with e; subst e
    show q ≠ g
    omega
theorem FT.set {w1 W : World} {B K g m2 rd : Nat} {rv fv2 : Option Nat} {kl : Lit} {l : List Int} {v u : Value} {fs2 : Int → Bool} (hT : FT w1 W g rv fv2 m2 rd kl l v fs2) (hBg : B ≠ g) (hf : fv2 ≠ some B) (hrB : rv ≠ some B) (hvB : v.ownBlock ≠ some B) (hBw : w1.heap.size ≤ B) : FT w1 (W.setCell ⟨B, K, none⟩ u) g rv fv2 m2 rd kl l v fs2 := by
  have hks : ∀ i, i ≠ B → (W.setCell ⟨B, K, none⟩ u).heap[i]? = W.heap[i]? := fun i hi => Below.heap_setCell _ ⟨B, K, none⟩ _ i hi
  have hfo : Foot (fun i => i = B) W (W.setCell ⟨B, K, none⟩ u) := (Foot.refl _ _).set (.inl rfl)
  refine ⟨⟨(hks g (fun e => hBg e.symm)).trans hT.fs.blk, ?_, ?_⟩, hT.fil.foot hfo (fun q e1 e2 => hvB (by rw [e1, e2])), hT.off, hT.low.trans (hfo.below (fun i hi e => by omega) hT.low.size), hT.up, hT.upf⟩
  · have h2 := hT.fs.rows
    cases rv with
    | none => exact h2
    | some b => exact ⟨h2.1, h2.2.keep (hks b (fun e => hrB (by rw [e])))⟩
  · have h3 := hT.fs.fails
    cases fv2 with
    | none => exact h3
    | some b => exact ⟨h3.1, h3.2.1, h3.2.2.keep (hks b (fun e => hf (by rw [e])))⟩
theorem hag_low {w : World} {B : Nat} {a : Option Addr} {l : List Int} {g : Nat} (h : Bs w B a l) (hg : B ≤ g) : 0 < l.length → ∀ x, a = some x → x.block ≠ g := fun hn x e => by
  obtain ⟨b, off, e2, hb, _⟩ := h.2 hn
  rw [e] at e2; injection e2 with e2; subst e2
  show b ≠ g
  omega
theorem FT.foot {F : Nat → Prop} {w1 W W' : World} {g m2 rd : Nat} {rv fv2 : Option Nat} {kl : Lit} {l : List Int} {v : Value} {fs2 : Int → Bool} (hT : FT w1 W g rv fv2 m2 rd kl l v fs2) (hf : Foot F W W') (hF : ∀ i, F i → i ≠ g ∧ rv ≠ some i ∧ fv2 ≠ some i ∧ v.ownBlock ≠ some i ∧ w1.heap.size ≤ i) : FT w1 W' g rv fv2 m2 rd kl l v fs2 := by
  refine ⟨⟨(hf.block g (blk_lt hT.fs.blk) (fun e => (hF g e).1 rfl)).trans hT.fs.blk, ?_, ?_⟩, hT.fil.foot hf (fun q e1 e2 => (hF q e2).2.2.2.1 e1), hT.off, hT.low.trans (hf.below (fun i hi e => by have := (hF i e).2.2.2.2; omega) hT.low.size), hT.up, hT.upf⟩
  · have h2 := hT.fs.rows
    cases rv with
    | none => exact h2
    | some b => exact ⟨h2.1, h2.2.keep (hf.block b h2.2.lt (fun e => (hF b e).2.1 rfl))⟩
  · have h3 := hT.fs.fails
    cases fv2 with
    | none => exact h3
    | some b => exact ⟨h3.1, h3.2.1, h3.2.2.keep (hf.block b h3.2.2.lt (fun e => (hF b e).2.2.1 rfl))⟩
/-- the state of the reads in pieces: files, and what was read so far, a row of the call's own from base on -/
structure PS (w wr : World) (base g : Nat) (rv : Option Nat) (kl : Lit) (l : List Int) (v : Value) (k A : Nat) (aa : Option Addr) (ca : Nat) : Prop where
  ft : FT w wr g rv none 2 k kl l v (fun _ => false)
  row : wr.ownsRow base 5 1 (.slice aa A ca) A ((l.take A).map (Value.int .u8))
  far : ∀ q, base ≤ q → q ≠ g ∧ rv ≠ some q ∧ none ≠ some q ∧ v.ownBlock ≠ some q ∧ w.heap.size ≤ q
  bas : base ≤ wr.heap.size
theorem PS.start {w wo : World} {g : Nat} {rv : Option Nat} {kl : Lit} {l : List Int} {v : Value} (h : FT w wo g rv none 2 0 kl l v (fun _ => false)) : PS w wo wo.heap.size g rv kl l v 0 0 none 0 := by
  refine ⟨h, World.ownsRow_nil _ _ _ _, fun q hq => ⟨?_, ?_, by simp, ?_, ?_⟩, Nat.le_refl _⟩
  · have := blk_lt h.fs.blk; omega
  · have h2 := h.fs.rows
    cases rv with
    | none => simp
    | some b => have := h2.2.lt; intro e; injection e with e; omega
  · intro e; have := (h.fil.lt q e).2; omega
  · have := h.low.size; omega
theorem PS.read {w wr w6 : World} {base g : Nat} {rv : Option Nat} {kl : Lit} {l : List Int} {v : Value} {k A : Nat} {aa : Option Addr} {ca : Nat} (h : PS w wr base g rv kl l v k A aa ca) (hS : FS w6 g rv none 2 (k + 1) kl (some v) (fun j => !decide (j = ((k : Int)) + 1) && (fun _ => false) j)) (hF : Foot (FF g none) wr w6) : PS w w6 base g rv kl l v (k + 1) A aa ca := by
  have e : (fun j : Int => !decide (j = ((k : Int)) + 1) && (fun _ => false) j) = fun _ => false := by funext j; simp
  rw [e] at hS
  refine ⟨h.ft.turn hS hF, own_foot h.row hF (fun q e hff => ?_), h.far, Nat.le_trans h.bas hF.size⟩
  rcases hff with e1 | e1
  · exact (h.far q (h.row.lt q e).1).1 e1
  · cases e1
theorem PS.more {w wr w6 : World} {base g : Nat} {rv : Option Nat} {kl : Lit} {l : List Int} {v : Value} {k A A' : Nat} {aa a' : Option Addr} {ca c' : Nat} (h : PS w wr base g rv kl l v k A aa ca) (ho : w6.ownsRow base 5 1 (.slice a' A' c') A' ((l.take A').map (Value.int .u8))) (hg : wr.grownBy w6 (Value.slice aa A ca).ownBlock) : PS w w6 base g rv kl l v k A' a' c' := by
  have hf : Foot (fun i => (Value.slice aa A ca).ownBlock = some i) wr w6 := (Foot.refl _ _).grown hg (fun k e => .inl e)
  exact ⟨h.ft.foot hf (fun i e => h.far i (h.row.lt i e).1), ho, h.far, Nat.le_trans h.bas hf.size⟩
theorem PS.set {w wr : World} {base g B K : Nat} {u : Value} {rv : Option Nat} {kl : Lit} {l : List Int} {v : Value} {k A : Nat} {aa : Option Addr} {ca : Nat} (h : PS w wr base g rv kl l v k A aa ca) (hB : base ≤ B) (hne : (Value.slice aa A ca).ownBlock ≠ some B) : PS w (wr.setCell ⟨B, K, none⟩ u) base g rv kl l v k A aa ca := by
  have hf : Foot (fun i => i = B) wr (wr.setCell ⟨B, K, none⟩ u) := (Foot.refl _ _).set (.inl rfl)
  exact ⟨h.ft.foot hf (fun i e => h.far i (by omega)), own_other h.row hne K u, h.far, Nat.le_trans h.bas hf.size⟩
theorem ne_new {x all v' : Option Nat} {S size base : Nat} (h6 : ∀ q, all = some q → base ≤ q ∧ q < S) (h7 : ∀ q, x = some q → S ≤ q ∧ q < size) (hb : base ≤ S) (l7 : v' = all ∨ v' = some size) : ∀ q, x = some q → v' ≠ some q ∧ base ≤ q := fun q e1 => by
  have h8 := h7 q e1
  refine ⟨fun e2 => ?_, by omega⟩
  rcases l7 with l7 | l7
  · rw [l7] at e2; have := (h6 q e2).2; omega
  · rw [l7] at e2; injection e2 with e2; omega
set_option maxHeartbeats 8000000 in
theorem filesparts_walk (w : World) (s : ByteArray) (hss : s.size ≤ 2 ^ 63 - 1) (a1 : Option Addr) (n1 c1 : Nat) (l1 : List Int) (hl1 : l1.length = n1) (hA1 : a1 = none → c1 = 0) (hc1 : n1 ≤ c1) (hm1 : c1 ≤ 140737488351232) (hb1 : Bs w w.heap.size a1 l1)
    (a2 : Option Addr) (n2 c2 : Nat) (l2 : List Int) (hl2 : l2.length = n2) (hA2 : a2 = none → c2 = 0) (hc2 : n2 ≤ c2) (hm2 : c2 ≤ 140737488351232) (hb2 : Bs w w.heap.size a2 l2)
    (a3 : Option Addr) (n3 c3 : Nat) (l3 : List Int) (hl3 : l3.length = n3) (hb3 : Ints .u16 w w.heap.size a3 l3) :
    Calls Try.prog 3 #[.string s, .slice a1 n1 c1, .slice a2 n2 c2, .slice a3 n3 c3] w fun e w' => e = .returned (.bool true) ∧ Below w.heap.size w w' := by
  have hfx := fixed8 w
  have HA2 : Hid (a2 = none → n2 = 0 ∧ c2 = 0) := Lib.hid fun h => by have := hA2 h; omega
  have hkl : keyOf Try.prog 9 (.string s) = some (.string s.data.toList) := keyOf_string_mk Try.underlying9 (by unfold maxLen; omega)
  have H0 := Lib.hid (And.intro hb1 (And.intro hb2 (And.intro hb3 hkl)))
  clear hb1 hb2 hb3 hA1 hA2 hkl
  go_enter Try.func3, Try.ntmps3
  go_wp2_with fail
  refine hfx.mono ?_
  rintro e w1 ⟨rfl, hw1⟩
  have H1 := Lib.hid hw1
  clear hfx hw1
  have hnew := filesNew w1 (.string s.data.toList)
  go_wp2_with fail
  refine hnew.mono ?_
  rintro e w2 ⟨rfl, hb2, hs2, hS2⟩
  obtain ⟨g, hg⟩ : ∃ g, w1.heap.size = g := ⟨_, rfl⟩
  rw [hg] at hS2 ⊢
  have hw2 := below_next H1.out (Nat.le_refl _) hb2
  have bs2 := (H0.out.2.1.below hw2).more hw2.size
  have hgl : g < w2.heap.size := by omega
  have hg1 : w.heap.size ≤ g := by have := H1.out.size; omega
  have H2 := Lib.hid (And.intro hS2 (And.intro hw2 hb2))
  clear hnew hb2 hs2 hS2 hw2
  go_wp2_with (at_builtin; refine wpList_app rfl _ _ rfl w2.heap.size (.slice (some ⟨w2.heap.size, 0, none⟩) 0 0) 0 [] rfl (World.ownsRow_lit w2 #[] 0 (Nat.le_refl _) (by decide) rfl) w2.heap.size a2 n2 c2 l2 rfl hl2 (bs2.alloc (Nat.le_refl _) _) HA2.out (by omega) (by simp) ?_; intro v3 w3 o3 g3; rw [Nat.zero_add] at o3; obtain ⟨ao, co, rfl⟩ := own_shape o3; have h23 : Below w2.heap.size w2 w3 := ((Below.refl w2.heap.size w2).alloc (Nat.le_refl _) _).grown g3 (by simp) (fun k hk => by simp [Value.ownBlock] at hk; omega))
  have hlow3 := below_next H2.out.2.1 (Nat.le_refl _) h23
  have hN2 : ([] ++ l2).length = n2 := hl2
  have H3 := Lib.hid (And.intro h23 (And.intro o3 hlow3))
  have hs23 := h23.size
  clear h23 o3 g3 hlow3
  have hemp : ∀ b, s.toList.isEmpty = b → s.toList.isEmpty = b := fun b h => h
  cases hN : nameB s with
  | false =>
    have hput := filesPutName g s (.slice a1 n1 c1) hN w3
    have hnb := hN
    unfold nameB at hnb
    cases he : s.toList.isEmpty with
    | true =>
      clear hnb hN
      refine hput.mono ?_
      rintro e w' ⟨rfl, hw'⟩
      rw [hw']
      clear hw' w' hput
      go_wp2_with fail
      go_ret
      exact ⟨rfl, H3.out.2.2⟩
    | false =>
      by_cases h64 : 64 < s.size
      · have hd : decide ((s.size : Int) > 64) = true := by simp; omega
        clear hnb hN
        refine hput.mono ?_
        rintro e w' ⟨rfl, hw'⟩
        rw [hw']
        clear hw' w' hput
        go_wp2_with fail
        go_ret
        exact ⟨rfl, H3.out.2.2⟩
      · have hd : decide ((s.size : Int) > 64) = false := by simp; omega
        have hz : 0 ≤ Lib.indexByte s.data.toList 0 := by
          rw [he] at hnb
          by_cases hq : Lib.indexByte s.data.toList 0 < 0
          · rw [decide_eq_true hq, decide_eq_true (show s.size ≤ 64 by omega)] at hnb
            cases hnb
          · omega
        have hname := refNameZero s hz (by omega) w3
        clear hnb hN hz
        by_cases h1 : 65536 < n1
        · have hd1 : decide ((n1 : Int) > 65536) = true := by simp; omega
          refine hput.mono ?_
          rintro e w' ⟨rfl, hw'⟩
          rw [hw']
          clear hw' w' hput
          go_wp2_with fail
          go_ret
          exact ⟨rfl, H3.out.2.2⟩
        · have hd1 : decide ((n1 : Int) > 65536) = false := by simp; omega
          by_cases h2 : 65536 < n2
          · have hd2 : decide ((n2 : Int) > 65536) = true := by simp; omega
            refine hput.mono ?_
            rintro e w' ⟨rfl, hw'⟩
            rw [hw']
            clear hw' w' hput
            go_wp2_with fail
            go_ret
            exact ⟨rfl, H3.out.2.2⟩
          · have hd2 : decide ((n2 : Int) > 65536) = false := by simp; omega
            refine hput.mono ?_
            rintro e w' ⟨rfl, hw'⟩
            rw [hw']
            clear hw' w' hput
            go_wp2_with fail
            refine hname.mono ?_
            rintro e w' ⟨rfl, hw'⟩
            rw [hw']
            clear hw' w' hname
            go_wp2_with fail
            go_ret
            exact ⟨rfl, H3.out.2.2⟩
  | true =>
    have he : s.toList.isEmpty = false ∧ s.size ≤ 64 := by
      have hnb := hN
      unfold nameB at hnb
      simp only [Bool.and_eq_true, decide_eq_true_eq, Bool.not_eq_true'] at hnb
      exact ⟨hnb.1.1, hnb.1.2⟩
    obtain ⟨he, h64⟩ := he
    have hd : decide ((s.size : Int) > 64) = false := by simp; omega
    by_cases h1 : 65536 < n1
    · have hput := filesPutLong g s a1 n1 c1 hN h1 w3
      have hd1 : decide ((n1 : Int) > 65536) = true := by simp; omega
      clear hN
      refine hput.mono ?_
      rintro e w' ⟨rfl, hw'⟩
      rw [hw']
      clear hw' w' hput
      go_wp2_with fail
      go_ret
      exact ⟨rfl, H3.out.2.2⟩
    · have hd1 : decide ((n1 : Int) > 65536) = false := by simp; omega
      have hb1 := (H0.out.1.below H3.out.2.2).more H3.out.2.2.size
      have hput := filesPut (H2.out.1.keep H3.out.1) s hN H0.out.2.2.2 (by trivial) (by decide) a1 n1 c1 l1 hl1 (by omega) hb1 (hag_low H0.out.1 hg1)
      clear hb1
      refine hput.mono ?_
      rintro e w4 ⟨rfl, rv, a4, c4, hS4, hF4, hn4, ho4⟩
      clear hput
      have hnf : ∀ i, i < w3.heap.size → i ≠ g → ¬ FF g none i := fun i _ hi hff => by
        rcases hff with e1 | e1
        · exact hi e1
        · cases e1
      have own4 : w4.ownsRow w2.heap.size 5 1 (.slice ao n2 co) n2 (l2.map (Value.int .u8)) := own_foot (own_cast (ys := l2.map (Value.int .u8)) H3.out.2.1 rfl (by simp)) hF4 (fun q e hff => by
        have := (H3.out.2.1.lt q e).1
        rcases hff with e1 | e1
        · omega
        · cases e1)
      have hs34 := hF4.size
      have hlow4 : Below w.heap.size w w4 := H3.out.2.2.trans (hF4.below (fun i hi => hnf i (by omega) (by omega)) (by omega))
      have hrv : ∀ b, rv = some b → w3.heap.size ≤ b := fun b e => by
        rcases hn4 with h | ⟨b', h, hb⟩
        · rw [h] at e; cases e
        · rw [h] at e; injection e with e; omega
      by_cases h2 : 65536 < n2
      · have hput2 := filesPutLong g s ao n2 co hN h2 w4
        have hd2 : decide ((n2 : Int) > 65536) = true := by simp; omega
        have HL := Lib.hid hlow4
        clear hN hS4 hF4 hn4 ho4 hnf own4 hrv hlow4
        go_wp2_with fail
        refine hput2.mono ?_
        rintro e w' ⟨rfl, hw'⟩
        rw [hw']
        clear hw' w' hput2
        go_wp2_with fail
        go_ret
        exact ⟨rfl, HL.out⟩
      · have hd2 : decide ((n2 : Int) > 65536) = false := by simp; omega
        have hbo : Bs w4 w4.heap.size ao l2 := Bs.of_own (own_cast own4 hl2.symm rfl) H0.out.2.1.1
        have hput2 := filesPut hS4 s hN H0.out.2.2.2 (by trivial) (by decide) ao n2 co l2 hl2 (by omega) hbo (fun _ => own_off own4 (by omega))
        have H4 := Lib.hid (And.intro own4 (And.intro hlow4 hrv))
        clear hN hS4 hF4 hn4 ho4 hnf own4 hrv hlow4 hbo
        go_wp2_with fail
        refine hput2.mono ?_
        rintro e w5 ⟨rfl, rv', a5, c5, hS5, hF5, hn5, ho5⟩
        clear hput2
        have hs45 := hF5.size
        have ownlt := H4.out.1.lt
        have hnf5 : ∀ i, i < w3.heap.size → i ≠ g → ¬ FF g rv i := fun i hi hg hff => by
          rcases hff with e1 | e1
          · exact hg e1
          · have := H4.out.2.2 i e1; omega
        have hown3 := H3.out.2.1.lt
        have own5 : w5.ownsRow w2.heap.size 5 1 (.slice ao n2 co) n2 (l2.map (Value.int .u8)) := own_foot H4.out.1 hF5 (fun q e => hnf5 q (hown3 q e).2 (by have := (hown3 q e).1; omega))
        have hlow5 : Below w.heap.size w w5 := H4.out.2.1.trans (hF5.below (fun i hi => hnf5 i (by have := H3.out.2.2.size; omega) (by omega)) (by have := H3.out.2.2.size; omega))
        have hrv5 : ∀ b, rv' = some b → w3.heap.size ≤ b := fun b e => by
          rcases hn5 with h | ⟨b', h, hb⟩
          · rw [h] at e; exact H4.out.2.2 b e
          · rw [h] at e; injection e with e; omega
        have T5 : FT w w5 g rv' none 2 0 (.string s.data.toList) l2 (.slice a5 n2 c5) (fun _ => false) := by
          refine ⟨hS5, ⟨a5, c5, by rw [hl2], by rw [hl2]; exact own_base ho5 (by have := H3.out.2.2.size; omega), H0.out.2.1.1⟩, fun q e hff => ?_, hlow5, by omega, fun b e => by cases e⟩
          have := (ho5.lt q e).1
          rcases hff with e1 | e1
          · omega
          · cases e1
        have hdis : ∀ q, (Value.slice ao n2 co).ownBlock = some q → q ≠ g ∧ rv' ≠ some q ∧ (Value.slice a5 n2 c5).ownBlock ≠ some q ∧ w.heap.size ≤ q := fun q e => by
          have h1 := hown3 q e
          refine ⟨by omega, fun e2 => by have := hrv5 q e2; omega, fun e2 => by have := (ho5.lt q e2).1; omega, by omega⟩
        have H5 := Lib.hid (And.intro T5 (And.intro own5 hdis))
        clear hS5 hF5 hn5 ho5 hnf5 own5 hrv5 hlow5 T5 hdis ownlt hown3 H4 H3 H2
        go_wp2_with fail
        go_loopw [60] (fun i wr => ∃ k : Nat, ∃ xo : List Int, k ≤ n2 ∧ i = .int .i64 k ∧ xo.length = n2 ∧ wr.ownsRow w2.heap.size 5 1 (.slice ao n2 co) n2 (xo.map (Value.int .u8)) ∧ Hid (FT w wr g rv' none 2 0 (.string s.data.toList) l2 (.slice a5 n2 c5) (fun _ => false))) (fun i _ => n2 - (intOf i).toNat)
        case atStart => exact ⟨0, l2, Nat.zero_le _, rfl, hl2, H5.out.2.1, Lib.hid H5.out.1⟩
        case round =>
          obtain ⟨k, xo, hk, rfl, hxo, oo, HT⟩ := hrel
          by_cases hlt : k < n2
          · obtain ⟨go, co', eo, ho1, _⟩ := oo.form (by omega)
            injection eo with eo _ ec; subst eo; subst ec
            have c1' := own_byte oo hxo hlt
            have f1 := oo.frozenAt k
            have HS := Lib.hid oo
            clear oo
            generalize xo.getD k 0 = x at *
            go_wp2_with fail
            go_roundw
            case rel =>
              have hdd := H5.out.2.2 go rfl
              exact ⟨k + 1, xo.set k ((x + 1) % 256), by omega, by go_num, by simpa using hxo, own_put HS.out k _, Lib.hid (HT.out.set hdd.1 (by simp) hdd.2.1 hdd.2.2.1 hdd.2.2.2)⟩
            case measure => simp [intOf]; omega
          · obtain rfl : n2 = k := by omega
            have H6 := Lib.hid (PS.start HT.out)
            clear oo H5 HT
            rename World => wo
            go_wp2_with fail
            go_loopw [12, 13] (fun v i wr => ∃ (k A : Nat) (aa : Option Addr) (ca : Nat), k ≤ n3 + 1 ∧ k ≤ 31 ∧ A ≤ n2 ∧ i = .int .i64 k ∧ v = .slice aa A ca ∧ (n3 < k ∨ 30 < k → A = n2) ∧ Hid (PS w wr wo.heap.size g rv' (.string s.data.toList) l2 (.slice a5 n2 c5) k A aa ca)) (fun _ i _ => 31 - (intOf i).toNat)
            case atStart => exact ⟨0, 0, none, 0, Nat.zero_le _, Nat.zero_le _, Nat.zero_le _, rfl, rfl, by omega, H6⟩
            case round =>
              obtain ⟨k, A, aa, ca, hk3, hk31, hA2, rfl, rfl, hend, HP⟩ := hrel
              by_cases hlt : k ≤ n3 ∧ k ≤ 30
              · obtain ⟨hlt, hlt30⟩ := hlt
                have hd3 : decide ((k : Int) ≤ 30) = true := by simp; omega
                have hcase : (k < n3 ∧ k < 30) ∨ (k < n3 ∧ ¬ k < 30) ∨ ¬ k < n3 := by omega
                rcases hcase with ⟨hin, hin30⟩ | ⟨hin, hin30⟩ | hin
                focus
                  have hd4 : decide ((k : Int) < 30) = true := by simp; omega
                  have hin3 : k < l3.length := by omega
                  obtain ⟨b, off, rfl, hbl, hc, hwf⟩ := (H0.out.2.2.1.below HP.out.ft.low).at_ hin3
                  have hx := bd_u16 hwf
                  generalize l3.getD k 0 = x at *
                  obtain ⟨M, hM⟩ : ∃ M : Nat, x % ((n2 : Int) - A + 1) = M := Int.eq_ofNat_of_zero_le (by have := Int.emod_nonneg x (b := (n2 : Int) - A + 1) (by omega); omega)
                  have hM1 : A + M ≤ n2 := by
                    have h2 := Int.emod_lt_of_pos x (b := (n2 : Int) - A + 1) (by omega)
                    omega
                  have hend' : n3 < k + 1 ∨ 30 < k + 1 → A + M = n2 := by omega
                rotate_left
                focus
                  have hd4 : decide ((k : Int) < 30) = false := by simp; omega
                  obtain ⟨M, hM⟩ : ∃ M : Nat, (n2 : Int) - A = M := ⟨n2 - A, by omega⟩
                  have hM1 : A + M ≤ n2 := by omega
                  have hend' : n3 < k + 1 ∨ 30 < k + 1 → A + M = n2 := by omega
                rotate_left
                focus
                  obtain ⟨M, hM⟩ : ∃ M : Nat, (n2 : Int) - A = M := ⟨n2 - A, by omega⟩
                  have hM1 : A + M ≤ n2 := by omega
                  have hend' : n3 < k + 1 ∨ 30 < k + 1 → A + M = n2 := by omega
                all_goals
                  go_wp2_with fail
                  try rw [hM]
                  have hread := filesRead HP.out.ft.fs (by omega) s H0.out.2.2.2 l2 HP.out.ft.fil HP.out.ft.off (by omega) A M (by omega)
                  obtain ⟨L, hLL⟩ : ∃ L, (l2.drop A).take M = L := ⟨_, rfl⟩
                  have hLM : L.length = M := by rw [← hLL, List.length_take, List.length_drop]; omega
                  have hT : l2.take A ++ L = l2.take (A + M) := by rw [← hLL]; exact List.take_add.symm
                  rw [hLL] at hread
                  clear hLL
                  refine hread.mono ?_
                  rintro e w6 ⟨hE, hS6, hF6⟩
                  rw [ReadE, if_neg (by simp)] at hE
                  obtain ⟨bv, rfl, ab, cb, rfl, hob, hbb⟩ := hE
                  have P6 := HP.out.read hS6 hF6
                  have hbs := Bs.of_own hob hbb
                  rw [hLM] at hob ⊢
                  have hlt6 := HP.out.row.lt
                  have hlt7 := hob.lt
                  have hbo7 := HP.out.bas
                  have hs6 := hF6.size
                  generalize wr.heap.size = S at *
                  have HP6 := Lib.hid (And.intro P6 (And.intro hob (And.intro hbs (And.intro hT (And.intro hlt6 hlt7)))))
                  have hba := P6.bas
                  clear hread hS6 hF6 P6 hob hbs HP hT hbb hlt6 hlt7
                  go_wp2_with (at_builtin; refine wpList_app2 rfl _ _ rfl wo.heap.size (.slice aa A ca) A (l2.take A) rfl HP6.out.1.row w6.heap.size ab M cb L rfl hLM HP6.out.2.2.1 (own_none HP6.out.2.1) (by omega) hba ?_; intro v7 w7 o7 g7 l7; obtain ⟨a7, c7, rfl⟩ := own_shape o7; rw [HP6.out.2.2.2.1] at o7; have hb7 := own_foot HP6.out.2.1 ((Foot.refl (fun i => (Value.slice aa A ca).ownBlock = some i) w6).grown g7 (fun k e => .inl e)) (fun q e1 e2 => by have := (HP6.out.2.2.2.2.1 q e2).2; have := (HP6.out.2.2.2.2.2 q e1).1; omega); have hne7 := ne_new HP6.out.2.2.2.2.1 HP6.out.2.2.2.2.2 hbo7 l7; have H7 := Lib.hid (And.intro (HP6.out.1.more o7 g7) (And.intro hb7 hne7)); clear o7 g7 l7 hb7 hne7 HP6)
                  go_loopw [123] (fun i wr => ∃ (j : Nat) (xo : List Int), j ≤ M ∧ i = .int .i64 j ∧ xo.length = M ∧ wr.ownsRow S 5 1 (.slice ab M cb) M (xo.map (Value.int .u8)) ∧ Hid (PS w wr wo.heap.size g rv' (.string s.data.toList) l2 (.slice a5 n2 c5) (k + 1) (A + M) a7 c7)) (fun i _ => M - (intOf i).toNat)
                  case atStart => exact ⟨0, L, Nat.zero_le _, rfl, hLM, H7.out.2.1, Lib.hid H7.out.1⟩
                  case round =>
                    obtain ⟨j, xo, hj, rfl, hxo, oo, HT⟩ := hrel
                    by_cases hjl : j < M
                    · obtain ⟨go, co', eo, ho1, _⟩ := oo.form (by omega)
                      injection eo with eo _ ec; subst eo; subst ec
                      have c1' := own_byte oo hxo hjl
                      have f1 := oo.frozenAt j
                      have HS := Lib.hid oo
                      clear oo
                      generalize xo.getD j 0 = y at *
                      go_wp2_with fail
                      go_roundw
                      case rel =>
                        have hdd := H7.out.2.2 go rfl
                        exact ⟨j + 1, xo.set j ((y + 1) % 256), by omega, by go_num, by simpa using hxo, own_put HS.out j _, Lib.hid (HT.out.set hdd.2 hdd.1)⟩
                      case measure => simp [intOf]; omega
                    · clear oo H7
                      go_wp2_with fail
                      go_roundw
                      case rel => exact ⟨k + 1, A + M, a7, c7, by omega, by omega, by omega, by go_num, rfl, hend', HT⟩
                      case measure => simp [intOf]; omega
              · have hAn : A = n2 := hend (by omega)
                subst hAn
                have hd3 : k ≤ n3 → decide ((k : Int) ≤ 30) = false := fun h => by simp; omega
                have hbs : Bs wr wr.heap.size aa l2 := by
                  have h1 := HP.out.row
                  rw [List.take_of_length_le (by omega)] at h1
                  exact Bs.of_own (own_cast h1 hl2.symm rfl) H0.out.2.1.1
                have hb2 := (H0.out.2.1.below HP.out.ft.low).more HP.out.ft.low.size
                have hsame := refSame aa a2 A ca A c2 l2 l2 hl2 hl2 (by unfold maxLen; omega) (by unfold maxLen; omega) wr _ _ hbs hb2
                have HLOW := Lib.hid HP.out.ft.low
                clear hbs hb2 HP
                by_cases hkq : k ≤ n3
                case' pos => have hd3 := hd3 hkq
                all_goals
                  go_wp2_with fail
                  refine hsame.mono ?_
                  rintro e w9 ⟨rfl, nq, rfl⟩
                  clear hsame
                  go_wp2_with fail
                  go_ret
                  exact ⟨by simp [eqB], ⟨HLOW.out.os, HLOW.out.tape, HLOW.out.output, HLOW.out.size, HLOW.out.block⟩⟩
end Go.Proofs.Ytpnnfekfoomgaaa
