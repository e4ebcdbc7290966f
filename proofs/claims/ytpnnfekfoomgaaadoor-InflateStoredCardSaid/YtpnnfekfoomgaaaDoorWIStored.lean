/- The walk of the law InflateStored: it returns true and turns nothing that was there. Condition: the order of the lengths lies where the program's own text lays it. -/
import Derived.Test.YtpnnfekfoomgaaaDoorFix6
import Derived.Test.YtpnnfekfoomgaaaDoorSame
import Derived.Test.YtpnnfekfoomgaaaDoorBs
import Derived.Test.YtpnnfekfoomgaaaDoorRws
import Derived.Test.YtpnnfekfoomgaaaDoorApp
set_option linter.unusedVariables false
set_option maxRecDepth 100000
namespace Go.Proofs.YtpnnfekfoomgaaaDoor
open Go.RowKit

/-- a row of bytes that the call made itself -/
def Own (w : World) (base : Nat) (v : Value) (l : List Int) : Prop := ∃ a c, v = .slice a l.length c ∧ w.ownsRow base 5 1 (.slice a l.length c) l.length (l.map (Value.int .u8)) ∧ Bytes l
/-- the two rows of the loop -/
structure Two (w0 w : World) (vb vw : Value) (lb lw : List Int) : Prop where
  below : Below w0.heap.size w0 w
  b : Own w w0.heap.size vb lb
  w : Own w w0.heap.size vw lw
  apart : ∀ k, vb.ownBlock = some k → vw.ownBlock ≠ some k

theorem own_nil (w : World) (base : Nat) : Own w base (.slice none 0 0) [] := ⟨none, 0, rfl, ⟨rfl, .inl ⟨rfl, rfl⟩⟩, Bytes.nil⟩
theorem Own.kept {w w' : World} {base : Nat} {v : Value} {l : List Int} {r : Option Nat} (h : Own w base v l) (hg : w.grownBy w' r) (hne : v.ownBlock = none ∨ v.ownBlock ≠ r) : Own w' base v l := by
  obtain ⟨a, c, rfl, h, hb⟩ := h
  exact ⟨a, c, rfl, h.kept hg hne, hb⟩
theorem Own.lt {w : World} {base : Nat} {v : Value} {l : List Int} (h : Own w base v l) : ∀ k, v.ownBlock = some k → base ≤ k ∧ k < w.heap.size := by
  obtain ⟨a, c, rfl, h, hb⟩ := h
  exact h.lt
theorem own_of {w : World} {base n c : Nat} {a : Option Addr} {l : List Int} (h : Own w base (.slice a n c) l) : w.ownsRow base 5 1 (.slice a n c) n (l.map (Value.int .u8)) := by
  obtain ⟨a', c', e, h, _⟩ := h
  injection e with e1 e2 e3
  subst e1 e2 e3
  exact h
theorem other_of {v v' : Value} (h : ∀ k, v.ownBlock = some k → v'.ownBlock ≠ some k) : v'.ownBlock = none ∨ v'.ownBlock ≠ v.ownBlock := by
  cases hv : v.ownBlock with
  | none => cases v'.ownBlock <;> simp
  | some k => exact .inr (h k hv)
theorem own_mk {w : World} {base n : Nat} {v : Value} {l : List Int} (h : w.ownsRow base 5 1 v n (l.map (Value.int .u8))) (hn : n = l.length) (hb : Bytes l) : Own w base v l := by
  subst hn
  obtain ⟨a, c, rfl⟩ := own_shape h
  exact ⟨a, c, rfl, h, hb⟩
theorem Two.alloc {w0 w : World} {vb vw : Value} {lb lw : List Int} (h : Two w0 w vb vw lb lw) (o : Obj) : Two w0 (w.alloc o) vb vw lb lw := by
  obtain ⟨h1, ⟨a, c, rfl, h2, h3⟩, ⟨a', c', rfl, h4, h5⟩, h6⟩ := h
  exact ⟨h1.alloc h1.size o, ⟨a, c, rfl, h2.alloc o, h3⟩, ⟨a', c', rfl, h4.alloc o, h5⟩, h6⟩
theorem two_b {w0 w w' : World} {vb vw v' : Value} {lb lw x : List Int} {n' : Nat} (h : Two w0 w vb vw lb lw) (ho : w'.ownsRow w0.heap.size 5 1 v' n' ((lb ++ x).map (Value.int .u8))) (hn : n' = (lb ++ x).length) (hx : Bytes x) (hg : w.grownBy w' vb.ownBlock) (hl : v'.ownBlock = vb.ownBlock ∨ v'.ownBlock = some w.heap.size) : Two w0 w' v' vw (lb ++ x) lw := by
  refine ⟨h.below.grown hg h.below.size (fun k hk => (h.b.lt k hk).1), own_mk ho hn (h.b.choose_spec.choose_spec.2.2.app hx), h.w.kept hg (other_of h.apart), fun k hk => ?_⟩
  rcases hl with hl | hl
  · exact h.apart k (by rw [← hl]; exact hk)
  · rw [hl] at hk
    injection hk with hk
    intro e
    have := (h.w.lt k e).2
    omega
theorem two_w {w0 w w' : World} {vb vw v' : Value} {lb lw x : List Int} {n' : Nat} (h : Two w0 w vb vw lb lw) (ho : w'.ownsRow w0.heap.size 5 1 v' n' ((lw ++ x).map (Value.int .u8))) (hn : n' = (lw ++ x).length) (hx : Bytes x) (hg : w.grownBy w' vw.ownBlock) (hl : v'.ownBlock = vw.ownBlock ∨ v'.ownBlock = some w.heap.size) : Two w0 w' vb v' lb (lw ++ x) := by
  have hap : ∀ k, vw.ownBlock = some k → vb.ownBlock ≠ some k := fun k hk e => h.apart k e hk
  refine ⟨h.below.grown hg h.below.size (fun k hk => (h.w.lt k hk).1), h.b.kept hg (other_of hap), own_mk ho hn (h.w.choose_spec.choose_spec.2.2.app hx), fun k hk => ?_⟩
  rcases hl with hl | hl
  · rw [hl]; exact h.apart k hk
  · rw [hl]
    intro e
    injection e with e
    have := (h.b.lt k hk).2
    omega
theorem xor_u8 : ∀ x : Nat, x < 256 → bits BinOp.xor IntKind.u8 IntKind.u8.max (x : Int) = 255 - (x : Int) := by decide
theorem bytes_five (P : Nat) (h : P ≤ 65535) : Bytes [0, (P : Int) % 256, (P : Int) / 256, bits BinOp.xor IntKind.u8 IntKind.u8.max ((P : Int) % 256), bits BinOp.xor IntKind.u8 IntKind.u8.max ((P : Int) / 256)] ∧ ([0, (P : Int) % 256, (P : Int) / 256, bits BinOp.xor IntKind.u8 IntKind.u8.max ((P : Int) % 256), bits BinOp.xor IntKind.u8 IntKind.u8.max ((P : Int) / 256)] : List Int) = [0, (P : Int) % 256, (P : Int) / 256, 255 - (P : Int) % 256, 255 - (P : Int) / 256] := by
  have e1 := xor_u8 (P % 256) (by omega)
  have e2 := xor_u8 (P / 256) (by omega)
  rw [show ((P % 256 : Nat) : Int) = (P : Int) % 256 by omega] at e1
  rw [show ((P / 256 : Nat) : Int) = (P : Int) / 256 by omega] at e2
  rw [e1, e2]
  refine ⟨fun n hn => ?_, rfl⟩
  simp only [List.mem_cons, List.not_mem_nil, or_false] at hn
  omega
theorem bytes_mem {l : List Int} (h : Bytes l) : ∀ {ps : List (List Int)}, l = ps.flatten → ∀ {p : List Int}, p ∈ ps → Bytes p := fun {ps} e {p} hp n hn => h n (by rw [e]; exact List.mem_flatten.2 ⟨p, hp, hn⟩)
theorem same_trueS {a a' : Option Addr} {n c n' c' : Nat} {l : List Int} {w : World} {B B' : Nat} (hn : l.length = n) (hn' : l.length = n') (hm : l.length ≤ maxLen) (hb : Bs w B a l) (hb' : Bs w B' a' l) :
    Calls Tryd.prog 14 #[.slice a n c, .slice a' n' c'] w fun e w' => e = .returned (.bool true) ∧ ∃ d, w' = w.drewN d :=
  (refSame a a' n c n' c' l l hn hn' hm hm w B B' hb hb').mono fun e w' ⟨h1, h2⟩ => ⟨by rw [h1]; simp [eqB], h2⟩
theorem flat_len : ∀ (l : List (List Int)), (∀ p ∈ l, p.length ≤ 1000) → ∀ k, l.length ≤ k → l.flatten.length ≤ 1000 * k
  | [], _, k, _ => by simp
  | p :: l, h, k, hk => by
    simp only [List.length_cons] at hk
    have h1 := flat_len l (fun x hx => h x (by simp [hx])) (k - 1) (by omega)
    have h2 := h p (by simp)
    simp only [List.flatten_cons, List.length_append]
    omega
set_option maxHeartbeats 8000000 in
theorem stored_big (w : World) (a : Option Addr) (n c : Nat) (ps : List (List Int)) (hn : ps.length = n) (hb : RowsAt w w.heap.size a ps) (hcase : 20 < n) (hord : Ord w) :
    Calls Tryd.prog 6 #[.slice a n c] w fun e w' => e = .returned (.bool true) ∧ Below w.heap.size w w' := by
  have hfx := fixed6 w hord
  have H0 := Lib.hid (And.intro hord hb)
  clear hord hb
  have hdm : decide (20 < (n : Int)) = true := by simp; omega
  have hdm' : decide (20 < n) = true := by simp; omega
  go_enter Tryd.func6, Tryd.ntmps6
  go_wp2_with fail
  refine hfx.mono ?_
  rintro e w1 ⟨rfl, hb1⟩
  have H1 := Lib.hid hb1
  clear hfx hb1
  go_wp2_with fail
  go_loopw [3, 4, 6] (fun vb vw i wr => ∃ k : Nat, k ≤ 20 ∧ i = .int .i64 k ∧ Hid ((∀ p ∈ ps.take k, p.length ≤ 1000) ∧ Two w1 wr vb vw ((ps.take k).map blk).flatten (ps.take k).flatten ∧ ((ps.take k).map blk).flatten.length ≤ 1005 * k)) (fun _ _ i _ => 20 - (intOf i).toNat)
  case atStart =>
    exact ⟨0, Nat.zero_le _, rfl, Lib.hid ⟨fun p hp => absurd hp (by simp), ⟨Below.refl _ _, own_nil _ _, own_nil _ _, fun k hk => by simp [Value.ownBlock] at hk⟩, Nat.zero_le _⟩⟩
  case round =>
    obtain ⟨k, hk, rfl, H⟩ := hrel
    obtain ⟨lb, hlb⟩ : ∃ lb, ((ps.take k).map blk).flatten = lb := ⟨_, rfl⟩
    obtain ⟨lw, hlw⟩ : ∃ lw, (ps.take k).flatten = lw := ⟨_, rfl⟩
    obtain ⟨hsm, htwo, hle⟩ := H.out
    rw [hlb] at hle htwo
    rw [hlw] at htwo
    obtain ⟨ab, cb, rfl, hob, hbb⟩ := htwo.b
    obtain ⟨aw, cw, rfl, how, hbw⟩ := htwo.w
    have hbel := htwo.below
    by_cases hlt : k < 20
    · have hkn : k < ps.length := by omega
      obtain ⟨b0, off, rfl, hblt, hcells⟩ := (H0.out.2.below H1.out) (by omega)
      obtain ⟨ai, ci, hcell1, hbi, hni⟩ := hcells k hkn
      have hcell : wr.cell? ⟨b0, off + k, none⟩ = some (.slice ai (ps.getD k []).length ci) := (hbel.cell (p := ⟨b0, _, none⟩) (Nat.lt_of_lt_of_le hblt H1.out.size)).trans hcell1
      clear hcell1
      obtain ⟨P, hP⟩ : ∃ P, ps.getD k [] = P := ⟨_, rfl⟩
      rw [hP] at hcell hbi hni
      have hbi' := hbi.more H1.out.size
      have HZ := Lib.hid (And.intro hsm (And.intro htwo (And.intro hbi' (And.intro hni (And.intro hlb (And.intro hlw hP))))))
      have hkn' : decide (k < n) = true := by simp; omega
      clear hsm hbb how hbw htwo hbi hni hbel hlb hlw hP hcells hbi' H
      by_cases hp : 1000 < P.length
      · have hd : decide ((P.length : Int) > 1000) = true := by simp; omega
        go_wp2_with fail
        go_ret
        exact ⟨rfl, below_next H1.out (Nat.le_refl _) HZ.out.2.1.below⟩
      · have hd : decide ((P.length : Int) > 1000) = false := by simp; omega
        obtain ⟨h5, h5e⟩ := bytes_five P.length (by omega)
        have hlit := lit_bytes' wr 5 _ h5
        have hkk : 1005 * (k + 1) = 1005 * k + 1005 := by omega
        have hsz := HZ.out.2.1.below.size
        have H5 := Lib.hid (And.intro h5 h5e)
        have hlit' := Lib.hid hlit
        have hwlen : lw.length ≤ 1000 * k := by
          rw [← HZ.out.2.2.2.2.2.1]
          exact flat_len _ HZ.out.1 _ (by rw [List.length_take]; omega)
        clear h5 h5e hlit
        obtain ⟨LB, hLB⟩ : ∃ LB, lb ++ [0, (P.length : Int) % 256, (P.length : Int) / 256, bits BinOp.xor IntKind.u8 IntKind.u8.max ((P.length : Int) % 256), bits BinOp.xor IntKind.u8 IntKind.u8.max ((P.length : Int) / 256)] = LB := ⟨_, rfl⟩
        have hll : LB.length = lb.length + 5 := by rw [← hLB]; simp
        have HLB := Lib.hid hLB
        go_wp2_with (first
          | (at_builtin; refine wpList_app2 rfl _ _ rfl w1.heap.size (.slice ab lb.length cb) lb.length lb rfl (hob.alloc _) _ (some ⟨wr.heap.size, 0, none⟩) 5 5 _ rfl rfl hlit'.out (by simp) (by omega) (by simp; omega) ?_; intro v2 w2 o2 g2 l2; obtain ⟨a2, c2, rfl⟩ := own_shape o2; have T2 := two_b (HZ.out.2.1.alloc _) o2 (by simp) H5.out.1 g2 l2; rw [hLB] at T2 o2; have hs2 := T2.below.size; have bi2 := (HZ.out.2.2.1.below T2.below).more T2.below.size)
          | (at_builtin; refine wpList_app2 rfl _ _ rfl w1.heap.size (.slice a2 (lb.length + 5) c2) (lb.length + 5) LB rfl o2 _ ai P.length ci P rfl rfl bi2 HZ.out.2.2.2.1 (by omega) hs2 ?_; intro v3 w3 o3 g3 l3; obtain ⟨a3, c3, rfl⟩ := own_shape o3; have T3 := two_b T2 o3 (by rw [List.length_append]; omega) HZ.out.2.2.1.1 g3 l3; have hs3 := T3.below.size; have bi3 := (HZ.out.2.2.1.below T3.below).more T3.below.size)
          | (at_builtin; refine wpList_app2 rfl _ _ rfl w1.heap.size (.slice aw lw.length cw) lw.length lw rfl (own_of T3.w) _ ai P.length ci P rfl rfl bi3 HZ.out.2.2.2.1 (by omega) hs3 ?_; intro v4 w4 o4 g4 l4; obtain ⟨a4, c4, rfl⟩ := own_shape o4; have T4 := two_w T3 o4 (by rw [List.length_append]) HZ.out.2.2.1.1 g4 l4))
        have hwl : (lw ++ P).length = lw.length + P.length := by simp
        case roundEnd =>
          have htk : ps.take (k + 1) = ps.take k ++ [P] := by
            rw [List.take_add_one, List.getElem?_eq_getElem (by omega), ← HZ.out.2.2.2.2.2.2, List.getD_eq_getElem?_getD, List.getElem?_eq_getElem (by omega)]
            rfl
          have eb : (List.map blk (List.take (k + 1) ps)).flatten = LB ++ P := by
            rw [htk, List.map_append, List.flatten_append, HZ.out.2.2.2.2.1, ← HLB.out, H5.out.2]
            simp [blk]
          have ew : (List.take (k + 1) ps).flatten = lw ++ P := by
            rw [htk, List.flatten_append, HZ.out.2.2.2.2.2.1]
            simp
          refine ⟨⟨k + 1, by omega, by simp, Lib.hid ⟨fun p hp => ?_, ?_, ?_⟩⟩, ?_⟩
          · rw [htk] at hp
            rcases List.mem_append.1 hp with h | h
            · exact HZ.out.1 p h
            · rw [List.mem_singleton.1 h]; omega
          · rw [eb, ew]; exact T4
          · rw [eb, List.length_append]; omega
          · simp [intOf]; omega
    · have hkN : 20 = k := by omega
      subst hkN
      obtain ⟨L5, hL5⟩ : ∃ L5, lb ++ endB = L5 := ⟨_, rfl⟩
      have hl5 : L5.length = lb.length + 5 := by rw [← hL5]; simp [endB]
      have hwlen : lw.length ≤ 1000 * 20 := by
        rw [← hlw]
        exact flat_len _ hsm _ (by rw [List.length_take]; omega)
      have hps : ∀ p ∈ ps.take 20, p.length ≤ 65535 ∧ Bytes p := fun p hp => ⟨by have := hsm p hp; omega, bytes_mem hbw (by rw [← hlw]) hp⟩
      have hS1 := inflS_stored (ps.take 20) hps (limit := lw.length) (by omega)
      rw [hlb, hlw, hL5, if_pos (Nat.le_refl _)] at hS1
      have hS2 := inflS_stored (ps.take 20) hps (limit := lw.length - 1) (by omega)
      rw [hlb, hlw, hL5] at hS2
      have hend : Bytes endB := bytes_of rfl
      have hlit := Lib.hid (lit_bytes' wr 5 endB hend)
      have hsz := hbel.size
      have hordr := (H0.out.1.below H1.out).below hbel
      have HH := Lib.hid (And.intro htwo (And.intro hS1 (And.intro hS2 (And.intro hL5 hend))))
      have HO := Lib.hid hordr
      clear hS1 hS2 hps hsm hlb hlw htwo hbb hbw H how hend hordr
      go_wp2_with (at_builtin; refine wpList_app2 rfl _ _ rfl w1.heap.size (.slice ab lb.length cb) lb.length lb rfl (hob.alloc _) _ (some ⟨wr.heap.size, 0, none⟩) 5 5 endB rfl rfl hlit.out (by simp) (by omega) (by simp; omega) ?_; intro v2 w2 o2 g2 l2; obtain ⟨a2, c2, rfl⟩ := own_shape o2; have T2 := two_b (HH.out.1.alloc _) o2 (by simp [endB]) HH.out.2.2.2.2 g2 l2; rw [HH.out.2.2.2.1] at T2 o2; have hs2 := T2.below.size)
      have hb5 : Bytes L5 := T2.b.choose_spec.choose_spec.2.2
      have bs2 : Bs w2 w2.heap.size a2 L5 := Bs.of_own (own_cast (n' := L5.length) o2 hl5.symm rfl) hb5
      have hc1 := all_is (w := w2) a2 (lb.length + 5) c2 L5 hl5 (by omega) bs2 (lw.length : Int) (by omega) ((H0.out.1.below H1.out).below T2.below)
      have how2 := own_of T2.w
      have hby := T2.w.choose_spec.choose_spec.2.2
      have H2 := Lib.hid (And.intro T2.below (And.intro bs2 (And.intro how2 hby)))
      clear T2 o2 g2 l2 hb5 bs2 hs2 how2 hby hob
      refine hc1.mono ?_
      intro e w3 h3
      obtain ⟨hb3, ax, cx, rfl, hBx, hox, hx⟩ := alls_ok h3 HH.out.2.1
      have hb13 := below_next H2.out.1 (Nat.le_refl _) hb3
      have bs3 := (H2.out.2.1.below hb3).more hb3.size
      have hc2 := fun lim hlim => all_is (w := w3) a2 (lb.length + 5) c2 L5 hl5 (by omega) bs3 lim hlim ((H0.out.1.below H1.out).below hb13)
      have how3 := own_below H2.out.2.2.1 hb3
      have H3 := Lib.hid (And.intro hb13 (And.intro hx how3))
      clear h3 hc1 hb3 hb13 bs3 how3 hx
      have hu : ((L5.length : Int) == ((lb.length : Int) + 5)) = true := by simp; omega
      have hu' : (L5.length == lb.length + 5) = true := by simp; omega
      by_cases hl0 : lw.length = 0
      · have d1 : decide ((0 : Int) < (lw.length : Int) - 1) = false := by simp; omega
        have hc2' := hc2 0 (by decide)
        have hS : inflS L5 0 = .ok (lw, L5.length) := by have := HH.out.2.2.1; rw [hl0] at this; exact this
        have HS := Lib.hid hS
        have d2 : ((lw.length : Int) == 0) = true := by simp [hl0]
        have d3 : (lw.length == 0) = true := by simp [hl0]
        clear hS hc2
        go_wp2_with fail
        refine hc2'.mono ?_
        intro e w4 h4
        obtain ⟨hb4, ay, cy, rfl, _, _, _⟩ := alls_ok h4 HS.out
        have hsame := same_trueS (a := ax) (a' := aw) (n := 0) (c := cx) (n' := 0) (c' := cw) (l := lw) (w := w4) hl0 hl0 (by unfold maxLen; omega) (Bs.of_own (own_below H3.out.2.1 hb4) hBx) (Bs.of_own (own_below H3.out.2.2 hb4) H2.out.2.2.2)
        have H4 := Lib.hid (below_next H3.out.1 (Nat.le_refl _) hb4)
        clear h4 hc2' hb4
        go_wp2_with fail
        refine hsame.mono ?_
        rintro e w5 ⟨rfl, d, rfl⟩
        clear hsame
        go_wp2_with fail
        go_ret
        exact ⟨rfl, low_drewN (below_next H1.out (Nat.le_refl _) H4.out) d⟩
      · by_cases hl1 : lw.length = 1
        · have hc2' := hc2 0 (by decide)
          have hS : inflS L5 0 = .error 8 := by have := HH.out.2.2.1; rw [hl1, if_neg (by omega)] at this; exact this
          have HS := Lib.hid hS
          clear hS hc2
          go_wp2_with fail
          refine hc2'.mono ?_
          intro e w4 h4
          obtain ⟨hb4, _, rfl⟩ := alls_bad h4 HS.out
          have hsame := same_trueS (a := ax) (a' := aw) (n := 1) (c := cx) (n' := 1) (c' := cw) (l := lw) (w := w4) hl1 hl1 (by unfold maxLen; omega) (Bs.of_own (own_below H3.out.2.1 hb4) hBx) (Bs.of_own (own_below H3.out.2.2 hb4) H2.out.2.2.2)
          have H4 := Lib.hid (below_next H3.out.1 (Nat.le_refl _) hb4)
          clear h4 hc2' hb4
          go_wp2_with fail
          refine hsame.mono ?_
          rintro e w5 ⟨rfl, d, rfl⟩
          clear hsame
          go_wp2_with fail
          go_ret
          exact ⟨rfl, low_drewN (below_next H1.out (Nat.le_refl _) H4.out) d⟩
        · have hc2' := hc2 ((lw.length : Int) - 1) (by omega)
          have hS : inflS L5 ((lw.length : Int) - 1) = .error 8 := by have := HH.out.2.2.1; rw [if_neg (by omega), show ((lw.length - 1 : Nat) : Int) = (lw.length : Int) - 1 by omega] at this; exact this
          have HS := Lib.hid hS
          have d1 : decide ((0 : Int) < (lw.length : Int) - 1) = true := by simp; omega
          clear hS hc2
          go_wp2_with fail
          refine hc2'.mono ?_
          intro e w4 h4
          obtain ⟨hb4, _, rfl⟩ := alls_bad h4 HS.out
          have hsame := same_trueS (a := ax) (a' := aw) (n := lw.length) (c := cx) (n' := lw.length) (c' := cw) (l := lw) (w := w4) rfl rfl (by unfold maxLen; omega) (Bs.of_own (own_below H3.out.2.1 hb4) hBx) (Bs.of_own (own_below H3.out.2.2 hb4) H2.out.2.2.2)
          have H4 := Lib.hid (below_next H3.out.1 (Nat.le_refl _) hb4)
          clear h4 hc2' hb4
          go_wp2_with fail
          refine hsame.mono ?_
          rintro e w5 ⟨rfl, d, rfl⟩
          clear hsame
          go_wp2_with fail
          go_ret
          exact ⟨rfl, low_drewN (below_next H1.out (Nat.le_refl _) H4.out) d⟩
set_option maxHeartbeats 8000000 in
theorem stored_sum (w : World) (a : Option Addr) (n c : Nat) (ps : List (List Int)) (hn : ps.length = n) (hb : RowsAt w w.heap.size a ps) (hcase : ¬ 20 < n) (hord : Ord w) :
    Calls Tryd.prog 6 #[.slice a n c] w fun e w' => e = .returned (.bool true) ∧ Below w.heap.size w w' := by
  have hfx := fixed6 w hord
  have H0 := Lib.hid (And.intro hord hb)
  clear hord hb
  have hdm : decide (20 < (n : Int)) = false := by simp; omega
  have hdm' : decide (20 < n) = false := by simp; omega
  go_enter Tryd.func6, Tryd.ntmps6
  go_wp2_with fail
  refine hfx.mono ?_
  rintro e w1 ⟨rfl, hb1⟩
  have H1 := Lib.hid hb1
  clear hfx hb1
  go_wp2_with fail
  go_loopw [3, 4, 6] (fun vb vw i wr => ∃ k : Nat, k ≤ n ∧ i = .int .i64 k ∧ Hid ((∀ p ∈ ps.take k, p.length ≤ 1000) ∧ Two w1 wr vb vw ((ps.take k).map blk).flatten (ps.take k).flatten ∧ ((ps.take k).map blk).flatten.length ≤ 1005 * k)) (fun _ _ i _ => n - (intOf i).toNat)
  case atStart =>
    exact ⟨0, Nat.zero_le _, rfl, Lib.hid ⟨fun p hp => absurd hp (by simp), ⟨Below.refl _ _, own_nil _ _, own_nil _ _, fun k hk => by simp [Value.ownBlock] at hk⟩, Nat.zero_le _⟩⟩
  case round =>
    obtain ⟨k, hk, rfl, H⟩ := hrel
    obtain ⟨lb, hlb⟩ : ∃ lb, ((ps.take k).map blk).flatten = lb := ⟨_, rfl⟩
    obtain ⟨lw, hlw⟩ : ∃ lw, (ps.take k).flatten = lw := ⟨_, rfl⟩
    obtain ⟨hsm, htwo, hle⟩ := H.out
    rw [hlb] at hle htwo
    rw [hlw] at htwo
    obtain ⟨ab, cb, rfl, hob, hbb⟩ := htwo.b
    obtain ⟨aw, cw, rfl, how, hbw⟩ := htwo.w
    have hbel := htwo.below
    by_cases hlt : k < n
    · have hkn : k < ps.length := by omega
      obtain ⟨b0, off, rfl, hblt, hcells⟩ := (H0.out.2.below H1.out) (by omega)
      obtain ⟨ai, ci, hcell1, hbi, hni⟩ := hcells k hkn
      have hcell : wr.cell? ⟨b0, off + k, none⟩ = some (.slice ai (ps.getD k []).length ci) := (hbel.cell (p := ⟨b0, _, none⟩) (Nat.lt_of_lt_of_le hblt H1.out.size)).trans hcell1
      clear hcell1
      obtain ⟨P, hP⟩ : ∃ P, ps.getD k [] = P := ⟨_, rfl⟩
      rw [hP] at hcell hbi hni
      have hbi' := hbi.more H1.out.size
      have HZ := Lib.hid (And.intro hsm (And.intro htwo (And.intro hbi' (And.intro hni (And.intro hlb (And.intro hlw hP))))))
      have hkn' : decide (k < n) = true := by simp; omega
      clear hsm hbb how hbw htwo hbi hni hbel hlb hlw hP hcells hbi' H
      by_cases hp : 1000 < P.length
      · have hd : decide ((P.length : Int) > 1000) = true := by simp; omega
        go_wp2_with fail
        go_ret
        exact ⟨rfl, below_next H1.out (Nat.le_refl _) HZ.out.2.1.below⟩
      · have hd : decide ((P.length : Int) > 1000) = false := by simp; omega
        obtain ⟨h5, h5e⟩ := bytes_five P.length (by omega)
        have hlit := lit_bytes' wr 5 _ h5
        have hkk : 1005 * (k + 1) = 1005 * k + 1005 := by omega
        have hsz := HZ.out.2.1.below.size
        have H5 := Lib.hid (And.intro h5 h5e)
        have hlit' := Lib.hid hlit
        have hwlen : lw.length ≤ 1000 * k := by
          rw [← HZ.out.2.2.2.2.2.1]
          exact flat_len _ HZ.out.1 _ (by rw [List.length_take]; omega)
        clear h5 h5e hlit
        obtain ⟨LB, hLB⟩ : ∃ LB, lb ++ [0, (P.length : Int) % 256, (P.length : Int) / 256, bits BinOp.xor IntKind.u8 IntKind.u8.max ((P.length : Int) % 256), bits BinOp.xor IntKind.u8 IntKind.u8.max ((P.length : Int) / 256)] = LB := ⟨_, rfl⟩
        have hll : LB.length = lb.length + 5 := by rw [← hLB]; simp
        have HLB := Lib.hid hLB
        go_wp2_with (first
          | (at_builtin; refine wpList_app2 rfl _ _ rfl w1.heap.size (.slice ab lb.length cb) lb.length lb rfl (hob.alloc _) _ (some ⟨wr.heap.size, 0, none⟩) 5 5 _ rfl rfl hlit'.out (by simp) (by omega) (by simp; omega) ?_; intro v2 w2 o2 g2 l2; obtain ⟨a2, c2, rfl⟩ := own_shape o2; have T2 := two_b (HZ.out.2.1.alloc _) o2 (by simp) H5.out.1 g2 l2; rw [hLB] at T2 o2; have hs2 := T2.below.size; have bi2 := (HZ.out.2.2.1.below T2.below).more T2.below.size)
          | (at_builtin; refine wpList_app2 rfl _ _ rfl w1.heap.size (.slice a2 (lb.length + 5) c2) (lb.length + 5) LB rfl o2 _ ai P.length ci P rfl rfl bi2 HZ.out.2.2.2.1 (by omega) hs2 ?_; intro v3 w3 o3 g3 l3; obtain ⟨a3, c3, rfl⟩ := own_shape o3; have T3 := two_b T2 o3 (by rw [List.length_append]; omega) HZ.out.2.2.1.1 g3 l3; have hs3 := T3.below.size; have bi3 := (HZ.out.2.2.1.below T3.below).more T3.below.size)
          | (at_builtin; refine wpList_app2 rfl _ _ rfl w1.heap.size (.slice aw lw.length cw) lw.length lw rfl (own_of T3.w) _ ai P.length ci P rfl rfl bi3 HZ.out.2.2.2.1 (by omega) hs3 ?_; intro v4 w4 o4 g4 l4; obtain ⟨a4, c4, rfl⟩ := own_shape o4; have T4 := two_w T3 o4 (by rw [List.length_append]) HZ.out.2.2.1.1 g4 l4))
        have hwl : (lw ++ P).length = lw.length + P.length := by simp
        case roundEnd =>
          have htk : ps.take (k + 1) = ps.take k ++ [P] := by
            rw [List.take_add_one, List.getElem?_eq_getElem (by omega), ← HZ.out.2.2.2.2.2.2, List.getD_eq_getElem?_getD, List.getElem?_eq_getElem (by omega)]
            rfl
          have eb : (List.map blk (List.take (k + 1) ps)).flatten = LB ++ P := by
            rw [htk, List.map_append, List.flatten_append, HZ.out.2.2.2.2.1, ← HLB.out, H5.out.2]
            simp [blk]
          have ew : (List.take (k + 1) ps).flatten = lw ++ P := by
            rw [htk, List.flatten_append, HZ.out.2.2.2.2.2.1]
            simp
          refine ⟨⟨k + 1, by omega, by simp, Lib.hid ⟨fun p hp => ?_, ?_, ?_⟩⟩, ?_⟩
          · rw [htk] at hp
            rcases List.mem_append.1 hp with h | h
            · exact HZ.out.1 p h
            · rw [List.mem_singleton.1 h]; omega
          · rw [eb, ew]; exact T4
          · rw [eb, List.length_append]; omega
          · simp [intOf]; omega
    · obtain ⟨rfl⟩ : k = n := by omega
      obtain ⟨L5, hL5⟩ : ∃ L5, lb ++ endB = L5 := ⟨_, rfl⟩
      have hl5 : L5.length = lb.length + 5 := by rw [← hL5]; simp [endB]
      have hwlen : lw.length ≤ 1000 * 20 := by
        rw [← hlw]
        exact flat_len _ hsm _ (by rw [List.length_take]; omega)
      have hps : ∀ p ∈ ps.take n, p.length ≤ 65535 ∧ Bytes p := fun p hp => ⟨by have := hsm p hp; omega, bytes_mem hbw (by rw [← hlw]) hp⟩
      have hS1 := inflS_stored (ps.take n) hps (limit := lw.length) (by omega)
      rw [hlb, hlw, hL5, if_pos (Nat.le_refl _)] at hS1
      have hS2 := inflS_stored (ps.take n) hps (limit := lw.length - 1) (by omega)
      rw [hlb, hlw, hL5] at hS2
      have hend : Bytes endB := bytes_of rfl
      have hlit := Lib.hid (lit_bytes' wr 5 endB hend)
      have hsz := hbel.size
      have hordr := (H0.out.1.below H1.out).below hbel
      have HH := Lib.hid (And.intro htwo (And.intro hS1 (And.intro hS2 (And.intro hL5 hend))))
      have HO := Lib.hid hordr
      clear hS1 hS2 hps hsm hlb hlw htwo hbb hbw H how hend hordr
      go_wp2_with (at_builtin; refine wpList_app2 rfl _ _ rfl w1.heap.size (.slice ab lb.length cb) lb.length lb rfl (hob.alloc _) _ (some ⟨wr.heap.size, 0, none⟩) 5 5 endB rfl rfl hlit.out (by simp) (by omega) (by simp; omega) ?_; intro v2 w2 o2 g2 l2; obtain ⟨a2, c2, rfl⟩ := own_shape o2; have T2 := two_b (HH.out.1.alloc _) o2 (by simp [endB]) HH.out.2.2.2.2 g2 l2; rw [HH.out.2.2.2.1] at T2 o2; have hs2 := T2.below.size)
      have hb5 : Bytes L5 := T2.b.choose_spec.choose_spec.2.2
      have bs2 : Bs w2 w2.heap.size a2 L5 := Bs.of_own (own_cast (n' := L5.length) o2 hl5.symm rfl) hb5
      have hc1 := all_is (w := w2) a2 (lb.length + 5) c2 L5 hl5 (by omega) bs2 (lw.length : Int) (by omega) ((H0.out.1.below H1.out).below T2.below)
      have how2 := own_of T2.w
      have hby := T2.w.choose_spec.choose_spec.2.2
      have H2 := Lib.hid (And.intro T2.below (And.intro bs2 (And.intro how2 hby)))
      clear T2 o2 g2 l2 hb5 bs2 hs2 how2 hby hob
      refine hc1.mono ?_
      intro e w3 h3
      obtain ⟨hb3, ax, cx, rfl, hBx, hox, hx⟩ := alls_ok h3 HH.out.2.1
      have hb13 := below_next H2.out.1 (Nat.le_refl _) hb3
      have bs3 := (H2.out.2.1.below hb3).more hb3.size
      have hc2 := fun lim hlim => all_is (w := w3) a2 (lb.length + 5) c2 L5 hl5 (by omega) bs3 lim hlim ((H0.out.1.below H1.out).below hb13)
      have how3 := own_below H2.out.2.2.1 hb3
      have H3 := Lib.hid (And.intro hb13 (And.intro hx how3))
      clear h3 hc1 hb3 hb13 bs3 how3 hx
      have hu : ((L5.length : Int) == ((lb.length : Int) + 5)) = true := by simp; omega
      have hu' : (L5.length == lb.length + 5) = true := by simp; omega
      by_cases hl0 : lw.length = 0
      · have d1 : decide ((0 : Int) < (lw.length : Int) - 1) = false := by simp; omega
        have hc2' := hc2 0 (by decide)
        have hS : inflS L5 0 = .ok (lw, L5.length) := by have := HH.out.2.2.1; rw [hl0] at this; exact this
        have HS := Lib.hid hS
        have d2 : ((lw.length : Int) == 0) = true := by simp [hl0]
        have d3 : (lw.length == 0) = true := by simp [hl0]
        clear hS hc2
        go_wp2_with fail
        refine hc2'.mono ?_
        intro e w4 h4
        obtain ⟨hb4, ay, cy, rfl, _, _, _⟩ := alls_ok h4 HS.out
        have hsame := same_trueS (a := ax) (a' := aw) (n := 0) (c := cx) (n' := 0) (c' := cw) (l := lw) (w := w4) hl0 hl0 (by unfold maxLen; omega) (Bs.of_own (own_below H3.out.2.1 hb4) hBx) (Bs.of_own (own_below H3.out.2.2 hb4) H2.out.2.2.2)
        have H4 := Lib.hid (below_next H3.out.1 (Nat.le_refl _) hb4)
        clear h4 hc2' hb4
        go_wp2_with fail
        refine hsame.mono ?_
        rintro e w5 ⟨rfl, d, rfl⟩
        clear hsame
        go_wp2_with fail
        go_ret
        exact ⟨rfl, low_drewN (below_next H1.out (Nat.le_refl _) H4.out) d⟩
      · by_cases hl1 : lw.length = 1
        · have hc2' := hc2 0 (by decide)
          have hS : inflS L5 0 = .error 8 := by have := HH.out.2.2.1; rw [hl1, if_neg (by omega)] at this; exact this
          have HS := Lib.hid hS
          clear hS hc2
          go_wp2_with fail
          refine hc2'.mono ?_
          intro e w4 h4
          obtain ⟨hb4, _, rfl⟩ := alls_bad h4 HS.out
          have hsame := same_trueS (a := ax) (a' := aw) (n := 1) (c := cx) (n' := 1) (c' := cw) (l := lw) (w := w4) hl1 hl1 (by unfold maxLen; omega) (Bs.of_own (own_below H3.out.2.1 hb4) hBx) (Bs.of_own (own_below H3.out.2.2 hb4) H2.out.2.2.2)
          have H4 := Lib.hid (below_next H3.out.1 (Nat.le_refl _) hb4)
          clear h4 hc2' hb4
          go_wp2_with fail
          refine hsame.mono ?_
          rintro e w5 ⟨rfl, d, rfl⟩
          clear hsame
          go_wp2_with fail
          go_ret
          exact ⟨rfl, low_drewN (below_next H1.out (Nat.le_refl _) H4.out) d⟩
        · have hc2' := hc2 ((lw.length : Int) - 1) (by omega)
          have hS : inflS L5 ((lw.length : Int) - 1) = .error 8 := by have := HH.out.2.2.1; rw [if_neg (by omega), show ((lw.length - 1 : Nat) : Int) = (lw.length : Int) - 1 by omega] at this; exact this
          have HS := Lib.hid hS
          have d1 : decide ((0 : Int) < (lw.length : Int) - 1) = true := by simp; omega
          clear hS hc2
          go_wp2_with fail
          refine hc2'.mono ?_
          intro e w4 h4
          obtain ⟨hb4, _, rfl⟩ := alls_bad h4 HS.out
          have hsame := same_trueS (a := ax) (a' := aw) (n := lw.length) (c := cx) (n' := lw.length) (c' := cw) (l := lw) (w := w4) rfl rfl (by unfold maxLen; omega) (Bs.of_own (own_below H3.out.2.1 hb4) hBx) (Bs.of_own (own_below H3.out.2.2 hb4) H2.out.2.2.2)
          have H4 := Lib.hid (below_next H3.out.1 (Nat.le_refl _) hb4)
          clear h4 hc2' hb4
          go_wp2_with fail
          refine hsame.mono ?_
          rintro e w5 ⟨rfl, d, rfl⟩
          clear hsame
          go_wp2_with fail
          go_ret
          exact ⟨rfl, low_drewN (below_next H1.out (Nat.le_refl _) H4.out) d⟩
theorem inflatestored_walk (w : World) (a : Option Addr) (n c : Nat) (ps : List (List Int)) (hn : ps.length = n) (hb : RowsAt w w.heap.size a ps) (hord : Ord w) :
    Calls Tryd.prog 6 #[.slice a n c] w fun e w' => e = .returned (.bool true) ∧ Below w.heap.size w w' := by
  by_cases h : 20 < n
  · exact stored_big w a n c ps hn hb h hord
  · exact stored_sum w a n c ps hn hb h hord
end Go.Proofs.YtpnnfekfoomgaaaDoor
