/- A record as an argument; the walk of the law EntryHolds: it returns true and turns nothing that was there. Condition: the order of the lengths lies where the program's own text lays it. -/
import Derived.Test.YthfhafnffeijpaaDoorFix10
import Derived.ChangeArms
set_option linter.unusedVariables false
set_option maxRecDepth 100000
namespace Go.Proofs.YthfhafnffeijpaaDoor
open Go.RowKit Go.Maps Go.ChangeMaps

theorem len7 {cs : List Value} (h : cs.length = 7) : ∃ a b c d e f g, cs = [a, b, c, d, e, f, g] := by
  rcases cs with _ | ⟨a, _ | ⟨b, _ | ⟨c, _ | ⟨d, _ | ⟨e, _ | ⟨f, _ | ⟨g, _ | ⟨x, r⟩⟩⟩⟩⟩⟩⟩⟩ <;> simp at h
  exact ⟨a, b, c, d, e, f, g, rfl⟩
theorem One.record {H : Type} {enc : TypeId × Value → H} {K : Option Nat} {W : World} {v : Value} {d : DataW H} {p : List MemPlace} (h : One H enc K W 40 v d p) :
    ∃ (nm : ByteArray) (me pk sz sm at_ hd : Int), v = recV nm me pk sz sm at_ hd ∧ nm.size ≤ maxLen ∧ (Lit.int .i64 me).wf = true ∧ (Lit.int .i64 pk).wf = true ∧ (Lit.int .i64 sz).wf = true ∧ (Lit.int .i64 sm).wf = true ∧ (Lit.int .i64 at_).wf = true ∧ (Lit.int .i64 hd).wf = true := by
  obtain ⟨base, hv⟩ := h.size
  simp only [Value.okWide, Tryd.underlying40] at hv
  obtain ⟨cs, rfl, hcs, _⟩ := hv
  obtain ⟨fuel, hf⟩ := h.read
  obtain ⟨xs, n, _, _, hl, hxs, hfs⟩ := DataW.trod_struct Tryd.underlying40 hf
  simp only [Value.cells] at hl hfs
  have hc : Tryd.prog.cellsOf 40 = 7 := by kernel_rfl
  rw [hc] at hl
  obtain ⟨c0, c1, c2, c3, c4, c5, c6, e⟩ := len7 hl
  have hx7 : xs.length = 7 := hxs
  have get : ∀ i, i < 7 → ∃ y, xs[i]? = some y := fun i hi => ⟨xs[i]'(by omega), List.getElem?_eq_getElem (by omega)⟩
  rw [e] at hfs
  have hci : Tryd.prog.cellsOf 3 = 1 := by kernel_rfl
  have hcs' : Tryd.prog.cellsOf 9 = 1 := by kernel_rfl
  obtain ⟨y0, k0⟩ := get 0 (by decide)
  obtain ⟨y1, k1⟩ := get 1 (by decide)
  obtain ⟨y2, k2⟩ := get 2 (by decide)
  obtain ⟨y3, k3⟩ := get 3 (by decide)
  obtain ⟨y4, k4⟩ := get 4 (by decide)
  obtain ⟨y5, k5⟩ := get 5 (by decide)
  obtain ⟨y6, k6⟩ := get 6 (by decide)
  have q0 := (hfs 0 _ rfl).trans k0
  have q1 := (hfs 1 _ rfl).trans k1
  have q2 := (hfs 2 _ rfl).trans k2
  have q3 := (hfs 3 _ rfl).trans k3
  have q4 := (hfs 4 _ rfl).trans k4
  have q5 := (hfs 5 _ rfl).trans k5
  have q6 := (hfs 6 _ rfl).trans k6
  change DataW.trod enc Tryd.prog W 0 (fun _ => true) true n 9 (List.take (Tryd.prog.cellsOf 9) [c0, c1, c2, c3, c4, c5, c6]) = some y0 at q0
  change DataW.trod enc Tryd.prog W 0 (fun _ => true) true n 3 (List.take (Tryd.prog.cellsOf 3) [c1, c2, c3, c4, c5, c6]) = some y1 at q1
  change DataW.trod enc Tryd.prog W 0 (fun _ => true) true n 3 (List.take (Tryd.prog.cellsOf 3) [c2, c3, c4, c5, c6]) = some y2 at q2
  change DataW.trod enc Tryd.prog W 0 (fun _ => true) true n 3 (List.take (Tryd.prog.cellsOf 3) [c3, c4, c5, c6]) = some y3 at q3
  change DataW.trod enc Tryd.prog W 0 (fun _ => true) true n 3 (List.take (Tryd.prog.cellsOf 3) [c4, c5, c6]) = some y4 at q4
  change DataW.trod enc Tryd.prog W 0 (fun _ => true) true n 3 (List.take (Tryd.prog.cellsOf 3) [c5, c6]) = some y5 at q5
  change DataW.trod enc Tryd.prog W 0 (fun _ => true) true n 3 (List.take (Tryd.prog.cellsOf 3) [c6]) = some y6 at q6
  rw [hcs'] at q0
  rw [hci] at q1 q2 q3 q4 q5 q6
  obtain ⟨s, s0, _, s2⟩ := DataW.trod_string Tryd.underlying9 q0
  obtain ⟨n1, r1, _, t1⟩ := DataW.trod_int Tryd.underlying3 q1
  obtain ⟨n2, r2, _, t2⟩ := DataW.trod_int Tryd.underlying3 q2
  obtain ⟨n3, r3, _, t3⟩ := DataW.trod_int Tryd.underlying3 q3
  obtain ⟨n4, r4, _, t4⟩ := DataW.trod_int Tryd.underlying3 q4
  obtain ⟨n5, r5, _, t5⟩ := DataW.trod_int Tryd.underlying3 q5
  obtain ⟨n6, r6, _, t6⟩ := DataW.trod_int Tryd.underlying3 q6
  injection s0 with s0
  injection r1 with r1
  injection r2 with r2
  injection r3 with r3
  injection r4 with r4
  injection r5 with r5
  injection r6 with r6
  subst s0 r1 r2 r3 r4 r5 r6
  refine ⟨s, n1, n2, n3, n4, n5, n6, ?_, s2, t1, t2, t3, t4, t5, t6⟩
  unfold recV
  congr 1
  exact Array.ext' (by simpa using e)
theorem byE_getD {l : List Int} (h : Bytes l) (i : Nat) : 0 ≤ l.getD i 0 ∧ l.getD i 0 ≤ 255 := by
  rw [List.getD_eq_getElem?_getD]
  by_cases hi : i < l.length
  · rw [List.getElem?_eq_getElem hi]; exact h _ (List.getElem_mem hi)
  · rw [List.getElem?_eq_none (by omega)]; decide
theorem own_cellE {w : World} {base g n c : Nat} {l : List Int} (h : w.ownsRow base 5 1 (.slice (some ⟨g, 0, none⟩) n c) n (l.map (Value.int .u8))) (hl : l.length = n) {i : Nat} (hi : i < n) : w.cell? ⟨g, i, none⟩ = some (.int .u8 (l.getD i 0)) := by
  rw [own_byte h hl hi, List.getD_eq_getElem?_getD, List.getElem?_eq_getElem (by omega)]
theorem unpack_val {me pk sz sm : Int} {l b : List Int} (h : unpackS me pk sz sm l = .ok b) : (b.length : Int) = sz ∧ sumOf 0 b = sm := by
  unfold unpackS at h
  split at h
  · cases h
  · rename_i hbad
    split at h
    · cases h
    · cases hp : plainS me pk sz l with
      | error e => rw [hp] at h; cases h
      | ok b' =>
        rw [hp] at h
        unfold sumS at h
        simp only at h
        split at h
        · cases h
        · rename_i hsm
          injection h with h
          subst h
          refine ⟨?_, by simpa using hsm⟩
          unfold plainS at hp
          split at hp
          · split at hp
            · cases hp
            · rename_i hps
              injection hp with hp
              subst hp
              have : pk = sz := by simpa using hps
              omega
          · split at hp
            · cases hp
            · split at hp
              · cases hp
              · rename_i hc
                injection hp with hp
                subst hp
                exact Decidable.byContradiction fun e => hc (.inl e)
set_option maxHeartbeats 8000000 in
theorem entryholds_walk (w : World) (nm : ByteArray) (me pk sz sm at_ hd : Int) (a : Option Addr) (n c : Nat) (l : List Int) (hn : l.length = n) (hc : n ≤ c) (hA : a = none → c = 0) (hm : c ≤ 140737488351232) (hb : Bs w w.heap.size a l) (hord : Ord w) :
    Calls Tryd.prog 11 #[recV nm me pk sz sm at_ hd, .slice a n c] w fun e w' => e = .returned (.bool true) ∧ Below w.heap.size w w' := by
  have hnew : (w.alloc (.cells #[.string nm, .int .i64 me, .int .i64 pk, .int .i64 sz, .int .i64 sm, .int .i64 at_, .int .i64 hd] 40)).heap[w.heap.size]? = some (.cells (recC nm me pk sz sm at_ hd) 40 (0, 0)) := heap_alloc_new w _
  have hbel := (Below.refl w.heap.size w).alloc (Nat.le_refl _) (.cells #[.string nm, .int .i64 me, .int .i64 pk, .int .i64 sz, .int .i64 sm, .int .i64 at_, .int .i64 hd] 40)
  have hfx := fixed10 _ (hord.below hbel)
  have hA' : a = none → n = 0 ∧ c = 0 := fun h => by have := hA h; omega
  have hz0 : (w.alloc (.cells #[.string nm, .int .i64 me, .int .i64 pk, .int .i64 sz, .int .i64 sm, .int .i64 at_, .int .i64 hd] 40)).heap.size = w.heap.size + 1 := by simp
  have H0 := Lib.hid (And.intro hord (And.intro hb (And.intro hA' (And.intro hnew (And.intro hbel hz0)))))
  clear hord hb hA hA' hnew hbel hz0
  unfold recV
  go_enter Tryd.func11, Tryd.ntmps11
  go_wp2_with fail
  refine hfx.mono ?_
  rintro e w1 ⟨rfl, hb1⟩
  have hw1 := below_next H0.out.2.2.2.2.1 (Nat.le_refl _) hb1
  have hr1 := (hb1.block w.heap.size (by rw [H0.out.2.2.2.2.2]; omega)).trans H0.out.2.2.2.1
  have H1 := Lib.hid (And.intro hw1 hr1)
  clear hfx hb1 hw1 hr1
  by_cases hlong : 6000 < n
  · have hd : decide ((n : Int) > 6000) = true := by simp; omega
    go_wp2_with fail
    go_ret
    exact ⟨rfl, H1.out.1⟩
  have hd6 : decide ((n : Int) > 6000) = false := by simp; omega
  have bs1 := (H0.out.2.1.below H1.out.1).more H1.out.1.size
  have hbyl := H0.out.2.1.1
  go_wp2_with (first | (at_builtin; refine wpList_app rfl _ _ rfl w1.heap.size (.slice (some ⟨w1.heap.size, 0, none⟩) 0 0) 0 [] rfl (World.ownsRow_lit w1 #[] 0 (Nat.le_refl _) (by decide) rfl) w1.heap.size a n c l rfl hn (bs1.alloc (Nat.le_refl _) _) H0.out.2.2.1 (by omega) (by simp) ?_; intro v2 w2 o2 g2; rw [Nat.zero_add] at o2; obtain ⟨a2, c2, rfl⟩ := own_shape o2; have hb2 : Below w1.heap.size w1 w2 := ((Below.refl w1.heap.size w1).alloc (Nat.le_refl _) _).grown g2 (by simp) (fun k hk => by simp [Value.ownBlock] at hk; omega)) | (refine rec_ld rfl rfl w.heap.size rfl ((hb2.block w.heap.size (blk_lt H1.out.2)).trans H1.out.2) ?_))
  have ho2 := own_cast (n' := l.length) (ys := l.map (Value.int .u8)) o2 hn.symm (by simp)
  have bs2 : Bs w2 w2.heap.size a2 l := Bs.of_own ho2 hbyl
  have hw2 := below_next H1.out.1 (Nat.le_refl _) hb2
  have hr2 := (hb2.block w.heap.size (blk_lt H1.out.2)).trans H1.out.2
  have hun := unpack_is w2 a2 n c2 l hn (by omega) bs2 nm me pk sz sm at_ hd (H0.out.1.below hw2)
  have H2 := Lib.hid (And.intro hw2 (And.intro bs2 hr2))
  clear o2 g2 hb2 bs1 hbyl bs2 hw2 ho2 hr2
  refine hun.mono ?_
  intro e w3 h3
  cases hu : unpackS me pk sz sm l with
  | error er =>
    obtain ⟨hb3, hne, rfl⟩ := unp_bad h3 hu
    have t6 : (er != 0) = true := by simp [hne]
    have H3 := Lib.hid (below_next H2.out.1 (Nat.le_refl _) hb3)
    clear h3 hun hb3 hu
    go_wp2_with fail
    go_ret
    exact ⟨rfl, H3.out⟩
  | ok b =>
    obtain ⟨hb3, ax, cx, rfl, hBb, hbl, hox⟩ := unp_ok h3 hu
    obtain ⟨hv1, hv2⟩ := unpack_val hu
    obtain ⟨N, hN⟩ : ∃ N, b.length = N := ⟨_, rfl⟩
    have hso := sumOne (t := 22) (c := cx) (b := w3.heap.size) (w := w3) rfl (Bs.of_own hox hBb) hN (by omega)
    rw [hv2] at hso
    have hox' := own_cast (n' := N) (ys := b.map (Value.int .u8)) hox hN rfl
    rw [hN] at hbl hv1 ⊢
    have hw3 := below_next H2.out.1 (Nat.le_refl _) hb3
    have bs3 := H2.out.2.1.below hb3
    have hr3 := (hb3.block w.heap.size (blk_lt H2.out.2.2)).trans H2.out.2.2
    have H3 := Lib.hid (And.intro hb3 (And.intro hw3 (And.intro bs3 (And.intro hr3 (And.intro hox' (And.intro hBb hN))))))
    have HV := Lib.hid hv1
    clear h3 hun hb3 hu hox hox' hBb hv2 hw3 bs3 hr3 hN hv1
    go_wp2_with fail
    refine hso.mono ?_
    rintro e w4 ⟨rfl, hb4⟩
    have hox4 := own_below H3.out.2.2.2.2.1 hb4
    have hb24 : Below w2.heap.size w2 w4 := below_next H3.out.1 (Nat.le_refl _) hb4
    have H4 : Hid (∃ l' : List Int, l'.length = N ∧ Bytes l' ∧ w4.ownsRow w2.heap.size 5 1 (.slice ax N cx) N (l'.map (Value.int .u8)) ∧ Below w2.heap.size w2 w4) := Lib.hid ⟨b, H3.out.2.2.2.2.2.2, H3.out.2.2.2.2.2.1, hox4, hb24⟩
    clear hso hb4 hox4 hb24
    go_wp2_with fail
    go_loopw [34] (fun i wr => ∃ k : Nat, k ≤ N ∧ i = .int .i64 k ∧ Hid (∃ l' : List Int, l'.length = N ∧ Bytes l' ∧ wr.ownsRow w2.heap.size 5 1 (.slice ax N cx) N (l'.map (Value.int .u8)) ∧ Below w2.heap.size w2 wr)) (fun i _ => N - (intOf i).toNat)
    case atStart => exact ⟨0, Nat.zero_le _, rfl, H4⟩
    case round =>
      clear H4
      obtain ⟨k, hk, rfl, HQ⟩ := hrel
      by_cases hlt : k < N
      · obtain ⟨l', h1, h2, h3, h4⟩ := HQ.out
        obtain ⟨g, cap, e, hg1, hg2⟩ := h3.form (by omega)
        obtain rfl : ax = some ⟨g, 0, none⟩ := by injection e
        have hcell := own_cellE h3 h1 hlt
        have hfree := h3.frozenAt k
        have hx := byE_getD h2 k
        obtain ⟨y, hy⟩ : ∃ y, IntKind.u8.wrap (l'.getD k 0 + 1) = y := ⟨_, rfl⟩
        have hyb : 0 ≤ y ∧ y ≤ 255 := by rw [← hy, u8_wrap]; omega
        have hst := h3.stored k (.int .u8 y)
        have hsetl : (l'.map (Value.int .u8)).set k (.int .u8 y) = (l'.set k y).map (Value.int .u8) := by rw [List.map_set]
        rw [hsetl] at hst
        have HS : Hid (∃ l' : List Int, l'.length = N ∧ Bytes l' ∧ (wr.setCell ⟨g, k, none⟩ (.int .u8 y)).ownsRow w2.heap.size 5 1 (.slice (some ⟨g, 0, none⟩) N cx) N (l'.map (Value.int .u8)) ∧ Below w2.heap.size w2 (wr.setCell ⟨g, k, none⟩ (.int .u8 y))) := Lib.hid ⟨l'.set k y, by rw [List.length_set]; exact h1, fun z hz => by
          rcases List.mem_or_eq_of_mem_set hz with hz | rfl
          · exact h2 z hz
          · exact hyb, hst.1, Below.setCell h4 hg1 _⟩
        have hyw : (l'.getD k 0 + 1) % 256 = y := by rw [← hy, u8_wrap]
        clear h1 h2 h3 h4 e hst hsetl HQ hyb
        generalize l'.getD k 0 = x at *
        go_wp2_with fail
        go_roundw
        case rel => exact ⟨k + 1, by omega, by go_num, HS⟩
        case measure => simp [intOf]; omega
      · obtain rfl : N = k := by omega
        obtain ⟨l', h1, h2, h3, h4⟩ := HQ.out
        have hrr := (h4.block w.heap.size (blk_lt H2.out.2.2)).trans H2.out.2.2
        have c3 : wr.cell? ⟨w.heap.size, 3, none⟩ = some (.int .i64 sz) := by rw [blk_cell hrr]; rfl
        have c4 : wr.cell? ⟨w.heap.size, 4, none⟩ = some (.int .i64 sm) := by rw [blk_cell hrr]; rfl
        have hwr := below_next H2.out.1 (Nat.le_refl _) h4
        have t1 : ((N : Int) == sz) = true := by simp [HV.out]
        have t2 : ((sm : Int) == sm) = true := by simp
        have hsm := same_trueR (w := wr) (a := a2) (a' := a) (n := n) (c := c2) (n' := n) (c' := c) (l := l) hn hn (by unfold maxLen; omega) (H2.out.2.1.below h4) (H0.out.2.1.below hwr)
        have HW := Lib.hid hwr
        clear h1 h2 h3 h4 hrr hwr HQ
        go_wp2_with fail
        refine hsm.mono ?_
        rintro e w6 ⟨rfl, d, rfl⟩
        clear hsm
        go_wp2_with fail
        go_ret
        exact ⟨rfl, low_drewN HW.out _⟩
end Go.Proofs.YthfhafnffeijpaaDoor
