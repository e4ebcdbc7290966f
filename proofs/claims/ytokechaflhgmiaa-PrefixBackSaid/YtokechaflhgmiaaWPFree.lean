/- The walk of the law PrefixFree: it returns true and turns nothing that was there. Condition: the lengths fit their kinds. -/
import Derived.Test.YtokechaflhgmiaaFix5
set_option linter.unusedVariables false
namespace Go.Proofs.Ytokechaflhgmiaa
open Go.RowKit

theorem src_ints {w : World} {B : Nat} {A : Option Addr} {l : List Int} (h : Ints .i64 w B A l) : Src w A (l.map (Value.int .i64)) := fun hp => by
  rw [List.length_map] at hp
  obtain ⟨b, off, e, _, hc⟩ := h.2 hp
  refine ⟨b, off, e, fun j hj => ?_⟩
  rw [List.length_map] at hj
  rw [hc j hj, List.getElem?_map, List.getD_eq_getElem?_getD, List.getElem?_eq_getElem hj]; rfl
theorem ints_one {l : List Int} : ∀ u ∈ l.map (Value.int .i64), u.oneCell' = true := by intro u hu; obtain ⟨x, _, rfl⟩ := List.mem_map.1 hu; rfl
theorem Ints.alloc {k : IntKind} {w : World} {B : Nat} {a : Option Addr} {l : List Int} (h : Ints k w B a l) (hB : B ≤ w.heap.size) (o : Obj) : Ints k (w.alloc o) B a l := h.below ((Below.refl B w).alloc hB o)
/-- a row of ints of the call's own -/
theorem Ints.of_own {w : World} {base : Nat} {t : TypeId} {a : Option Addr} {c : Nat} {l : List Int} (h : w.ownsRow base t 1 (.slice a l.length c) l.length (l.map (Value.int .i64))) (hl : ∀ n ∈ l, (Lit.int .i64 n).wf = true) : Ints .i64 w w.heap.size a l := by
  refine ⟨hl, fun hn => ?_⟩
  obtain ⟨g, cap, hv, _, hlt⟩ := h.form hn
  have hA : a = some ⟨g, 0, none⟩ := by injection hv
  subst hA
  refine ⟨g, 0, rfl, hlt, fun i hi => ?_⟩
  have := h.cells (g := g) rfl i (.int .i64 (l.getD i 0)) (by simp [List.getElem?_map, List.getElem?_eq_getElem hi])
  rw [add_off'] at this
  rw [Nat.zero_add]; exact this
/-- append(some ints, lengths...) -/
theorem wpList_copy {w : World} {ops : Array Oper} {rest : List Oper} {o : Oper} {a : Act} {Q : Exit → Act → World → Prop} (hgd : o.guard = none) (s x : Operand)
    (ho : o.op = .call { callee := .builtin .append, args := #[s, x], argTypes := #[22, 22] }) (w0 : World) (t : TypeId) (hw : w = w0.alloc (.cells #[] 3)) (hs : a.eval s = .slice (some ⟨w0.heap.size, 0, none⟩) 0 0)
    (A : Option Addr) (m c : Nat) (l : List Int) (hx : a.eval x = .slice A m c) (hm : l.length = m) (hb : Ints .i64 w0 w0.heap.size A l) (hA : A = none → c = 0) (hc : m ≤ c) (hbd : c * 8 ≤ 140737488351232)
    (h : ∀ a' c' w', Ints .i64 w' w'.heap.size a' l → w'.ownsRow w0.heap.size 3 1 (.slice a' m c') m (l.map (Value.int .i64)) → Below w0.heap.size w0 w' → wpList Try.prog ops Q rest (a.put o.dst (.slice a' m c')) w') : wpList Try.prog ops Q (o :: rest) a w := by
  subst hw
  subst hm
  refine wpList_appG 22 3 (.int .i64 0) 8 Try.underlying22 int_info rfl hgd s x ho w0.heap.size (.slice (some ⟨w0.heap.size, 0, none⟩) 0 0) 0 [] hs (World.ownsRow_lit w0 #[] 0 (Nat.le_refl _) (by decide) rfl) A l.length c (l.map (Value.int .i64)) hx (by simp) (src_ints (hb.alloc (Nat.le_refl _) _)) ints_one (fun e => by have := hA e; omega) (by simp only [maxLen]; omega) (by omega) (by simp) ?_
  intro v' w' hown hg _
  obtain ⟨a', c', rfl⟩ := own_shape hown
  rw [List.nil_append] at hown
  have hown := own_cast (n' := l.length) hown (by omega) rfl
  have hbel : Below w0.heap.size w0 w' := ((Below.refl w0.heap.size w0).alloc (Nat.le_refl _) _).grown hg (by simp) (fun k hk => by simp [Value.ownBlock] at hk; omega)
  have := h a' c' w' (Ints.of_own hown hb.1) hown hbel
  rw [Nat.zero_add]
  exact this
theorem errN_zero {q : List Int} {lone : Bool} (h : errN q lone = 0) : q.length ≤ 288 ∧ inR q = true ∧ okN (nsOf q) lone = true := by
  unfold errN at h
  by_cases h1 : 288 < q.length
  · rw [if_pos h1] at h; cases h
  · rw [if_neg h1] at h
    cases h2 : inR q with
    | false => rw [h2] at h; cases h
    | true =>
      rw [h2] at h
      cases h3 : okN (nsOf q) lone with
      | true => exact ⟨by omega, rfl, rfl⟩
      | false => rw [h3] at h; cases h
theorem pow_small {N : Nat} (h : N ≤ 15) : ∃ P : Nat, (2 : Int) ^ N = (P : Int) ∧ 2 ^ N = P ∧ 1 ≤ P ∧ P ≤ 32768 := by
  have h15 := Nat.pow_le_pow_right (n := 2) (by decide) h
  rw [(by decide : 2 ^ 15 = 32768)] at h15
  exact ⟨2 ^ N, pow_cast N, rfl, Nat.two_pow_pos _, h15⟩
set_option maxRecDepth 100000 in
set_option maxHeartbeats 4000000 in
theorem prefixfree_walk (w : World) (a : Option Addr) (n c : Nat) (q : List Int) (hn : q.length = n) (hnc : n ≤ c) (hm : c * 8 ≤ 140737488351232) (hA : a = none → c = 0) (hb : Ints .i64 w w.heap.size a q) (lone : Bool) :
    Calls Try.prog 6 #[.slice a n c, .bool lone] w fun e w' => e = .returned (.bool true) ∧ Below w.heap.size w w' := by
  subst hn
  have HA := Lib.hid hA; clear hA
  go_enter Try.func6, Try.ntmps6
  go_wp2_with fail
  refine (fixed5 _).mono ?_
  rintro e w1 ⟨rfl, hw1⟩
  have hb1 := (hb.below hw1).more hw1.size
  go_wp2_with (at_builtin; refine wpList_copy rfl _ _ rfl w1 0 rfl rfl a q.length c q rfl rfl hb1 HA.out hnc hm ?_; intro a2 c2 w2 hi2 hown2 hb2)
  have hw2 := below_next hw1 (Nat.le_refl _) hb2
  clear hown2 hb2 hb1 hw1
  refine (new_is a2 q.length c2 q rfl (by omega) hi2 lone).mono ?_
  intro e w3 hnew
  have hw3 := below_next hw2 (Nat.le_refl _) hnew.1
  rcases hnew.2 with ⟨hne, rfl⟩ | ⟨h0, g, rfl, hp⟩
  · have hd : (errN q lone == 0) = false := by simpa using hne
    clear hnew hi2 hw2
    generalize errN q lone = er at *
    go_wp2_with fail
    go_ret
    exact ⟨rfl, hw3⟩
  · obtain ⟨h288, hin, hok⟩ := errN_zero h0
    have hkr := okN_kraft hok
    have hnl : (nsOf q).length = q.length := by simp [nsOf]
    have hall := inR_le hin
    have hp3 := hp.more fun b hb => hb.2
    clear hnew hi2 hp
    have HKR := Lib.hid (And.intro hkr (And.intro hall (And.intro hin hok)))
    clear hkr hall hin hok h0
    go_wp2_with fail
    go_loopw [7, 8, 29] (fun sm wd i wr => ∃ k : Nat, k ≤ q.length ∧ i = .int .i64 k ∧ sm = .int .i64 (kraft (nsOf (q.take k))) ∧ wd = .int .i64 (allN (nsOf (q.take k))) ∧ Below w3.heap.size w3 wr) (fun _ _ i _ => q.length - (intOf i).toNat)
    case atStart => exact ⟨0, Nat.zero_le _, rfl, rfl, rfl, Below.refl _ _⟩
    case round =>
      obtain ⟨k, hk, rfl, rfl, rfl, hbl⟩ := hrel
      have hbr := below_next hw3 (Nat.le_refl _) hbl
      obtain ⟨hbd1, _, hbd3⟩ := bounds q hk h288
      by_cases hlt : k < q.length
      · have hpr := hp3.below (fun b hb => hb) hbl
        have hwd := word_is hpr (by omega) (k : Int) (by omega)
        obtain ⟨t1, _, t3, _⟩ := take_facts q hlt
        obtain ⟨x1, x2⟩ := nsOf_get HKR.out.2.2.1 k
        obtain ⟨N, hN⟩ : ∃ N, (nsOf q).getD k 0 = N := ⟨_, rfl⟩
        obtain ⟨V, hV⟩ : ∃ V, (if N = 0 then 0 else pword (nsOf q) k) = V := ⟨_, rfl⟩
        have hwo : wordOf (nsOf q) (k : Int) = ((V : Int), (N : Int)) := by
          unfold wordOf
          have e : ((k : Int)).toNat = k := by omega
          rw [e, hN]
          by_cases hz : N = 0
          · rw [if_neg (fun h => h.2.2 hz)]; rw [if_pos hz] at hV; subst hz; subst hV; rfl
          · rw [if_pos ⟨by omega, by omega, hz⟩]; rw [if_neg hz] at hV; subst hV; rfl
        rw [hN] at x1 x2
        have hVlt : V < 2 ^ N := by
          by_cases hz : N = 0
          · rw [if_pos hz] at hV; rw [← hV]; exact Nat.two_pow_pos _
          · rw [if_neg hz] at hV
            have := pword_bound HKR.out.2.1 HKR.out.1 (s := k) (by omega) (by omega)
            rw [hN, hV] at this; exact this
        obtain ⟨b, off, rfl, hbo, hc, _⟩ := (hb.below hbr).at_ hlt
        rw [x1] at hc t1 t3
        rw [Int.toNat_natCast] at t1 t3
        rw [hwo] at hwd
        have HT := Lib.hid (And.intro t1 (And.intro t3 (And.intro hN hV)))
        clear t1 t3 x1 hwo hpr hV hN
        go_wp2_with fail
        refine hwd.mono ?_
        rintro e w4 ⟨rfl, hb4⟩
        have hbl4 := below_next hbl (Nat.le_refl _) hb4
        have hc4 := (hb4.cell (p := ⟨b, off + k, none⟩) (by show b < wr.heap.size; have := hbr.size; omega)).trans hc
        obtain ⟨P, p1, p2, p3, p4⟩ := pow_small x2
        obtain ⟨R, r1, r2, r3, r4⟩ := pow_small (show 15 - N ≤ 15 by omega)
        rw [p2] at hVlt
        rw [r2] at HT
        have HP := Lib.hid p2
        have g1 : decide ((V : Int) ≥ (P : Int)) = false := by simp; omega
        have g2 : decide ((V : Int) < 0) = false := by simp
        have g3 : decide (P ≤ V) = false := by simp; omega
        clear p2 r2 r3 hb4 hwd hc
        by_cases hN0 : N = 0
        · have i2 : ((N : Int) == 0) = true := by simp; omega
          have HN0 := Lib.hid hN0
          clear hN0
          go_wp2_with fail
          obtain ⟨t1, t3, _, _⟩ := HT.out
          rw [if_pos HN0.out] at t1 t3
          exact ⟨⟨k + 1, by omega, by go_num, by rw [t1]; rfl, by rw [t3]; rfl, hbl4⟩, by simp [intOf]; omega⟩
        · have i2 : ((N : Int) == 0) = false := by simp; omega
          have i4 : (1 : Int) ≤ N := by omega
          obtain ⟨t1, t3, hN, hV⟩ := HT.out
          rw [if_neg hN0] at t1 t3 hV
          have HT2 := Lib.hid (And.intro t1 (And.intro t3 (And.intro hN hV)))
          clear t1 t3 hN hV HT
          generalize kraft (nsOf (q.take k)) = S at *
          generalize allN (nsOf (q.take k)) = A at *
          go_wp2_with fail
          obtain ⟨wo, hwo⟩ : ∃ x, x = wr := ⟨_, rfl⟩
          subst hwo
          go_loopw [67] (fun j wq => ∃ m : Nat, m ≤ q.length ∧ j = .int .i64 m ∧ Below w3.heap.size w3 wq) (fun j _ => q.length - (intOf j).toNat)
          case atStart => exact ⟨0, Nat.zero_le _, rfl, hbl4⟩
          case round =>
            obtain ⟨m, hm2, rfl, hbq⟩ := hrel
            by_cases hml : m < q.length
            · have hpr := hp3.below (fun b hb => hb) hbq
              have hwd := word_is hpr (by omega) (m : Int) (by omega)
              obtain ⟨_, x4⟩ := nsOf_get HKR.out.2.2.1 m
              obtain ⟨M, hM⟩ : ∃ M, (nsOf q).getD m 0 = M := ⟨_, rfl⟩
              obtain ⟨U, hU⟩ : ∃ U, (if M = 0 then 0 else pword (nsOf q) m) = U := ⟨_, rfl⟩
              have hwo : wordOf (nsOf q) (m : Int) = ((U : Int), (M : Int)) := by
                unfold wordOf
                have e : ((m : Int)).toNat = m := by omega
                rw [e, hM]
                by_cases hz : M = 0
                · rw [if_neg (fun h => h.2.2 hz)]; rw [if_pos hz] at hU; subst hz; subst hU; rfl
                · rw [if_pos ⟨by omega, by omega, hz⟩]; rw [if_neg hz] at hU; subst hU; rfl
              rw [hM] at x4
              rw [hwo] at hwd
              obtain ⟨T, T1, T2, T3, T4⟩ := pow_small (show M - N ≤ 15 by omega)
              have hne : m ≠ k → N ≤ M → U / T ≠ V := fun h1 h2 => by
                obtain ⟨_, _, hN, hV⟩ := HT2.out
                have := pword_free HKR.out.2.1 (s := k) (t := m) (by omega) (by omega) (fun e => h1 e.symm) (by omega) (by omega)
                rw [hM, hN, T2, hV] at this
                rw [if_neg (by omega)] at hU
                rw [hU] at this
                exact this
              clear hwo hpr hM hU T2
              go_wp2_with fail
              refine hwd.mono ?_
              rintro e w5 ⟨rfl, hb5⟩
              have hbl5 := below_next hbq (Nat.le_refl _) hb5
              clear hb5 hwd
              by_cases hmk : m = k
              · have j0 : ((m : Int) != k) = false := by simp [hmk]
                have HMK := Lib.hid hmk
                clear hmk hne
                go_wp2_with fail
                exact ⟨⟨m + 1, by omega, by go_num, hbl5⟩, by simp [intOf]; omega⟩
              · have j0 : ((m : Int) != k) = true := by simp; omega
                by_cases hMN : N ≤ M
                · have j1 : (N : Int) ≤ M := by omega
                  have j2 : ((U : Int) / T == V) = false := by
                    have := hne hmk hMN
                    rw [beq_eq_false_iff_ne]
                    intro e
                    apply this
                    have : ((U / T : Nat) : Int) = V := by rw [Int.natCast_ediv]; exact e
                    omega
                  have j3 : ((M : Int) - N) = ((M - N : Nat) : Int) := by omega
                  clear hne
                  go_wp2_with fail
                  exact ⟨⟨m + 1, by omega, by go_num, hbl5⟩, by simp [intOf]; omega⟩
                · have j1 : ¬ ((M : Int) ≥ N) := by omega
                  clear hne
                  go_wp2_with fail
                  exact ⟨⟨m + 1, by omega, by go_num, hbl5⟩, by simp [intOf]; omega⟩
            · obtain rfl : m = q.length := by omega
              go_wp2_with fail
              obtain ⟨t1, t3, _, _⟩ := HT2.out
              exact ⟨⟨k + 1, by omega, by go_num, by rw [t1]; rfl, by rw [t3]; rfl, hbq⟩, by simp [intOf]; omega⟩
      · obtain rfl : k = q.length := by omega
        rw [List.take_length]
        have hend : allN (nsOf q) < 2 ∨ kraft (nsOf q) = 32768 := by
          have h := HKR.out.2.2.2
          simp only [okN, Bool.or_eq_true, Bool.and_eq_true, decide_eq_true_eq] at h
          rcases h with h | ⟨_, h | ⟨h, _⟩⟩
          · exact .inr h
          · exact .inl (by omega)
          · exact .inl (by omega)
        have HBR := Lib.hid hbr
        clear hbd1 hbd3 HKR hbl hbr
        generalize allN (nsOf q) = A at *
        generalize kraft (nsOf q) = S at *
        by_cases hA2 : A < 2
        · have d1 : (A : Int) < 2 := by omega
          clear hend
          go_wp2_with fail
          go_ret
          exact ⟨rfl, HBR.out⟩
        · have d1 : ¬ ((A : Int) < 2) := by omega
          obtain rfl : S = 32768 := by omega
          clear hend
          go_wp2_with fail
          go_ret
          exact ⟨rfl, HBR.out⟩
end Go.Proofs.Ytokechaflhgmiaa
