/- What the document's own prefix codes do: contracts of longest, Word, Next, New of samovarref05. Condition: the lengths fit their kinds. -/
import Derived.Test.YtpnnfekfoomgaaaDoorRdR
import Derived.Test.YtpnnfekfoomgaaaDoorArgs
import Derived.Test.YtpnnfekfoomgaaaDoorPreM
import Derived.Deep.MidRow
set_option linter.unusedVariables false
set_option maxRecDepth 100000
namespace Go.Proofs.YtpnnfekfoomgaaaDoor
open Go.RowKit

theorem cell_keep {w w' : World} {b : Nat} (h : w'.heap[b]? = w.heap[b]?) (o : Nat) : w'.cell? ⟨b, o, none⟩ = w.cell? ⟨b, o, none⟩ := by unfold World.cell?; rw [h]
theorem cell_keep' {w w' : World} {p : Addr} (h : w'.heap[p.block]? = w.heap[p.block]?) : w'.cell? p = w.cell? p := by unfold World.cell?; rw [h]
/-- the row that begins at a holds the symbols q, in a block of F -/
def Row (w : World) (F : Nat → Prop) (a : Option Addr) (q : List Nat) : Prop :=
  0 < q.length → ∃ b off, a = some ⟨b, off, none⟩ ∧ F b ∧ ∀ (i t : Nat), q[i]? = some t → w.cell? ⟨b, off + i, none⟩ = some (.int .i64 (t : Int))
theorem Row.keep {w w' : World} {F : Nat → Prop} {a : Option Addr} {q : List Nat} (h : Row w F a q) (hs : ∀ b, F b → w'.heap[b]? = w.heap[b]?) : Row w' F a q := fun hn => by
  obtain ⟨b, off, e, hb, hc⟩ := h hn
  exact ⟨b, off, e, hb, fun i t ht => (cell_keep (hs b hb) _).trans (hc i t ht)⟩
theorem Row.more {w : World} {F F' : Nat → Prop} {a : Option Addr} {q : List Nat} (h : Row w F a q) (hs : ∀ b, F b → F' b) : Row w F' a q := fun hn => by
  obtain ⟨b, off, e, hb, hc⟩ := h hn
  exact ⟨b, off, e, hs b hb, hc⟩
/-- cells that are the code of the lengths ns; its rows of symbols lie in F -/
def Cd (w : World) (F : Nat → Prop) (ns : List Nat) (cs : Array Value) : Prop :=
  cs.size = 32 ∧ ∀ n, 1 ≤ n → n ≤ 15 → cs[n]? = some (.int .i64 (pfirst ns n)) ∧ ∃ a c, cs[16 + n]? = some (.slice a (pcnt ns n) c) ∧ Row w F a (pidx ns n)
theorem Cd.keep {w w' : World} {F : Nat → Prop} {ns : List Nat} {cs : Array Value} (h : Cd w F ns cs) (hs : ∀ b, F b → w'.heap[b]? = w.heap[b]?) : Cd w' F ns cs :=
  ⟨h.1, fun n h0 h1 => by
    obtain ⟨h2, a, c, h3, h4⟩ := h.2 n h0 h1
    exact ⟨h2, a, c, h3, h4.keep hs⟩⟩
theorem Cd.more {w : World} {F F' : Nat → Prop} {ns : List Nat} {cs : Array Value} (h : Cd w F ns cs) (hs : ∀ b, F b → F' b) : Cd w F' ns cs :=
  ⟨h.1, fun n h0 h1 => by
    obtain ⟨h2, a, c, h3, h4⟩ := h.2 n h0 h1
    exact ⟨h2, a, c, h3, h4.more hs⟩⟩
theorem ret1' {a b : Int} {k : IntKind} (h : a = b) : Ending.returned (.int k a) = .returned (.int k b) := by rw [h]
set_option maxHeartbeats 1000000 in
theorem refLong {w : World} {F : Nat → Prop} {ns : List Nat} {cs : Array Value} (h : Cd w F ns cs) :
    Calls Tryd.prog 62 #[.agg cs] w fun e w' => e = .returned (.int .i64 (plong ns 15)) ∧ Below w.heap.size w w' := by
  have hbel : Below w.heap.size w (w.alloc (.cells cs 65)) := (Below.refl _ _).alloc (Nat.le_refl _) _
  have hh := heap_alloc_new w (.cells cs 65)
  have HB := Lib.hid hbel; clear hbel
  go_enter Tryd.func62, Tryd.ntmps62
  go_wp2_with fail
  go_loop [3] (fun v => ∃ m : Nat, m ≤ 15 ∧ v = .int .i64 m ∧ plong ns m = plong ns 15) (fun v => (intOf v).toNat)
  case atStart => exact ⟨15, by omega, rfl, rfl⟩
  case round =>
    obtain ⟨m, hm, rfl, hp⟩ := hrel
    rcases Nat.eq_zero_or_pos m with rfl | hpos
    · have e0 : plong ns 15 = 0 := by rw [← hp]; rfl
      have hd : decide ((0 : Int) > ((0 : Nat) : Int)) = false := rfl
      clear hh h
      go_wp2_with fail
      go_ret
      exact ⟨rfl, HB.out⟩
    · obtain ⟨_, a, c, h3, _⟩ := h.2 m hpos hm
      obtain ⟨j, rfl⟩ : ∃ j, m = j + 1 := ⟨m - 1, by omega⟩
      have hc : (w.alloc (.cells cs 65)).cell? ⟨w.heap.size, 16 + (j + 1), none⟩ = some (.slice a (pcnt ns (j + 1)) c) := by rw [blk_cell hh]; exact h3
      have hp1 : plong ns (j + 1) = if pcnt ns (j + 1) = 0 then plong ns j else j + 1 := rfl
      clear hh h h3
      have i0 : (0 : Int) < ((j + 1 : Nat) : Int) := by omega
      have i1 : ((j + 1 : Nat) : Int) < 16 := by omega
      generalize pcnt ns (j + 1) = k at *
      by_cases h0 : k = 0
      · subst h0
        rw [if_pos rfl] at hp1
        go_wp2_with fail
        exact ⟨⟨j, by omega, rfl, hp1.symm.trans hp⟩, by simp [intOf]⟩
      · rw [if_neg h0] at hp1
        have hk : ((k : Int) == 0) = false := by simp; omega
        go_wp2_with fail
        go_ret
        exact ⟨ret1' (by rw [← hp, hp1]; omega), HB.out⟩
/-- a symbol's word and how many bits it has; 0 and 0 of a symbol that has none -/
def wordOf (ns : List Nat) (s : Int) : Int × Int := if 0 ≤ s ∧ s < ns.length ∧ ns.getD s.toNat 0 ≠ 0 then ((pword ns s.toNat : Int), (ns.getD s.toNat 0 : Int)) else (0, 0)
theorem wordOf_found {ns : List Nat} {n i t : Nat} (hn : 1 ≤ n) (h : (pidx ns n)[i]? = some t) : wordOf ns t = ((pfirst ns n : Int) + i, (n : Int)) := by
  obtain ⟨h1, h2, h3⟩ := pidx_mem ns h
  unfold wordOf
  have e : ((t : Int)).toNat = t := by omega
  rw [e, if_pos ⟨by omega, by omega, by omega⟩, h2]
  unfold pword
  rw [h2, h3, Int.natCast_add]
theorem wordOf_none {ns : List Nat} (hall : ∀ n ∈ ns, n ≤ 15) {s : Int} (h : ∀ m, 1 ≤ m → m < 16 → ∀ t ∈ pidx ns m, (t : Int) ≠ s) : wordOf ns s = (0, 0) := by
  unfold wordOf
  rw [if_neg]
  rintro ⟨h1, h2, h3⟩
  obtain ⟨t, rfl⟩ := Int.eq_ofNat_of_zero_le h1
  have e : ((t : Int)).toNat = t := by omega
  rw [e] at h3
  have hlt : t < ns.length := by omega
  have hm : ns.getD t 0 ≤ 15 := by
    rw [List.getD_eq_getElem?_getD, List.getElem?_eq_getElem hlt]; exact hall _ (List.getElem_mem hlt)
  exact h _ (by omega) (by omega) t (List.mem_of_getElem? (pidx_rank ns hlt)) rfl
theorem ret2' {a b c d : Int} {k k' : IntKind} (h1 : a = c) (h2 : b = d) : Ending.returned (.tuple #[.int k a, .int k' b]) = .returned (.tuple #[.int k c, .int k' d]) := by rw [h1, h2]
theorem pidx_get (ns : List Nat) (n i : Nat) (h : i < pcnt ns n) : ∃ t, (pidx ns n)[i]? = some t ∧ t < ns.length := by
  have hl : i < (pidx ns n).length := by rw [pidx_len]; exact h
  exact ⟨(pidx ns n)[i], List.getElem?_eq_getElem hl, (pidx_mem ns (List.getElem?_eq_getElem hl)).1⟩
theorem code_ld {ops : Array Oper} {rest : List Oper} {op : Oper} {a : Act} {W : World} {Q : Exit → Act → World → Prop} {x : Operand} {cs : Array Value} (hgd : op.guard = none) (ho : op.op = .load 65 x) (b : Nat) (hx : a.eval x = .pointer (some ⟨b, 0, none⟩)) (hs : cs.size = 32) (hh : W.heap[b]? = some (.cells cs 65 (0, 0)))
    (h : wpList Tryd.prog ops Q rest (a.put op.dst (.agg cs)) W) : wpList Tryd.prog ops Q (op :: rest) a W := by
  refine wpList_load_mid hgd 65 x ho b 0 hx cs.toList _ (fun j v hv => ?_) Tryd.underlying65 rfl ?_ (by simpa using h)
  · rw [Nat.zero_add, blk_cell hh]; simpa using hv
  · rw [Array.length_toList, hs]; kernel_rfl
theorem only_alloc {g : Nat} {a w : World} (h : Only g a w) (o : Obj) : Only g a (w.alloc o) := ⟨h.os, h.tape, h.output, Nat.le_trans h.size (by simp), fun i hi hne => (Below.heap_alloc _ _ _ (Nat.lt_of_lt_of_le hi h.size)).trans (h.block i hi hne)⟩
theorem only_of_below {g : Nat} {a w w' : World} (h : Only g a w) (hb : Below w.heap.size w w') : Only g a w' := ⟨hb.os.trans h.os, hb.tape.trans h.tape, hb.output.trans h.output, Nat.le_trans h.size hb.size, fun i hi hne => (hb.block i (Nat.lt_of_lt_of_le hi h.size)).trans (h.block i hi hne)⟩
set_option maxRecDepth 100000 in
set_option maxHeartbeats 2000000 in
theorem refNext {w : World} {F : Nat → Prop} {ns : List Nat} {cs : Array Value} {g : Nat} {l : List Int} {p : Nat} (hF : ∀ b, F b → b < w.heap.size ∧ b ≠ g) (h : Cd w F ns cs) (hall : ∀ n ∈ ns, n ≤ 15) (hk : kraft ns ≤ 2 ^ 15) (hr : Rdr 53 w g l p) :
    Calls Tryd.prog 40 #[.agg cs, .pointer (some ⟨g, 0, none⟩)] w fun e w' => e = .returned (.tuple #[.int .i64 (nxt ns l p).1, .int .i64 (nxt ns l p).2.1]) ∧ Rdr 53 w' g l (nxt ns l p).2.2 ∧ Only g w w' := by
  have hg : g < w.heap.size := by obtain ⟨_, _, hh, _⟩ := hr; exact blk_lt hh
  have hbel : Below w.heap.size w (w.alloc (.cells cs 65)) := (Below.refl _ _).alloc (Nat.le_refl _) _
  have hh := heap_alloc_new w (.cells cs 65)
  have h' : Cd (w.alloc (.cells cs 65)) F ns cs := h.keep fun b hb => Below.heap_alloc _ _ _ (hF b hb).1
  have hends := fun n h0 h1 => pend_le hall hk (n := n) h0 h1
  have HE := Lib.hid hends
  have hsz := h.1
  clear hall hk hends
  go_enter Tryd.func40, Tryd.ntmps40
  go_wp2_with (refine code_ld rfl rfl w.heap.size rfl hsz hh ?_)
  refine (refLong h').mono ?_
  rintro e w2 ⟨rfl, hb2⟩
  have ho2 : Only g w w2 := only_of_below (only_alloc (only_refl g w) _) hb2
  have hcs2 : w2.heap[w.heap.size]? = some (.cells cs 65 (0, 0)) := (hb2.block _ (by simp)).trans hh
  have hr2 : Rdr 53 w2 g l p := by
    obtain ⟨a, c, q1, q2, q3, q4, q5, q6⟩ := hr
    have hlow : ∀ k, k < w.heap.size → w2.heap[k]? = w.heap[k]? := fun k hk => (hb2.block k (by simp; omega)).trans (Below.heap_alloc _ _ _ hk)
    exact ⟨a, c, (hlow g hg).trans q1, q2, q3, q4.keep fun q hq => cell_keep' (hlow _ (by omega)), q5, q6⟩
  have HF := Lib.hid hF
  have HC := Lib.hid h
  clear hh h' hb2 hbel hF h hr
  go_wp2_with fail
  go_loopw [7, 8] (fun wv nv wr => ∃ n : Nat, n ≤ plong ns 15 ∧ wv = .int .i64 (wd l p n) ∧ nv = .int .i64 n ∧ Hid (nxt ns l p = nxR ns l p n (plong ns 15 - n)) ∧ Rdr 53 wr g l (p + n) ∧ wr.heap[w.heap.size]? = some (.cells cs 65 (0, 0)) ∧ Only g w wr) (fun _ nv _ => plong ns 15 - (intOf nv).toNat)
  case atStart => exact ⟨0, Nat.zero_le _, rfl, rfl, Lib.hid rfl, hr2, hcs2, ho2⟩
  case round =>
    clear hr2 hcs2 ho2
    obtain ⟨n, hn, rfl, rfl, HN, hr, hcs, ho⟩ := hrel
    have hL := plong_le ns 15
    by_cases hlt : n < plong ns 15
    · obtain ⟨f, hf⟩ : ∃ f, plong ns 15 - n = f + 1 := ⟨plong ns 15 - n - 1, by omega⟩
      have HR := Lib.hid hr
      by_cases hshort : p + n < 8 * l.length
      · have htk : tk l (p + n) 1 = bt l (p + n) := by simp [tk, bsum]
        obtain ⟨e1, e2, e3⟩ : errT l (p + n) 1 = 0 ∧ valT l (p + n) 1 = bt l (p + n) ∧ posT l (p + n) 1 = p + n + 1 := by
          have h := t_ok (l := l) (p := p + n) (m := 1) (by decide) (by omega)
          rw [htk] at h; exact h
        have hcall := refTake 1 (by decide) hr
        rw [e1, e2, e3] at hcall
        obtain ⟨b, hb⟩ : ∃ b, bt l (p + n) = b := ⟨_, rfl⟩
        have hbb := bt_bd l (p + n)
        have hv : (wd l p (n + 1) : Int) = 2 * (wd l p n : Int) + b := by
          have := (bt_nat l (p + n)).1
          rw [wd, ← hb]; omega
        have hvlt := wd_lt l p (n + 1)
        have hp15 := Nat.pow_le_pow_right (n := 2) (by decide) (by omega : n + 1 ≤ 15)
        rw [(by decide : 2 ^ 15 = 32768)] at hp15
        obtain ⟨h2, a, c, h3, h4⟩ := HC.out.2 (n + 1) (by omega) (by omega)
        have hend := HE.out (n + 1) (by omega) (by omega)
        have hsome := fun s hs => nxR_some ns l p n f s hshort hs
        have hnone := fun hs => nxR_none ns l p n f hshort hs
        rw [← hf, ← HN.out] at hsome hnone
        rw [hb] at hcall hbb
        obtain ⟨u, hu⟩ : ∃ u, wd l p n = u := ⟨_, rfl⟩
        obtain ⟨v, hv'⟩ : ∃ v, wd l p (n + 1) = v := ⟨_, rfl⟩
        rw [hu] at hv
        rw [hv'] at hv hsome hnone hvlt
        have HV := Lib.hid hv'
        have H4 := Lib.hid h4
        have HS := Lib.hid hsome
        have HO := Lib.hid hnone
        have HU := Lib.hid hu
        have hpi := plook_iff ns (n + 1) v
        have hpn := plook_none ns (n + 1) v
        have hps := plook_some ns (n + 1) v
        have hlen := pidx_len ns (n + 1)
        have HLN := Lib.hid hlen
        have hpl : plook ns (n + 1) v = if pfirst ns (n + 1) ≤ v then (pidx ns (n + 1))[v - pfirst ns (n + 1)]? else none := rfl
        have HPL := Lib.hid hpl
        have HPI := Lib.hid hpi
        have HPN := Lib.hid hpn
        have HPS := Lib.hid hps
        rw [hu]
        clear e1 e2 e3 hr hsome hnone htk h4 hb hpi hpn hps hlen hpl HN
        generalize pfirst ns (n + 1) = fi at *
        generalize pcnt ns (n + 1) = ct at *
        go_wp2_with fail
        refine hcall.mono ?_
        rintro e w3 ⟨rfl, hr3, ho3⟩
        have hcs3 : w3.heap[w.heap.size]? = some (.cells cs 65 (0, 0)) := (ho3.block _ (blk_lt hcs) (by intro e; injection e with e; omega)).trans hcs
        have hcF : w3.cell? ⟨w.heap.size, n + 1, none⟩ = some (.int .i64 fi) := by rw [blk_cell hcs3]; exact h2
        have hcS : w3.cell? ⟨w.heap.size, 16 + (n + 1), none⟩ = some (.slice a ct c) := by rw [blk_cell hcs3]; exact h3
        clear h2 h3 hcall hcs
        go_wp2_with fail
        have hv2 : 2 * (u : Int) + b = v := by omega
        have hn2 : (n : Int) + 1 = ((n + 1 : Nat) : Int) := by omega
        rw [hv2, hn2]
        have hm0 : 1 ≤ n + 1 := by omega
        have hm1 : ((n + 1 : Nat) : Int) < 16 := by omega
        have hsub : plong ns 15 - (n + 1) = f := by omega
        have hR3 : Rdr 53 w3 g l (p + (n + 1)) := hr3
        have hmn : n < n + 1 := by omega
        have hmL : n + 1 ≤ plong ns 15 := by omega
        have hmp : p + n + 1 = p + (n + 1) := by omega
        rw [hmp] at HS
        generalize n + 1 = m at *
        have HR3 := Lib.hid hR3
        have i0 : (0 : Int) ≤ (m : Int) := by omega
        have HSUB := Lib.hid hsub
        have hv15 : v < 32768 := by omega
        have HN2 := Lib.hid hn2
        clear hv hv2 hn2 hsub hmp hf
        by_cases hlo : fi ≤ v
        · have g1 : decide ((v : Int) ≥ fi) = true := by simp; omega
          obtain ⟨d, hd⟩ : ∃ d, v - fi = d := ⟨_, rfl⟩
          have k2 : (v : Int) - fi = (d : Int) := by omega
          have k1 : IntKind.i64.wrap ((v : Int) - fi) = (d : Int) := by rw [k2]; exact IntWalk.i64_in _ (by omega)
          by_cases hup : d < ct
          · have g2 : decide ((d : Int) < ct) = true := by simp; omega
            have g3 : (d : Int) < ct := by omega
            obtain ⟨s, hs⟩ := HPS.out hlo (by omega)
            have hres := HS.out s hs
            have HE := Lib.hid hres
            obtain ⟨b', off, rfl, hFb, hrow⟩ := H4.out (by rw [HLN.out]; omega)
            rw [HPL.out, if_pos hlo, hd] at hs
            obtain ⟨f1, f2⟩ := HF.out b' hFb
            have hne : some b' ≠ some g := fun e => by injection e with e; exact f2 e
            have hcR : w3.cell? ⟨b', off + d, none⟩ = some (.int .i64 s) := (cell_keep ((only_trans ho ho3).block b' f1 hne) _).trans (hrow d s hs)
            clear hres hs hr3 hR3 hrow hd
            go_quiet (fail)
            go_wp2_with fail
            go_quiet (fail)
            go_wp2_with fail
            go_ret2
            exact ⟨ret2' (by rw [HE.out]) (by rw [HE.out]), by rw [HE.out]; exact HR3.out, only_drewN (only_drewN (only_trans ho ho3) _) _⟩
          · have g2 : decide ((d : Int) < ct) = false := by simp; omega
            have hl := HPN.out.2 (.inr (by omega))
            have hres := HO.out hl
            have HE := Lib.hid hres
            clear hres hl hr3 hR3 hd
            go_quiet (fail)
            go_wp2_with fail
            exact ⟨⟨m, hmL, by rw [HV.out], rfl, Lib.hid (by rw [HE.out, HSUB.out]), HR3.out, hcs3, only_drewN (only_trans ho ho3) _⟩, by simp [intOf]; omega⟩
        · have g1 : decide ((v : Int) ≥ fi) = false := by simp; omega
          have hl := HPN.out.2 (.inl (by omega))
          have hres := HO.out hl
          have HE := Lib.hid hres
          clear hres hl hr3 hR3
          go_quiet (fail)
          go_wp2_with fail
          exact ⟨⟨m, hmL, by rw [HV.out], rfl, Lib.hid (by rw [HE.out, HSUB.out]), HR3.out, hcs3, only_drewN (only_trans ho ho3) _⟩, by simp [intOf]; omega⟩
      · obtain ⟨e1, e2, e3⟩ := t_short (l := l) (p := p + n) (n := 1) (by decide) (by omega)
        have hcall := refTake 1 (by decide) hr
        rw [e1, e2, e3] at hcall
        have hres := nxR_short ns l p n f (by omega)
        rw [← hf, ← HN.out] at hres
        have HS := Lib.hid hres
        clear e1 e2 e3 hres hr
        go_wp2_with fail
        refine hcall.mono ?_
        rintro e w3 ⟨rfl, h3, ho3⟩
        have hr3 := Lib.hid h3
        go_wp2_with fail
        go_ret2
        exact ⟨ret2' (by rw [HS.out]) (by rw [HS.out]), by rw [HS.out]; exact hr3.out, only_trans ho ho3⟩
    · obtain rfl : n = plong ns 15 := by omega
      have hres := nxR_end ns l p (plong ns 15)
      have hN := HN.out
      rw [Nat.sub_self] at hN
      rw [← hN] at hres
      have HS := Lib.hid hres
      have HR := Lib.hid hr
      clear hres hN HN hr hcs
      go_wp2_with fail
      go_ret2
      exact ⟨ret2' (by rw [HS.out]) (by rw [HS.out]), by rw [HS.out]; exact HR.out, ho⟩
end Go.Proofs.YtpnnfekfoomgaaaDoor
