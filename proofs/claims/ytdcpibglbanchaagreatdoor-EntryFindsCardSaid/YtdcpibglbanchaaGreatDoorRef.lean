/- What the document's own prefix codes do: contracts of longest, Word, Next, New of samovarref05. Condition: the lengths fit their kinds. What the document's own prefix codes do: contract of New of samovarref05. Condition: the lengths fit their kinds. What the document's own lengths and distances are: contracts of Length and Distance of samovarref06. No condition. -/
import Derived.Test.YtdcpibglbanchaaGreatDoorRd
import Derived.Test.YtdcpibglbanchaaGreatDoorFr
import Derived.Test.YtdcpibglbanchaaGreatDoorPp
import Derived.Deep.MidRow
import Derived.Laws.ResultCell
import Derived.Deep.DeepCutAuto
set_option linter.unusedVariables false
set_option maxRecDepth 100000
namespace Go.Proofs.YtdcpibglbanchaaGreatDoor
open Go.RowKit

theorem cell_keep {w w' : World} {b : Nat} (h : w'.heap[b]? = w.heap[b]?) (o : Nat) : w'.cell? ⟨b, o, none⟩ = w.cell? ⟨b, o, none⟩ := by unfold World.cell?; rw [h]
theorem cell_keep' {w w' : World} {p : Addr} (h : w'.heap[p.block]? = w.heap[p.block]?) : w'.cell? p = w.cell? p := by unfold World.cell?; rw [h]
/-- the row that begins at a holds the symbols q, in a block of F -/
def Row (w : World) (F : Nat → Prop) (a : Option Addr) (q : List Nat) : Prop :=
  0 < q.length → ∃ b off, a = some ⟨b, off, none⟩ ∧ F b ∧ ∀ (i t : Nat), q[i]? = some t → w.cell? ⟨b, off + i, none⟩ = some (.int .i64 (t : Int))
theorem Row.keep {w w' : World} {F : Nat → Prop} {a : Option Addr} {q : List Nat} (h : Row w F a q) (hs : ∀ b, F b → w'.heap[b]? = w.heap[b]?) : Row w' F a q := fun hn => by
  obtain ⟨b, off, e, hb, hc⟩ := h hn
  exact ⟨b, off, e, hb, fun i t ht => (cell_keep (hs b hb) _).trans (hc i t ht)⟩
theorem Row.more {w : World} {F F' : Nat → Prop} {a : Option Addr} {q : List Nat} (h : Row w F a q) (hs : ∀ b, F b → F' b) : Row w F' a q := fun hn => by
  obtain ⟨b, off, e, hb, hc⟩ := h hn
  exact ⟨b, off, e, hs b hb, hc⟩
/-- cells that are the code of the lengths ns; its rows of symbols lie in F -/
def Cd (w : World) (F : Nat → Prop) (ns : List Nat) (cs : Array Value) : Prop :=
  cs.size = 32 ∧ ∀ n, 1 ≤ n → n ≤ 15 → cs[n]? = some (.int .i64 (pfirst ns n)) ∧ ∃ a c, cs[16 + n]? = some (.slice a (pcnt ns n) c) ∧ Row w F a (pidx ns n)
theorem Cd.keep {w w' : World} {F : Nat → Prop} {ns : List Nat} {cs : Array Value} (h : Cd w F ns cs) (hs : ∀ b, F b → w'.heap[b]? = w.heap[b]?) : Cd w' F ns cs :=
  ⟨h.1, fun n h0 h1 => by
    obtain ⟨h2, a, c, h3, h4⟩ := h.2 n h0 h1
    exact ⟨h2, a, c, h3, h4.keep hs⟩⟩
theorem Cd.more {w : World} {F F' : Nat → Prop} {ns : List Nat} {cs : Array Value} (h : Cd w F ns cs) (hs : ∀ b, F b → F' b) : Cd w F' ns cs :=
  ⟨h.1, fun n h0 h1 => by
    obtain ⟨h2, a, c, h3, h4⟩ := h.2 n h0 h1
    exact ⟨h2, a, c, h3, h4.more hs⟩⟩
theorem ret1' {a b : Int} {k : IntKind} (h : a = b) : Ending.returned (.int k a) = .returned (.int k b) := by rw [h]
set_option maxHeartbeats 1000000 in
theorem refLong {w : World} {F : Nat → Prop} {ns : List Nat} {cs : Array Value} (h : Cd w F ns cs) :
    Calls Tryz.prog 127 #[.agg cs] w fun e w' => e = .returned (.int .i64 (plong ns 15)) ∧ Below w.heap.size w w' := by
  have hbel : Below w.heap.size w (w.alloc (.cells cs 145)) := (Below.refl _ _).alloc (Nat.le_refl _) _
  have hh := heap_alloc_new w (.cells cs 145)
  have HB := Lib.hid hbel; clear hbel
  go_enter Tryz.func127, Tryz.ntmps127
  go_wp2_with fail
  go_loop [3] (fun v => ∃ m : Nat, m ≤ 15 ∧ v = .int .i64 m ∧ plong ns m = plong ns 15) (fun v => (intOf v).toNat)
  case atStart => exact ⟨15, by omega, rfl, rfl⟩
  case round =>
    obtain ⟨m, hm, rfl, hp⟩ := hrel
    rcases Nat.eq_zero_or_pos m with rfl | hpos
    · have e0 : plong ns 15 = 0 := by rw [← hp]; rfl
      have hd : decide ((0 : Int) > ((0 : Nat) : Int)) = false := rfl
      clear hh h
      go_wp2_with fail
      go_ret
      exact ⟨rfl, HB.out⟩
    · obtain ⟨_, a, c, h3, _⟩ := h.2 m hpos hm
      obtain ⟨j, rfl⟩ : ∃ j, m = j + 1 := ⟨m - 1, by omega⟩
      have hc : (w.alloc (.cells cs 145)).cell? ⟨w.heap.size, 16 + (j + 1), none⟩ = some (.slice a (pcnt ns (j + 1)) c) := by rw [blk_cell hh]; exact h3
      have hp1 : plong ns (j + 1) = if pcnt ns (j + 1) = 0 then plong ns j else j + 1 := rfl
      clear hh h h3
      have i0 : (0 : Int) < ((j + 1 : Nat) : Int) := by omega
      have i1 : ((j + 1 : Nat) : Int) < 16 := by omega
      generalize pcnt ns (j + 1) = k at *
      by_cases h0 : k = 0
      · subst h0
        rw [if_pos rfl] at hp1
        go_wp2_with fail
        exact ⟨⟨j, by omega, rfl, hp1.symm.trans hp⟩, by simp [intOf]⟩
      · rw [if_neg h0] at hp1
        have hk : ((k : Int) == 0) = false := by simp; omega
        go_wp2_with fail
        go_ret
        exact ⟨ret1' (by rw [← hp, hp1]; omega), HB.out⟩
/-- a symbol's word and how many bits it has; 0 and 0 of a symbol that has none -/
def wordOf (ns : List Nat) (s : Int) : Int × Int := if 0 ≤ s ∧ s < ns.length ∧ ns.getD s.toNat 0 ≠ 0 then ((pword ns s.toNat : Int), (ns.getD s.toNat 0 : Int)) else (0, 0)
theorem wordOf_found {ns : List Nat} {n i t : Nat} (hn : 1 ≤ n) (h : (pidx ns n)[i]? = some t) : wordOf ns t = ((pfirst ns n : Int) + i, (n : Int)) := by
  obtain ⟨h1, h2, h3⟩ := pidx_mem ns h
  unfold wordOf
  have e : ((t : Int)).toNat = t := by omega
  rw [e, if_pos ⟨by omega, by omega, by omega⟩, h2]
  unfold pword
  rw [h2, h3, Int.natCast_add]
theorem wordOf_none {ns : List Nat} (hall : ∀ n ∈ ns, n ≤ 15) {s : Int} (h : ∀ m, 1 ≤ m → m < 16 → ∀ t ∈ pidx ns m, (t : Int) ≠ s) : wordOf ns s = (0, 0) := by
  unfold wordOf
  rw [if_neg]
  rintro ⟨h1, h2, h3⟩
  obtain ⟨t, rfl⟩ := Int.eq_ofNat_of_zero_le h1
  have e : ((t : Int)).toNat = t := by omega
  rw [e] at h3
  have hlt : t < ns.length := by omega
  have hm : ns.getD t 0 ≤ 15 := by
    rw [List.getD_eq_getElem?_getD, List.getElem?_eq_getElem hlt]; exact hall _ (List.getElem_mem hlt)
  exact h _ (by omega) (by omega) t (List.mem_of_getElem? (pidx_rank ns hlt)) rfl
theorem ret2' {a b c d : Int} {k k' : IntKind} (h1 : a = c) (h2 : b = d) : Ending.returned (.tuple #[.int k a, .int k' b]) = .returned (.tuple #[.int k c, .int k' d]) := by rw [h1, h2]
theorem pidx_get (ns : List Nat) (n i : Nat) (h : i < pcnt ns n) : ∃ t, (pidx ns n)[i]? = some t ∧ t < ns.length := by
  have hl : i < (pidx ns n).length := by rw [pidx_len]; exact h
  exact ⟨(pidx ns n)[i], List.getElem?_eq_getElem hl, (pidx_mem ns (List.getElem?_eq_getElem hl)).1⟩
theorem code_ld {ops : Array Oper} {rest : List Oper} {op : Oper} {a : Act} {W : World} {Q : Exit → Act → World → Prop} {x : Operand} {cs : Array Value} (hgd : op.guard = none) (ho : op.op = .load 145 x) (b : Nat) (hx : a.eval x = .pointer (some ⟨b, 0, none⟩)) (hs : cs.size = 32) (hh : W.heap[b]? = some (.cells cs 145 (0, 0)))
    (h : wpList Tryz.prog ops Q rest (a.put op.dst (.agg cs)) W) : wpList Tryz.prog ops Q (op :: rest) a W := by
  refine wpList_load_mid hgd 145 x ho b 0 hx cs.toList _ (fun j v hv => ?_) Tryz.underlying145 rfl ?_ (by simpa using h)
  · rw [Nat.zero_add, blk_cell hh]; simpa using hv
  · rw [Array.length_toList, hs]; kernel_rfl
theorem only_alloc {g : Nat} {a w : World} (h : Only g a w) (o : Obj) : Only g a (w.alloc o) := ⟨h.os, h.tape, h.output, Nat.le_trans h.size (by simp), fun i hi hne => (Below.heap_alloc _ _ _ (Nat.lt_of_lt_of_le hi h.size)).trans (h.block i hi hne)⟩
theorem only_of_below {g : Nat} {a w w' : World} (h : Only g a w) (hb : Below w.heap.size w w') : Only g a w' := ⟨hb.os.trans h.os, hb.tape.trans h.tape, hb.output.trans h.output, Nat.le_trans h.size hb.size, fun i hi hne => (hb.block i (Nat.lt_of_lt_of_le hi h.size)).trans (h.block i hi hne)⟩
set_option maxRecDepth 100000 in
set_option maxHeartbeats 2000000 in
theorem refNext {w : World} {F : Nat → Prop} {ns : List Nat} {cs : Array Value} {g : Nat} {l : List Int} {p : Nat} (hF : ∀ b, F b → b < w.heap.size ∧ b ≠ g) (h : Cd w F ns cs) (hall : ∀ n ∈ ns, n ≤ 15) (hk : kraft ns ≤ 2 ^ 15) (hr : Rdr 136 w g l p) :
    Calls Tryz.prog 111 #[.agg cs, .pointer (some ⟨g, 0, none⟩)] w fun e w' => e = .returned (.tuple #[.int .i64 (nxt ns l p).1, .int .i64 (nxt ns l p).2.1]) ∧ Rdr 136 w' g l (nxt ns l p).2.2 ∧ Only g w w' := by
  have hg : g < w.heap.size := by obtain ⟨_, _, hh, _⟩ := hr; exact blk_lt hh
  have hbel : Below w.heap.size w (w.alloc (.cells cs 145)) := (Below.refl _ _).alloc (Nat.le_refl _) _
  have hh := heap_alloc_new w (.cells cs 145)
  have h' : Cd (w.alloc (.cells cs 145)) F ns cs := h.keep fun b hb => Below.heap_alloc _ _ _ (hF b hb).1
  have hends := fun n h0 h1 => pend_le hall hk (n := n) h0 h1
  have HE := Lib.hid hends
  have hsz := h.1
  clear hall hk hends
  go_enter Tryz.func111, Tryz.ntmps111
  go_wp2_with (refine code_ld rfl rfl w.heap.size rfl hsz hh ?_)
  refine (refLong h').mono ?_
  rintro e w2 ⟨rfl, hb2⟩
  have ho2 : Only g w w2 := only_of_below (only_alloc (only_refl g w) _) hb2
  have hcs2 : w2.heap[w.heap.size]? = some (.cells cs 145 (0, 0)) := (hb2.block _ (by simp)).trans hh
  have hr2 : Rdr 136 w2 g l p := by
    obtain ⟨a, c, q1, q2, q3, q4, q5, q6⟩ := hr
    have hlow : ∀ k, k < w.heap.size → w2.heap[k]? = w.heap[k]? := fun k hk => (hb2.block k (by simp; omega)).trans (Below.heap_alloc _ _ _ hk)
    exact ⟨a, c, (hlow g hg).trans q1, q2, q3, q4.keep fun q hq => cell_keep' (hlow _ (by omega)), q5, q6⟩
  have HF := Lib.hid hF
  have HC := Lib.hid h
  clear hh h' hb2 hbel hF h hr
  go_wp2_with fail
  go_loopw [7, 8] (fun wv nv wr => ∃ n : Nat, n ≤ plong ns 15 ∧ wv = .int .i64 (wd l p n) ∧ nv = .int .i64 n ∧ Hid (nxt ns l p = nxR ns l p n (plong ns 15 - n)) ∧ Rdr 136 wr g l (p + n) ∧ wr.heap[w.heap.size]? = some (.cells cs 145 (0, 0)) ∧ Only g w wr) (fun _ nv _ => plong ns 15 - (intOf nv).toNat)
  case atStart => exact ⟨0, Nat.zero_le _, rfl, rfl, Lib.hid rfl, hr2, hcs2, ho2⟩
  case round =>
    clear hr2 hcs2 ho2
    obtain ⟨n, hn, rfl, rfl, HN, hr, hcs, ho⟩ := hrel
    have hL := plong_le ns 15
    by_cases hlt : n < plong ns 15
    · obtain ⟨f, hf⟩ : ∃ f, plong ns 15 - n = f + 1 := ⟨plong ns 15 - n - 1, by omega⟩
      have HR := Lib.hid hr
      by_cases hshort : p + n < 8 * l.length
      · have htk : tk l (p + n) 1 = bt l (p + n) := by simp [tk, bsum]
        obtain ⟨e1, e2, e3⟩ : errT l (p + n) 1 = 0 ∧ valT l (p + n) 1 = bt l (p + n) ∧ posT l (p + n) 1 = p + n + 1 := by
          have h := t_ok (l := l) (p := p + n) (m := 1) (by decide) (by omega)
          rw [htk] at h; exact h
        have hcall := refTake 1 (by decide) hr
        rw [e1, e2, e3] at hcall
        obtain ⟨b, hb⟩ : ∃ b, bt l (p + n) = b := ⟨_, rfl⟩
        have hbb := bt_bd l (p + n)
        have hv : (wd l p (n + 1) : Int) = 2 * (wd l p n : Int) + b := by
          have := (bt_nat l (p + n)).1
          rw [wd, ← hb]; omega
        have hvlt := wd_lt l p (n + 1)
        have hp15 := Nat.pow_le_pow_right (n := 2) (by decide) (by omega : n + 1 ≤ 15)
        rw [(by decide : 2 ^ 15 = 32768)] at hp15
        obtain ⟨h2, a, c, h3, h4⟩ := HC.out.2 (n + 1) (by omega) (by omega)
        have hend := HE.out (n + 1) (by omega) (by omega)
        have hsome := fun s hs => nxR_some ns l p n f s hshort hs
        have hnone := fun hs => nxR_none ns l p n f hshort hs
        rw [← hf, ← HN.out] at hsome hnone
        rw [hb] at hcall hbb
        obtain ⟨u, hu⟩ : ∃ u, wd l p n = u := ⟨_, rfl⟩
        obtain ⟨v, hv'⟩ : ∃ v, wd l p (n + 1) = v := ⟨_, rfl⟩
        rw [hu] at hv
        rw [hv'] at hv hsome hnone hvlt
        have HV := Lib.hid hv'
        have H4 := Lib.hid h4
        have HS := Lib.hid hsome
        have HO := Lib.hid hnone
        have HU := Lib.hid hu
        have hpi := plook_iff ns (n + 1) v
        have hpn := plook_none ns (n + 1) v
        have hps := plook_some ns (n + 1) v
        have hlen := pidx_len ns (n + 1)
        have HLN := Lib.hid hlen
        have hpl : plook ns (n + 1) v = if pfirst ns (n + 1) ≤ v then (pidx ns (n + 1))[v - pfirst ns (n + 1)]? else none := rfl
        have HPL := Lib.hid hpl
        have HPI := Lib.hid hpi
        have HPN := Lib.hid hpn
        have HPS := Lib.hid hps
        rw [hu]
        clear e1 e2 e3 hr hsome hnone htk h4 hb hpi hpn hps hlen hpl HN
        generalize pfirst ns (n + 1) = fi at *
        generalize pcnt ns (n + 1) = ct at *
        go_wp2_with fail
        refine hcall.mono ?_
        rintro e w3 ⟨rfl, hr3, ho3⟩
        have hcs3 : w3.heap[w.heap.size]? = some (.cells cs 145 (0, 0)) := (ho3.block _ (blk_lt hcs) (by intro e; injection e with e; omega)).trans hcs
        have hcF : w3.cell? ⟨w.heap.size, n + 1, none⟩ = some (.int .i64 fi) := by rw [blk_cell hcs3]; exact h2
        have hcS : w3.cell? ⟨w.heap.size, 16 + (n + 1), none⟩ = some (.slice a ct c) := by rw [blk_cell hcs3]; exact h3
        clear h2 h3 hcall hcs
        go_wp2_with fail
        have hv2 : 2 * (u : Int) + b = v := by omega
        have hn2 : (n : Int) + 1 = ((n + 1 : Nat) : Int) := by omega
        rw [hv2, hn2]
        have hm0 : 1 ≤ n + 1 := by omega
        have hm1 : ((n + 1 : Nat) : Int) < 16 := by omega
        have hsub : plong ns 15 - (n + 1) = f := by omega
        have hR3 : Rdr 136 w3 g l (p + (n + 1)) := hr3
        have hmn : n < n + 1 := by omega
        have hmL : n + 1 ≤ plong ns 15 := by omega
        have hmp : p + n + 1 = p + (n + 1) := by omega
        rw [hmp] at HS
        generalize n + 1 = m at *
        have HR3 := Lib.hid hR3
        have i0 : (0 : Int) ≤ (m : Int) := by omega
        have HSUB := Lib.hid hsub
        have hv15 : v < 32768 := by omega
        have HN2 := Lib.hid hn2
        clear hv hv2 hn2 hsub hmp hf
        by_cases hlo : fi ≤ v
        · have g1 : decide ((v : Int) ≥ fi) = true := by simp; omega
          obtain ⟨d, hd⟩ : ∃ d, v - fi = d := ⟨_, rfl⟩
          have k2 : (v : Int) - fi = (d : Int) := by omega
          have k1 : IntKind.i64.wrap ((v : Int) - fi) = (d : Int) := by rw [k2]; exact IntWalk.i64_in _ (by omega)
          by_cases hup : d < ct
          · have g2 : decide ((d : Int) < ct) = true := by simp; omega
            have g3 : (d : Int) < ct := by omega
            obtain ⟨s, hs⟩ := HPS.out hlo (by omega)
            have hres := HS.out s hs
            have HE := Lib.hid hres
            obtain ⟨b', off, rfl, hFb, hrow⟩ := H4.out (by rw [HLN.out]; omega)
            rw [HPL.out, if_pos hlo, hd] at hs
            obtain ⟨f1, f2⟩ := HF.out b' hFb
            have hne : some b' ≠ some g := fun e => by injection e with e; exact f2 e
            have hcR : w3.cell? ⟨b', off + d, none⟩ = some (.int .i64 s) := (cell_keep ((only_trans ho ho3).block b' f1 hne) _).trans (hrow d s hs)
            clear hres hs hr3 hR3 hrow hd
            go_quiet (fail)
            go_wp2_with fail
            go_quiet (fail)
            go_wp2_with fail
            go_ret2
            exact ⟨ret2' (by rw [HE.out]) (by rw [HE.out]), by rw [HE.out]; exact HR3.out, only_drewN (only_drewN (only_trans ho ho3) _) _⟩
          · have g2 : decide ((d : Int) < ct) = false := by simp; omega
            have hl := HPN.out.2 (.inr (by omega))
            have hres := HO.out hl
            have HE := Lib.hid hres
            clear hres hl hr3 hR3 hd
            go_quiet (fail)
            go_wp2_with fail
            exact ⟨⟨m, hmL, by rw [HV.out], rfl, Lib.hid (by rw [HE.out, HSUB.out]), HR3.out, hcs3, only_drewN (only_trans ho ho3) _⟩, by simp [intOf]; omega⟩
        · have g1 : decide ((v : Int) ≥ fi) = false := by simp; omega
          have hl := HPN.out.2 (.inl (by omega))
          have hres := HO.out hl
          have HE := Lib.hid hres
          clear hres hl hr3 hR3
          go_quiet (fail)
          go_wp2_with fail
          exact ⟨⟨m, hmL, by rw [HV.out], rfl, Lib.hid (by rw [HE.out, HSUB.out]), HR3.out, hcs3, only_drewN (only_trans ho ho3) _⟩, by simp [intOf]; omega⟩
      · obtain ⟨e1, e2, e3⟩ := t_short (l := l) (p := p + n) (n := 1) (by decide) (by omega)
        have hcall := refTake 1 (by decide) hr
        rw [e1, e2, e3] at hcall
        have hres := nxR_short ns l p n f (by omega)
        rw [← hf, ← HN.out] at hres
        have HS := Lib.hid hres
        clear e1 e2 e3 hres hr
        go_wp2_with fail
        refine hcall.mono ?_
        rintro e w3 ⟨rfl, h3, ho3⟩
        have hr3 := Lib.hid h3
        go_wp2_with fail
        go_ret2
        exact ⟨ret2' (by rw [HS.out]) (by rw [HS.out]), by rw [HS.out]; exact hr3.out, only_trans ho ho3⟩
    · obtain rfl : n = plong ns 15 := by omega
      have hres := nxR_end ns l p (plong ns 15)
      have hN := HN.out
      rw [Nat.sub_self] at hN
      rw [← hN] at hres
      have HS := Lib.hid hres
      have HR := Lib.hid hr
      clear hres hN HN hr hcs
      go_wp2_with fail
      go_ret2
      exact ⟨ret2' (by rw [HS.out]) (by rw [HS.out]), by rw [HS.out]; exact HR.out, ho⟩
end Go.Proofs.YtdcpibglbanchaaGreatDoor

set_option linter.unusedVariables false
set_option maxRecDepth 100000
namespace Go.Proofs.YtdcpibglbanchaaGreatDoor
open Go.RowKit

def nsOf (q : List Int) : List Nat := q.map Int.toNat
def allN (ns : List Nat) : Nat := (ns.filter fun n => n != 0).length
def inR (q : List Int) : Bool := q.all fun x => decide (0 ≤ x ∧ x ≤ 15)
def okN (ns : List Nat) (lone : Bool) : Bool := decide (kraft ns = 32768) || lone && (decide (allN ns = 0) || decide (allN ns = 1) && decide (ns.count 1 = 1))
def errN (q : List Int) (lone : Bool) : Int := if 288 < q.length then 1 else if inR q then (if okN (nsOf q) lone then 0 else 5) else 1
/-- all values are of one cell -/
def AllOne (cs : Array Value) : Prop := cs.all (·.oneCell') = true
def zeroCode : Array Value := #[.int .i64 0, .int .i64 0, .int .i64 0, .int .i64 0, .int .i64 0, .int .i64 0, .int .i64 0, .int .i64 0, .int .i64 0, .int .i64 0, .int .i64 0, .int .i64 0, .int .i64 0, .int .i64 0, .int .i64 0, .int .i64 0, .slice none 0 0, .slice none 0 0, .slice none 0 0, .slice none 0 0, .slice none 0 0, .slice none 0 0, .slice none 0 0, .slice none 0 0, .slice none 0 0, .slice none 0 0, .slice none 0 0, .slice none 0 0, .slice none 0 0, .slice none 0 0, .slice none 0 0, .slice none 0 0]
theorem zeroC (W : World) : (zeroValue 145).run Tryz.prog W = .ok (.agg zeroCode) W := by kernel_rfl
theorem code_st {ops : Array Oper} {rest : List Oper} {op : Oper} {a : Act} {W : World} {Q : Exit → Act → World → Prop} {x y : Operand} {cs old : Array Value} (hgd : op.guard = none) (ho : op.op = .store 145 x y) (b : Nat) (hx : a.eval x = .pointer (some ⟨b, 0, none⟩)) (hy : a.eval y = .agg cs) (hs : cs.size = 32) (ho' : old.size = 32) (h1 : cs.all (·.oneCell') = true) (hh : W.heap[b]? = some (.cells old 145 (0, 0)))
    (h : wpList Tryz.prog ops Q rest (a.put op.dst undef) (W.setRow b cs)) : wpList Tryz.prog ops Q (op :: rest) a W :=
  wpList_plain hgd fun _ hK => by
    have hi : (Tryz.prog.info? 145).map (·.size) = some cs.size := by rw [hs]; kernel_rfl
    unfold Oper.wp execOp
    simp only [ho, hx, hy, Instr.storeAt, Instr.sureAddr, Sem.run_bind, Sem.run_pure, Result.andThen_ok, run_storeVar_row W b 145 145 old cs hh hi (by omega) h1]
    exact hK _ _ h
theorem code_ret {fn : Func} {tmps : Array Value} {W : World} {b : Nat} {cs : Array Value} (hf : fn.results = #[.cell 4 145, .tmp 5]) (h4 : tmps.getD 4 undef = .pointer (some ⟨b, 0, none⟩)) (hs : cs.size = 32) (hh : W.heap[b]? = some (.cells cs 145 (0, 0))) :
    (results fn tmps).run Tryz.prog W = .ok (.tuple #[.agg cs, tmps.getD 5 undef]) W := by
  have hl := run_loadVar_row (P := Tryz.prog) W b _ 145 cs (0, 0) _ hh Tryz.underlying145 rfl (by rw [hs]; kernel_rfl)
  rw [results_cell_tmp hf, h4]
  simp [asAddr, Result.andThen, hl]
theorem take_facts (q : List Int) {k : Nat} (hk : k < q.length) : kraft (nsOf (q.take (k + 1))) = kraft (nsOf (q.take k)) + (if (q.getD k 0).toNat = 0 then 0 else 2 ^ (15 - (q.getD k 0).toNat)) ∧ (nsOf (q.take (k + 1))).count 1 = (nsOf (q.take k)).count 1 + (if (q.getD k 0).toNat = 1 then 1 else 0) ∧ allN (nsOf (q.take (k + 1))) = allN (nsOf (q.take k)) + (if (q.getD k 0).toNat = 0 then 0 else 1) ∧ inR (q.take (k + 1)) = (inR (q.take k) && decide (0 ≤ q.getD k 0 ∧ q.getD k 0 ≤ 15)) := by
  have e : q.take (k + 1) = q.take k ++ [q.getD k 0] := by rw [List.take_succ_eq_append_getElem hk, List.getD_eq_getElem?_getD, List.getElem?_eq_getElem hk]; rfl
  rw [e]
  generalize q.getD k 0 = x
  generalize q.take k = l
  refine ⟨?_, ?_, ?_, ?_⟩
  · simp [kraft, nsOf]
  · simp only [nsOf, List.map_append, List.map_cons, List.map_nil, List.count_append, List.count_cons, List.count_nil]
    by_cases h : x.toNat = 1 <;> simp [h]
  · unfold allN nsOf
    rw [List.map_append, List.filter_append, List.length_append]
    congr 1
    by_cases h : x.toNat = 0 <;> simp [h]
  · simp [inR]
theorem bounds (q : List Int) {k : Nat} (hk : k ≤ q.length) (h : q.length ≤ 288) : kraft (nsOf (q.take k)) ≤ 9437184 ∧ (nsOf (q.take k)).count 1 ≤ 288 ∧ allN (nsOf (q.take k)) ≤ 288 := by
  have hl : (nsOf (q.take k)).length ≤ 288 := by simp [nsOf]; omega
  generalize nsOf (q.take k) = ns at *
  refine ⟨?_, Nat.le_trans List.count_le_length hl, Nat.le_trans (List.length_filter_le _ _) hl⟩
  have hk : ∀ ns : List Nat, kraft ns ≤ 32768 * ns.length := fun ns => by
    induction ns with
    | nil => simp [kraft]
    | cons x ns ih =>
      have e : kraft (x :: ns) = (if x = 0 then 0 else 2 ^ (15 - x)) + kraft ns := by simp [kraft]
      have h2 : 2 ^ (15 - x) ≤ 2 ^ 15 := Nat.pow_le_pow_right (by decide) (by omega)
      rw [(by decide : 2 ^ 15 = 32768)] at h2
      rw [e, List.length_cons]
      split <;> omega
  have := hk ns
  omega
theorem low_setRow {B g : Nat} {w0 w : World} (hb : Below B w0 w) (hBg : B ≤ g) (cs : Array Value) : Below B w0 (w.setRow g cs) := hb.trans ⟨rfl, rfl, rfl, by simp, fun k hk => setRow_other w g k cs (by omega)⟩
theorem shl_sum (S X : Nat) (hS : S ≤ 9437184) : wrap64 ((S : Int) + wrap64 (2 ^ (15 - X))) = ((S + 2 ^ (15 - X) : Nat) : Int) := by
  have h1 : 2 ^ (15 - X) ≤ 32768 := Nat.pow_le_pow_right (n := 2) (by decide) (Nat.sub_le 15 X)
  rw [pow_cast]
  generalize 2 ^ (15 - X) = pw at h1 ⊢
  have h2 := wrap64_in (pw : Int) (by omega)
  rw [h2, wrap64_in _ (by omega)]
  omega
theorem zero_size : zeroCode.size = 32 := rfl
theorem zero_one : zeroCode.all (·.oneCell') = true := by kernel_rfl
theorem two_new (w : World) (o1 o2 : Obj) : ((w.alloc o1).alloc o2).heap[w.heap.size]? = some o1 ∧ ((w.alloc o1).alloc o2).heap[w.heap.size + 1]? = some o2 ∧ Below w.heap.size w ((w.alloc o1).alloc o2) :=
  ⟨(Below.heap_alloc _ _ _ (by simp)).trans (heap_alloc_new w o1), by simpa using heap_alloc_new (w.alloc o1) o2, ((Below.refl _ _).alloc (Nat.le_refl _) _).alloc (by simp) _⟩
/-- the number behind the last word of k bits -/
def pnext (ns : List Nat) (k : Nat) : Nat := if k = 0 then 0 else pfirst ns k + pcnt ns k
theorem pnext_two (ns : List Nat) {n : Nat} (h : 1 ≤ n) : 2 * pnext ns (n - 1) = pfirst ns n := by
  obtain ⟨k, rfl⟩ : ∃ k, n = k + 1 := ⟨n - 1, by omega⟩
  rw [Nat.add_sub_cancel]
  rcases Nat.eq_zero_or_pos k with rfl | h0
  · rfl
  · rw [pfirst_step ns h0, pnext, if_neg (by omega)]
theorem pfirst_rough (ns : List Nat) (hl : ns.length ≤ 288) : ∀ n, pfirst ns (n + 1) + 576 ≤ 576 * 2 ^ (n + 1)
  | 0 => by simp [pfirst]
  | n + 1 => by
    have ih := pfirst_rough ns hl n
    have hc : pcnt ns (n + 1) ≤ 288 := Nat.le_trans List.count_le_length hl
    rw [pfirst_step ns (by omega), Nat.pow_succ]
    omega
theorem pfirst_bd (ns : List Nat) (hl : ns.length ≤ 288) {n : Nat} (h0 : 1 ≤ n) (h1 : n ≤ 15) : pfirst ns n ≤ 18874368 := by
  obtain ⟨k, rfl⟩ : ∃ k, n = k + 1 := ⟨n - 1, by omega⟩
  have h2 := pfirst_rough ns hl k
  have h3 : 2 ^ (k + 1) ≤ 32768 := Nat.pow_le_pow_right (n := 2) (by decide) h1
  generalize 2 ^ (k + 1) = p at *
  omega
/-- what the cells say of the words of m bits, when those of less than n bits are made -/
def StC (W : World) (F : Nat → Prop) (ns : List Nat) (cs : Array Value) (n m : Nat) : Prop :=
  if m < n then cs[m]? = some (.int .i64 (pfirst ns m)) ∧ ∃ a c, cs[16 + m]? = some (.slice a (pcnt ns m) c) ∧ Row W F a (pidx ns m) else cs[16 + m]? = some (.slice none 0 0)
theorem StC.keep {W W' : World} {F F' : Nat → Prop} {ns : List Nat} {cs cs' : Array Value} {n m : Nat} (h : StC W F ns cs n m) (hs : ∀ b, F b → W'.heap[b]? = W.heap[b]?) (hF : ∀ b, F b → F' b) (h1 : cs'[m]? = cs[m]?) (h2 : cs'[16 + m]? = cs[16 + m]?) : StC W' F' ns cs' n m := by
  unfold StC at *
  rw [h1, h2]
  split at h
  · rename_i hlt
    rw [if_pos hlt]
    obtain ⟨g1, a, c, g2, g3⟩ := h
    exact ⟨g1, a, c, g2, (g3.keep hs).more hF⟩
  · rename_i hlt
    rw [if_neg hlt]; exact h
theorem StC.next {W : World} {F : Nat → Prop} {ns : List Nat} {cs : Array Value} {n m : Nat} (h : StC W F ns cs n m) (hm : m ≠ n) : StC W F ns cs (n + 1) m := by
  unfold StC at *
  by_cases hlt : m < n
  · rw [if_pos hlt] at h; rw [if_pos (by omega)]; exact h
  · rw [if_neg hlt] at h; rw [if_neg (by omega)]; exact h
/-- of the first s symbols those with words of n bits -/
def pidxTo (ns : List Nat) (n s : Nat) : List Nat := (List.range s).filter fun i => ns.getD i 0 == n
theorem pidxTo_succ (ns : List Nat) (n s : Nat) : pidxTo ns n (s + 1) = pidxTo ns n s ++ (if ns.getD s 0 = n then [s] else []) := by
  unfold pidxTo
  rw [List.range_succ, List.filter_append, List.filter_cons, List.filter_nil]
  by_cases e : ns.getD s 0 = n
  · rw [if_pos (by rw [e]; simp), if_pos e]
  · rw [if_neg (by rw [beq_iff_eq]; exact e), if_neg e]
theorem pidxTo_le (ns : List Nat) (n s : Nat) : (pidxTo ns n s).length ≤ s := Nat.le_trans (List.length_filter_le _ _) (by simp)
theorem add_off' (b k : Nat) : (⟨b, 0, none⟩ : Addr).add k = ⟨b, k, none⟩ := by unfold Addr.add; split <;> simp_all
theorem row_of_own {W : World} {base : Nat} {a : Option Addr} {k c : Nat} {l : List Nat} (h : W.ownsRow base 3 1 (.slice a k c) k (l.map fun (i : Nat) => Value.int .i64 (i : Int))) (hl : l.length = k) : Row W (fun b => base ≤ b ∧ b < W.heap.size) a l := fun hp => by
  obtain ⟨g, cap, hv, hg, hlt⟩ := h.form (by omega)
  have hA : a = some ⟨g, 0, none⟩ := by injection hv
  subst hA
  refine ⟨g, 0, rfl, ⟨hg, hlt⟩, fun i t ht => ?_⟩
  have := h.cells (g := g) rfl i (.int .i64 (t : Int)) (by rw [List.getElem?_map, ht]; rfl)
  rw [add_off'] at this
  rw [Nat.zero_add]; exact this
theorem own_ne {W : World} {base : Nat} {t : TypeId} {a : Option Addr} {k c i : Nat} {xs : List Value} (h : W.ownsRow base t 1 (.slice a k c) k xs) (hi : i < base) : (Value.slice a k c).ownBlock ≠ some i := by
  rcases h.2 with ⟨e, _⟩ | ⟨g, cap, cur, e, hg, _⟩
  · rw [e]; simp [Value.ownBlock]
  · rw [e]; intro q; simp [Value.ownBlock] at q; omega
theorem int_info : (Tryz.prog.info? 3).map (fun i => (i.zero, i.size, i.bytes)) = some (some (.int .i64 0), 1, 8) := by kernel_rfl
theorem all_set {cs : Array Value} (h : cs.all (·.oneCell') = true) (i : Nat) {v : Value} (hv : v.oneCell' = true) : (cs.setIfInBounds i v).all (·.oneCell') = true := by
  rw [Array.all_eq_true_iff_forall_mem] at h ⊢
  intro u hu
  rcases Array.mem_or_eq_of_mem_setIfInBounds hu with q | q
  · exact h u q
  · rw [q]; exact hv
theorem nsOf_get {q : List Int} (h : inR q = true) (i : Nat) : q.getD i 0 = (((nsOf q).getD i 0 : Nat) : Int) ∧ (nsOf q).getD i 0 ≤ 15 := by
  unfold nsOf
  rw [List.getD_eq_getElem?_getD, List.getD_eq_getElem?_getD, List.getElem?_map]
  by_cases hi : i < q.length
  · rw [List.getElem?_eq_getElem hi]
    rw [inR, List.all_eq_true] at h
    have := h q[i] (List.getElem_mem hi)
    simp at this
    simp; omega
  · rw [List.getElem?_eq_none (by omega)]; simp
set_option maxRecDepth 100000 in
set_option maxHeartbeats 4000000 in
theorem refNew {w : World} (a : Option Addr) (n c : Nat) (q : List Int) (hn : q.length = n) (hm : n ≤ 140737488355328) (hb : Ints .i64 w w.heap.size a q) (lone : Bool) :
    Calls Tryz.prog 88 #[.slice a n c, .bool lone] w fun e w' => Below w.heap.size w w' ∧ ∃ cs, cs.size = 32 ∧ AllOne cs ∧ e = .returned (.tuple #[.agg cs, .int .i64 (errN q lone)]) ∧ (errN q lone = 0 → Cd w' (fun b => w.heap.size ≤ b ∧ b < w'.heap.size) (nsOf q) cs) := by
  subst hn
  have hz := zeroC
  go_enter Tryz.func88, Tryz.ntmps88
  go_upto_region 2 with (fail)
  have hnew := two_new w (.cells zeroCode 145) (.cells zeroCode 145)
  have hsz : ((w.alloc (.cells zeroCode 145)).alloc (.cells zeroCode 145)).heap.size = w.heap.size + 2 := by simp
  generalize (w.alloc (.cells zeroCode 145)).alloc (.cells zeroCode 145) = w6 at *
  obtain ⟨hh4, hh6, hbel⟩ := hnew
  generalize hzc : zeroCode = zc at *
  have hzs : zc.size = 32 := by rw [← hzc]; rfl
  have hz1 : zc.all (·.oneCell') = true := by rw [← hzc]; exact zero_one
  by_cases hlen : 288 < q.length
  · have he : errN q lone = 1 := by unfold errN; rw [if_pos hlen]
    go_wp2_with (first | refine code_ld rfl rfl (w.heap.size + 1) rfl hzs hh6 ?_ | refine code_st rfl rfl w.heap.size rfl rfl hzs hzs hz1 hh4 ?_)
    exact bodyPost_ret (code_ret rfl rfl hzs (setRow_heap _ _ _ _ _ _ hh4)) rfl ⟨low_setRow hbel (Nat.le_refl _) _, zc, hzs, hz1, by rw [he]; rfl, fun h => by rw [he] at h; cases h⟩
  · have hb6 := hb.below hbel
    clear hz
    go_wp2_with fail
    go_loop [7, 8, 9, 10] (fun s o al i => ∃ k : Nat, k ≤ q.length ∧ i = .int .i64 k ∧ s = .int .i64 (kraft (nsOf (q.take k))) ∧ o = .int .i64 ((nsOf (q.take k)).count 1) ∧ al = .int .i64 (allN (nsOf (q.take k))) ∧ Hid (inR (q.take k) = true)) (fun _ _ _ i => q.length - (intOf i).toNat)
    case atStart => exact ⟨0, Nat.zero_le _, rfl, rfl, rfl, rfl, Lib.hid rfl⟩
    case round =>
      obtain ⟨k, hk, rfl, rfl, rfl, rfl, HI⟩ := hrel
      by_cases hlt : k < q.length
      · obtain ⟨b, off, rfl, hbl, hc, hwf⟩ := hb6.at_ hlt
        obtain ⟨h1, h2, h3, h4⟩ := take_facts q hlt
        obtain ⟨x, hx⟩ : ∃ x, q.getD k 0 = x := ⟨_, rfl⟩
        rw [hx] at hc h1 h2 h3 h4
        have hbd := bounds q hk (by omega)
        by_cases hin : 0 ≤ x ∧ x ≤ 15
        · obtain ⟨X, rfl⟩ := Int.eq_ofNat_of_zero_le hin.1
          have eX : ((X : Int)).toNat = X := by omega
          rw [eX] at h1 h2 h3
          have H1 := Lib.hid h1
          have H2 := Lib.hid h2
          have H3 := Lib.hid h3
          have H4 := Lib.hid h4
          have HX := Lib.hid hx
          obtain ⟨hbd1, hbd2, hbd3⟩ := hbd
          clear h1 h2 h3 h4 hx hwf eX
          generalize kraft (nsOf (q.take k)) = S at *
          generalize (nsOf (q.take k)).count 1 = O at *
          generalize allN (nsOf (q.take k)) = L at *
          have n1 : ¬ ((X : Int) < 0) := by omega
          have n2 : ¬ ((15 : Int) < X) := by omega
          have n3 : (X : Int) ≤ 15 := by omega
          by_cases hX0 : X = 0
          · subst hX0
            go_wp2_with fail
            exact ⟨⟨k + 1, by omega, by go_num, by rw [H1.out]; simp, by rw [H2.out]; simp, by rw [H3.out]; simp, Lib.hid (by rw [H4.out, HI.out]; simp)⟩, by simp [intOf]; omega⟩
          · have hX1 : 0 < (X : Int) := by omega
            by_cases hX : X = 1
            · subst hX
              go_wp2_with fail
              exact ⟨⟨k + 1, by omega, by go_num, by rw [H1.out]; simp, by rw [H2.out]; simp, by rw [H3.out]; simp, Lib.hid (by rw [H4.out, HI.out]; simp)⟩, by simp [intOf]; omega⟩
            · have hX2 : ((X : Int) == 1) = false := by simp; omega
              have hwr := shl_sum S X hbd1
              have HW := Lib.hid hwr
              clear hwr
              go_wp2_with fail
              exact ⟨⟨k + 1, by omega, by go_num, by rw [H1.out, HW.out, if_neg hX0], by rw [H2.out, if_neg hX]; simp, by rw [H3.out, if_neg hX0]; simp, Lib.hid (by rw [H4.out, HI.out]; simp; omega)⟩, by simp [intOf]; omega⟩
        · have he : errN q lone = 1 := by
            unfold errN
            rw [if_neg hlen, if_neg]
            intro h
            rw [inR, List.all_eq_true] at h
            have := h x (by rw [← hx, List.getD_eq_getElem?_getD, List.getElem?_eq_getElem hlt]; exact List.getElem_mem hlt)
            simp at this; omega
          clear h1 h2 h3 h4 hwf hx
          obtain ⟨hbd1, hbd2, hbd3⟩ := hbd
          by_cases hneg : x < 0
          · go_wp2_with (refine code_st (cs := zeroCode) rfl rfl w.heap.size rfl rfl zero_size hzs zero_one hh4 ?_)
            (try simp only [Exit.inBlock, Exit.then])
            refine bodyPost_ret (code_ret rfl rfl hzs (setRow_heap _ _ _ _ _ _ hh4)) rfl ?_
            first | exact ⟨low_setRow hbel (Nat.le_refl _) _, zc, rfl⟩ | exact ⟨low_setRow hbel (Nat.le_refl _) _, zc, hzs, hz1, rfl⟩ | exact ⟨low_setRow hbel (Nat.le_refl _) _, hzs, hz1⟩ | exact ⟨low_setRow hbel (Nat.le_refl _) _, hz1⟩ | exact ⟨low_setRow hbel (Nat.le_refl _) _, zc, hz1, rfl⟩ | exact ⟨low_setRow hbel (Nat.le_refl _) _, zc, hzs, hz1, by rw [he]; rfl, fun h => by rw [he] at h; cases h⟩
          · have hpos : (15 : Int) < x := by omega
            go_wp2_with (refine code_st (cs := zeroCode) rfl rfl w.heap.size rfl rfl zero_size hzs zero_one hh4 ?_)
            (try simp only [Exit.inBlock, Exit.then])
            refine bodyPost_ret (code_ret rfl rfl hzs (setRow_heap _ _ _ _ _ _ hh4)) rfl ?_
            first | exact ⟨low_setRow hbel (Nat.le_refl _) _, zc, rfl⟩ | exact ⟨low_setRow hbel (Nat.le_refl _) _, zc, hzs, hz1, rfl⟩ | exact ⟨low_setRow hbel (Nat.le_refl _) _, hzs, hz1⟩ | exact ⟨low_setRow hbel (Nat.le_refl _) _, hz1⟩ | exact ⟨low_setRow hbel (Nat.le_refl _) _, zc, hz1, rfl⟩ | exact ⟨low_setRow hbel (Nat.le_refl _) _, zc, hzs, hz1, by rw [he]; rfl, fun h => by rw [he] at h; cases h⟩
      · obtain rfl : k = q.length := by omega
        rw [List.take_length] at HI ⊢
        go_upto_region 17 with (fail)
        go_cut [67] (fun v wx => v = .bool (!okN (nsOf q) lone) ∧ w6 = wx)
        case first =>
          have hok : okN (nsOf q) lone = (decide (kraft (nsOf q) = 32768) || lone && (decide (allN (nsOf q) = 0) || decide (allN (nsOf q) = 1) && decide ((nsOf q).count 1 = 1))) := rfl
          have HOK := Lib.hid hok
          have hbd := bounds q (Nat.le_refl _) (by omega)
          rw [List.take_length] at hbd
          clear hok hb hb6 hh4 hh6
          generalize kraft (nsOf q) = S at *
          generalize (nsOf q).count 1 = O at *
          generalize allN (nsOf q) = L at *
          by_cases hS : S = 32768
          · have hd : ((S : Int) != 32768) = false := by simp [hS]
            have HS := Lib.hid hS
            clear hS
            go_wp2_with fail
            all_goals go_meet
            all_goals exact ⟨by rw [HOK.out]; simp [HS.out], rfl⟩
          · have hd : ((S : Int) != 32768) = true := by simp; omega
            cases lone with
            | false =>
              go_wp2_with fail
              all_goals go_meet
              all_goals exact ⟨by rw [HOK.out]; simp [hS], rfl⟩
            | true =>
              by_cases hL0 : L = 0
              · have hd0 : ((L : Int) == 0) = true := by simp [hL0]
                have HL := Lib.hid hL0
                clear hL0
                go_wp2_with fail
                all_goals go_meet
                all_goals exact ⟨by rw [HOK.out]; simp [HL.out], rfl⟩
              · have hd0 : ((L : Int) == 0) = false := by simp; omega
                by_cases hL1 : L = 1
                · have hd1 : ((L : Int) == 1) = true := by simp [hL1]
                  have HL := Lib.hid hL1
                  clear hL1
                  by_cases hO : O = 1
                  · have hd2 : ((O : Int) == 1) = true := by simp [hO]
                    have HO := Lib.hid hO
                    clear hO
                    go_wp2_with fail
                    all_goals go_meet
                    all_goals exact ⟨by rw [HOK.out]; simp [HL.out, HO.out], rfl⟩
                  · have hd2 : ((O : Int) == 1) = false := by simp; omega
                    go_wp2_with fail
                    all_goals go_meet
                    all_goals exact ⟨by rw [HOK.out]; simp [hS, HL.out, hO], rfl⟩
                · have hd1 : ((L : Int) == 1) = false := by simp; omega
                  go_wp2_with fail
                  all_goals go_meet
                  all_goals exact ⟨by rw [HOK.out]; simp [hS, hL0, hL1], rfl⟩
        case rest =>
          obtain ⟨rfl, rfl⟩ := hcut
          have hbd := bounds q (Nat.le_refl _) (by omega)
          rw [List.take_length] at hbd
          cases hok : okN (nsOf q) lone with
          | false =>
            have he : errN q lone = 5 := by unfold errN; rw [if_neg hlen, if_pos HI.out, if_neg (by rw [hok]; decide)]
            go_wp2_with (refine code_st (cs := zeroCode) rfl rfl w.heap.size rfl rfl zero_size hzs zero_one hh4 ?_)
            (try simp only [Exit.inBlock, Exit.then])
            refine bodyPost_ret (code_ret rfl rfl hzs (setRow_heap _ _ _ _ _ _ hh4)) rfl ?_
            first | exact ⟨low_setRow hbel (Nat.le_refl _) _, zc, rfl⟩ | exact ⟨low_setRow hbel (Nat.le_refl _) _, zc, hzs, hz1, rfl⟩ | exact ⟨low_setRow hbel (Nat.le_refl _) _, hzs, hz1⟩ | exact ⟨low_setRow hbel (Nat.le_refl _) _, hz1⟩ | exact ⟨low_setRow hbel (Nat.le_refl _) _, zc, hz1, rfl⟩ | exact ⟨low_setRow hbel (Nat.le_refl _) _, zc, hzs, hz1, by rw [he]; rfl, fun h => by rw [he] at h; cases h⟩
          | true =>
            have he : errN q lone = 0 := by unfold errN; rw [if_neg hlen, if_pos HI.out, if_pos hok]
            have hq := nsOf_get HI.out
            have hnl : (nsOf q).length = q.length := by simp [nsOf]
            have hrough := fun n h0 h1 => pfirst_bd (nsOf q) (by omega) (n := n) h0 h1
            have hzr : ∀ m, 1 ≤ m → m ≤ 15 → StC w6 (fun b => w.heap.size + 2 ≤ b ∧ b < w6.heap.size) (nsOf q) zc 1 m := fun m h0 h1 => by
              unfold StC
              rw [if_neg (by omega), ← hzc]
              match m, h0, h1 with
              | 1, _, _ => rfl
              | 2, _, _ => rfl
              | 3, _, _ => rfl
              | 4, _, _ => rfl
              | 5, _, _ => rfl
              | 6, _, _ => rfl
              | 7, _, _ => rfl
              | 8, _, _ => rfl
              | 9, _, _ => rfl
              | 10, _, _ => rfl
              | 11, _, _ => rfl
              | 12, _, _ => rfl
              | 13, _, _ => rfl
              | 14, _, _ => rfl
              | 15, _, _ => rfl
              | k + 16, _, h => exact absurd h (by omega)
            obtain ⟨ns, hns⟩ : ∃ ns, nsOf q = ns := ⟨_, rfl⟩
            rw [hns] at hq hnl hrough hzr
            have HZ := Lib.hid hzr
            have HE := Lib.hid he
            have HNS := Lib.hid hns
            have HR := Lib.hid hrough
            have HQ := Lib.hid hq
            have H4 := Lib.hid hh4
            have H6 := Lib.hid hh6
            have hbel0 := hbel
            clear hzr he hns hrough hq hh4 hh6 hok HI hbd hzc
            go_wp2_with fail
            go_loopw [12, 13] (fun x nn wr => ∃ n : Nat, ∃ cs : Array Value, 1 ≤ n ∧ n ≤ 16 ∧ nn = .int .i64 n ∧ x = .int .i64 (pnext ns (n - 1)) ∧ Hid (wr.heap[w.heap.size + 1]? = some (.cells cs 145 (0, 0)) ∧ cs.size = 32 ∧ cs.all (·.oneCell') = true ∧ wr.heap[w.heap.size]? = some (.cells zc 145 (0, 0)) ∧ ∀ m, 1 ≤ m → m ≤ 15 → StC wr (fun b => w.heap.size + 2 ≤ b ∧ b < wr.heap.size) ns cs n m) ∧ Below w.heap.size w wr ∧ w.heap.size + 2 ≤ wr.heap.size) (fun _ nn _ => 16 - (intOf nn).toNat)
            case atStart => exact ⟨1, zc, Nat.le_refl _, by decide, rfl, rfl, Lib.hid ⟨H6.out, hzs, hz1, H4.out, HZ.out⟩, hbel0, by omega⟩
            case round =>
              obtain ⟨n, cs, hn1, hn2, rfl, rfl, HC, hbw, hszw⟩ := hrel
              by_cases hlt : n ≤ 15
              · obtain ⟨u, hcu⟩ : ∃ u, wr.cell? ⟨w.heap.size + 1, n, none⟩ = some u := ⟨cs[n]'(by have := HC.out.2.1; omega), by rw [blk_cell HC.out.1]; simp⟩
                have hfr := blk_free HC.out.1 n
                have hP := pnext_two ns hn1
                have hfb := HR.out n hn1 hlt
                obtain ⟨P, hPe⟩ : ∃ P, pnext ns (n - 1) = P := ⟨_, rfl⟩
                obtain ⟨fi, hfe⟩ : ∃ fi, pfirst ns n = fi := ⟨_, rfl⟩
                rw [hPe, hfe] at hP
                rw [hfe] at hfb
                rw [hPe]
                have HFE := Lib.hid hfe
                have HP := Lib.hid hP
                obtain ⟨wo, hwo⟩ : ∃ x, x = wr := ⟨_, rfl⟩
                subst hwo
                have i0 : (0 : Int) ≤ (n : Int) := by omega
                have i1 : (n : Int) < 16 := by omega
                have i2 : (n : Int) ≤ 15 := by omega
                have P1 : (2 : Int) * P ≤ 18874368 := by omega
                clear hPe hfe hP
                go_wp2_with fail
                have hp2 : (2 : Int) * P = (fi : Int) := by have := HP.out; omega
                rw [hp2]
                have HP2 := Lib.hid hp2
                clear hp2 hcu hfr
                have hset := blk_set HC.out.1 n (.int .i64 fi)
                have hz16 := HC.out.2.2.2.2 n hn1 hlt
                unfold StC at hz16
                rw [if_neg (by omega)] at hz16
                have hoth : ∀ k, k ≠ w.heap.size + 1 → (wo.setCell ⟨w.heap.size + 1, n, none⟩ (.int .i64 fi)).heap[k]? = wo.heap[k]? := fun k hk => Below.heap_setCell _ ⟨w.heap.size + 1, n, none⟩ _ k hk
                have hst0 : ∀ m, 1 ≤ m → m ≤ 15 → m ≠ n → StC (wo.setCell ⟨w.heap.size + 1, n, none⟩ (.int .i64 fi)) (fun b => w.heap.size + 2 ≤ b ∧ b < wo.heap.size) ns (cs.setIfInBounds n (.int .i64 fi)) n m := fun m g0 g1 g2 =>
                  (HC.out.2.2.2.2 m g0 g1).keep (fun b hb => hoth b (by omega)) (fun b hb => hb) (Array.getElem?_setIfInBounds_ne (by omega)) (Array.getElem?_setIfInBounds_ne (by omega))
                have hbw0 : Below w.heap.size w (wo.setCell ⟨w.heap.size + 1, n, none⟩ (.int .i64 fi)) := hbw.setCell (Nat.le_succ _) _
                have hsz0 : (wo.setCell ⟨w.heap.size + 1, n, none⟩ (.int .i64 fi)).heap.size = wo.heap.size := by simp [World.setCell]
                have H0 := Lib.hid (And.intro hset (And.intro hz16 (And.intro hoth (And.intro hst0 hsz0))))
                clear hset hz16 hoth hst0 hsz0
                go_loopw [12, 14] (fun x ss wq => ∃ s : Nat, ∃ cq : Array Value, ∃ (ak : Option Addr) (k ck : Nat), s ≤ q.length ∧ ss = .int .i64 s ∧ k = (pidxTo ns n s).length ∧ x = .int .i64 ((fi + k : Nat) : Int) ∧ Hid (wq.heap[w.heap.size + 1]? = some (.cells cq 145 (0, 0)) ∧ cq.size = 32 ∧ cq.all (·.oneCell') = true ∧ wq.heap[w.heap.size]? = some (.cells zc 145 (0, 0)) ∧ cq[n]? = some (.int .i64 fi) ∧ cq[16 + n]? = some (.slice ak k ck) ∧ wq.ownsRow wo.heap.size 3 1 (.slice ak k ck) k ((pidxTo ns n s).map fun (i : Nat) => Value.int .i64 (i : Int)) ∧ ∀ m, 1 ≤ m → m ≤ 15 → m ≠ n → StC wq (fun b => w.heap.size + 2 ≤ b ∧ b < wo.heap.size) ns cq n m) ∧ Below w.heap.size w wq ∧ wo.heap.size ≤ wq.heap.size) (fun _ ss _ => q.length - (intOf ss).toNat)
                case atStart =>
                  exact ⟨0, _, none, 0, 0, Nat.zero_le _, rfl, rfl, rfl, Lib.hid ⟨H0.out.1, by simpa using HC.out.2.1, all_set HC.out.2.2.1 _ rfl, (H0.out.2.2.1 _ (by omega)).trans HC.out.2.2.2.1, by rw [Array.getElem?_setIfInBounds, if_pos rfl, if_pos (by have := HC.out.2.1; omega)], (Array.getElem?_setIfInBounds_ne (by omega)).trans H0.out.2.1, World.ownsRow_nil _ _ _ _, H0.out.2.2.2.1⟩, hbw0, by rw [H0.out.2.2.2.2]; exact Nat.le_refl _⟩
                case round =>
                  clear H0 hbw0 HC hbw
                  obtain ⟨s, cq, ak, k, ck, hs, rfl, hk, rfl, HC, hbq, hszq⟩ := hrel
                  by_cases hls : s < q.length
                  · obtain ⟨b, off, rfl, hbl, hc, _⟩ := (hb.below hbq).at_ hls
                    rw [(HQ.out s).1] at hc
                    have hkle : k ≤ s := by rw [hk]; exact pidxTo_le _ _ _
                    have hsucc := pidxTo_succ ns n s
                    obtain ⟨t, ht⟩ : ∃ t, ns.getD s 0 = t := ⟨_, rfl⟩
                    rw [ht] at hc hsucc
                    have HK := Lib.hid hk
                    have HS := Lib.hid hsucc
                    clear hk ht hsucc
                    have j1 : (s : Int) < q.length := by omega
                    by_cases htn : t = n
                    · have hd : ((t : Int) == n) = true := by simp [htn]
                      rw [if_pos htn] at HS
                      have hO := HC.out.2.2.2.2.2.2.1
                      have hcS : wr.cell? ⟨w.heap.size + 1, 16 + n, none⟩ = some (.slice ak k ck) := by rw [blk_cell HC.out.1]; exact HC.out.2.2.2.2.2.1
                      clear htn
                      go_wp2_with (at_builtin; refine wpList_appG 83 3 (.int .i64 0) 8 Tryz.underlying83 int_info rfl rfl _ _ rfl wo.heap.size (.slice ak k ck) k _ rfl (hO.alloc _) (some ⟨wr.heap.size, 0, none⟩) 1 1 [.int .i64 s] rfl rfl (src_one _ _ _) ?h1 ?h2 ?h3 ?h4 ?h5 ?_)
                      case h1 => intro u hu; simp at hu; subst hu; rfl
                      case h2 => intro h; cases h
                      case h3 => simp only [maxLen]; omega
                      case h4 => omega
                      case h5 => simp; omega
                      intro v' w3 hown1 hg1 _
                      obtain ⟨a4, c4, rfl⟩ := own_shape hown1
                      have hb3 : Below wo.heap.size wr w3 := grown_below (Below.refl _ wr) hszq hO hg1
                      have g6 := (hb3.block (w.heap.size + 1) (by omega)).trans HC.out.1
                      have g4 := (hb3.block w.heap.size (by omega)).trans HC.out.2.2.2.1
                      have hcv : w3.cell? ⟨w.heap.size + 1, 16 + n, none⟩ = some (.slice ak k ck) := by rw [blk_cell g6]; exact HC.out.2.2.2.2.2.1
                      have hfv := blk_free g6 (16 + n)
                      have hset := blk_set g6 (16 + n) (.slice a4 (k + 1) c4)
                      have hoth : ∀ i, i ≠ w.heap.size + 1 → (w3.setCell ⟨w.heap.size + 1, 16 + n, none⟩ (.slice a4 (k + 1) c4)).heap[i]? = w3.heap[i]? := fun i hi => Below.heap_setCell _ ⟨w.heap.size + 1, 16 + n, none⟩ _ i hi
                      have hsz3 : (w3.setCell ⟨w.heap.size + 1, 16 + n, none⟩ (.slice a4 (k + 1) c4)).heap.size = w3.heap.size := by simp [World.setCell]
                      have hown2 := own_other hown1 (own_ne hown1 (by omega : w.heap.size + 1 < wo.heap.size)) (16 + n) (.slice a4 (k + 1) c4)
                      have H1 := Lib.hid (And.intro hset (And.intro hoth (And.intro hsz3 (And.intro hown2 (And.intro g4 hb3)))))
                      clear hset hoth hsz3 hown1 hown2 hg1 g6 g4 hb3 hO hcS
                      go_wp2_with fail
                      have hb3 := H1.out.2.2.2.2.2
                      have h3s := hb3.size
                      exact ⟨⟨s + 1, cq.setIfInBounds (16 + n) (.slice a4 (k + 1) c4), a4, k + 1, c4, by omega, by go_num, by rw [HS.out, List.length_append, ← HK.out]; rfl, by congr 1, Lib.hid ⟨H1.out.1, by simpa using HC.out.2.1, all_set HC.out.2.2.1 _ rfl, (H1.out.2.1 _ (by omega)).trans H1.out.2.2.2.2.1, (Array.getElem?_setIfInBounds_ne (by omega)).trans HC.out.2.2.2.2.1,
                        by rw [Array.getElem?_setIfInBounds, if_pos rfl, if_pos (by have := HC.out.2.1; omega)], by rw [HS.out, List.map_append]; exact H1.out.2.2.2.1,
                        fun m g0 g1 g2 => (HC.out.2.2.2.2.2.2.2 m g0 g1 g2).keep (fun b hb => (H1.out.2.1 b (by omega)).trans (hb3.block b hb.2)) (fun b hb => hb) (Array.getElem?_setIfInBounds_ne (by omega)) (Array.getElem?_setIfInBounds_ne (by omega))⟩,
                        (hbq.trans (hb3.mono (by omega))).setCell (Nat.le_succ _) _, by rw [H1.out.2.2.1]; omega⟩, by simp [intOf]; omega⟩
                    · have hd : ((t : Int) == n) = false := by simp; omega
                      rw [if_neg htn] at HS
                      go_wp2_with fail
                      exact ⟨⟨s + 1, cq, ak, k, ck, by omega, by go_num, by rw [HS.out, List.append_nil, ← HK.out], rfl, Lib.hid (by rw [HS.out, List.append_nil]; exact HC.out), hbq, hszq⟩, by simp [intOf]; omega⟩
                  · obtain rfl : s = q.length := by omega
                    go_wp2_with fail
                    have hkc : k = pcnt ns n := by rw [hk, ← hnl, ← pidx_len]; rfl
                    refine ⟨⟨n + 1, cq, by omega, by omega, by go_num, by rw [Nat.add_sub_cancel, pnext, if_neg (by omega), HFE.out, hkc], Lib.hid ⟨HC.out.1, HC.out.2.1, HC.out.2.2.1, HC.out.2.2.2.1, fun m g0 g1 => ?_⟩, hbq, by omega⟩, by simp [intOf]; omega⟩
                    by_cases hmn : m = n
                    · subst hmn
                      unfold StC
                      rw [if_pos (by omega)]
                      refine ⟨by rw [HFE.out]; exact HC.out.2.2.2.2.1, ak, ck, by rw [← hkc]; exact HC.out.2.2.2.2.2.1, ?_⟩
                      have hr := row_of_own HC.out.2.2.2.2.2.2.1 hk.symm
                      rw [← hnl] at hr
                      exact Row.more hr fun b hb => ⟨by omega, hb.2⟩
                    · exact ((HC.out.2.2.2.2.2.2.2 m g0 g1 hmn).next hmn).keep (fun b hb => rfl) (fun b hb => ⟨hb.1, by omega⟩) rfl rfl
              · obtain rfl : n = 16 := by omega
                have h6 := HC.out.1
                have h32 := HC.out.2.1
                have h1c := HC.out.2.2.1
                have h4 := HC.out.2.2.2.1
                go_wp2_with (first | refine code_ld rfl rfl (w.heap.size + 1) rfl h32 h6 ?_ | refine code_st rfl rfl w.heap.size rfl rfl h32 hzs h1c h4 ?_)
                (try simp only [Exit.inBlock, Exit.then])
                refine bodyPost_ret (code_ret rfl rfl h32 (setRow_heap _ _ _ _ _ _ h4)) rfl ?_
                refine ⟨low_setRow hbw (Nat.le_refl _) _, cs, h32, h1c, by rw [HE.out]; rfl, fun _ => ⟨h32, fun m g0 g1 => ?_⟩⟩
                have hst := HC.out.2.2.2.2 m g0 g1
                unfold StC at hst
                rw [if_pos (by omega)] at hst
                rw [HNS.out]
                obtain ⟨f1, a1, c1, f2, f3⟩ := hst
                exact ⟨f1, a1, c1, f2, (f3.keep fun b hb => setRow_other _ _ _ _ (by omega)).more fun b hb => ⟨by omega, by rw [size_setRow]; exact hb.2⟩⟩
theorem kraft_all : ∀ ns : List Nat, kraft ns ≤ 16384 * allN ns
  | [] => by simp [kraft]
  | x :: ns => by
    have ih := kraft_all ns
    have e : kraft (x :: ns) = (if x = 0 then 0 else 2 ^ (15 - x)) + kraft ns := by simp [kraft]
    by_cases h : x = 0
    · have e2 : allN (x :: ns) = allN ns := by simp [allN, h]
      rw [e, e2, if_pos h]; omega
    · have e2 : allN (x :: ns) = allN ns + 1 := by simp [allN, h]
      have h2 : 2 ^ (15 - x) ≤ 16384 := Nat.pow_le_pow_right (n := 2) (j := 14) (by decide) (by omega)
      rw [e, e2, if_neg h]; omega
/-- lengths that are a code take up no more than there is -/
theorem okN_kraft {ns : List Nat} {lone : Bool} (h : okN ns lone = true) : kraft ns ≤ 2 ^ 15 := by
  have hk := kraft_all ns
  have e : 2 ^ 15 = 32768 := by decide
  rw [e]
  simp only [okN, Bool.or_eq_true, Bool.and_eq_true, decide_eq_true_eq] at h
  rcases h with h | ⟨_, h | ⟨h, _⟩⟩
  · omega
  · rw [h] at hk; omega
  · rw [h] at hk; omega
theorem inR_le {q : List Int} (h : inR q = true) : ∀ n ∈ nsOf q, n ≤ 15 := fun n hn => by
  obtain ⟨x, hx, rfl⟩ := List.mem_map.1 hn
  rw [inR, List.all_eq_true] at h
  have := h x hx
  simp at this; omega
end Go.Proofs.YtdcpibglbanchaaGreatDoor

set_option linter.unusedVariables false
set_option maxRecDepth 100000
namespace Go.Proofs.YtdcpibglbanchaaGreatDoor
open Go.RowKit

/-- of the j-th symbol of lengths how many bits are further -/
def moreL (j : Nat) : Nat := if 8 ≤ j then 1 + (j - 8) / 4 else 0
def leastL : Nat → Nat
  | 0 => 3
  | j + 1 => leastL j + 2 ^ moreL j
theorem lenL_bd : ∀ i, i ≤ 27 → leastL i ≤ 300 ∧ moreL i ≤ 5 := by decide
/-- of the j-th symbol of distances how many bits are further -/
def moreD (j : Nat) : Nat := if 4 ≤ j then 1 + (j - 4) / 2 else 0
def leastD : Nat → Nat
  | 0 => 1
  | j + 1 => leastD j + 2 ^ moreD j
theorem lenD_bd : ∀ i, i ≤ 29 → leastD i ≤ 32768 ∧ moreD i ≤ 13 := by decide
set_option maxHeartbeats 2000000 in
theorem refDistance (j : Nat) (hj : j ≤ 29) (w : World) : Calls Tryz.prog 113 #[.int .i64 j] w fun e w' => e = .returned (.tuple #[.int .i64 (leastD j), .int .i64 (moreD j)]) ∧ w = w' := by
  go_enter Tryz.func113, Tryz.ntmps113
  go_wp2_with fail
  go_loop [4, 5] (fun l k => ∃ i : Nat, i ≤ j ∧ k = .int .i64 i ∧ l = .int .i64 (leastD i)) (fun _ k => j - (intOf k).toNat)
  case atStart => exact ⟨0, Nat.zero_le _, rfl, rfl⟩
  case round =>
    obtain ⟨i, hi, rfl, rfl⟩ := hrel
    obtain ⟨hb1, hb2⟩ := lenD_bd i (by omega)
    have hnext : leastD (i + 1) = leastD i + 2 ^ moreD i := rfl
    have hme : moreD i = if 4 ≤ i then 1 + (i - 4) / 2 else 0 := rfl
    have HN := Lib.hid hnext
    have hq1 : ∀ m : Nat, moreD i = m → m ≤ 13 → ((i : Int) < 4 → m = 0) ∧ ((4 : Int) ≤ i → 1 + ((i : Int) - 4) / 2 = m) := fun m hm hle => by
      rw [hme] at hm
      refine ⟨fun h => by rw [if_neg (by omega)] at hm; omega, fun h => ?_⟩
      rw [if_pos (by omega)] at hm
      omega
    obtain ⟨m, hm⟩ : ∃ m, moreD i = m := ⟨_, rfl⟩
    have hq := hq1 m hm (by omega)
    clear hq1
    have HM := Lib.hid hm
    rw [hm] at HN hb2
    clear hme hnext hm
    obtain ⟨L, hL⟩ : ∃ L, leastD i = L := ⟨_, rfl⟩
    rw [hL] at HN hb1
    have HL := Lib.hid hL
    rw [hL]
    clear hL
    obtain ⟨q1, q2⟩ := hq
    by_cases h4 : (4 : Int) ≤ i
    · have hd : decide ((i : Int) ≥ 4) = true := by simp; omega
      have hw := q2 h4
      clear q1 q2
      by_cases hij : i = j
      · subst hij
        go_wp2_with fail
        go_ret2
        exact ⟨ret2' (by rw [HL.out]) (by rw [HM.out]; try rfl), rfl⟩
      · have he : ((i : Int) == j) = false := by simp; omega
        go_wp2_with fail
        (try rw [hw])
        go_loop [7, 8] (fun nn tt => ∃ t : Nat, t ≤ m ∧ tt = .int .i64 t ∧ nn = .int .i64 ((2 ^ t : Nat) : Int)) (fun _ tt => m - (intOf tt).toNat)
        case atStart => exact ⟨0, Nat.zero_le _, rfl, rfl⟩
        case round =>
          obtain ⟨t, ht, rfl, rfl⟩ := hrel
          have hp : 2 ^ t ≤ 8192 := Nat.pow_le_pow_right (n := 2) (j := 13) (by decide) (by omega)
          have hp2 : 2 ^ (t + 1) = 2 * 2 ^ t := by rw [Nat.pow_succ]; omega
          have HP2 := Lib.hid hp2
          clear hp2
          obtain ⟨v, hv⟩ : ∃ v : Nat, 2 ^ t = v := ⟨_, rfl⟩
          have HV := Lib.hid hv
          rw [hv] at hp HP2
          rw [hv]
          clear hv
          by_cases hlt : t < m
          · go_wp2_with fail
            exact ⟨⟨t + 1, by omega, by go_num, by rw [HP2.out]; go_num⟩, by simp [intOf]; omega⟩
          · obtain rfl : t = m := by omega
            go_wp2_with fail
            exact ⟨⟨i + 1, by omega, by go_num, by rw [HN.out, HV.out]; go_num⟩, by simp [intOf]; omega⟩
    · have hd : decide ((i : Int) ≥ 4) = false := by simp; omega
      obtain rfl := q1 (by omega)
      clear q1 q2
      by_cases hij : i = j
      · subst hij
        go_wp2_with fail
        go_ret2
        exact ⟨ret2' (by rw [HL.out]) (by rw [HM.out]; try rfl), rfl⟩
      · have he : ((i : Int) == j) = false := by simp; omega
        go_wp2_with fail
        go_loop [7, 8] (fun nn tt => ∃ t : Nat, t ≤ 0 ∧ tt = .int .i64 t ∧ nn = .int .i64 ((2 ^ t : Nat) : Int)) (fun _ tt => 0 - (intOf tt).toNat)
        case atStart => exact ⟨0, Nat.zero_le _, rfl, rfl⟩
        case round =>
          obtain ⟨t, ht, rfl, rfl⟩ := hrel
          have hp : 2 ^ t ≤ 8192 := Nat.pow_le_pow_right (n := 2) (j := 13) (by decide) (by omega)
          have hp2 : 2 ^ (t + 1) = 2 * 2 ^ t := by rw [Nat.pow_succ]; omega
          have HP2 := Lib.hid hp2
          clear hp2
          obtain ⟨v, hv⟩ : ∃ v : Nat, 2 ^ t = v := ⟨_, rfl⟩
          have HV := Lib.hid hv
          rw [hv] at hp HP2
          rw [hv]
          clear hv
          obtain rfl : t = 0 := by omega
          go_wp2_with fail
          exact ⟨⟨i + 1, by omega, by go_num, by rw [HN.out, HV.out]; go_num⟩, by simp [intOf]; omega⟩
set_option maxHeartbeats 2000000 in
set_option maxRecDepth 100000 in
theorem refLength (s : Nat) (h0 : 257 ≤ s) (h1 : s ≤ 284) (w : World) : Calls Tryz.prog 112 #[.int .i64 s] w fun e w' => e = .returned (.tuple #[.int .i64 (leastL (s - 257)), .int .i64 (moreL (s - 257))]) ∧ w = w' := by
  have hs285 : ((s : Int) == 285) = false := by simp; omega
  go_enter Tryz.func112, Tryz.ntmps112
  go_wp2_with fail
  go_loop [4, 6] (fun l k => ∃ K : Nat, 257 ≤ K ∧ K ≤ s ∧ k = .int .i64 K ∧ l = .int .i64 (leastL (K - 257))) (fun _ k => s - (intOf k).toNat)
  case atStart => exact ⟨257, Nat.le_refl _, h0, rfl, rfl⟩
  case round =>
    obtain ⟨K, hK0, hK1, rfl, rfl⟩ := hrel
    obtain ⟨hb1, hb2⟩ := lenL_bd (K - 257) (by omega)
    have hnext : leastL (K - 257 + 1) = leastL (K - 257) + 2 ^ moreL (K - 257) := rfl
    have hme : moreL (K - 257) = if 8 ≤ K - 257 then 1 + (K - 257 - 8) / 4 else 0 := rfl
    have HN := Lib.hid hnext
    have hq1 : ∀ m : Nat, moreL (K - 257) = m → ((K : Int) < 265 → m = 0) ∧ ((265 : Int) ≤ K → 1 + ((K : Int) - 265) / 4 = m) := fun m hm => by
      rw [hme] at hm
      refine ⟨fun h => by rw [if_neg (by omega)] at hm; omega, fun h => ?_⟩
      rw [if_pos (by omega)] at hm
      omega
    obtain ⟨m, hm⟩ : ∃ m, moreL (K - 257) = m := ⟨_, rfl⟩
    have hq := hq1 m hm
    clear hq1
    have HM := Lib.hid hm
    rw [hm] at HN hb2
    clear hme hnext hm
    obtain ⟨L, hL⟩ : ∃ L, leastL (K - 257) = L := ⟨_, rfl⟩
    rw [hL] at HN hb1
    have HL := Lib.hid hL
    rw [hL]
    clear hL
    obtain ⟨q1, q2⟩ := hq
    by_cases h4 : (265 : Int) ≤ K
    · have hd : decide ((K : Int) ≥ 265) = true := by simp; omega
      have hw := q2 h4
      have hwm : wrap64 (m : Int) = m := wrap64_in _ (by omega)
      clear q1 q2
      by_cases hij : K = s
      · subst hij
        go_wp2_with fail
        go_ret2
        exact ⟨ret2' (by rw [HL.out]) (by rw [HM.out]), rfl⟩
      · have he : ((K : Int) == s) = false := by simp; omega
        go_wp2_with fail
        (try rw [hw])
        (try rw [hwm])
        clear hw hwm
        go_loop [4, 7, 8] (fun ll tt nn => ∃ t : Nat, t ≤ m + 1 ∧ tt = .int .i64 t ∧ nn = .int .i64 ((2 ^ t : Nat) : Int) ∧ ll = .int .i64 ((if t = m + 1 then L + 2 ^ m else L : Nat) : Int)) (fun _ tt _ => m + 1 - (intOf tt).toNat)
        case atStart => exact ⟨0, Nat.zero_le _, rfl, rfl, by rw [if_neg (by omega)]⟩
        case round =>
          obtain ⟨t, ht, rfl, rfl, rfl⟩ := hrel
          have hp : 2 ^ t ≤ 64 := Nat.pow_le_pow_right (n := 2) (j := 6) (by decide) (by omega)
          have hp2 : 2 ^ (t + 1) = 2 * 2 ^ t := by rw [Nat.pow_succ]; omega
          have HP2 := Lib.hid hp2
          clear hp2
          obtain ⟨v, hv⟩ : ∃ v : Nat, 2 ^ t = v := ⟨_, rfl⟩
          have HV := Lib.hid hv
          rw [hv] at hp HP2
          rw [hv]
          clear hv
          by_cases hlt : t < m + 1
          · rw [if_neg (by omega)]
            have hc : (t : Int) ≤ m := by omega
            by_cases htm : t = m
            · have hd2 : ((t : Int) == m) = true := by simp [htm]
              have HT := Lib.hid htm
              clear htm
              go_wp2_with fail
              exact ⟨⟨t + 1, by omega, by go_num, by rw [HP2.out]; go_num, by rw [if_pos (by rw [HT.out]), ← HT.out, HV.out]; go_num⟩, by simp [intOf]; omega⟩
            · have hd2 : ((t : Int) == m) = false := by simp; omega
              go_wp2_with fail
              exact ⟨⟨t + 1, by omega, by go_num, by rw [HP2.out]; go_num, by rw [if_neg (by omega)]⟩, by simp [intOf]; omega⟩
          · obtain rfl : t = m + 1 := by omega
            rw [if_pos rfl]
            have hc : (m : Int) < ((m + 1 : Nat) : Int) := by omega
            have hN := HN.out
            rw [← hN]
            have HN2 := Lib.hid hN
            clear hN
            go_wp2_with fail
            exact ⟨⟨K + 1, by omega, by omega, by go_num, by rw [(by omega : K + 1 - 257 = K - 257 + 1)]⟩, by simp [intOf]; omega⟩
    · have hd : decide ((K : Int) ≥ 265) = false := by simp; omega
      obtain rfl := q1 (by omega)
      clear q1 q2
      by_cases hij : K = s
      · subst hij
        go_wp2_with fail
        go_ret2
        exact ⟨ret2' (by rw [HL.out]) (by first | rfl | (rw [HM.out]; rfl)), rfl⟩
      · have he : ((K : Int) == s) = false := by simp; omega
        go_wp2_with fail
        go_loop [4, 7, 8] (fun ll tt nn => (tt = .int .i64 0 ∧ nn = .int .i64 1 ∧ ll = .int .i64 L) ∨ (tt = .int .i64 1 ∧ nn = .int .i64 2 ∧ ll = .int .i64 ((L : Int) + 1))) (fun _ tt _ => 1 - (intOf tt).toNat)
        case atStart => exact .inl ⟨rfl, rfl, rfl⟩
        case round =>
          rcases hrel with ⟨rfl, rfl, rfl⟩ | ⟨rfl, rfl, rfl⟩
          · go_wp2_with fail
            exact ⟨.inr ⟨rfl, rfl, rfl⟩, by simp [intOf]⟩
          · go_wp2_with fail
            exact ⟨⟨K + 1, by omega, by omega, by go_num, by rw [(by omega : K + 1 - 257 = K - 257 + 1), HN.out]; rfl⟩, by simp [intOf]; omega⟩
end Go.Proofs.YtdcpibglbanchaaGreatDoor
