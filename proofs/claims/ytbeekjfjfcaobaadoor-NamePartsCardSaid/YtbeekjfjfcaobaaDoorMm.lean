/- Units as texts: contracts of package name's Text and of the document's own. Condition: there are no more than 20000 units. -/
import Derived.Test.YtbeekjfjfcaobaaDoorMl
import Derived.Test.YtbeekjfjfcaobaaDoorFr
import Derived.Laws.BytesString
import Derived.Laws.BytesArg
set_option linter.unusedVariables false
set_option maxRecDepth 100000
namespace Go.Proofs.YtbeekjfjfcaobaaDoor
open Go.RowKit Go.Lib Go.Maps

/-- bytes as a text -/
theorem conv_bs {w : World} {B : Nat} {a : Option Addr} {l : List Int} {n : Nat} (c : Nat) (hb : Bs w B a l) (hn : l.length = n) : (convert 47 9 (.slice a n c)).run Tryd.prog w = .ok (.string (strOfNums l)) w := by
  rcases Nat.eq_zero_or_pos n with h0 | h0
  · subst h0
    have hl : l = [] := List.eq_nil_of_length_eq_zero hn
    subst hl
    cases a with
    | none => exact run_convert_bytes_nil w 47 5 Tryd.underlying47 Tryd.underlying5 0 c 9 Tryd.underlying9
    | some ad =>
      have hl : (loadCells ad 0).run Tryd.prog w = .ok (([] : List Int).map (Value.int .u8)).toArray w := run_loadCells_list (P := Tryd.prog) w ad [] (fun j v hj => by simp at hj)
      rw [run_convert_bytes_string w 47 9 5 _ 0 c Tryd.underlying47 Tryd.underlying5 Tryd.underlying9, run_bytesToString w _ 0 c [] hl]
      rfl
  · obtain ⟨bb, off, rfl, _, hcell⟩ := hb.2 (by omega)
    exact run_convert_bytes_arg (P := Tryd.prog) w 47 5 Tryd.underlying47 Tryd.underlying5 bb off n c l hn (fun i hi => hcell i (by omega)) 9 Tryd.underlying9
/-- a slice of units -/
def Us (w : World) (B : Nat) (a : Option Addr) (us : List Nat) : Prop := (∀ u ∈ us, u < 65536) ∧ (0 < us.length → ∃ b off, a = some ⟨b, off, none⟩ ∧ b < B ∧ ∀ i, i < us.length → w.cell? ⟨b, off + i, none⟩ = some (.int .u16 ((us.getD i 0 : Nat) : Int)))
theorem Us.below {w w' : World} {B : Nat} {a : Option Addr} {us : List Nat} (h : Us w B a us) (hb : Below B w w') : Us w' B a us :=
  ⟨h.1, fun hn => by
    obtain ⟨b, off, e, hlt, hc⟩ := h.2 hn
    exact ⟨b, off, e, hlt, fun i hi => (hb.cell (p := ⟨b, _, none⟩) hlt).trans (hc i hi)⟩⟩
theorem Us.next {w w' : World} {a : Option Addr} {us : List Nat} (h : Us w w.heap.size a us) (hb : Below w.heap.size w w') : Us w' w'.heap.size a us :=
  ⟨h.1, fun hn => by
    obtain ⟨b, off, e, hlt, hc⟩ := (h.below hb).2 hn
    exact ⟨b, off, e, Nat.lt_of_lt_of_le hlt hb.size, hc⟩⟩
theorem Us.of_ints {w : World} {B : Nat} {a : Option Addr} {l : List Int} (h : Ints .u16 w B a l) : Us w B a (l.map Int.toNat) ∧ l = (l.map Int.toNat).map fun u => ((u : Nat) : Int) := by
  refine ⟨⟨fun u hu => ?_, fun hn => ?_⟩, ?_⟩
  · obtain ⟨x, hx, rfl⟩ := List.mem_map.1 hu
    have := bd_u16 (h.1 x hx)
    omega
  · rw [List.length_map] at hn
    obtain ⟨b, off, e, hlt, hc⟩ := h.2 hn
    refine ⟨b, off, e, hlt, fun i hi => ?_⟩
    rw [List.length_map] at hi
    rw [hc i hi]
    have hw := bd_u16 (h.1 _ (by rw [List.getD_eq_getElem?_getD, List.getElem?_eq_getElem hi]; exact List.getElem_mem hi : l.getD i 0 ∈ l))
    congr 2
    rw [List.getD_eq_getElem?_getD, List.getD_eq_getElem?_getD, List.getElem?_map, List.getElem?_eq_getElem hi] at *
    simp at *
    omega
  · rw [List.map_map]
    conv => lhs; rw [← List.map_id l]
    refine List.map_congr_left fun x hx => ?_
    have := bd_u16 (h.1 x hx)
    simp; omega
theorem Us.of_own {w : World} {base : Nat} {a : Option Addr} {c : Nat} {us : List Nat} (h : w.ownsRow base 38 1 (.slice a us.length c) us.length (us.map fun u => Value.int .u16 ((u : Nat) : Int))) (hu : ∀ u ∈ us, u < 65536) : Us w w.heap.size a us := by
  refine ⟨hu, fun hn => ?_⟩
  obtain ⟨G, cp, hV, hlt, _⟩ := h.form hn
  injection hV with h1 _ h2
  subst h1
  subst h2
  refine ⟨G, 0, rfl, (h.lt G rfl).2, fun i hi => ?_⟩
  rw [Nat.zero_add, h.cellAt i (by omega), List.getElem?_map, List.getD_eq_getElem?_getD, List.getElem?_eq_getElem hi]; rfl
/-- a unit's bytes -/
def bytN (u : Nat) : List Nat := if 1 ≤ u ∧ u ≤ 127 then [u] else if u ≤ 2047 then [192 + u / 64, 128 + u % 64] else [224 + u / 4096, 128 + u / 64 % 64, 128 + u % 64]
def txtI (us : List Nat) : List Int := (us.flatMap bytN).map fun n => ((n : Nat) : Int)
theorem bytN_len (u : Nat) : (bytN u).length ≤ 3 := by unfold bytN
                                                       repeat' split
                                                       all_goals simp
theorem txtI_len : ∀ us : List Nat, (txtI us).length ≤ 3 * us.length
  | [] => by simp [txtI]
  | u :: us => by
    have h1 := txtI_len us
    have h2 := bytN_len u
    unfold txtI at h1 ⊢
    rw [List.flatMap_cons, List.length_map, List.length_append]
    rw [List.length_map] at h1
    rw [List.length_cons]; omega
theorem txtI_snoc (us : List Nat) (u : Nat) : txtI (us ++ [u]) = txtI us ++ (bytN u).map fun n => ((n : Nat) : Int) := by unfold txtI; simp
theorem bytN_lt {u : Nat} (h : u < 65536) : ∀ n ∈ bytN u, n < 256 := fun n hn => by
  unfold bytN at hn
  split at hn
  · simp at hn; omega
  · split at hn
    · simp at hn; omega
    · simp at hn; omega
theorem txtI_bytes {us : List Nat} (h : ∀ u ∈ us, u < 65536) : Bytes (txtI us) := fun x hx => by
  unfold txtI at hx
  obtain ⟨n, hn, rfl⟩ := List.mem_map.1 hx
  obtain ⟨u, hu, hn⟩ := List.mem_flatMap.1 hn
  have := bytN_lt (h u hu) n hn
  omega
theorem b8_info : (Tryd.prog.info? 5).bind (fun i => i.zero.map fun z => (i.size, i.bytes, z.cells.size)) = some (1, 1, 1) := by kernel_rfl
theorem b8_parts : ∃ i z, Tryd.prog.info? 5 = some i ∧ i.zero = some z ∧ i.size = 1 ∧ i.bytes = 1 ∧ z.cells.size = 1 := by
  have h := b8_info
  cases hi : Tryd.prog.info? 5 with
  | none => rw [hi] at h; cases h
  | some i =>
    rw [hi] at h
    cases hz : i.zero with
    | none => simp [hz] at h
    | some z =>
      simp [hz] at h
      exact ⟨i, z, rfl, hz, h.1, h.2.1, h.2.2⟩
/-- an append of a few bytes that lie in a new block -/
theorem few_app {w : World} {ops : Array Oper} {rest : List Oper} {o : Oper} {a : Act} {Q : Exit → Act → World → Prop} (hgd : o.guard = none) (s x : Operand)
    (ho : o.op = .call { callee := .builtin .append, args := #[s, x], argTypes := #[47, 47] }) (base : Nat) (v : Value) (n : Nat) (xs : List Int) (hs : a.eval s = v) (hown : w.ownsRow base 5 1 v n (xs.map (Value.int .u8)))
    (q : Nat) (news : List Int) (m : Nat) (hm : news.length = m) (hx : a.eval x = .slice (some ⟨q, 0, none⟩) m m) (hh : w.heap[q]? = some (.cells (news.map (Value.int .u8)).toArray 5 (0, 0))) (hn : n + m ≤ 1000000) (hbase : base ≤ w.heap.size)
    (h : ∀ v' w', w'.ownsRow base 5 1 v' (n + m) ((xs ++ news).map (Value.int .u8)) → w.grownBy w' v.ownBlock → wpList Tryd.prog ops Q rest (a.put o.dst v') w') : wpList Tryd.prog ops Q (o :: rest) a w := by
  obtain ⟨i, z, hi, hz, h32, h96, hzs⟩ := b8_parts
  obtain ⟨v', w', hr, h2, h3, _, h4⟩ := run_append_own_at (P := Tryd.prog) (w := w) base 47 o.type 5 i z 1 1 Tryd.underlying47 hi hz h32 h96 hzs (by decide) v n (xs.map (Value.int .u8)) hown ⟨q, 0, none⟩ m m (news.map (Value.int .u8)) (by rw [List.length_map, hm]; omega) (fun j u hu => by
    rw [show Addr.add ⟨q, 0, none⟩ j = ⟨q, j, none⟩ by simp [Addr.add]; exact fun h => h.symm, blk_cell hh]; simpa using hu) (fun u hu => by obtain ⟨b, _, rfl⟩ := List.mem_map.1 hu; rfl) (by unfold maxLen; omega) (by omega) hbase
  rw [← List.map_append] at h2
  refine wpList_plain hgd fun _ hK => ?_
  have hx2 : (execOp a.eval o).run Tryd.prog w = .ok (.value v') w' := ?_
  · unfold Oper.wp; rw [hx2]; exact hK _ _ (h v' w' h2 h3)
  unfold execOp
  simp only [ho, resolve, invoke, builtin, Sem.run_bind, Sem.run_pure, Result.andThen_ok, List.map_toArray, List.map_cons, List.map_nil, hs, hx, hr]
theorem wid_cases (u : Nat) (h : u < 65536) : (widN u = 1 ∧ u ≤ 127 ∧ 1 ≤ u ∧ bytN u = [u]) ∨ (widN u = 2 ∧ (u = 0 ∨ 128 ≤ u) ∧ u ≤ 2047 ∧ bytN u = [192 + u / 64, 128 + u % 64]) ∨ (widN u = 3 ∧ 2048 ≤ u ∧ bytN u = [224 + u / 4096, 128 + u / 64 % 64, 128 + u % 64]) := by
  unfold widN bytN
  by_cases h1 : 1 ≤ u ∧ u ≤ 127
  · exact .inl ⟨by rw [if_pos h1], h1.2, h1.1, by rw [if_pos h1]⟩
  · rw [if_neg h1, if_neg h1]
    by_cases h2 : u ≤ 2047
    · exact .inr (.inl ⟨by rw [if_pos h2], by omega, h2, by rw [if_pos h2]⟩)
    · exact .inr (.inr ⟨by rw [if_neg h2], by omega, by rw [if_neg h2]⟩)
set_option maxHeartbeats 8000000 in
theorem text_is (a : Option Addr) (n c : Nat) (us : List Nat) (hn : us.length = n) (hm : n ≤ 20000) (w : World) (hu : Us w w.heap.size a us) : Calls Tryd.prog 23 #[.slice a n c] w fun e w' => e = .returned (.string (strOfNums (txtI us))) ∧ Below w.heap.size w w' := by
  have HU := Lib.hid (And.intro hu hn)
  clear hu hn
  go_enter Tryd.func23, Tryd.ntmps23
  go_wp2_with fail
  go_loopw [3, 8] (fun pv iv wr => ∃ (i k : Nat), iv = .int .i64 (i : Nat) ∧ i ≤ n ∧ k ≤ 3 * i ∧ Hid (k = (txtI (us.take i)).length ∧ wr.ownsRow w.heap.size 5 1 pv k ((txtI (us.take i)).map (Value.int .u8)) ∧ Below w.heap.size w wr)) (fun _ iv _ => n - (RowKit.intOf iv).toNat)
  case atStart => exact ⟨0, 0, rfl, Nat.zero_le _, Nat.le_refl _, Lib.hid ⟨rfl, World.ownsRow_nil _ _ _ _, Below.refl _ _⟩⟩
  case round =>
    obtain ⟨i, k, rfl, hi, hk, HI⟩ := hrel
    by_cases hlt : i < n
    · have hlt' : i < us.length := by rw [HU.out.2]; exact hlt
      obtain ⟨b, off, rfl, hbl, hcell⟩ := (HU.out.1.below HI.out.2.2).2 (by omega)
      have hc1 := hcell i hlt'
      obtain ⟨u, hue⟩ : ∃ u, us.getD i 0 = u := ⟨_, rfl⟩
      rw [hue] at hc1
      have hum : u ∈ us := by rw [← hue, List.getD_eq_getElem?_getD, List.getElem?_eq_getElem hlt']; exact List.getElem_mem hlt'
      have hul := HU.out.1.1 u hum
      have htake : us.take (i + 1) = us.take i ++ [u] := by
        rw [List.take_succ_eq_append_getElem hlt', ← hue, List.getD_eq_getElem?_getD, List.getElem?_eq_getElem hlt']; rfl
      have htx : txtI (us.take (i + 1)) = txtI (us.take i) ++ (bytN u).map fun n => ((n : Nat) : Int) := by rw [htake, txtI_snoc]
      have hwd := width_is u
      obtain ⟨q6, hq6⟩ : ∃ q6, u / 64 = q6 := ⟨_, rfl⟩
      obtain ⟨q12, hq12⟩ : ∃ q12, u / 4096 = q12 := ⟨_, rfl⟩
      have s6 : ((u : Nat) : Int) / 64 = (q6 : Int) := by omega
      have s12 : ((u : Nat) : Int) / 4096 = (q12 : Int) := by omega
      have s6' : ((u : Nat) : Int) / 2 ^ 6 = (q6 : Int) := by omega
      have s12' : ((u : Nat) : Int) / 2 ^ 12 = (q12 : Int) := by omega
      have hlo := lowest_is u hul
      rcases wid_cases u hul with ⟨hw1, h127, _, hby⟩ | ⟨hw1, h0, h2k, hby⟩ | ⟨hw1, h2k, hby⟩
      · rw [hw1] at hwd
        have e1 : IntKind.u8.wrap ((u : Nat) : Int) = (u : Int) := by rw [u8w]; omega
        rw [hby] at htx
        have HX := Lib.hid htx
        clear hlo hw1 hby htx htake hue hum hcell s6 s12 s6' s12' hq6 hq12
        go_wp2_with fail
        refine (hwd _).mono ?_
        rintro e w1 ⟨rfl, rfl⟩
        clear hwd
        go_wp2_with (at_builtin; refine few_app rfl _ _ rfl w.heap.size _ k (txtI (us.take i)) rfl (HI.out.2.1.alloc _) w1.heap.size [(u : Int)] 1 rfl rfl (heap_alloc_new _ _) (by omega) (Nat.le_trans HI.out.2.2.size (by simp)) ?_; intro v' w5 ho5 hg5; have HG := Lib.hid (And.intro ho5 (grown_below HI.out.2.2 HI.out.2.2.size HI.out.2.1 hg5)); clear ho5 hg5)
        go_roundw
        case rel => exact ⟨i + 1, k + 1, by go_num, by omega, by omega, Lib.hid ⟨by rw [HX.out, HI.out.1]; simp, by rw [HX.out]; exact HG.out.1, HG.out.2⟩⟩
        case measure => simp [RowKit.intOf]; omega
      · rw [hw1] at hwd
        have e1 : IntKind.u8.wrap ((q6 : Nat) : Int) = (q6 : Int) := by rw [u8w]; omega
        have e2 : bits .or .u8 192 ((q6 : Nat) : Int) = ((192 + q6 : Nat) : Int) := orB8 3 6 q6 (by omega) (by omega)
        obtain ⟨c6, hc6⟩ : ∃ c6, 192 + q6 = c6 := ⟨_, rfl⟩
        obtain ⟨l6, hl6⟩ : ∃ l6, 128 + u % 64 = l6 := ⟨_, rfl⟩
        rw [hc6] at e2
        rw [hl6] at hlo
        rw [hby, hq6, hc6, hl6] at htx
        have HX := Lib.hid htx
        clear hw1 hby htx htake hue hum hcell s12 s12' hq6 hq12 hc6 hl6
        go_wp2_with fail
        refine (hwd _).mono ?_
        rintro e w1 ⟨rfl, rfl⟩
        clear hwd
        go_wp2_with fail
        refine (hlo _).mono ?_
        rintro e w2 ⟨rfl, rfl⟩
        clear hlo
        go_wp2_with (at_builtin; refine few_app rfl _ _ rfl w.heap.size _ k (txtI (us.take i)) rfl (HI.out.2.1.alloc _) w2.heap.size [(c6 : Int), (l6 : Int)] 2 rfl rfl (heap_alloc_new _ _) (by omega) (Nat.le_trans HI.out.2.2.size (by simp)) ?_; intro v' w5 ho5 hg5; have HG := Lib.hid (And.intro ho5 (grown_below HI.out.2.2 HI.out.2.2.size HI.out.2.1 hg5)); clear ho5 hg5)
        go_roundw
        case rel => exact ⟨i + 1, k + 2, by go_num, by omega, by omega, Lib.hid ⟨by rw [HX.out, HI.out.1]; simp, by rw [HX.out]; exact HG.out.1, HG.out.2⟩⟩
        case measure => simp [RowKit.intOf]; omega
      · rw [hw1] at hwd
        have e1 : IntKind.u8.wrap ((q12 : Nat) : Int) = (q12 : Int) := by rw [u8w]; omega
        have e2 : bits .or .u8 224 ((q12 : Nat) : Int) = ((224 + q12 : Nat) : Int) := orB8 7 5 q12 (by omega) (by omega)
        have hl2 := lowest_is q6 (by omega)
        obtain ⟨c6, hc6⟩ : ∃ c6, 224 + q12 = c6 := ⟨_, rfl⟩
        obtain ⟨m6, hm6⟩ : ∃ m6, 128 + q6 % 64 = m6 := ⟨_, rfl⟩
        obtain ⟨l6, hl6⟩ : ∃ l6, 128 + u % 64 = l6 := ⟨_, rfl⟩
        rw [hc6] at e2
        rw [hl6] at hlo
        rw [hm6] at hl2
        rw [hby, hq12, hq6, hc6, hm6, hl6] at htx
        have HX := Lib.hid htx
        clear hw1 hby htx htake hue hum hcell hq6 hq12 hc6 hl6 hm6
        go_wp2_with fail
        refine (hwd _).mono ?_
        rintro e w1 ⟨rfl, rfl⟩
        clear hwd
        go_wp2_with fail
        refine (hl2 _).mono ?_
        rintro e w2 ⟨rfl, rfl⟩
        clear hl2
        go_wp2_with fail
        refine (hlo _).mono ?_
        rintro e w3 ⟨rfl, rfl⟩
        clear hlo
        go_wp2_with (at_builtin; refine few_app rfl _ _ rfl w.heap.size _ k (txtI (us.take i)) rfl (HI.out.2.1.alloc _) w3.heap.size [(c6 : Int), (m6 : Int), (l6 : Int)] 3 rfl rfl (heap_alloc_new _ _) (by omega) (Nat.le_trans HI.out.2.2.size (by simp)) ?_; intro v' w5 ho5 hg5; have HG := Lib.hid (And.intro ho5 (grown_below HI.out.2.2 HI.out.2.2.size HI.out.2.1 hg5)); clear ho5 hg5)
        go_roundw
        case rel => exact ⟨i + 1, k + 3, by go_num, by omega, by omega, Lib.hid ⟨by rw [HX.out, HI.out.1]; simp, by rw [HX.out]; exact HG.out.1, HG.out.2⟩⟩
        case measure => simp [RowKit.intOf]; omega
    · obtain rfl : n = i := by omega
      have hall : us.take n = us := List.take_of_length_le (by rw [HU.out.2]; exact Nat.le_refl _)
      rw [hall] at HI
      obtain ⟨hk1, hrow, hbel⟩ := HI.out
      obtain ⟨ap, cp, rfl⟩ := own_shape hrow
      subst hk1
      have hcv1 := conv_bs cp (Bs.of_own hrow (txtI_bytes HU.out.1.1)) rfl
      have HB := Lib.hid hbel
      clear hrow hbel
      go_wp2_with fail
      go_ret
      exact ⟨rfl, HB.out⟩
end Go.Proofs.YtbeekjfjfcaobaaDoor
