/- What the document's own writer for layer 4 does: contracts of its calls. Condition: the numbers fit their kinds, the bits are fewer than 2^40. -/
import Derived.Test.YtfgifimmdkiejaaBitW
set_option linter.unusedVariables false
namespace Go.Proofs.Ytfgifimmdkiejaa
open Go.RowKit

theorem bool_info : (Try.prog.info? 4).map (fun i => (i.zero, i.size, i.bytes)) = some (some (.bool false), 1, 1) := by kernel_rfl
/-- block g is the document's writer of the bits L, which lie in a row of its own -/
def Wx (w : World) (base g : Nat) (a : Option Addr) (c : Nat) (L : List Bool) : Prop :=
  w.heap[g]? = some (.cells #[.slice a L.length c] 60 (0, 0)) ∧ w.ownsRow base 4 1 (.slice a L.length c) L.length (L.map Value.bool) ∧ (Value.slice a L.length c).ownBlock ≠ some g
theorem Wx.keep {w w' : World} {base g : Nat} {a : Option Addr} {c : Nat} {L : List Bool} (h : Wx w base g a c L) (hs : ∀ i, WF g a L.length c i → w'.heap[i]? = w.heap[i]?) : Wx w' base g a c L :=
  ⟨(hs g (.inl rfl)).trans h.1, own_keep h.2.1 (fun i hi => hs i (.inr hi)), h.2.2⟩
theorem Wx.below {w w' : World} {base g : Nat} {a : Option Addr} {c : Nat} {L : List Bool} (h : Wx w base g a c L) (hb : Below w.heap.size w w') : Wx w' base g a c L :=
  h.keep fun i hi => by
    rcases hi with rfl | hi
    · exact hb.block _ (blk_lt h.1)
    · exact hb.block _ (h.2.1.lt i hi).2
/-- what the writer's blocks have become -/
def XSt (w : World) (base g : Nat) (a : Option Addr) (n c : Nat) (L' : List Bool) (wr : World) : Prop :=
  ∃ a1 c1, Wx wr base g a1 c1 L' ∧ Foot (WF g a n c) w wr ∧ (∀ i, (Value.slice a1 L'.length c1).ownBlock = some i → (Value.slice a n c).ownBlock = some i ∨ w.heap.size ≤ i)
theorem XSt.start {w : World} {base g : Nat} {a : Option Addr} {c : Nat} {L : List Bool} (h : Wx w base g a c L) : XSt w base g a L.length c L w := ⟨a, c, h, Foot.refl _ _, fun i hi => .inl hi⟩
/-- one more bit -/
theorem XSt.snoc {w wr w2 : World} {base g : Nat} {a : Option Addr} {n c : Nat} {L' : List Bool} {a1 a2 : Option Addr} {c1 c2 : Nat} {x : Bool} {o : Obj} (h : Wx wr base g a1 c1 L') (hf : Foot (WF g a n c) w wr) (hr : ∀ i, (Value.slice a1 L'.length c1).ownBlock = some i → (Value.slice a n c).ownBlock = some i ∨ w.heap.size ≤ i)
    (hown : w2.ownsRow base 4 1 (.slice a2 (L'.length + 1) c2) (L'.length + 1) ((L' ++ [x]).map Value.bool)) (hg : (wr.alloc o).grownBy w2 (Value.slice a1 L'.length c1).ownBlock)
    (hw : (Value.slice a2 (L'.length + 1) c2).ownBlock = (Value.slice a1 L'.length c1).ownBlock ∨ (Value.slice a2 (L'.length + 1) c2).ownBlock = some (wr.alloc o).heap.size) :
    XSt w base g a n c (L' ++ [x]) (w2.setCell ⟨g, 0, none⟩ (.slice a2 (L'.length + 1) c2)) := by
  have hgl := blk_lt h.1
  have hsz := hf.size
  have hne2 : (Value.slice a2 (L'.length + 1) c2).ownBlock ≠ some g := by
    rcases hw with q | q
    · rw [q]; exact h.2.2
    · rw [q]; intro e; injection e with e; simp at e; omega
  have hlen : (L' ++ [x]).length = L'.length + 1 := by simp
  have hh2 := (hg.block g (by simp; omega) (fun e => h.2.2 e.symm)).trans ((Below.heap_alloc wr o g hgl).trans h.1)
  have hset := blk_set hh2 0 (.slice a2 (L'.length + 1) c2)
  refine ⟨a2, c2, ⟨?_, ?_, by rw [hlen]; exact hne2⟩, ((hf.alloc o).grown hg (fun k hk => ?_)).set (.inl (.inl rfl)), fun i hi => ?_⟩
  · rw [hlen]; simpa using hset
  · rw [hlen]; exact own_other hown hne2 _ _
  · rcases hr k hk with q | q
    · exact .inl (.inr q)
    · exact .inr q
  · rw [hlen] at hi
    rcases hw with q | q
    · exact hr i (by rw [← q]; exact hi)
    · rw [q] at hi; injection hi with hi; right; simp at hi; omega

theorem and_one (x : Int) (h : -9223372036854775808 ≤ x ∧ x ≤ 9223372036854775807) : bits .and .i64 x 1 = x % 2 := by
  have h1 := ofInt_toNat 64 x
  have h2 : (BitVec.ofInt 64 1).toNat = 2 ^ 1 - 1 := by decide
  rw [and64_is, BitVec.toNat_and, h2, Nat.and_two_pow_sub_one_eq_mod, wrap64_eq, wrap64_in]
  · omega
  · omega
theorem bit_is (v : Int) (i : Nat) (hv : -9223372036854775808 ≤ v ∧ v ≤ 9223372036854775807) : (bits .and .i64 (v / 2 ^ i) 1 == 1) = decide (bitAt v i = 1) := by
  rw [and_one _ (div_bd v i _ _ (by decide) (by decide) hv)]
  unfold bitAt
  rw [Bool.eq_iff_iff]; simp
theorem putL_succ (L : List Bool) (k : Nat) (v : Int) : putL L (k + 1) v = putL L k v ++ [decide (bitAt v k = 1)] := by
  simp [putL, List.range_succ]

set_option maxRecDepth 100000 in
set_option maxHeartbeats 1000000 in
theorem xrPut {w : World} {base g : Nat} {a : Option Addr} {c : Nat} {L : List Bool} (h : Wx w base g a c L) (hm : L.length ≤ 1099511627776) (hbase : base ≤ w.heap.size)
    (n : Nat) (hn : n ≤ 16) (v : Int) (hv : -9223372036854775808 ≤ v ∧ v ≤ 9223372036854775807) :
    Calls Try.prog 31 #[.pointer (some ⟨g, 0, none⟩), .int .i64 n, .int .i64 v] w fun e w' => e = .returned (.int .i64 0) ∧ XSt w base g a L.length c (putL L n v) w' := by
  have hs := XSt.start h
  have HS := Lib.hid hs; clear hs h
  go_enter Try.func31, Try.ntmps31
  go_wp2_with fail
  go_loopw [7] (fun i wr => ∃ k : Nat, k ≤ n ∧ i = .int .i64 k ∧ Hid (XSt w base g a L.length c (putL L k v) wr)) (fun i _ => (n - intOf i).toNat)
  case atStart => exact ⟨0, by omega, rfl, by simpa [putL] using HS⟩
  case round =>
    obtain ⟨k, hk, rfl, HP⟩ := hrel
    by_cases hlt : k < n
    · obtain ⟨a1, c1, hx, hf, hr⟩ := HP.out
      have h0 : wr.cell? ⟨g, 0, none⟩ = some (.slice a1 (putL L k v).length c1) := blk_cell hx.1 0
      have hgl := blk_lt hx.1
      have hO := hx.2.1
      have hsz := hf.size
      have hbit := bit_is v k hv
      have hps := putL_succ L k v
      have hpl := putL_len L k v
      have HX := Lib.hid (And.intro hx (And.intro hf (And.intro hr (And.intro hps hpl))))
      have hle : (putL L k v).length ≤ 1099511627792 := by omega
      clear hx hr hps hpl
      generalize decide (bitAt v k = 1) = x at *
      generalize putL L k v = L' at *
      go_wp2_with (at_builtin; refine wpList_appG 58 4 (.bool false) 1 Try.underlying58 bool_info rfl rfl (.tmp 23) (.tmp 30) rfl base (.slice a1 L'.length c1) L'.length (L'.map Value.bool) rfl (hO.alloc _) (some ⟨wr.heap.size, 0, none⟩) 1 1 [.bool x] rfl rfl (src_one wr _ _) (by intro u hu; simp at hu; subst hu; rfl) (fun h => by cases h) (by simp only [maxLen]; omega) (by omega) (by simp; omega) ?_; intro v2 w2 hown2 hg2 hw2; obtain ⟨a2, c2, rfl⟩ := own_shape hown2; have hh2 := (hg2.block g (by simp; omega) (fun e => HX.out.1.2.2 e.symm)).trans ((Below.heap_alloc wr _ g hgl).trans HX.out.1.1); have h20 : w2.cell? ⟨g, 0, none⟩ = some (.slice a1 L'.length c1) := blk_cell hh2 0; have f20 := blk_free hh2 0; have HH2 := Lib.hid hh2; clear hh2)
      obtain ⟨hx, hf, hr, hps, hpl⟩ := HX.out
      have hnew := XSt.snoc hx hf hr (by simpa using hown2) hg2 hw2
      go_roundw
      case rel => exact ⟨k + 1, by omega, by go_num, Lib.hid (by rw [hps]; exact hnew)⟩
      case measure => simp [intOf]; omega
    · obtain rfl : k = n := by omega
      go_wp2_with fail
      go_ret
      exact ⟨rfl, HP.out⟩

theorem xrPutNo {w : World} {g : Nat} (n v : Int) (h : n < 0 ∨ 16 < n) :
    Calls Try.prog 31 #[.pointer (some ⟨g, 0, none⟩), .int .i64 n, .int .i64 v] w fun e w' => e = .returned (.int .i64 1) ∧ w = w' := by
  have hc : ¬ n < 0 → 16 < n := by omega
  have HC := Lib.hid hc
  clear h hc
  by_cases h2 : n < 0
  · go_enter Try.func31, Try.ntmps31
    go_wp2_with fail
    go_ret
    exact ⟨rfl, rfl⟩
  · have h3 := HC.out h2
    go_enter Try.func31, Try.ntmps31
    go_wp2_with fail
    go_ret
    exact ⟨rfl, rfl⟩
theorem XSt.trans {w w1 w2 : World} {base g : Nat} {a a1 : Option Addr} {n c n1 c1 : Nat} {L2 : List Bool} (hf : Foot (WF g a n c) w w1) (hr : ∀ i, (Value.slice a1 n1 c1).ownBlock = some i → (Value.slice a n c).ownBlock = some i ∨ w.heap.size ≤ i)
    (h : XSt w1 base g a1 n1 c1 L2 w2) : XSt w base g a n c L2 w2 := by
  obtain ⟨a2, c2, hx, hf2, hr2⟩ := h
  refine ⟨a2, c2, hx, hf.trans2 hf2 (fun i hi => ?_), fun i hi => ?_⟩
  · rcases hi with rfl | hi
    · exact .inl (.inl rfl)
    · rcases hr i hi with q | q
      · exact .inl (.inr q)
      · exact .inr q
  · rcases hr2 i hi with q | q
    · exact hr i q
    · right; have := hf.size; omega

set_option maxRecDepth 100000 in
set_option maxHeartbeats 1000000 in
theorem xrAlign {w : World} {base g : Nat} {a : Option Addr} {c : Nat} {L : List Bool} (h : Wx w base g a c L) (hm : L.length ≤ 1099511627776) (hbase : base ≤ w.heap.size) :
    Calls Try.prog 33 #[.pointer (some ⟨g, 0, none⟩)] w fun e w' => e = .returned (.tuple #[]) ∧ XSt w base g a L.length c (alignL L) w' := by
  have hs := XSt.start h
  have HS := Lib.hid hs; clear hs h
  obtain ⟨N, hN⟩ : ∃ N, (8 - L.length % 8) % 8 = N := ⟨_, rfl⟩
  have hal : alignL L = L ++ List.replicate N false := by unfold alignL; rw [hN]
  rw [hal]
  have HN := Lib.hid hN
  have hN8 : N ≤ 7 := by omega
  clear hN hal
  go_enter Try.func33, Try.ntmps33
  go_wp2_with fail
  go_loopg [] N (fun k wr => ∃ q : Nat, N ≤ q + k ∧ q + k ≤ N ∧ Hid (XSt w base g a L.length c (L ++ List.replicate q false) wr))
  case atStart => exact ⟨0, by omega, by omega, by simpa using HS⟩
  case round =>
    obtain ⟨q, hk1, hk2, HP⟩ := hrel
    obtain ⟨a1, c1, hx, hf, hr⟩ := HP.out
    have h0 : wr.cell? ⟨g, 0, none⟩ = some (.slice a1 (L ++ List.replicate q false).length c1) := blk_cell hx.1 0
    have hgl := blk_lt hx.1
    have hO := hx.2.1
    have hsz := hf.size
    have hps : L ++ List.replicate (q + 1) false = (L ++ List.replicate q false) ++ [false] := by rw [List.replicate_succ']; simp
    have hpl : (L ++ List.replicate q false).length = L.length + q := by simp
    have HX := Lib.hid (And.intro hx (And.intro hf (And.intro hr (And.intro hps hpl))))
    have hle : (L ++ List.replicate q false).length ≤ 1099511627792 := by omega
    have t1 : q < N → (((L ++ List.replicate q false).length : Int) % 8 != 0) = true := fun hlt => by have := HN.out; rw [bne_iff_ne]; omega
    have t2 : ¬ q < N → (((L ++ List.replicate q false).length : Int) % 8 != 0) = false := fun hlt => by have := HN.out; rw [bne_eq_false_iff_eq]; omega
    clear hx hr hps hpl
    by_cases hlt : q < N
    · have t1 := t1 hlt
      clear t2
      generalize L ++ List.replicate q false = L' at *
      go_wp2_with (at_builtin; refine wpList_appG 58 4 (.bool false) 1 Try.underlying58 bool_info rfl rfl (.tmp 13) (.tmp 14) rfl base (.slice a1 L'.length c1) L'.length (L'.map Value.bool) rfl (hO.alloc _) (some ⟨wr.heap.size, 0, none⟩) 1 1 [.bool false] rfl rfl (src_one wr _ _) (by intro u hu; simp at hu; subst hu; rfl) (fun h => by cases h) (by simp only [maxLen]; omega) (by omega) (by simp; omega) ?_; intro v2 w2 hown2 hg2 hw2; obtain ⟨a2, c2, rfl⟩ := own_shape hown2; have hh2 := (hg2.block g (by simp; omega) (fun e => HX.out.1.2.2 e.symm)).trans ((Below.heap_alloc wr _ g hgl).trans HX.out.1.1); have h20 : w2.cell? ⟨g, 0, none⟩ = some (.slice a1 L'.length c1) := blk_cell hh2 0; have f20 := blk_free hh2 0; have HH2 := Lib.hid hh2; clear hh2)
      obtain ⟨hx, hf, hr, hps, hpl⟩ := HX.out
      have hnew := XSt.snoc hx hf hr (by simpa using hown2) hg2 hw2
      go_roundg (gk - 1)
      case measure => omega
      case rel => exact ⟨q + 1, by omega, by omega, Lib.hid (by rw [hps]; exact hnew)⟩
    · have t2 := t2 hlt
      clear t1
      have hqN : L ++ List.replicate N false = L ++ List.replicate q false := by rw [show q = N by omega]
      have HQ := Lib.hid hqN
      clear hqN
      generalize L ++ List.replicate q false = L' at *
      go_wp2_with fail
      go_end0
      exact ⟨rfl, by rw [HQ.out]; exact HP.out⟩
set_option maxRecDepth 100000 in
set_option maxHeartbeats 1000000 in
theorem xrAdd {w : World} {base g : Nat} {a : Option Addr} {c : Nat} {L : List Bool} (h : Wx w base g a c L) (hm : L.length + 8 * 1000 ≤ 1099511627776 - 8) (hbase : base ≤ w.heap.size)
    (A : Option Addr) (m cm : Nat) (b : List Int) (hb : b.length = m) (hbm : m ≤ 1000) (hB : ∀ w', Foot (WF g a L.length c) w w' → Bs w' w'.heap.size A b) :
    Calls Try.prog 35 #[.pointer (some ⟨g, 0, none⟩), .slice A m cm] w fun e w' => e = .returned (.tuple #[]) ∧ XSt w base g a L.length c (addL (alignL L) b) w' := by
  subst hb
  have hbb := (hB w (Foot.refl _ _)).1
  have HAL := Lib.hid (xrAlign h (by omega) hbase)
  have hal := alignL_len L
  have hall : (alignL L).length ≤ L.length + 7 := by omega
  clear h hal
  go_enter Try.func35, Try.ntmps35
  go_wp2_with fail
  refine HAL.out.mono ?_
  rintro e w1 ⟨rfl, hs1⟩
  have HS := Lib.hid hs1
  clear hs1
  go_wp2_with fail
  go_loopw [4] (fun i wr => ∃ k : Nat, k ≤ b.length ∧ i = .int .i64 k ∧ Hid (XSt w base g a L.length c (addL (alignL L) (b.take k)) wr)) (fun i _ => (b.length - intOf i).toNat)
  case atStart => exact ⟨0, by omega, rfl, by simpa [addL] using HS⟩
  case round =>
    obtain ⟨k, hk, rfl, HP⟩ := hrel
    obtain ⟨a1, c1, hx, hf, hr⟩ := HP.out
    have hsz := hf.size
    by_cases hlt : k < b.length
    · obtain ⟨bb, off, rfl, hbl, hc⟩ := (hB wr hf).at_ hlt
      have hv := hbb.at_ k
      have hs : addL (alignL L) (b.take (k + 1)) = putL (addL (alignL L) (b.take k)) 8 (b.getD k 0) := by rw [take_succ' b k hlt, addL_snoc]
      have hlen := addL_len (b.take k) (alignL L)
      rw [List.length_take, Nat.min_eq_left hk] at hlen
      have HP2 := Lib.hid (xrPut hx (by omega) (by omega) 8 (by omega) (b.getD k 0) (by omega))
      have HX := Lib.hid (And.intro hs (And.intro hx (And.intro hf hr)))
      clear hs hlen hx hf hr
      generalize b.getD k 0 = x at *
      go_wp2_with fail
      refine HP2.out.mono ?_
      rintro e w2 ⟨rfl, hs2⟩
      have hnew := XSt.trans HX.out.2.2.1 HX.out.2.2.2 hs2
      have HW := Lib.hid hnew
      clear hs2 hnew
      go_wp2_with fail
      go_roundw
      case rel => exact ⟨k + 1, by omega, by go_num, Lib.hid (by rw [HX.out.1]; exact HW.out)⟩
      case measure => simp [intOf]; omega
    · obtain rfl : k = b.length := by omega
      clear hx hf hr
      go_wp2_with fail
      go_end0
      exact ⟨rfl, by have := HP.out; rwa [List.take_length] at this⟩

theorem pkB_snoc (M : List Bool) (x : Bool) (m s : Nat) (hM : M.length = 8 * m + s) (hs : s ≤ 7) (q : Nat) : pkB (M ++ [x]) q = if q = m then pkB M m + (if x then 2 ^ s else 0) else pkB M q := by
  obtain ⟨v, hv, hx⟩ : ∃ v : Int, M ++ [x] = putL M 1 v ∧ v % 2 = if x then 1 else 0 := by
    refine ⟨if x then 1 else 0, ?_, by cases x <;> rfl⟩
    cases x <;> simp [putL, bitAt]
  rw [hv]
  by_cases h : q = m
  · subst h
    rw [if_pos rfl, ← rest_mod, putL_rest M 1 v q s hM hs (by omega), ← pkB_last M q s hM hs]
    have e : (2 : Int) ^ 1 = 2 := by decide
    rw [e, hx]
    have hb := pkB_bd M q
    have hps := pow_mono2 hs
    have e7 : (2 : Int) ^ 7 = 128 := by decide
    have hlast : 0 ≤ pkB M q ∧ pkB M q < 2 ^ s := by rw [pkB_last M q s hM hs]; exact bsum_bound (fun i => bitL_bd _ _) s
    cases x
    · simp; omega
    · simp; omega
  · rw [if_neg h]
    by_cases h2 : q < m
    · exact putL_same M 1 v q (by omega)
    · rw [pkB_out M q (by omega), pkB_out _ q (by rw [putL_len]; omega)]
theorem list_of_cells {cs : Array Value} {L : List Bool} (hs : cs.size = (L.length + 7) / 8) (h : ∀ q, q < (L.length + 7) / 8 → cs[q]? = some (.int .u8 (pkB L q))) : cs.toList = (pk L).map (Value.int .u8) :=
  list_of_get (by simp [hs, pk_len]) (fun i hi => by
    rw [List.length_map, pk_len] at hi
    rw [h i hi]; simp [pk, hi])
set_option maxRecDepth 100000 in
set_option maxHeartbeats 1000000 in
theorem xrBytes {w : World} {base g : Nat} {a : Option Addr} {c : Nat} {L : List Bool} (h : Wx w base g a c L) (hm : L.length ≤ 1099511627776) :
    Calls Try.prog 38 #[.pointer (some ⟨g, 0, none⟩)] w (Made w (pk L)) := by
  obtain ⟨N, hN⟩ : ∃ N, (L.length + 7) / 8 = N := ⟨_, rfl⟩
  have i0 : ((L.length : Int) + 7) / 8 = (N : Int) := by omega
  have hN2 : L.length ≤ 8 * N := by omega
  have hNb : N ≤ 1099511627776 := by omega
  have hmk := fun W => run_make_row' (P := Try.prog) 22 5 (.int .u8 0) 1 Try.underlying22 u8_info rfl .i64 .i64 N (by omega) (by omega) W
  have h0 : w.cell? ⟨g, 0, none⟩ = some (.slice a L.length c) := blk_cell h.1 0
  have hgl := blk_lt h.1
  have HH := Lib.hid h; clear h
  have HN := Lib.hid hN; clear hN
  go_enter Try.func38, Try.ntmps38
  go_wp2_with fail
  clear hmk i0
  go_loopw [4] (fun i wr => ∃ k : Nat, ∃ cs : Array Value, k ≤ L.length ∧ i = .int .i64 k ∧ Hid (wr.heap[w.heap.size]? = some (.cells cs 5 (0, 0)) ∧ cs.size = N ∧ (∀ q, q < N → cs[q]? = some (.int .u8 (pkB (L.take k) q)))) ∧ Below w.heap.size w wr) (fun i _ => (L.length - intOf i).toNat)
  case atStart => exact ⟨0, _, Nat.zero_le _, rfl, Lib.hid ⟨heap_alloc_new w _, made_size _ _, fun q hq => by rw [pkB_out _ _ (by simp)]; simp [madeCells, hq, Nat.mod_one]⟩, (Below.refl _ _).alloc (Nat.le_refl _) _⟩
  case round =>
    obtain ⟨k, cs, hk, rfl, HC, hbel⟩ := hrel
    have hx := HH.out.keep (w' := wr) (fun i hi => by
      rcases hi with rfl | hi
      · exact hbel.block _ hgl
      · exact hbel.block _ (HH.out.2.1.lt i hi).2)
    have g0 : wr.cell? ⟨g, 0, none⟩ = some (.slice a L.length c) := blk_cell hx.1 0
    by_cases hlt : k < L.length
    · obtain ⟨b, cap, hvb, hbb, hbl⟩ := hx.2.1.form (by omega)
      have ha2 : a = some ⟨b, 0, none⟩ := by injection hvb
      subst ha2
      have hbit : wr.cell? ⟨b, k, none⟩ = some (.bool (L.getD k false)) := by
        rw [hx.2.1.cellAt k (by omega), List.getElem?_map, List.getD_eq_getElem?_getD, List.getElem?_eq_getElem hlt]; rfl
      obtain ⟨m, s, hks, hs7⟩ : ∃ m s : Nat, k = 8 * m + s ∧ s ≤ 7 := ⟨k / 8, k % 8, by omega, by omega⟩
      have hmN : m < N := by omega
      have hsn := pkB_snoc (L.take k) (L.getD k false) m s (by rw [List.length_take]; omega) hs7
      have htk : L.take (k + 1) = L.take k ++ [L.getD k false] := by rw [List.take_succ_eq_append_getElem hlt, List.getD_eq_getElem?_getD, List.getElem?_eq_getElem hlt]; rfl
      have hout : wr.cell? ⟨w.heap.size, m, none⟩ = some (.int .u8 (pkB (L.take k) m)) := by rw [blk_cell HC.out.1]; exact HC.out.2.2 m hmN
      have fout := blk_free HC.out.1 m
      have j1 : (k : Int) / 8 = (m : Int) := by omega
      have j2 : (k : Int) % 8 = (s : Int) := by omega
      have hpb := pkB_bd (L.take k) m
      have hpb2 := pkB_bd (L.take k ++ [L.getD k false]) m
      rw [hsn m, if_pos rfl] at hpb2
      have HX := Lib.hid (And.intro hsn (And.intro htk hks))
      have hps := pow_mono2 hs7
      have hp1 := pow_pos2 s
      have e7 : (2 : Int) ^ 7 = 128 := by decide
      have hps2 : (2 : Int) ^ s ≤ 128 := by omega
      clear hsn htk hks hx hps e7 HH
      generalize L.getD k false = x at *
      cases x with
      | true =>
        simp only [if_true] at hpb2
        generalize pkB (L.take k) m = y at *
        have hu : IntKind.u8.wrap (2 ^ s) = 2 ^ s := IntWalk.u8_in _ (by omega)
        go_wp2_with fail
        have hset := blk_set HC.out.1 m (.int .u8 (y + 2 ^ s))
        go_roundw
        case rel => exact ⟨k + 1, _, by omega, by go_num, Lib.hid ⟨hset, by simpa using HC.out.2.1, fun q hq => by
          rw [HX.out.2.1, HX.out.1 q]
          by_cases hqm : q = m
          · subst hqm; simp [HC.out.2.1, hq]
          · rw [if_neg hqm, Array.getElem?_setIfInBounds_ne (by omega)]; exact HC.out.2.2 q hq⟩, hbel.setCell (Nat.le_refl _) _⟩
        case measure => simp [intOf]; omega
      | false =>
        go_wp2_with fail
        go_roundw
        case rel => exact ⟨k + 1, cs, by omega, by go_num, Lib.hid ⟨HC.out.1, HC.out.2.1, fun q hq => by rw [HX.out.2.1, HX.out.1 q, HC.out.2.2 q hq]; split <;> simp_all⟩, hbel⟩
        case measure => simp [intOf]; omega
    · obtain rfl : k = L.length := by omega
      have hl := list_of_cells (L := L) (by rw [HC.out.2.1, HN.out]) (fun q hq => by have := HC.out.2.2 q (by rw [← HN.out]; exact hq); rwa [List.take_length] at this)
      have hown := own_of_blk (base := w.heap.size) HC.out.1 (Nat.le_refl _) (by simp only [maxLen]; omega) HC.out.2.1 hl
      have hpl : N = (pk L).length := by rw [pk_len, HN.out]
      have HO := Lib.hid (And.intro hown hpl)
      clear hown hl hpl hx
      go_wp2_with fail
      go_ret
      exact ⟨some ⟨w.heap.size, 0, none⟩, N, by rw [← HO.out.2]; rfl, own_cast HO.out.1 HO.out.2 rfl, hbel⟩
end Go.Proofs.Ytfgifimmdkiejaa
