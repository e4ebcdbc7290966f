/- The walk of the law FilesFails: it returns true and turns nothing that was there. No condition but what the words say. -/
import Derived.Test.YtpnnfekfoomgaaaFix8
set_option linter.unusedVariables false
set_option maxRecDepth 100000
namespace Go.Proofs.Ytpnnfekfoomgaaa
open Go.RowKit Go.Maps Go.ChangeMaps Go.WideShapes Go.ChangeAt Go.WideMaps

/-- a row of bools -/
def arrB (n : Nat) (f : Nat → Bool) : Array Value := ((List.range n).map fun i => Value.bool (f i)).toArray
theorem arrB_get (n : Nat) (f : Nat → Bool) {i : Nat} (h : i < n) : (arrB n f)[i]? = some (.bool (f i)) := by simp [arrB, h]
theorem arrB_set (n : Nat) (f : Nat → Bool) (k : Nat) (u : Bool) : (arrB n f).setIfInBounds k (.bool u) = arrB n (fun i => if i = k then u else f i) := by
  apply Array.ext
  · simp [arrB]
  · intro i h1 h2
    simp only [arrB, List.setIfInBounds_toArray, List.getElem_toArray, List.getElem_set, List.getElem_map, List.getElem_range]
    by_cases h : k = i
    · subst h; simp
    · rw [if_neg h, if_neg (fun e => h e.symm)]
theorem arrB_congr {n : Nat} {f f' : Nat → Bool} (h : ∀ i, i < n → f i = f' i) : arrB n f = arrB n f' := by
  unfold arrB
  congr 1
  exact List.map_congr_left fun i hi => by rw [h i (List.mem_range.1 hi)]
/-- files with one file -/
structure FT (w0 w : World) (g : Nat) (rv fv : Option Nat) (n reads : Nat) (kl : Lit) (l : List Int) (v : Value) (fs : Int → Bool) : Prop where
  fs : FS w g rv fv n reads kl (some v) fs
  fil : Fil w w0.heap.size v l
  off : ∀ q, v.ownBlock = some q → ¬ FF g fv q
  low : Below w0.heap.size w0 w
  up : w0.heap.size ≤ g
  upf : ∀ b, fv = some b → w0.heap.size ≤ b
theorem FT.turn {w0 w w' : World} {g : Nat} {rv fv : Option Nat} {n n' reads reads' : Nat} {kl : Lit} {l : List Int} {v : Value} {fs fs' : Int → Bool} (h : FT w0 w g rv fv n reads kl l v fs) (hf : FS w' g rv fv n' reads' kl (some v) fs') (ho : Foot (FF g fv) w w') : FT w0 w' g rv fv n' reads' kl l v fs' :=
  ⟨hf, h.fil.foot ho h.off, h.off, h.low.trans (ho.below (fun i hi hff => by
    rcases hff with e | e
    · have := h.up; omega
    · have := h.upf i e; omega) h.low.size), h.up, h.upf⟩
theorem FT.below {w0 w w' : World} {g : Nat} {rv fv : Option Nat} {n reads : Nat} {kl : Lit} {l : List Int} {v : Value} {fs : Int → Bool} (h : FT w0 w g rv fv n reads kl l v fs) (hb : Below w.heap.size w w') : FT w0 w' g rv fv n reads kl l v fs :=
  ⟨h.fs.keep hb, h.fil.below hb, h.off, below_next h.low (Nat.le_refl _) hb, h.up, h.upf⟩
theorem FT.fail {w0 w w' : World} {g : Nat} {rv fv fv' : Option Nat} {n n' reads reads' : Nat} {kl : Lit} {l : List Int} {v : Value} {fs fs' : Int → Bool} (h : FT w0 w g rv fv n reads kl l v fs) (hf : FS w' g rv fv' n' reads' kl (some v) fs') (ho : Foot (FF g fv) w w') (hn : Newer w fv fv') : FT w0 w' g rv fv' n' reads' kl l v fs' := by
  have hlow : Below w0.heap.size w0 w' := h.low.trans (ho.below (fun i hi hff => by
    rcases hff with e | e
    · have := h.up; omega
    · have := h.upf i e; omega) h.low.size)
  refine ⟨hf, h.fil.foot ho h.off, fun q e hff => ?_, hlow, h.up, fun b e => ?_⟩
  · have hq := (h.fil.lt q e).2
    rcases hff with e1 | e1
    · exact h.off q e (.inl e1)
    · rcases hn with hn | ⟨b, hn, hb⟩
      · rw [hn] at e1; exact h.off q e (.inr e1)
      · rw [hn] at e1; injection e1 with e1; omega
  · rcases hn with hn | ⟨b', hn, hb⟩
    · rw [hn] at e; exact h.upf b e
    · rw [hn] at e; injection e with e; have := h.low.size; omega
theorem FT.stored {w1 W : World} {B K g m2 : Nat} {rv fv2 : Option Nat} {kl : Lit} {l : List Int} {v : Value} {fs2 : Int → Bool} (hT : FT w1 W g rv fv2 m2 0 kl l v fs2) (hBg : B ≠ g) (hf : fv2 ≠ some B) (hrB : rv ≠ some B) (hvB : v.ownBlock ≠ some B) (hBw : w1.heap.size ≤ B) : FT w1 (W.setCell ⟨B, K, none⟩ (.bool true)) g rv fv2 m2 0 kl l v fs2 := by
  have hks : ∀ i, i ≠ B → (W.setCell ⟨B, K, none⟩ (.bool true)).heap[i]? = W.heap[i]? := fun i hi => Below.heap_setCell _ ⟨B, K, none⟩ _ i hi
  have hfo : Foot (fun i => i = B) W (W.setCell ⟨B, K, none⟩ (.bool true)) := (Foot.refl _ _).set (.inl rfl)
  refine ⟨⟨(hks g (fun e => hBg e.symm)).trans hT.fs.blk, ?_, ?_⟩, hT.fil.foot hfo (fun q e1 e2 => hvB (by rw [e1, e2])), hT.off, hT.low.trans (hfo.below (fun i hi e => by omega) hT.low.size), hT.up, hT.upf⟩
  · have h2 := hT.fs.rows
    cases rv with
    | none => exact h2
    | some b => exact ⟨h2.1, h2.2.keep (hks b (fun e => hrB (by rw [e])))⟩
  · have h3 := hT.fs.fails
    cases fv2 with
    | none => exact h3
    | some b => exact ⟨h3.1, h3.2.1, h3.2.2.keep (hks b (fun e => hf (by rw [e])))⟩
theorem arr_told {W : World} {B K k : Nat} {l : List Int} (htk : l.take (k + 1) = l.take k ++ [(K : Int)]) (hW : W.heap[B]? = some (.cells (arrB 300 fun j => decide ((j : Int) ∈ l.take k)) 35 (0, 0))) :
    (∀ j : Nat, decide ((j : Int) ∈ l.take (k + 1)) = (if j = K then true else decide ((j : Int) ∈ l.take k))) ∧ (W.setCell ⟨B, K, none⟩ (.bool true)).heap[B]? = some (.cells (arrB 300 fun j => decide ((j : Int) ∈ l.take (k + 1))) 35 (0, 0)) := by
  have hmem : ∀ j : Nat, decide ((j : Int) ∈ l.take (k + 1)) = (if j = K then true else decide ((j : Int) ∈ l.take k)) := fun j => by
    rw [htk]
    by_cases hj : j = K
    · subst hj; simp
    · rw [if_neg hj]
      have : ¬ (j : Int) = (K : Int) := by omega
      simp [this]
  refine ⟨hmem, ?_⟩
  rw [blk_set hW K (.bool true), arrB_set]
  congr 2
  exact arrB_congr fun j hj => by rw [hmem]
theorem name_x : nameB ⟨#[120]⟩ = true := by kernel_rfl
theorem key_x : keyOf Try.prog 9 (.string ⟨#[120]⟩) = some (.string [120]) := keyOf_string_mk Try.underlying9 (by decide)
theorem zeroB (w : World) : (zeroValue 35).run Try.prog w = .ok (.agg (arrB 300 fun _ => false)) w := by kernel_rfl
/-- what stands at the beginning of the second part: the files, and the row of those that are to fail -/
def Told (w0 wr : World) (B g : Nat) (S : List Int) (i : Nat) : Prop := ∃ rv fv n v fs, n ≤ 100 ∧ FT w0 wr g rv fv n (i - 1) (.string [120]) [7] v fs ∧ (∀ j : Nat, i ≤ j → fs j = decide ((j : Int) ∈ S)) ∧ B ≠ g ∧ fv ≠ some B ∧ w0.heap.size ≤ B ∧ wr.heap[B]? = some (.cells (arrB 300 fun j => decide ((j : Int) ∈ S)) 35 (0, 0))

set_option maxHeartbeats 8000000 in
theorem filesfails_walk (w : World) (a : Option Addr) (n c : Nat) (l : List Int) (hl : l.length = n) (hb : Bs w w.heap.size a l) (N : Nat) (hN : N ≤ 255) :
    Calls Try.prog 4 #[.slice a n c, .int .u8 N] w fun e w' => e = .returned (.bool true) ∧ Below w.heap.size w w' := by
  have hfx := fixed8 w
  have H0 := Lib.hid hb
  clear hb
  go_enter Try.func4, Try.ntmps4
  go_wp2_with fail
  refine hfx.mono ?_
  rintro e w1 ⟨rfl, hb1⟩
  have H1 := Lib.hid hb1
  clear hfx hb1
  have hnew := filesNew w1 (.string [120])
  go_wp2_with fail
  refine hnew.mono ?_
  rintro e w2 ⟨rfl, hb2, hs2, hS2⟩
  obtain ⟨g, hg⟩ : ∃ g, w1.heap.size = g := ⟨_, rfl⟩
  rw [hg] at hS2 ⊢
  have hb3 := (Below.refl w2.heap.size w2).alloc (Nat.le_refl _) (.cells #[.int .u8 7] 5)
  have hput := filesPut (hS2.keep hb3) ⟨#[120]⟩ name_x key_x (by trivial) (by decide) (some ⟨w2.heap.size, 0, none⟩) 1 1 [7] rfl (by decide) (lit_bs w2 5 [7] (bytes_of' rfl)) (by intro _ x e; injection e with e; subst e; simp; omega)
  have H2 := Lib.hid (below_next hb2 (Nat.le_refl _) hb3)
  have hgl : g < w2.heap.size := by omega
  clear hnew hb2 hs2 hS2 hb3
  go_wp2_with fail
  refine hput.mono ?_
  rintro e w3 ⟨rfl, rv, a3, c3, hS3, hF3, hn3, ho3⟩
  clear hput
  have hz2 : (w2.alloc (.cells #[.int .u8 7] 5)).heap.size = w2.heap.size + 1 := by simp
  rw [hz2] at ho3
  have hs31 := hF3.size
  rw [hz2] at hs31
  have hnf : ∀ i, i < w1.heap.size → ¬ FF g none i := fun i hi hff => by
    rcases hff with e1 | e1
    · omega
    · cases e1
  have T3 : FT w1 w3 g rv none 1 0 (.string [120]) [7] (.slice a3 1 c3) (fun _ => false) := by
    refine ⟨hS3, ⟨a3, c3, rfl, own_base ho3 (by omega), bytes_of' rfl⟩, fun q e hff => ?_, H2.out.trans (hF3.below hnf (by rw [hz2]; omega)), by omega, fun b e => ?_⟩
    · have := (ho3.lt q e).1
      rcases hff with e1 | e1
      · omega
      · cases e1
    · cases e
  have hrv3 : rv ≠ some w3.heap.size := by
    intro e
    subst e
    have := T3.fs.rows.2.lt
    omega
  have hvo3 : (Value.slice a3 1 c3).ownBlock ≠ some w3.heap.size := fun e => by have := (T3.fil.lt _ e).2; omega
  have HRV := Lib.hid (And.intro hrv3 hvo3)
  have hz := zeroB
  have hB4 := (Below.refl w3.heap.size w3).alloc (Nat.le_refl _) (.cells (arrB 300 fun _ => false) 35)
  have hn4 := heap_alloc_new w3 (.cells (arrB 300 fun _ => false) 35)
  have H4 := Lib.hid (And.intro (T3.below hB4) hn4)
  clear hS3 hF3 hn3 ho3 T3 H2 hz2 hnf hB4 hn4 hrv3 hvo3
  go_wp2_with fail
  obtain ⟨B, hBe⟩ : ∃ B, w3.heap.size = B := ⟨_, rfl⟩
  rw [hBe] at H4 HRV ⊢
  have hBg : B ≠ g := by omega
  have hBw : w1.heap.size ≤ B := by omega
  clear hBe hz
  generalize (w3.alloc (.cells (arrB 300 fun _ => false) 35)) = w4 at *
  go_loopw [20] (fun iv wr => ∃ (k : Nat) (fv : Option Nat) (m : Nat) (fs : Int → Bool), k ≤ n ∧ k ≤ 20 ∧ iv = .int .i64 k ∧ Hid (m ≤ 1 + k ∧ FT w1 wr g rv fv m 0 (.string [120]) [7] (.slice a3 1 c3) fs ∧ (∀ j : Nat, 1 ≤ j → fs j = decide ((j : Int) ∈ l.take k)) ∧ fv ≠ some B ∧ wr.heap[B]? = some (.cells (arrB 300 fun j => decide ((j : Int) ∈ l.take k)) 35 (0, 0)))) (fun iv _ => n - (intOf iv).toNat)
  case atStart => exact ⟨0, none, 1, fun _ => false, Nat.zero_le _, Nat.zero_le _, rfl, Lib.hid ⟨Nat.le_refl _, H4.out.1, fun j _ => by simp, by simp, by simpa using H4.out.2⟩⟩
  case round =>
    obtain ⟨k, fv, m, fs, hk, hk20, rfl, H⟩ := hrel
    by_cases hlt : k < n
    · obtain ⟨b0, off, rfl, hb0, hcc⟩ := (H0.out.below H1.out).2 (by omega)
      have hbb := H0.out.1.at_ k
      obtain ⟨K, hK⟩ := Int.eq_ofNat_of_zero_le hbb.1
      have hcell : wr.cell? ⟨b0, off + k, none⟩ = some (.int .u8 (K : Int)) := by
        rw [(H.out.2.1.low.cell (p := ⟨b0, off + k, none⟩) (Nat.lt_of_lt_of_le hb0 H1.out.size)), hcc k (by omega), hK]
      have hltd : decide (k < n) = true := by simp; omega
      by_cases h20 : 20 ≤ k
      · obtain ⟨S, hS⟩ : ∃ S, l.take k = S := ⟨_, rfl⟩
        have HT : Hid (Told w1 wr B g S 1) := Lib.hid ⟨rv, fv, m, .slice a3 1 c3, fs, by have := H.out.1; omega, H.out.2.1, by rw [← hS]; exact H.out.2.2.1, hBg, H.out.2.2.2.1, hBw, by rw [← hS]; exact H.out.2.2.2.2⟩
        have h20d : decide ((20 : Int) ≤ (k : Int)) = true := by simp; omega
        clear hS H
        go_wp2_with fail
        rename World => wo
        go_loopw [9] (fun iv wr => ∃ i : Nat, 1 ≤ i ∧ i ≤ N + 1 ∧ iv = .int .i64 i ∧ Hid (Told w1 wr B g S i)) (fun iv _ => N + 1 - (intOf iv).toNat)
        case atStart => exact ⟨1, Nat.le_refl _, by omega, rfl, HT⟩
        case round =>
          obtain ⟨i, hi1, hi2, rfl, HI⟩ := hrel
          obtain ⟨rv', fv', n', v', fs', hn', hT, hfs, hBg, hBf, hBw, hB⟩ := HI.out
          by_cases hle : i ≤ N
          · have hrd := filesRead hT.fs (by omega) ⟨#[120]⟩ key_x [7] hT.fil hT.off (by decide) 0 1 (by decide)
            have hii : ((i - 1 : Nat) : Int) + 1 = (i : Int) := by omega
            obtain ⟨r, hrr⟩ : ∃ r, decide ((i : Int) ∈ S) = r := ⟨_, rfl⟩
            rw [hii, hfs i (Nat.le_refl _), hrr] at hrd
            have hlei : decide ((i : Int) ≤ (N : Int)) = true := by simp; omega
            have HZ := Lib.hid (And.intro hn' (And.intro hT (And.intro hfs (And.intro hBg (And.intro hBf (And.intro hBw (And.intro hB hrr)))))))
            clear hn' hT hfs hBg hBf hBw hB hrr HI
            cases r with
            | true =>
              go_wp2_with fail
              refine hrd.mono ?_
              rintro e w6 ⟨hE, hS6, hF6⟩
              have he := readE_bad hE
              subst he
              have T6 := HZ.out.2.1.turn hS6 hF6
              have hB6 : w6.heap[B]? = some (.cells (arrB 300 fun j => decide ((j : Int) ∈ S)) 35 (0, 0)) := (hF6.block B (blk_lt HZ.out.2.2.2.2.2.2.1) (by rintro (e1 | e1); { exact HZ.out.2.2.2.1 e1 }; { exact HZ.out.2.2.2.2.1 e1 })).trans HZ.out.2.2.2.2.2.2.1
              have d1 : w6.cell? ⟨B, i, none⟩ = some (.bool true) := by rw [blk_cell hB6, arrB_get _ _ (by omega), HZ.out.2.2.2.2.2.2.2]
              have HE : Hid (Told w1 w6 B g S (i + 1)) := Lib.hid ⟨rv', fv', n', v', _, HZ.out.1, by rw [show i + 1 - 1 = i - 1 + 1 by omega]; exact T6, fun j hj => by
                rw [← HZ.out.2.2.1 j (by omega)]
                have hne : decide ((j : Int) = (i : Int)) = false := decide_eq_false (by omega)
                show (!decide ((j : Int) = (i : Int)) && fs' j) = fs' j
                rw [hne]; rfl, HZ.out.2.2.2.1, HZ.out.2.2.2.2.1, HZ.out.2.2.2.2.2.1, hB6⟩
              have hi300 : (i : Int) < 300 := by omega
              clear hrd hE hS6 hF6 T6 hB6
              go_wp2_with fail
              case roundEnd => exact ⟨⟨i + 1, by omega, by omega, by go_num, HE⟩, by simp [intOf]; omega⟩
            | false =>
              go_wp2_with fail
              refine hrd.mono ?_
              rintro e w6 ⟨hE, hS6, hF6⟩
              obtain ⟨u6, rfl, a6, c6, rfl, ho6, _⟩ := readE_ok hE
              have T6 := HZ.out.2.1.turn hS6 hF6
              have hB6 : w6.heap[B]? = some (.cells (arrB 300 fun j => decide ((j : Int) ∈ S)) 35 (0, 0)) := (hF6.block B (blk_lt HZ.out.2.2.2.2.2.2.1) (by rintro (e1 | e1); { exact HZ.out.2.2.2.1 e1 }; { exact HZ.out.2.2.2.2.1 e1 })).trans HZ.out.2.2.2.2.2.2.1
              have d1 : w6.cell? ⟨B, i, none⟩ = some (.bool false) := by rw [blk_cell hB6, arrB_get _ _ (by omega), HZ.out.2.2.2.2.2.2.2]
              have ho7 : w6.ownsRow wr.heap.size 5 1 (.slice a6 1 c6) 1 ([7].map (Value.int .u8)) := ho6
              obtain ⟨gq, rfl⟩ : ∃ gq, a6 = some ⟨gq, 0, none⟩ := by
                rcases ho7.2 with ⟨e, hn⟩ | ⟨gq, cap, cur, e, _⟩
                · omega
                · injection e with e1 e2 e3
                  exact ⟨gq, e1⟩
              have d2 : w6.cell? ⟨gq, 0, none⟩ = some (.int .u8 7) := own_byte ho7 (l := [7]) rfl (show 0 < 1 by decide)
              have HE : Hid (Told w1 w6 B g S (i + 1)) := Lib.hid ⟨rv', fv', n', v', _, HZ.out.1, by rw [show i + 1 - 1 = i - 1 + 1 by omega]; exact T6, fun j hj => by
                rw [← HZ.out.2.2.1 j (by omega)]
                have hne : decide ((j : Int) = (i : Int)) = false := decide_eq_false (by omega)
                show (!decide ((j : Int) = (i : Int)) && fs' j) = fs' j
                rw [hne]; rfl, HZ.out.2.2.2.1, HZ.out.2.2.2.2.1, HZ.out.2.2.2.2.2.1, hB6⟩
              have hi300 : (i : Int) < 300 := by omega
              clear hrd hE hS6 hF6 T6 hB6 ho6 ho7
              go_wp2_with fail
              case roundEnd => exact ⟨⟨i + 1, by omega, by omega, by go_num, HE⟩, by simp [intOf]; omega⟩
          · have hlei : decide ((i : Int) ≤ (N : Int)) = false := by simp; omega
            have hrs := filesReads hT.fs
            have hin : i - 1 = N := by omega
            rw [hin] at hrs
            have HE := Lib.hid hT.low
            clear hn' hT hfs hBg hBf hBw hB HI
            go_wp2_with fail
            refine hrs.mono ?_
            rintro e w' ⟨rfl, hw'⟩
            rw [hw']
            clear hw' w' hrs
            go_wp2_with fail
            go_ret
            exact ⟨by simp, below_next H1.out (Nat.le_refl _) HE.out⟩
      · have htk : l.take (k + 1) = l.take k ++ [(K : Int)] := by
          rw [List.take_add_one, List.getElem?_eq_getElem (by omega), ← hK, List.getD_eq_getElem?_getD, List.getElem?_eq_getElem (by omega)]
          rfl
        have hKb : K ≤ 255 := by have := hbb.2; rw [hK] at this; omega
        have HTK := Lib.hid htk
        clear htk
        have hBlt := blk_lt H.out.2.2.2.2
        by_cases hK0 : K = 0
        · have hfl := filesFailBad g 0 (by decide) wr
          obtain ⟨hmem, hset⟩ := arr_told HTK.out H.out.2.2.2.2
          have hst := H.out.2.1.stored (K := K) hBg H.out.2.2.2.1 HRV.out.1 HRV.out.2 hBw
          have d1 : wr.cell? ⟨B, 0, none⟩ = some (.bool (decide (((0 : Nat) : Int) ∈ l.take k))) := by rw [blk_cell H.out.2.2.2.2, arrB_get _ _ (by omega)]
          have d2 := blk_free H.out.2.2.2.2 0
          generalize decide (((0 : Nat) : Int) ∈ l.take k) = d0 at d1
          rw [hK0] at hset hst hcell
          rw [show ((0 : Nat) : Int) = 0 from rfl] at hcell
          have hmem' : ∀ j : Nat, 1 ≤ j → decide ((j : Int) ∈ l.take (k + 1)) = decide ((j : Int) ∈ l.take k) := fun j hj => by rw [hmem, if_neg (by omega)]
          have HZ := Lib.hid (And.intro hset (And.intro hst hmem'))
          clear hset hst hmem hmem' hK hbb hK0 hKb
          go_wp2_with fail
          refine hfl.mono ?_
          rintro e w' ⟨rfl, hw'⟩
          rw [hw']
          clear hw' w' hfl
          go_wp2_with fail
          case roundEnd =>
            refine ⟨⟨k + 1, fv, m, fs, by omega, by omega, by go_num, Lib.hid ⟨by have := H.out.1; omega, HZ.out.2.1, fun j hj => ?_, H.out.2.2.2.1, HZ.out.1⟩⟩, by simp [intOf]; omega⟩
            rw [HZ.out.2.2 j hj]
            exact H.out.2.2.1 j hj
        · have hfl := filesFail H.out.2.1.fs (by decide) (by have := H.out.1; omega) K (by omega)
          have hK1 : ((K : Int) == 0) = false := by simp; omega
          clear hK hbb
          go_wp2_with fail
          refine hfl.mono ?_
          rintro e w6 ⟨rfl, fv2, hS6, hF6, hn6⟩
          have T6 := H.out.2.1.fail hS6 hF6 hn6
          have hB6 : w6.heap[B]? = some (.cells (arrB 300 fun j => decide ((j : Int) ∈ l.take k)) 35 (0, 0)) := (hF6.block B hBlt (by rintro (e1 | e1); { exact hBg e1 }; { exact H.out.2.2.2.1 e1 })).trans H.out.2.2.2.2
          have hf6 : fv2 ≠ some B := by
            rcases hn6 with h | ⟨b, h, hb⟩
            · rw [h]; exact H.out.2.2.2.1
            · rw [h]; intro e; injection e with e; omega
          obtain ⟨hmem, hset⟩ := arr_told HTK.out hB6
          have hst := T6.stored (K := K) hBg hf6 HRV.out.1 HRV.out.2 hBw
          have d1 : w6.cell? ⟨B, K, none⟩ = some (.bool (decide ((K : Int) ∈ l.take k))) := by rw [blk_cell hB6, arrB_get _ _ (by omega)]
          have d2 := blk_free hB6 K
          generalize decide ((K : Int) ∈ l.take k) = d0 at d1
          have hmem' : ∀ j : Nat, 1 ≤ j → (decide ((j : Int) = ((0 + K : Nat) : Int)) || fs j) = decide ((j : Int) ∈ l.take (k + 1)) := fun j hj => by
            rw [hmem, H.out.2.2.1 j hj]
            by_cases hj2 : j = K
            · rw [if_pos hj2, decide_eq_true (by omega)]; rfl
            · rw [if_neg hj2, decide_eq_false (by omega)]; rfl
          have HZ := Lib.hid (And.intro hset (And.intro hst (And.intro hmem' hf6)))
          have hm' : m + 1 ≤ 1 + (k + 1) := by have := H.out.1; omega
          have hK300 : (K : Int) < 300 := by omega
          clear hset hst hmem hmem' hf6 hB6 T6 hS6 hF6 hn6 hfl
          go_wp2_with fail
          case roundEnd => exact ⟨⟨k + 1, fv2, m + 1, _, by omega, by omega, by go_num, Lib.hid ⟨hm', HZ.out.2.1, HZ.out.2.2.1, HZ.out.2.2.2, HZ.out.1⟩⟩, by simp [intOf]; omega⟩
    · obtain ⟨S, hS⟩ : ∃ S, l.take k = S := ⟨_, rfl⟩
      have HT : Hid (Told w1 wr B g S 1) := Lib.hid ⟨rv, fv, m, .slice a3 1 c3, fs, by have := H.out.1; omega, H.out.2.1, by rw [← hS]; exact H.out.2.2.1, hBg, H.out.2.2.2.1, hBw, by rw [← hS]; exact H.out.2.2.2.2⟩
      clear hS H
      go_wp2_with fail
      rename World => wo
      go_loopw [9] (fun iv wr => ∃ i : Nat, 1 ≤ i ∧ i ≤ N + 1 ∧ iv = .int .i64 i ∧ Hid (Told w1 wr B g S i)) (fun iv _ => N + 1 - (intOf iv).toNat)
      case atStart => exact ⟨1, Nat.le_refl _, by omega, rfl, HT⟩
      case round =>
        obtain ⟨i, hi1, hi2, rfl, HI⟩ := hrel
        obtain ⟨rv', fv', n', v', fs', hn', hT, hfs, hBg, hBf, hBw, hB⟩ := HI.out
        by_cases hle : i ≤ N
        · have hrd := filesRead hT.fs (by omega) ⟨#[120]⟩ key_x [7] hT.fil hT.off (by decide) 0 1 (by decide)
          have hii : ((i - 1 : Nat) : Int) + 1 = (i : Int) := by omega
          obtain ⟨r, hrr⟩ : ∃ r, decide ((i : Int) ∈ S) = r := ⟨_, rfl⟩
          rw [hii, hfs i (Nat.le_refl _), hrr] at hrd
          have hlei : decide ((i : Int) ≤ (N : Int)) = true := by simp; omega
          have HZ := Lib.hid (And.intro hn' (And.intro hT (And.intro hfs (And.intro hBg (And.intro hBf (And.intro hBw (And.intro hB hrr)))))))
          clear hn' hT hfs hBg hBf hBw hB hrr HI
          cases r with
          | true =>
            go_wp2_with fail
            refine hrd.mono ?_
            rintro e w6 ⟨hE, hS6, hF6⟩
            have he := readE_bad hE
            subst he
            have T6 := HZ.out.2.1.turn hS6 hF6
            have hB6 : w6.heap[B]? = some (.cells (arrB 300 fun j => decide ((j : Int) ∈ S)) 35 (0, 0)) := (hF6.block B (blk_lt HZ.out.2.2.2.2.2.2.1) (by rintro (e1 | e1); { exact HZ.out.2.2.2.1 e1 }; { exact HZ.out.2.2.2.2.1 e1 })).trans HZ.out.2.2.2.2.2.2.1
            have d1 : w6.cell? ⟨B, i, none⟩ = some (.bool true) := by rw [blk_cell hB6, arrB_get _ _ (by omega), HZ.out.2.2.2.2.2.2.2]
            have HE : Hid (Told w1 w6 B g S (i + 1)) := Lib.hid ⟨rv', fv', n', v', _, HZ.out.1, by rw [show i + 1 - 1 = i - 1 + 1 by omega]; exact T6, fun j hj => by
              rw [← HZ.out.2.2.1 j (by omega)]
              have hne : decide ((j : Int) = (i : Int)) = false := decide_eq_false (by omega)
              show (!decide ((j : Int) = (i : Int)) && fs' j) = fs' j
              rw [hne]; rfl, HZ.out.2.2.2.1, HZ.out.2.2.2.2.1, HZ.out.2.2.2.2.2.1, hB6⟩
            have hi300 : (i : Int) < 300 := by omega
            clear hrd hE hS6 hF6 T6 hB6
            go_wp2_with fail
            case roundEnd => exact ⟨⟨i + 1, by omega, by omega, by go_num, HE⟩, by simp [intOf]; omega⟩
          | false =>
            go_wp2_with fail
            refine hrd.mono ?_
            rintro e w6 ⟨hE, hS6, hF6⟩
            obtain ⟨u6, rfl, a6, c6, rfl, ho6, _⟩ := readE_ok hE
            have T6 := HZ.out.2.1.turn hS6 hF6
            have hB6 : w6.heap[B]? = some (.cells (arrB 300 fun j => decide ((j : Int) ∈ S)) 35 (0, 0)) := (hF6.block B (blk_lt HZ.out.2.2.2.2.2.2.1) (by rintro (e1 | e1); { exact HZ.out.2.2.2.1 e1 }; { exact HZ.out.2.2.2.2.1 e1 })).trans HZ.out.2.2.2.2.2.2.1
            have d1 : w6.cell? ⟨B, i, none⟩ = some (.bool false) := by rw [blk_cell hB6, arrB_get _ _ (by omega), HZ.out.2.2.2.2.2.2.2]
            have ho7 : w6.ownsRow wr.heap.size 5 1 (.slice a6 1 c6) 1 ([7].map (Value.int .u8)) := ho6
            obtain ⟨gq, rfl⟩ : ∃ gq, a6 = some ⟨gq, 0, none⟩ := by
              rcases ho7.2 with ⟨e, hn⟩ | ⟨gq, cap, cur, e, _⟩
              · omega
              · injection e with e1 e2 e3
                exact ⟨gq, e1⟩
            have d2 : w6.cell? ⟨gq, 0, none⟩ = some (.int .u8 7) := own_byte ho7 (l := [7]) rfl (show 0 < 1 by decide)
            have HE : Hid (Told w1 w6 B g S (i + 1)) := Lib.hid ⟨rv', fv', n', v', _, HZ.out.1, by rw [show i + 1 - 1 = i - 1 + 1 by omega]; exact T6, fun j hj => by
              rw [← HZ.out.2.2.1 j (by omega)]
              have hne : decide ((j : Int) = (i : Int)) = false := decide_eq_false (by omega)
              show (!decide ((j : Int) = (i : Int)) && fs' j) = fs' j
              rw [hne]; rfl, HZ.out.2.2.2.1, HZ.out.2.2.2.2.1, HZ.out.2.2.2.2.2.1, hB6⟩
            have hi300 : (i : Int) < 300 := by omega
            clear hrd hE hS6 hF6 T6 hB6 ho6 ho7
            go_wp2_with fail
            case roundEnd => exact ⟨⟨i + 1, by omega, by omega, by go_num, HE⟩, by simp [intOf]; omega⟩
        · have hlei : decide ((i : Int) ≤ (N : Int)) = false := by simp; omega
          have hrs := filesReads hT.fs
          have hin : i - 1 = N := by omega
          rw [hin] at hrs
          have HE := Lib.hid hT.low
          clear hn' hT hfs hBg hBf hBw hB HI
          go_wp2_with fail
          refine hrs.mono ?_
          rintro e w' ⟨rfl, hw'⟩
          rw [hw']
          clear hw' w' hrs
          go_wp2_with fail
          go_ret
          exact ⟨by simp, below_next H1.out (Nat.le_refl _) HE.out⟩
end Go.Proofs.Ytpnnfekfoomgaaa
