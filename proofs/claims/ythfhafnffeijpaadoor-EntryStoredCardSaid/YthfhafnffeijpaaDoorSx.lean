/- What the writer of package bits does where it lies within a squeezer: contracts of its calls. Condition: the numbers fit their kinds, the bits are fewer than 2^40. Words put one behind the other, the highest bit of each first, as bits; that they are read again. Condition: the symbols have words. The squeezer in memory: where its writer, its codes, its bytes and its map lie; contract of word. Condition: the symbol has a word; the bits are fewer than 2^39. What squeeze's spread answers: the symbol of a number, and how many of its lowest bits are told. Condition: the number lies below 65536. Contracts of the squeezer's length and back: what bits they lay. Condition: the bits are fewer than 2^39. -/
import Derived.Test.YthfhafnffeijpaaDoorBitK
import Derived.Test.YthfhafnffeijpaaDoorRd
import Derived.Deep.DeepCutAuto
import Derived.Deep.LoopGhost
import Derived.Test.YthfhafnffeijpaaDoorPp
import Derived.Test.YthfhafnffeijpaaDoorPr
import Derived.Test.YthfhafnffeijpaaDoorIe
import Derived.Test.YthfhafnffeijpaaDoorIa
set_option linter.unusedVariables false
set_option maxRecDepth 100000
namespace Go.Proofs.YthfhafnffeijpaaDoor
open Go.RowKit

/-- block g is a writer whose bytes lie in a row l of its own, and that counts k bits -/
def Wt (w : World) (base g : Nat) (x0 y1 y2 y3 : Value) (a : Option Addr) (c : Nat) (l : List Int) (k : Nat) : Prop :=
  w.heap[g]? = some (.cells #[x0, .slice a l.length c, .int .i64 (k : Int), y1, y2, y3] 57 (0, 0)) ∧ w.ownsRow base 5 1 (.slice a l.length c) l.length (l.map (Value.int .u8)) ∧ (Value.slice a l.length c).ownBlock ≠ some g
/-- a writer's blocks -/
def WF (g : Nat) (a : Option Addr) (n c : Nat) : Nat → Prop := fun i => i = g ∨ (Value.slice a n c).ownBlock = some i
theorem own_keep {w w' : World} {base : Nat} {t : TypeId} {v : Value} {n k : Nat} {xs : List Value} (h : w.ownsRow base t k v n xs) (hs : ∀ i, v.ownBlock = some i → w'.heap[i]? = w.heap[i]?) : w'.ownsRow base t k v n xs := by
  refine ⟨h.1, ?_⟩
  rcases h.2 with h2 | ⟨g, cap, cur, h1, h2, h3, h4⟩
  · exact .inl h2
  · exact .inr ⟨g, cap, cur, h1, h2, (hs g (by rw [h1]; rfl)).trans h3, h4⟩
theorem own_block_lt {w : World} {base : Nat} {t : TypeId} {v : Value} {n k : Nat} {xs : List Value} (h : w.ownsRow base t k v n xs) {i : Nat} (hi : v.ownBlock = some i) : base ≤ i ∧ i < w.heap.size := h.lt i hi
theorem Wt.keep {w w' : World} {base g : Nat} {x0 y1 y2 y3 : Value} {a : Option Addr} {c : Nat} {l : List Int} {k : Nat} (h : Wt w base g x0 y1 y2 y3 a c l k) (hs : ∀ i, WF g a l.length c i → w'.heap[i]? = w.heap[i]?) : Wt w' base g x0 y1 y2 y3 a c l k :=
  ⟨(hs g (.inl rfl)).trans h.1, own_keep h.2.1 (fun i hi => hs i (.inr hi)), h.2.2⟩
theorem Wt.below {w w' : World} {base g : Nat} {x0 y1 y2 y3 : Value} {a : Option Addr} {c : Nat} {l : List Int} {k : Nat} (h : Wt w base g x0 y1 y2 y3 a c l k) (hb : Below w.heap.size w w') : Wt w' base g x0 y1 y2 y3 a c l k :=
  h.keep fun i hi => by
    rcases hi with rfl | hi
    · exact hb.block _ (blk_lt h.1)
    · exact hb.block _ (h.2.1.lt i hi).2

theorem wrBytes {w : World} {base g : Nat} {x0 y1 y2 y3 : Value} {a : Option Addr} {c : Nat} {l : List Int} {k : Nat} (h : Wt w base g x0 y1 y2 y3 a c l k) (hl : Bytes l) (hm : l.length ≤ 140737488355328) :
    Calls Tryd.prog 37 #[.pointer (some ⟨g, 1, none⟩)] w (Made w l) := by
  have h0 : w.cell? ⟨g, 1, none⟩ = some (.slice a l.length c) := blk_cell h.1 1
  have HC := Lib.hid (clone_any a l.length c l rfl hm w (Bs.of_own h.2.1 hl))
  clear h
  go_enter Tryd.func37, Tryd.ntmps37
  go_wp2_with fail
  refine HC.out.mono ?_
  rintro e w' ⟨a2, c2, rfl, ho, hb⟩
  have HO := Lib.hid (And.intro ho hb); clear ho hb
  go_wp2_with fail
  go_ret
  exact ⟨a2, c2, rfl, HO.out.1, HO.out.2⟩
theorem put_wide (v : Int) (n s : Nat) (hn : n ≤ 16) (hs : s ≤ 7) : IntKind.u64.wrap (bits .and .u64 (IntKind.u64.wrap v) (IntKind.u64.wrap (IntKind.u64.wrap (2 ^ n) - 1)) * 2 ^ s) = v % 2 ^ n * 2 ^ s ∧ 0 ≤ v % 2 ^ n * 2 ^ s ∧ v % 2 ^ n * 2 ^ s < 8388608 := by
  have h1 := pow_mono2 hn
  have h1s := pow_mono2 hs
  have e16 : (2 : Int) ^ 16 = 65536 := by decide
  have e7 : (2 : Int) ^ 7 = 128 := by decide
  have hp := pow_pos2 n
  have hps := pow_pos2 s
  have h2 : IntKind.u64.wrap (2 ^ n) = 2 ^ n := IntWalk.u64_in _ (by omega)
  have h3 : IntKind.u64.wrap ((2 : Int) ^ n - 1) = 2 ^ n - 1 := IntWalk.u64_in _ (by omega)
  have hd : (2 : Int) ^ n ∣ 18446744073709551616 := ⟨2 ^ (64 - n), by rw [← Int.pow_add, show n + (64 - n) = 64 by omega]; rfl⟩
  rw [h2, h3, u64_wrap v, and_mask _ n hn (by omega), Int.emod_emod_of_dvd v hd]
  have hlt := Int.emod_lt_of_pos v hp
  have hge := Int.emod_nonneg v (b := (2 : Int) ^ n) (by omega)
  generalize v % 2 ^ n = x at *
  have k0 : 0 ≤ x * 2 ^ s := Int.mul_nonneg hge (by omega)
  have k1 : x * 2 ^ s ≤ 65535 * 2 ^ s := Int.mul_le_mul_of_nonneg_right (by omega) (by omega)
  exact ⟨IntWalk.u64_in _ (by omega), k0, by omega⟩
theorem bs_one (w : World) (x : Int) (hx : 0 ≤ x ∧ x ≤ 255) (t : TypeId) : Bs (w.alloc (.cells #[.int .u8 x] t)) (w.heap.size + 1) (some ⟨w.heap.size, 0, none⟩) [x] := by
  refine ⟨Bytes.one hx, fun hn => ⟨w.heap.size, 0, rfl, by omega, fun i hi => ?_⟩⟩
  have hi0 : i = 0 := by simpa using hi
  subst hi0
  rw [blk_cell (heap_alloc_new w _)]; rfl
/-- on the way through a Put: m bytes are laid -/
def PutSt (w : World) (base g : Nat) (x0 y1 y2 y3 : Value) (a : Option Addr) (c : Nat) (L L' : List Bool) (m : Nat) (a1 : Option Addr) (c1 : Nat) (wr : World) : Prop :=
  wr.heap[g]? = some (.cells #[x0, .slice a1 m c1, .int .i64 L'.length, y1, y2, y3] 57 (0, 0)) ∧ wr.ownsRow base 5 1 (.slice a1 m c1) m (((pk L').take m).map (Value.int .u8)) ∧ (Value.slice a1 m c1).ownBlock ≠ some g ∧
  Foot (WF g a (pk L).length c) w wr ∧ (∀ i, (Value.slice a1 m c1).ownBlock = some i → (Value.slice a (pk L).length c).ownBlock = some i ∨ w.heap.size ≤ i)
set_option maxRecDepth 100000 in
set_option maxHeartbeats 2000000 in
theorem wrPut {w : World} {base g : Nat} {x0 y1 y2 y3 : Value} {a : Option Addr} {c : Nat} {L : List Bool} (h : Wt w base g x0 y1 y2 y3 a c (pk L) L.length) (hm : L.length ≤ 1099511627776) (hbase : base ≤ w.heap.size)
    (n : Nat) (hn : n ≤ 16) (v : Int) (hv : -9223372036854775808 ≤ v ∧ v ≤ 9223372036854775807) :
    Calls Tryd.prog 34 #[.pointer (some ⟨g, 1, none⟩), .int .i64 n, .int .i64 v] w fun e w' => e = .returned (.int .i64 0) ∧ ∃ a' c', Wt w' base g x0 y1 y2 y3 a' c' (pk (putL L n v)) (putL L n v).length ∧ Foot (WF g a (pk L).length c) w w' ∧ (∀ i, (Value.slice a' (pk (putL L n v)).length c').ownBlock = some i → (Value.slice a (pk L).length c).ownBlock = some i ∨ w.heap.size ≤ i) := by
  have hw : isW (n : Int) = true := by unfold isW; simp; omega
  have hwd := fun W => bitWidth (n : Int) W
  rw [hw] at hwd
  have HW := Lib.hid hwd; clear hw hwd
  obtain ⟨hh, ho, hne⟩ := h
  have h0 : w.cell? ⟨g, 1, none⟩ = some (.slice a (pk L).length c) := blk_cell hh 1
  have h1 : w.cell? ⟨g, 2, none⟩ = some (.int .i64 L.length) := blk_cell hh 2
  have f0 := blk_free hh 1
  have f1 := blk_free hh 2
  have hglt := blk_lt hh
  have HH := Lib.hid (And.intro hh (And.intro ho hne))
  clear hh ho hne
  obtain ⟨m0, s, hs, hs7⟩ : ∃ m0 s : Nat, L.length = 8 * m0 + s ∧ s ≤ 7 := ⟨L.length / 8, L.length % 8, by omega, by omega⟩
  have i1 : (L.length : Int) % 8 = (s : Int) := by omega
  have hL' := putL_len L n v
  have hrs := putL_rest L n v m0 s hs hs7 hn
  have hlast := pkB_last L m0 s hs hs7
  have hxb := bsum_bound (f := fun i => bitL L (8 * m0 + i)) (fun i => bitL_bd _ _) s
  have hpl := pk_len L
  have hpl' := pk_len (putL L n v)
  obtain ⟨hwd, hv0, hv1⟩ := put_wide v n s hn hs7
  have HWD := Lib.hid hwd
  have HALL := Lib.hid (And.intro hs (And.intro hL' (And.intro hrs (And.intro hlast (And.intro hpl hpl')))))
  have hvn : 0 ≤ v % 2 ^ n := Int.emod_nonneg v (by have := pow_pos2 n; omega)
  clear hs hL' hrs hlast hpl hpl' hwd
  go_enter Tryd.func34, Tryd.ntmps34
  go_wp2_with fail
  refine (HW.out _).mono ?_
  rintro e w' ⟨rfl, rfl⟩
  go_upto_region 6 with (fail)
  rw [HWD.out, i1]
  obtain ⟨V, hV⟩ : ∃ V, v % 2 ^ n * 2 ^ s = V := ⟨_, rfl⟩
  rw [hV] at hv0 hv1 ⊢
  have HV := Lib.hid hV; clear hV
  go_upto_if 38 with (fail)
  go_cut [8] (fun v8 wr => ∃ (m : Nat) (a1 : Option Addr) (c1 : Nat), v8 = .int .u64 (rest (putL L n v) m) ∧ m ≤ ((putL L n v).length + 7) / 8 ∧ (putL L n v).length ≤ 8 * m + 24 ∧ PutSt w base g x0 y1 y2 y3 a c L (putL L n v) m a1 c1 wr)
  case first =>
    have HALL' := HALL.out
    obtain ⟨hs, hL', hrs, hlast, hpl, hpl'⟩ := HALL'
    have hfoot1 : Foot (WF g a (pk L).length c) w (w.setCell ⟨g, 2, none⟩ (.int .i64 ((L.length : Int) + n))) := (Foot.refl _ _).set (.inl (.inl rfl))
    have hset1 := blk_set HH.out.1 2 (.int .i64 ((L.length : Int) + n))
    have hrow1 := own_other HH.out.2.1 HH.out.2.2 2 (.int .i64 ((L.length : Int) + n))
    have hcast : ((putL L n v).length : Int) = (L.length : Int) + n := by omega
    rcases Nat.eq_zero_or_pos s with rfl | hs0
    · have hw0 : V = rest (putL L n v) m0 := by
        rw [hrs, HV.out]; simp [bsum]
      have htk : (pk (putL L n v)).take (pk L).length = pk L := by
        have hm0 : (pk L).length = m0 := by omega
        rw [hm0]
        have e1 := pk_take L (putL L n v) m0 (by omega) (by omega) (fun q hq => (putL_same L n v q (by omega)).symm)
        rw [← e1, pk_all L m0 (by omega)]
      have HX := Lib.hid (And.intro hw0 (And.intro htk (And.intro hfoot1 (And.intro hset1 (And.intro hrow1 (And.intro hcast (And.intro hs (And.intro hL' hpl))))))))
      clear hw0 htk hs hL' hrs hlast hpl hpl' hfoot1 hset1 hrow1 hcast i1
      go_wp2_with fail
      go_meet
      obtain ⟨hw0, htk, hfoot1, hset1, hrow1, hcast, hs, hL', hpl⟩ := HX.out
      have hm0 : (pk L).length = m0 := by omega
      refine ⟨(pk L).length, a, c, by rw [hw0, hm0], by omega, by omega, ?_, ?_, HH.out.2.2, hfoot1, fun i hi => .inl hi⟩
      · rw [hcast]; simpa using hset1
      · rw [htk]; exact hrow1
    · have hx : 0 ≤ pkB L m0 ∧ pkB L m0 < 2 ^ s := by rw [hlast]; exact hxb
      have hpm : (pk L).length = m0 + 1 := by omega
      have hrest : rest (putL L n v) m0 = pkB L m0 + V := by rw [hrs, hlast, HV.out]
      have hy : bits .or .u8 (pkB L m0) (V % 256) = rest (putL L n v) m0 % 256 := by
        rw [hrest, ← HV.out]; exact or_u8 _ _ s hs7 hx hvn
      have hv8 : V / 256 = rest (putL L n v) (m0 + 1) := by
        rw [← rest_div _ m0 (by omega), hrest, ← HV.out, div_apart _ _ s hs7 hx]
      have hset : (pk L).set m0 (rest (putL L n v) m0 % 256) = (pk (putL L n v)).take (m0 + 1) := by
        rw [pk_succ _ _ (by omega)]
        have e1 := pk_take L (putL L n v) m0 (by omega) (by omega) (fun q hq => (putL_same L n v q (by omega)).symm)
        have e2 : pk L = (pk L).take m0 ++ [(pk L).getD m0 0] := by rw [← take_succ' _ _ (by omega), ← hpm, List.take_length]
        rw [← e1]
        conv => lhs; rw [e2]
        rw [List.set_append_right _ _ (by simp; omega)]
        have e3 : m0 - ((pk L).take m0).length = 0 := by simp; omega
        rw [e3]; rfl
      obtain ⟨b, cap, hvb, hbb, hbl⟩ := HH.out.2.1.form (by omega)
      have ha2 : a = some ⟨b, 0, none⟩ := by injection hvb
      subst ha2
      obtain ⟨wa, hwa⟩ : ∃ wa, w.setCell ⟨g, 2, none⟩ (.int .i64 ((L.length : Int) + n)) = wa := ⟨_, rfl⟩
      rw [hwa] at hfoot1 hset1 hrow1 ⊢
      have kb := own_byte hrow1 (k := m0) rfl (by omega)
      rw [pk_getD] at kb
      have fb : wa.frozen? ⟨b, m0, none⟩ = false := hrow1.frozenAt _
      have k0 : wa.cell? ⟨g, 1, none⟩ = some (.slice (some ⟨b, 0, none⟩) (pk L).length c) := by rw [blk_cell hset1]; rfl
      have hput := own_put hrow1 m0 (rest (putL L n v) m0 % 256)
      rw [hset] at hput
      have hnb : ¬ b = g := fun e => HH.out.2.2 (by rw [← e]; rfl)
      have hhg : (wa.setCell ⟨b, m0, none⟩ (.int .u8 (rest (putL L n v) m0 % 256))).heap[g]? = some (.cells #[x0, .slice (some ⟨b, 0, none⟩) (pk L).length c, .int .i64 ((L.length : Int) + n), y1, y2, y3] 57 (0, 0)) :=
        (Below.heap_setCell wa ⟨b, m0, none⟩ _ g (fun e => hnb e.symm)).trans (by simpa using hset1)
      have HX := Lib.hid (And.intro hput (And.intro hhg (And.intro hfoot1 (And.intro hcast (And.intro hs (And.intro hL' (And.intro hpm (And.intro hv8 hpl'))))))))
      have hmk : (m0 : Int) < (pk L).length := by omega
      have hi5 : ((pk L).length : Int) - 1 = (m0 : Int) := by omega
      have hxb8 := pkB_bd L m0
      have hm0b : m0 ≤ 1099511627776 := by omega
      clear hput hhg hfoot1 hcast hs hL' hpm hv8 hpl hpl' hset hrest hset1 hrow1 hwa hrs hlast hx hvb HWD h0 h1 f0 f1 i1
      generalize rest (putL L n v) m0 % 256 = y at *
      generalize pkB L m0 = x at *
      have hd : decide (0 < (s : Int)) = true := by simp; omega
      have hy2 : bits .or .u8 x (IntKind.u8.wrap V) = y := by rw [u8_wrap']; exact hy
      have hi6 : IntKind.i64.wrap (m0 : Int) = m0 := IntWalk.i64_in _ (by omega)
      have hi7 : (0 : Int) ≤ (m0 : Int) := by omega
      go_wp2_with fail
      go_region
      go_wp2_with fail
      go_meet
      obtain ⟨hput, hhg, hfoot1, hcast, hs, hL', hpm, hv8, hpl'⟩ := HX.out
      refine ⟨m0 + 1, some ⟨b, 0, none⟩, c, by rw [hv8], by omega, by omega, ?_, ?_, ?_, ?_, ?_⟩
      · rw [hcast, ← hpm]; exact hhg
      · rw [← hpm] at hput ⊢; exact hput
      · rw [← hpm]; exact HH.out.2.2
      · exact (hfoot1.drewN 1).set (.inl (.inr rfl))
      · rw [← hpm]; exact fun i hi => .inl hi
  case rest =>
    obtain ⟨m, a1, c1, rfl, hm1, hm2, hst⟩ := hcut
    have HP := Lib.hid hst
    clear hst
    have hL2 := HALL.out.2.1
    have hcast : ((putL L n v).length : Int) = (L.length : Int) + n := by omega
    have hLb : (putL L n v).length ≤ 1099511627792 := by omega
    have hpl' := HALL.out.2.2.2.2.2
    have hLn : L.length ≤ (putL L n v).length := by omega
    clear HWD HV hL2 hcast h0 h1 f0 f1 i1 hxb hvn
    generalize hLD : putL L n v = L' at *
    have HLD := Lib.hid hLD; clear hLD
    have HALL2 := HALL
    clear HALL HH
    obtain ⟨N, hN⟩ : ∃ N, (L'.length + 7) / 8 = N := ⟨_, rfl⟩
    rw [hN] at hm1 hpl'
    have hN1 : 8 * N ≤ L'.length + 7 := by omega
    have hN2 : L'.length ≤ 8 * N := by omega
    have HPL := Lib.hid hpl'; clear hpl' hN
    go_wp2_with fail
    go_loopg [8] (N - m) (fun k v8 wr => ∃ (m : Nat) (a1 : Option Addr) (c1 : Nat), N ≤ m + k ∧ m + k ≤ N ∧ v8 = .int .u64 (rest L' m) ∧ L'.length ≤ 8 * m + 24 ∧ Hid (PutSt w base g x0 y1 y2 y3 a c L L' m a1 c1 wr))
    case atStart => exact ⟨m, a1, c1, by omega, by omega, rfl, hm2, HP⟩
    case round =>
      clear hm1 hm2 HP m a1 c1
      obtain ⟨m, a1, c1, hk1, hk2, rfl, hm2, HP⟩ := hrel
      have hh := HP.out.1
      have h0 : wr.cell? ⟨g, 1, none⟩ = some (.slice a1 m c1) := blk_cell hh 1
      have h1 : wr.cell? ⟨g, 2, none⟩ = some (.int .i64 L'.length) := blk_cell hh 2
      have f0 := blk_free hh 1
      have hgl := blk_lt hh
      have i2 : IntKind.i64.wrap (8 * (m : Int)) = 8 * (m : Int) := IntWalk.i64_in _ (by omega)
      have hsz := HP.out.2.2.2.1.size
      clear hh
      by_cases hlt : 8 * m < L'.length
      · have hd : decide (8 * (m : Int) < L'.length) = true := by simp; omega
        have hrb := rest_bd L' m
        have hrm := rest_mod L' m
        have hrd := rest_div L' m hm2
        have hks := pk_succ L' m hlt
        have hbase2 : base ≤ wr.heap.size := by omega
        have HR := Lib.hid (And.intro hrm (And.intro hrd hks))
        clear hrm hrd hks
        generalize rest L' m = v8 at *
        have hO := HP.out.2.1
        have hNE := Lib.hid HP.out.2.2.1
        have HGB := Lib.hid HP.out.1
        go_wp2_with fail
        go_quiet (fail)
        go_wp2_with (at_builtin; refine wpList_app2 rfl (.tmp 72) (.tmp 75) rfl base (.slice a1 m c1) m ((pk L').take m) rfl ((show (wr.drewN nq).ownsRow base 5 1 (.slice a1 m c1) m (((pk L').take m).map (Value.int .u8)) from hO).alloc _) (wr.heap.size + 1) (some ⟨wr.heap.size, 0, none⟩) 1 1 [v8 % 256] rfl rfl (bs_one (wr.drewN nq) (v8 % 256) (by omega) _) (fun h => by cases h) (by omega) (by simp; omega) ?_; intro v2 w2 hown2 hg2 hw2; obtain ⟨a2, c2, rfl⟩ := own_shape hown2; have hh2 := (hg2.block g (by simp; omega) (fun e => hNE.out e.symm)).trans ((Below.heap_alloc (wr.drewN nq) _ g hgl).trans HGB.out); have h20 : w2.cell? ⟨g, 1, none⟩ = some (.slice a1 m c1) := blk_cell hh2 1; have f20 := blk_free hh2 1; have HH2 := Lib.hid hh2; clear hh2)
        obtain ⟨hrm, hrd, hks⟩ := HR.out
        have hg' : g < ((wr.drewN nq).alloc (.cells #[.int .u8 (v8 % 256)] 5)).heap.size := by simp; omega
        have hne2 : (Value.slice a2 (m + 1) c2).ownBlock ≠ some g := by
          rcases hw2 with q | q
          · rw [q]; exact hNE.out
          · rw [q]; intro e; injection e with e; omega
        have hft : Foot (WF g a (pk L).length c) w w2 := ((HP.out.2.2.2.1.drewN nq).alloc (.cells #[.int .u8 (v8 % 256)] 5)).grown hg2 (fun k hk => by
          rcases HP.out.2.2.2.2 k hk with q | q
          · exact .inl (.inr q)
          · exact .inr q)
        have hrow : ∀ i, (Value.slice a2 (m + 1) c2).ownBlock = some i → (Value.slice a (pk L).length c).ownBlock = some i ∨ w.heap.size ≤ i := fun i hi => by
          rcases hw2 with q | q
          · exact HP.out.2.2.2.2 i (by rw [← q]; exact hi)
          · rw [q] at hi; injection hi with hi; right; simp at hi; omega
        have hset := blk_set HH2.out 1 (.slice a2 (m + 1) c2)
        go_roundg (gk - 1)
        case measure => omega
        case rel => exact ⟨m + 1, a2, c2, by omega, by omega, by rw [hrd], by omega, Lib.hid ⟨by simpa using hset, by rw [hks, hrm, ← hrm]; exact own_other hown2 hne2 _ _, hne2, hft.set (.inl (.inl rfl)), hrow⟩⟩
      · have hd : decide (8 * (m : Int) < L'.length) = false := by simp; omega
        have hk : N ≤ m := by omega
        go_wp2_with fail
        go_quiet (fail)
        go_wp2_with fail
        go_ret
        have hN3 : m = N := by omega
        have hall : (pk L').take m = pk L' := List.take_of_length_le (by rw [HPL.out]; omega)
        obtain ⟨q1, q2, q3, q4, q5⟩ := HP.out
        rw [hall] at q2
        have hpm : (pk L').length = m := by rw [HPL.out, hN3]
        rw [HLD.out]
        refine ⟨rfl, a1, c1, ⟨by rw [hpm]; exact q1, by rw [hpm]; exact q2, by rw [hpm]; exact q3⟩, q4.drewN _, by rw [hpm]; exact q5⟩

end Go.Proofs.YthfhafnffeijpaaDoor

set_option linter.unusedVariables false
set_option maxRecDepth 100000
namespace Go.Proofs.YthfhafnffeijpaaDoor
open Go.RowKit

/-- the first m bits of a word of n bits, the highest first -/
def wbits (v n m : Nat) : List Bool := (List.range m).map fun j => decide (bitAt (v : Int) (n - 1 - j) = 1)
theorem wbits_len (v n m : Nat) : (wbits v n m).length = m := by simp [wbits]
theorem bitAt_shift (v : Int) (k : Nat) : bitAt (v / 2 ^ k) 0 = bitAt v k := by simp [bitAt]
theorem put_word (L : List Bool) (v n m : Nat) : putL (L ++ wbits v n m) 1 ((v : Int) / 2 ^ (n - 1 - m)) = L ++ wbits v n (m + 1) := by
  unfold putL wbits
  rw [List.range_succ, List.map_append, ← List.append_assoc]
  simp [List.range_succ, bitAt_shift]
theorem wbits_bit (v n : Nat) {j : Nat} (hj : j < n) : bitL (wbits v n n) j = bitAt (v : Int) (n - 1 - j) := by
  unfold bitL wbits
  have h := bitAt_bd (v : Int) (n - 1 - j)
  simp only [List.getD_eq_getElem?_getD, List.getElem?_map, List.getElem?_range hj, Option.map_some, Option.getD_some, decide_eq_true_eq]
  by_cases e : bitAt (v : Int) (n - 1 - j) = 1
  · rw [if_pos e, e]
  · rw [if_neg e]; omega
theorem bitL_mid (A W C : List Bool) {j : Nat} (hj : j < W.length) : bitL (A ++ W ++ C) (A.length + j) = bitL W j := by
  unfold bitL
  rw [List.getD_eq_getElem?_getD, List.getD_eq_getElem?_getD, List.append_assoc, List.getElem?_append_right (by omega), Nat.add_sub_cancel_left, List.getElem?_append_left hj]
theorem wd_bits (A C : List Bool) (v n : Nat) : ∀ m, m ≤ n → wd (pk (A ++ wbits v n n ++ C)) A.length m = v % 2 ^ n / 2 ^ (n - m)
  | 0, _ => by rw [wd, Nat.sub_zero]; exact (Nat.div_eq_of_lt (Nat.mod_lt _ (Nat.two_pow_pos n))).symm
  | m + 1, h => by
    have ih := wd_bits A C v n m (by omega)
    have hb := bitL_mid A (wbits v n n) C (j := m) (by rw [wbits_len]; omega)
    rw [wbits_bit v n (by omega)] at hb
    rw [wd, ih, bt_pk, hb]
    have e1 : n - m = (n - (m + 1)) + 1 := by omega
    have e2 : n - 1 - m = n - (m + 1) := by omega
    have e3 : (bitAt (v : Int) (n - (m + 1))).toNat = v / 2 ^ (n - (m + 1)) % 2 := by
      unfold bitAt
      rw [pow_cast, ← Int.natCast_ediv]
      omega
    have e4 : v / 2 ^ (n - (m + 1)) % 2 = v % 2 ^ n / 2 ^ (n - (m + 1)) % 2 := by
      have e5 : n = (n - (m + 1)) + (m + 1) := by omega
      have e6 : 2 ^ n = 2 ^ (n - (m + 1)) * 2 ^ (m + 1) := by rw [← Nat.pow_add, ← e5]
      rw [e6, Nat.mod_mul_right_div_self, Nat.pow_succ, Nat.mul_comm (2 ^ m) 2, Nat.mod_mul_right_mod]
    rw [e2, e3, e4, e1, Nat.pow_succ, ← Nat.div_div_eq_div_mul]
    omega
/-- the words of some symbols, one behind the other -/
def codeB (ns : List Nat) (ss : List Nat) : List Bool := ss.flatMap fun s => wbits (pword ns s) (ns.getD s 0) (ns.getD s 0)
theorem codeB_snoc (ns ss : List Nat) (s : Nat) : codeB ns (ss ++ [s]) = codeB ns ss ++ wbits (pword ns s) (ns.getD s 0) (ns.getD s 0) := by simp [codeB]
theorem codeB_len {ns : List Nat} (hall : ∀ n ∈ ns, n ≤ 15) : ∀ ss : List Nat, (codeB ns ss).length ≤ 15 * ss.length
  | [] => by simp [codeB]
  | s :: ss => by
    have ih := codeB_len hall ss
    have h : ns.getD s 0 ≤ 15 := by
      by_cases hs : s < ns.length
      · rw [List.getD_eq_getElem?_getD, List.getElem?_eq_getElem hs]; exact hall _ (List.getElem_mem hs)
      · rw [List.getD_eq_getElem?_getD, List.getElem?_eq_none (by omega)]; decide
    have e : (codeB ns (s :: ss)).length = ns.getD s 0 + (codeB ns ss).length := by simp only [codeB, List.flatMap_cons, List.length_append, wbits_len]
    rw [e, List.length_cons]; omega
theorem next_code {ns ss : List Nat} (hall : ∀ n ∈ ns, n ≤ 15) (hk : kraft ns ≤ 2 ^ 15) (hs : ∀ s ∈ ss, s < ns.length ∧ 1 ≤ ns.getD s 0) {i : Nat} (hi : i < ss.length) :
    nxt ns (pk (codeB ns ss)) (codeB ns (ss.take i)).length = (((ss.getD i 0 : Nat) : Int), 0, (codeB ns (ss.take (i + 1))).length) := by
  have hg : ss.getD i 0 = ss[i] := by rw [List.getD_eq_getElem?_getD, List.getElem?_eq_getElem hi]; rfl
  rw [hg]
  obtain ⟨h1, h2⟩ := hs ss[i] (List.getElem_mem hi)
  have et : ss.take (i + 1) = ss.take i ++ [ss[i]] := List.take_succ_eq_append_getElem hi
  have e : codeB ns ss = codeB ns (ss.take i) ++ wbits (pword ns ss[i]) (ns.getD ss[i] 0) (ns.getD ss[i] 0) ++ codeB ns (ss.drop (i + 1)) := by
    rw [← codeB_snoc, ← et]
    unfold codeB
    rw [← List.flatMap_append, List.take_append_drop]
  have hb := pword_bound hall hk h1 h2
  have hw : wd (pk (codeB ns ss)) (codeB ns (ss.take i)).length (ns.getD ss[i] 0) = pword ns ss[i] := by
    rw [e, wd_bits _ _ _ _ _ (Nat.le_refl _), Nat.sub_self, Nat.pow_zero, Nat.div_one, Nat.mod_eq_of_lt hb]
  have hlen : (codeB ns (ss.take (i + 1))).length = (codeB ns (ss.take i)).length + ns.getD ss[i] 0 := by rw [et, codeB_snoc, List.length_append, wbits_len]
  have hle : (codeB ns (ss.take (i + 1))).length ≤ (codeB ns ss).length := by
    rw [hlen, e, List.length_append, List.length_append, wbits_len]; omega
  rw [hlen]
  exact nxt_word hall h1 h2 hw (by rw [pk_len]; omega)
end Go.Proofs.YthfhafnffeijpaaDoor

set_option linter.unusedVariables false
set_option maxRecDepth 100000
namespace Go.Proofs.YthfhafnffeijpaaDoor
open Go.RowKit Go.Maps Go.ChangeMaps

/-- three bytes, as a key -/
def key3 (x y z : Int) : Value := .agg #[.int .u8 x, .int .u8 y, .int .u8 z]
noncomputable def kl3 (x y z : Int) : Lit := (keyOf Tryd.prog 158 (key3 x y z)).getD (.bool false)
/-- the map reads as this look-up -/
def MapIs3 (D : DataW Unit) (f : Int → Int → Int → Option Nat) : Prop :=
  ∀ x y z, (0 ≤ x ∧ x ≤ 255) → (0 ≤ y ∧ y ≤ 255) → (0 ≤ z ∧ z ≤ 255) → Maps.has D (kl3 x y z) = (f x y z).isSome ∧ ∀ s, f x y z = some s → D.atKey (kl3 x y z) (.lit (.int .i64 0)) = .lit (.int .i64 (s : Int))
theorem key3_keys : WideMaps.KeyLaw Tryd.prog 158 := (deep_law_laid (m := 4) (by kernel_rfl) (by decide) (of_decide_eq_true (by kernel_rfl)) (by kernel_rfl) (by kernel_rfl))
theorem key3_law : Keyed Tryd.prog 158 := Keyed.of_law key3_keys
/-- block mb is a map of at most k keys that reads as f -/
def Mp (w : World) (mb k : Nat) (f : Int → Int → Int → Option Nat) : Prop := ∃ D : DataW Unit, w.ownsMap Tryd.prog 158 (plainElem Tryd.prog 3) mb k D ∧ MapIs3 D f
theorem Mp.blk {w w' : World} {mb k : Nat} {f : Int → Int → Int → Option Nat} (h : Mp w mb k f) (hb : w'.heap[mb]? = w.heap[mb]?) : Mp w' mb k f := by
  obtain ⟨D, h1, h2⟩ := h
  exact ⟨D, ownsMap_blk h1 hb, h2⟩
theorem Mp.lt {w : World} {mb k : Nat} {f : Int → Int → Int → Option Nat} (h : Mp w mb k f) : mb < w.heap.size := by
  obtain ⟨D, ⟨es, cl, h1, _⟩, _⟩ := h
  exact (Array.getElem?_eq_some_iff.1 h1).1
/-- what a squeezer may turn -/
def SF (g mb base : Nat) : Nat → Prop := fun i => i = g ∨ i = mb ∨ base ≤ i
structure SQ (w : World) (low g base mb : Nat) (F : Nat → Prop) (gl gd : Nat) (ab : Option Addr) (cb : Nat) (l : List Int) (k : Nat) (f : Int → Int → Int → Option Nat) (L : List Bool) : Prop where
  wt : ∃ a c, Wt w base g (.slice ab l.length cb) (.pointer (some ⟨gl, 0, none⟩)) (.pointer (some ⟨gd, 0, none⟩)) (.map (some mb)) a c (pk L) L.length
  lit : PC w F gl (nsOf fixL)
  dist : PC w F gd (nsOf fixD)
  map : Mp w mb k f
  bs : Bs w low ab l
  far : ∀ b, F b → b < base ∧ b ≠ g ∧ b ≠ mb
  at_ : low ≤ g ∧ low ≤ mb ∧ g < base ∧ mb < base ∧ mb ≠ g
  bw : base ≤ w.heap.size
section
variable {low g base mb : Nat} {F : Nat → Prop} {gl gd : Nat} {ab : Option Addr} {cb : Nat} {l : List Int} {k : Nat} {f : Int → Int → Int → Option Nat} {L : List Bool} {w : World}
theorem sf_low (h : SQ w low g base mb F gl gd ab cb l k f L) {w' : World} (hf : Foot (SF g mb base) w w') : Below low w w' := hf.below (fun i hi hq => by
  have := h.at_
  rcases hq with e | e | e <;> omega) (by have := h.at_; have := h.bw; omega)
theorem SQ.off (h : SQ w low g base mb F gl gd ab cb l k f L) {b : Nat} (hb : F b) : ¬ SF g mb base b := fun hq => by
  obtain ⟨h1, h2, h3⟩ := h.far b hb
  rcases hq with e | e | e <;> omega
/-- the writer has laid more -/
theorem SQ.put (h : SQ w low g base mb F gl gd ab cb l k f L) {w' : World} {a c a' c'} {L' : List Bool} (hw : Wt w base g (.slice ab l.length cb) (.pointer (some ⟨gl, 0, none⟩)) (.pointer (some ⟨gd, 0, none⟩)) (.map (some mb)) a c (pk L) L.length)
    (hw' : Wt w' base g (.slice ab l.length cb) (.pointer (some ⟨gl, 0, none⟩)) (.pointer (some ⟨gd, 0, none⟩)) (.map (some mb)) a' c' (pk L') L'.length) (hf : Foot (WF g a (pk L).length c) w w') :
    SQ w' low g base mb F gl gd ab cb l k f L' ∧ Foot (SF g mb base) w w' := by
  have hfs : Foot (SF g mb base) w w' := hf.more fun i _ hq => by
    rcases hq with e | e
    · exact .inl e
    · exact .inr (.inr (hw.2.1.lt i e).1)
  refine ⟨⟨⟨a', c', hw'⟩, h.lit.keep fun b hb => hfs.block b ?_ (h.off hb), h.dist.keep fun b hb => hfs.block b ?_ (h.off hb), h.map.blk (hf.block mb h.map.lt fun hq => ?_), h.bs.below (sf_low h hfs), h.far, h.at_, Nat.le_trans h.bw hf.size⟩, hfs⟩
  · have := (h.far b hb).1; have := h.bw; omega
  · have := (h.far b hb).1; have := h.bw; omega
  · rcases hq with e | e
    · exact h.at_.2.2.2.2 e
    · have := (hw.2.1.lt mb e).1; have := h.at_.2.2.2.1; omega
theorem SQ.below (h : SQ w low g base mb F gl gd ab cb l k f L) {w' : World} (hb : Below w.heap.size w w') : SQ w' low g base mb F gl gd ab cb l k f L := by
  obtain ⟨a, c, hw⟩ := h.wt
  have := h.bw
  have := h.at_
  exact ⟨⟨a, c, hw.below hb⟩, h.lit.keep fun b hq => hb.block b (by have := (h.far b hq).1; omega), h.dist.keep fun b hq => hb.block b (by have := (h.far b hq).1; omega), h.map.blk (hb.block mb h.map.lt), h.bs.below (hb.mono (by omega)), h.far, h.at_, Nat.le_trans h.bw hb.size⟩
set_option maxHeartbeats 2000000 in
theorem sqWord (h : SQ w low g base mb F gl gd ab cb l k f L) {gc : Nat} {ns : List Nat} (hc : PC w F gc ns) (hl : ns.length ≤ 288) (hall : ∀ n ∈ ns, n ≤ 15) (hk : kraft ns ≤ 2 ^ 15) {S : Nat} (hS : S < ns.length) (h0 : 1 ≤ ns.getD S 0) (hL : L.length ≤ 549755813888) :
    Calls Tryd.prog 36 #[.pointer (some ⟨g, 0, none⟩), .pointer (some ⟨gc, 0, none⟩), .int .i64 S] w fun e w' => e = .returned (.tuple #[]) ∧ SQ w' low g base mb F gl gd ab cb l k f (L ++ wbits (pword ns S) (ns.getD S 0) (ns.getD S 0)) ∧ Foot (SF g mb base) w w' := by
  have hVlt := pword_bound hall hk hS h0
  have hw0 := word_is hc hl (S : Int) (by omega)
  have hwo : wordOf ns (S : Int) = ((pword ns S : Int), ((ns.getD S 0 : Nat) : Int)) := by
    unfold wordOf
    rw [Int.toNat_natCast, if_pos ⟨by omega, by omega, by omega⟩]
  rw [hwo] at hw0
  have hN : ns.getD S 0 ≤ 15 := by
    rw [List.getD_eq_getElem?_getD, List.getElem?_eq_getElem hS]; exact hall _ (List.getElem_mem hS)
  clear hwo hall hk hc hS
  generalize ns.getD S 0 = N at *
  generalize pword ns S = V at *
  have H := Lib.hid h
  have HV := Lib.hid hVlt
  have hV2 : V < 32768 := by
    obtain ⟨T, _, T2, _, T4⟩ := pow_small hN
    omega
  clear h hVlt
  go_enter Tryd.func36, Tryd.ntmps36
  go_wp2_with fail
  refine hw0.mono ?_
  rintro e w1 ⟨rfl, hb1⟩
  have H1 : Hid (SQ w1 low g base mb F gl gd ab cb l k f (L ++ wbits V N 0) ∧ Foot (SF g mb base) w w1) := Lib.hid ⟨by simpa [wbits] using H.out.below hb1, Foot.of_below hb1⟩
  clear hw0 hb1 H
  go_wp2_with fail
  go_loopw [8] (fun v8 wr => ∃ m : Nat, m ≤ N ∧ v8 = .int .i64 ((N : Int) - 1 - m) ∧ Hid (SQ wr low g base mb F gl gd ab cb l k f (L ++ wbits V N m) ∧ Foot (SF g mb base) w wr)) (fun v8 _ => (intOf v8 + 1).toNat)
  case atStart => exact ⟨0, Nat.zero_le _, by congr 1; omega, H1⟩
  case round =>
    clear H1
    obtain ⟨m, hmN, rfl, HQ⟩ := hrel
    by_cases hml : m < N
    · have j1 : (N : Int) - 1 - m ≥ 0 := by omega
      obtain ⟨kk, hkk⟩ : ∃ kk : Nat, (N : Int) - 1 - m = kk := ⟨N - 1 - m, by omega⟩
      obtain ⟨T, T1, T2, T3, T4⟩ := pow_small (show kk ≤ 15 by omega)
      have hdr : Below wr.heap.size wr wr.drew := ⟨rfl, rfl, rfl, Nat.le_refl _, fun _ _ => rfl⟩
      have hSd := HQ.out.1.below hdr
      have hFd := HQ.out.2.trans2 (Foot.of_below (F := fun _ => False) hdr) (fun i hi => hi.elim)
      obtain ⟨a, c, hwt⟩ := hSd.wt
      have hput := wrPut hwt (by rw [List.length_append, wbits_len]; omega) hSd.bw 1 (by decide) ((V : Int) / 2 ^ (N - 1 - m)) (by
        rw [(by omega : N - 1 - m = kk), T1]
        have h0 : 0 ≤ (V : Int) / (T : Int) := Int.ediv_nonneg (by omega) (by omega)
        have h1 : (V : Int) / (T : Int) ≤ V := Int.ediv_le_self _ (by omega)
        omega)
      rw [put_word, (by omega : N - 1 - m = kk), T1, show ((1 : Nat) : Int) = 1 from rfl] at hput
      have HKK := Lib.hid hkk
      have hsh : (V : Int) / 2 ^ min (IntKind.u64.wrap (kk : Int)).toNat 64 = (V : Int) / (T : Int) := by
        rw [IntWalk.u64_in _ (by omega), Int.toNat_natCast, Nat.min_eq_left (by omega), T1]
      have hk0 : kk + m + 1 = N := by omega
      have HWT := Lib.hid (And.intro hwt (And.intro hSd hFd))
      rw [hkk]
      clear hkk T2 hwt hSd hFd hdr HQ
      go_wp2_with fail
      go_region_held3 (fun _ => True) (first | exact trivial | go_keep) ((go_at_call 34; (with_reducible refine hput.mono ?_); rintro e w7 ⟨rfl, a7, c7, hw7, hf7, hl7⟩))
      have H7 := Lib.hid (HWT.out.2.1.put HWT.out.1 hw7 hf7)
      have HF7 := Lib.hid (HWT.out.2.2.trans H7.out.2)
      clear hput hw7 hf7 hl7
      go_wp2_with fail
      go_roundw
      case rel => exact ⟨m + 1, by omega, by congr 1; omega, Lib.hid ⟨H7.out.1, HF7.out⟩⟩
      case measure => simp [intOf]
    · obtain rfl : N = m := by omega
      have j1 : ¬ ((N : Int) - 1 - N ≥ 0) := by omega
      go_wp2_with fail
      go_end0
      exact ⟨rfl, HQ.out⟩
end
end Go.Proofs.YthfhafnffeijpaaDoor

set_option linter.unusedVariables false
set_option maxRecDepth 100000
namespace Go.Proofs.YthfhafnffeijpaaDoor
open Go.RowKit

/-- of a number its group -/
def grp (u : Nat) : Nat := if u = 0 then 0 else Nat.log2 u + 1
theorem grp_lt {u k : Nat} (h : k < grp u) : 1 ≤ u / 2 ^ k := by
  unfold grp at h
  by_cases hu : u = 0
  · rw [if_pos hu] at h; omega
  · rw [if_neg hu] at h
    have h1 : 2 ^ k ≤ 2 ^ Nat.log2 u := Nat.pow_le_pow_right (by decide) (by omega)
    have h2 := Nat.log2_self_le hu
    exact (Nat.le_div_iff_mul_le (Nat.two_pow_pos k)).2 (by omega)
theorem grp_end (u : Nat) : u / 2 ^ grp u = 0 := by
  unfold grp
  by_cases hu : u = 0
  · rw [if_pos hu, hu]
  · rw [if_neg hu]; exact Nat.div_eq_of_lt Nat.lt_log2_self
theorem grp_le {u n : Nat} (h : u < 2 ^ n) : grp u ≤ n := by
  by_cases hc : grp u ≤ n
  · exact hc
  · have := grp_lt (u := u) (k := n) (by omega)
    rw [Nat.div_eq_of_lt h] at this
    omega
/-- the symbol of a number, and its width -/
def sprS (v size : Nat) : Nat × Nat := if grp (v / 2 ^ size) = 0 then (v, 0) else (2 ^ size * grp (v / 2 ^ size) + v / 2 ^ (grp (v / 2 ^ size) - 1) % 2 ^ size, grp (v / 2 ^ size) - 1)
theorem and_one64 (x : Nat) (h : x < 65536) : bits .and .i64 (x : Int) 1 = ((x % 2 ^ 1 : Nat) : Int) := by
  have h1 : (BitVec.ofInt 64 (x : Int)).toNat = x := by rw [BitVec.ofInt_natCast, BitVec.toNat_ofNat]; exact Nat.mod_eq_of_lt (by omega)
  show IntKind.i64.wrap (((BitVec.ofInt 64 (x : Int) &&& BitVec.ofInt 64 1).toNat : Nat) : Int) = _
  rw [BitVec.toNat_and, h1, show (BitVec.ofInt 64 1).toNat = 2 ^ 1 - 1 from rfl, Nat.and_two_pow_sub_one_eq_mod, IntWalk.i64_in] <;> omega
theorem and_three64 (x : Nat) (h : x < 65536) : bits .and .i64 (x : Int) 3 = ((x % 2 ^ 2 : Nat) : Int) := by
  have h1 : (BitVec.ofInt 64 (x : Int)).toNat = x := by rw [BitVec.ofInt_natCast, BitVec.toNat_ofNat]; exact Nat.mod_eq_of_lt (by omega)
  show IntKind.i64.wrap (((BitVec.ofInt 64 (x : Int) &&& BitVec.ofInt 64 3).toNat : Nat) : Int) = _
  rw [BitVec.toNat_and, h1, show (BitVec.ofInt 64 3).toNat = 2 ^ 2 - 1 from rfl, Nat.and_two_pow_sub_one_eq_mod, IntWalk.i64_in] <;> omega
theorem spread_2 (v : Nat) (hv : v < 65536) (w : World) : Calls Tryd.prog 100 #[.int .i64 v, .int .i64 2] w fun e w' => e = .returned (.tuple #[.int .i64 ((sprS v 2).1 : Nat), .int .i64 ((sprS v 2).2 : Nat)]) ∧ Below w.heap.size w w' := by
  obtain ⟨u, hu⟩ : ∃ u, v / 2 ^ 2 = u := ⟨_, rfl⟩
  obtain ⟨G, hG⟩ : ∃ G, grp u = G := ⟨_, rfl⟩
  have hsp : sprS v 2 = if G = 0 then (v, 0) else (2 ^ 2 * G + v / 2 ^ (G - 1) % 2 ^ 2, G - 1) := by unfold sprS; rw [hu, hG]
  obtain ⟨R1, hR1⟩ : ∃ R1, (sprS v 2).1 = R1 := ⟨_, rfl⟩
  obtain ⟨R2, hR2⟩ : ∃ R2, (sprS v 2).2 = R2 := ⟨_, rfl⟩
  rw [hR1, hR2]
  have hRR : (R1, R2) = if G = 0 then (v, 0) else (2 ^ 2 * G + v / 2 ^ (G - 1) % 2 ^ 2, G - 1) := by rw [← hsp, ← hR1, ← hR2]
  have hlt : ∀ k, k < G → 1 ≤ u / 2 ^ k := fun k hk => grp_lt (by omega)
  have hend : u / 2 ^ G = 0 := by rw [← hG]; exact grp_end u
  have hG16 : G ≤ 15 := by rw [← hG]; exact grp_le (by omega)
  have hui : (v : Int) / 4 = (u : Int) := by omega
  have hul : u < 65536 := by omega
  have HSP := Lib.hid (And.intro hlt (And.intro hend hRR))
  clear hu hG hsp hlt hend hR1 hR2 hRR
  go_enter Tryd.func100, Tryd.ntmps100
  go_wp2_with fail
  go_loopw [6] (fun i wr => ∃ k : Nat, k ≤ G ∧ i = .int .i64 k ∧ wr = w) (fun i _ => G - (intOf i).toNat)
  case atStart => exact ⟨0, Nat.zero_le _, rfl, rfl⟩
  case round =>
    obtain ⟨k, hk, rfl, rfl⟩ := hrel
    obtain ⟨T, T1, T2, T3, T4⟩ := pow_small (show k ≤ 15 by omega)
    obtain ⟨y, hy⟩ : ∃ y, u / 2 ^ k = y := ⟨_, rfl⟩
    have hsh : (u : Int) / 2 ^ k = (y : Int) := by
      rw [T1, ← hy, T2, Int.natCast_ediv]
    have hyl : y ≤ 65536 := by rw [← hy]; exact Nat.le_trans (Nat.div_le_self _ _) (by omega)
    have hk0 : (0 : Int) ≤ (k : Int) := by omega
    by_cases hkG : k < G
    · have hy1 : 1 ≤ y := by rw [← hy]; exact HSP.out.1 k hkG
      clear hy T1 T2 T3 T4
      go_wp2_with fail
      exact ⟨⟨k + 1, by omega, by go_num, trivial⟩, by simp [intOf]; omega⟩
    · obtain rfl : G = k := by omega
      have hy0 : y = 0 := by rw [← hy]; exact HSP.out.2.1
      subst hy0
      by_cases hG0 : G = 0
      · subst hG0
        have hRR := HSP.out.2.2
        rw [if_pos rfl] at hRR
        injection hRR with e1 e2
        subst e1 e2
        clear hy HSP T1 T2 T3 T4
        go_wp2_with fail
        go_ret2
        exact ⟨rfl, Below.refl _ _⟩
      · obtain ⟨W, rfl⟩ : ∃ W, G = W + 1 := ⟨G - 1, by omega⟩
        obtain ⟨z, hz⟩ : ∃ z, v / 2 ^ W = z := ⟨_, rfl⟩
        have hzl : z < 65536 := by rw [← hz]; exact Nat.lt_of_le_of_lt (Nat.div_le_self _ _) (by omega)
        obtain ⟨U, U1, U2, U3, U4⟩ := pow_small (show W ≤ 15 by omega)
        have hsz : (v : Int) / 2 ^ min (IntKind.u64.wrap (W : Int)).toNat 64 = (z : Int) := by
          rw [IntWalk.u64_in _ (by omega), Int.toNat_natCast, Nat.min_eq_left (by omega), U1, ← hz, U2, Int.natCast_ediv]
        have hsz2 : (v : Int) / 2 ^ W = (z : Int) := by
          rw [U1, ← hz, U2, Int.natCast_ediv]
        have han : bits .and .i64 (z : Int) 3 = ((z % 2 ^ 2 : Nat) : Int) := and_three64 z hzl
        obtain ⟨r, hr⟩ : ∃ r, z % 2 ^ 2 = r := ⟨_, rfl⟩
        have hrl : r < 4 := by omega
        rw [hr] at han
        have hor : bits .or .i64 (((W : Int) + 1) * 4) (r : Int) = ((2 ^ 2 * (W + 1) + r : Nat) : Int) := by
          have := or_i64 (W + 1) r 2 (by omega) (by omega)
          rw [show ((2 ^ 2 * (W + 1) : Nat) : Int) = ((W : Int) + 1) * 4 by omega] at this
          exact this
        have hres : (if W + 1 = 0 then (v, 0) else (2 ^ 2 * (W + 1) + v / 2 ^ (W + 1 - 1) % 2 ^ 2, W + 1 - 1)) = (2 ^ 2 * (W + 1) + r, W) := by
          rw [if_neg (by omega), Nat.add_sub_cancel, hz, hr]
        have hRR := HSP.out.2.2
        rw [hres] at hRR
        injection hRR with e1 e2
        subst e1 e2
        clear hy T1 T2 T3 T4 hz U1 U2 U3 U4 hr hres HSP
        go_wp2_with fail
        go_quiet (fail)
        go_wp2_with fail
        go_ret2
        exact ⟨rfl, low_drewN (Below.refl _ _) _⟩
theorem spread_1 (v : Nat) (hv : v < 65536) (w : World) : Calls Tryd.prog 100 #[.int .i64 v, .int .i64 1] w fun e w' => e = .returned (.tuple #[.int .i64 ((sprS v 1).1 : Nat), .int .i64 ((sprS v 1).2 : Nat)]) ∧ Below w.heap.size w w' := by
  obtain ⟨u, hu⟩ : ∃ u, v / 2 ^ 1 = u := ⟨_, rfl⟩
  obtain ⟨G, hG⟩ : ∃ G, grp u = G := ⟨_, rfl⟩
  have hsp : sprS v 1 = if G = 0 then (v, 0) else (2 ^ 1 * G + v / 2 ^ (G - 1) % 2 ^ 1, G - 1) := by unfold sprS; rw [hu, hG]
  obtain ⟨R1, hR1⟩ : ∃ R1, (sprS v 1).1 = R1 := ⟨_, rfl⟩
  obtain ⟨R2, hR2⟩ : ∃ R2, (sprS v 1).2 = R2 := ⟨_, rfl⟩
  rw [hR1, hR2]
  have hRR : (R1, R2) = if G = 0 then (v, 0) else (2 ^ 1 * G + v / 2 ^ (G - 1) % 2 ^ 1, G - 1) := by rw [← hsp, ← hR1, ← hR2]
  have hlt : ∀ k, k < G → 1 ≤ u / 2 ^ k := fun k hk => grp_lt (by omega)
  have hend : u / 2 ^ G = 0 := by rw [← hG]; exact grp_end u
  have hG16 : G ≤ 15 := by rw [← hG]; exact grp_le (by omega)
  have hui : (v : Int) / 2 = (u : Int) := by omega
  have hul : u < 65536 := by omega
  have HSP := Lib.hid (And.intro hlt (And.intro hend hRR))
  clear hu hG hsp hlt hend hR1 hR2 hRR
  go_enter Tryd.func100, Tryd.ntmps100
  go_wp2_with fail
  go_loopw [6] (fun i wr => ∃ k : Nat, k ≤ G ∧ i = .int .i64 k ∧ wr = w) (fun i _ => G - (intOf i).toNat)
  case atStart => exact ⟨0, Nat.zero_le _, rfl, rfl⟩
  case round =>
    obtain ⟨k, hk, rfl, rfl⟩ := hrel
    obtain ⟨T, T1, T2, T3, T4⟩ := pow_small (show k ≤ 15 by omega)
    obtain ⟨y, hy⟩ : ∃ y, u / 2 ^ k = y := ⟨_, rfl⟩
    have hsh : (u : Int) / 2 ^ k = (y : Int) := by
      rw [T1, ← hy, T2, Int.natCast_ediv]
    have hyl : y ≤ 65536 := by rw [← hy]; exact Nat.le_trans (Nat.div_le_self _ _) (by omega)
    have hk0 : (0 : Int) ≤ (k : Int) := by omega
    by_cases hkG : k < G
    · have hy1 : 1 ≤ y := by rw [← hy]; exact HSP.out.1 k hkG
      clear hy T1 T2 T3 T4
      go_wp2_with fail
      exact ⟨⟨k + 1, by omega, by go_num, trivial⟩, by simp [intOf]; omega⟩
    · obtain rfl : G = k := by omega
      have hy0 : y = 0 := by rw [← hy]; exact HSP.out.2.1
      subst hy0
      by_cases hG0 : G = 0
      · subst hG0
        have hRR := HSP.out.2.2
        rw [if_pos rfl] at hRR
        injection hRR with e1 e2
        subst e1 e2
        clear hy HSP T1 T2 T3 T4
        go_wp2_with fail
        go_ret2
        exact ⟨rfl, Below.refl _ _⟩
      · obtain ⟨W, rfl⟩ : ∃ W, G = W + 1 := ⟨G - 1, by omega⟩
        obtain ⟨z, hz⟩ : ∃ z, v / 2 ^ W = z := ⟨_, rfl⟩
        have hzl : z < 65536 := by rw [← hz]; exact Nat.lt_of_le_of_lt (Nat.div_le_self _ _) (by omega)
        obtain ⟨U, U1, U2, U3, U4⟩ := pow_small (show W ≤ 15 by omega)
        have hsz : (v : Int) / 2 ^ min (IntKind.u64.wrap (W : Int)).toNat 64 = (z : Int) := by
          rw [IntWalk.u64_in _ (by omega), Int.toNat_natCast, Nat.min_eq_left (by omega), U1, ← hz, U2, Int.natCast_ediv]
        have hsz2 : (v : Int) / 2 ^ W = (z : Int) := by
          rw [U1, ← hz, U2, Int.natCast_ediv]
        have han : bits .and .i64 (z : Int) 1 = ((z % 2 ^ 1 : Nat) : Int) := and_one64 z hzl
        obtain ⟨r, hr⟩ : ∃ r, z % 2 ^ 1 = r := ⟨_, rfl⟩
        have hrl : r < 2 := by omega
        rw [hr] at han
        have hor : bits .or .i64 (((W : Int) + 1) * 2) (r : Int) = ((2 ^ 1 * (W + 1) + r : Nat) : Int) := by
          have := or_i64 (W + 1) r 1 (by omega) (by omega)
          rw [show ((2 ^ 1 * (W + 1) : Nat) : Int) = ((W : Int) + 1) * 2 by omega] at this
          exact this
        have hres : (if W + 1 = 0 then (v, 0) else (2 ^ 1 * (W + 1) + v / 2 ^ (W + 1 - 1) % 2 ^ 1, W + 1 - 1)) = (2 ^ 1 * (W + 1) + r, W) := by
          rw [if_neg (by omega), Nat.add_sub_cancel, hz, hr]
        have hRR := HSP.out.2.2
        rw [hres] at hRR
        injection hRR with e1 e2
        subst e1 e2
        clear hy T1 T2 T3 T4 hz U1 U2 U3 U4 hr hres HSP
        go_wp2_with fail
        go_quiet (fail)
        go_wp2_with fail
        go_ret2
        exact ⟨rfl, low_drewN (Below.refl _ _) _⟩
end Go.Proofs.YthfhafnffeijpaaDoor

set_option linter.unusedVariables false
set_option maxRecDepth 100000
namespace Go.Proofs.YthfhafnffeijpaaDoor
open Go.RowKit Go.Maps Go.ChangeMaps

theorem sprS_bd {v size n : Nat} (h : v < 2 ^ (size + n)) : (sprS v size).1 < 2 ^ size * (n + 1) ∧ (sprS v size).2 ≤ n - 1 := by
  have hp := Nat.two_pow_pos size
  have hu : v / 2 ^ size < 2 ^ n := (Nat.div_lt_iff_lt_mul hp).2 (by rw [Nat.mul_comm, ← Nat.pow_add]; exact h)
  have hg := grp_le hu
  unfold sprS
  by_cases h0 : grp (v / 2 ^ size) = 0
  · rw [if_pos h0]
    have hz := grp_end (v / 2 ^ size)
    rw [h0, Nat.pow_zero, Nat.div_one] at hz
    have hv : v < 2 ^ size := (Nat.div_eq_zero_iff_lt hp).1 hz
    refine ⟨Nat.lt_of_lt_of_le hv ?_, Nat.zero_le _⟩
    exact Nat.le_mul_of_pos_right _ (by omega)
  · rw [if_neg h0]
    generalize grp (v / 2 ^ size) = G at *
    have hr := Nat.mod_lt (v / 2 ^ (G - 1)) hp
    refine ⟨?_, by show G - 1 ≤ n - 1; omega⟩
    show 2 ^ size * G + v / 2 ^ (G - 1) % 2 ^ size < _
    have h1 : 2 ^ size * (G + 1) ≤ 2 ^ size * (n + 1) := Nat.mul_le_mul_left _ (by omega)
    rw [Nat.mul_add] at h1
    omega
/-- the word of a symbol -/
def wB (ns : List Nat) (s : Nat) : List Bool := wbits (pword ns s) (ns.getD s 0) (ns.getD s 0)
/-- what length lays -/
def lenL (L : List Bool) (n : Nat) : List Bool := if n = 258 then L ++ wB (nsOf fixL) 285 else putL (L ++ wB (nsOf fixL) (257 + (sprS (n - 3) 2).1)) (sprS (n - 3) 2).2 ((n - 3 : Nat) : Int)
/-- what back lays -/
def backL (L : List Bool) (d : Nat) : List Bool := putL (L ++ wB (nsOf fixD) (sprS (d - 1) 1).1) (sprS (d - 1) 1).2 ((d - 1 : Nat) : Int)
theorem fixL_all : ∀ n ∈ nsOf fixL, n ≤ 15 := by decide +kernel
theorem fixD_all : ∀ n ∈ nsOf fixD, n ≤ 15 := by decide +kernel
theorem fixL_kraft : kraft (nsOf fixL) ≤ 2 ^ 15 := by decide +kernel
theorem fixD_kraft : kraft (nsOf fixD) ≤ 2 ^ 15 := by decide +kernel
theorem fixL_len : (nsOf fixL).length = 288 := by decide +kernel
theorem fixD_len : (nsOf fixD).length = 32 := by decide +kernel
theorem fixL_pos : ∀ s, s < 288 → 1 ≤ (nsOf fixL).getD s 0 := by decide +kernel
theorem fixD_pos : ∀ s, s < 32 → 1 ≤ (nsOf fixD).getD s 0 := by decide +kernel
theorem wB_le {ns : List Nat} (hall : ∀ n ∈ ns, n ≤ 15) (s : Nat) : (wB ns s).length ≤ 15 := by
  unfold wB
  rw [wbits_len]
  by_cases hs : s < ns.length
  · rw [List.getD_eq_getElem?_getD, List.getElem?_eq_getElem hs]; exact hall _ (List.getElem_mem hs)
  · rw [List.getD_eq_getElem?_getD, List.getElem?_eq_none (by omega)]; decide
section
variable {low g base mb : Nat} {F : Nat → Prop} {gl gd : Nat} {ab : Option Addr} {cb : Nat} {l : List Int} {k : Nat} {f : Int → Int → Int → Option Nat} {L : List Bool} {w : World}
theorem sqLit (h : SQ w low g base mb F gl gd ab cb l k f L) {S : Nat} (hS : S < 288) (hL : L.length ≤ 549755813888) :
    Calls Tryd.prog 36 #[.pointer (some ⟨g, 0, none⟩), .pointer (some ⟨gl, 0, none⟩), .int .i64 S] w fun e w' => e = .returned (.tuple #[]) ∧ SQ w' low g base mb F gl gd ab cb l k f (L ++ wB (nsOf fixL) S) ∧ Foot (SF g mb base) w w' :=
  sqWord h h.lit (by rw [fixL_len]; decide) fixL_all fixL_kraft (by rw [fixL_len]; exact hS) (fixL_pos S hS) hL
theorem sqDist (h : SQ w low g base mb F gl gd ab cb l k f L) {S : Nat} (hS : S < 32) (hL : L.length ≤ 549755813888) :
    Calls Tryd.prog 36 #[.pointer (some ⟨g, 0, none⟩), .pointer (some ⟨gd, 0, none⟩), .int .i64 S] w fun e w' => e = .returned (.tuple #[]) ∧ SQ w' low g base mb F gl gd ab cb l k f (L ++ wB (nsOf fixD) S) ∧ Foot (SF g mb base) w w' :=
  sqWord h h.dist (by rw [fixD_len]; decide) fixD_all fixD_kraft (by rw [fixD_len]; exact hS) (fixD_pos S hS) hL
/-- a number of some bits is laid -/
theorem sqPut (h : SQ w low g base mb F gl gd ab cb l k f L) (n : Nat) (hn : n ≤ 16) (v : Int) (hv : -9223372036854775808 ≤ v ∧ v ≤ 9223372036854775807) (hL : L.length ≤ 1099511627776) :
    Calls Tryd.prog 34 #[.pointer (some ⟨g, 1, none⟩), .int .i64 n, .int .i64 v] w fun e w' => e = .returned (.int .i64 0) ∧ SQ w' low g base mb F gl gd ab cb l k f (putL L n v) ∧ Foot (SF g mb base) w w' := by
  obtain ⟨a, c, hwt⟩ := h.wt
  refine (wrPut hwt hL h.bw n hn v hv).mono ?_
  rintro e w' ⟨rfl, a', c', h1, h2, h3⟩
  exact ⟨rfl, h.put hwt h1 h2⟩
theorem SQ.c3 (h : SQ w low g base mb F gl gd ab cb l k f L) : w.cell? ⟨g, 3, none⟩ = some (.pointer (some ⟨gl, 0, none⟩)) := by obtain ⟨a, c, hwt⟩ := h.wt; exact blk_cell hwt.1 3
theorem SQ.c4 (h : SQ w low g base mb F gl gd ab cb l k f L) : w.cell? ⟨g, 4, none⟩ = some (.pointer (some ⟨gd, 0, none⟩)) := by obtain ⟨a, c, hwt⟩ := h.wt; exact blk_cell hwt.1 4
theorem SQ.c5 (h : SQ w low g base mb F gl gd ab cb l k f L) : w.cell? ⟨g, 5, none⟩ = some (.map (some mb)) := by obtain ⟨a, c, hwt⟩ := h.wt; exact blk_cell hwt.1 5
theorem SQ.c0 (h : SQ w low g base mb F gl gd ab cb l k f L) : w.cell? ⟨g, 0, none⟩ = some (.slice ab l.length cb) := by obtain ⟨a, c, hwt⟩ := h.wt; exact blk_cell hwt.1 0
theorem sqLength (h : SQ w low g base mb F gl gd ab cb l k f L) (m : Nat) (hm : m ≤ 255) (hL : L.length ≤ 274877906944) :
    Calls Tryd.prog 70 #[.pointer (some ⟨g, 0, none⟩), .int .i64 ((m : Int) + 3)] w fun e w' => e = .returned (.tuple #[]) ∧ SQ w' low g base mb F gl gd ab cb l k f (lenL L (m + 3)) ∧ Foot (SF g mb base) w w' := by
  by_cases h255 : m = 255
  · subst h255
    have hwd := sqLit h (S := 285) (by decide) (by omega)
    rw [show ((285 : Nat) : Int) = 285 from rfl] at hwd
    have c3 := h.c3
    clear h
    rw [show (((255 : Nat) : Int) + 3) = 258 from rfl]
    go_enter Tryd.func70, Tryd.ntmps70
    go_wp2_with fail
    refine hwd.mono ?_
    rintro e w1 ⟨rfl, hs⟩
    have HS := Lib.hid hs
    clear hwd hs
    go_wp2_with fail
    exact bodyPost_ret (results_none rfl _ _ _) rfl ⟨rfl, HS.out⟩
  · have hsp := spread_2 m (by omega) w
    have hbd := sprS_bd (v := m) (size := 2) (n := 6) (by omega)
    have hlen : lenL L (m + 3) = putL (L ++ wB (nsOf fixL) (257 + (sprS m 2).1)) (sprS m 2).2 (m : Int) := by unfold lenL; rw [if_neg (by omega), Nat.add_sub_cancel]
    rw [hlen]
    generalize (sprS m 2).1 = R1 at *
    generalize (sprS m 2).2 = R2 at *
    have HLB := Lib.hid (And.intro hbd hL)
    have hR1 : R1 < 28 := by omega
    have hR2 : R2 ≤ 5 := by omega
    have H := Lib.hid h
    clear hlen hbd h
    go_enter Tryd.func70, Tryd.ntmps70
    go_wp2_with fail
    refine hsp.mono ?_
    rintro e w1 ⟨rfl, hb1⟩
    have h1 := H.out.below hb1
    have c3 := h1.c3
    have hwd := sqLit h1 (S := 257 + R1) (by omega) (by omega)
    rw [show ((257 + R1 : Nat) : Int) = 257 + (R1 : Int) by omega] at hwd
    have H1 : Hid (Foot (SF g mb base) w w1) := Lib.hid (Foot.of_below hb1)
    clear hsp hb1 h1 H
    go_wp2_with fail
    refine hwd.mono ?_
    rintro e w2 ⟨rfl, h2, hf2⟩
    have hput := sqPut h2 R2 (by omega) (m : Int) (by omega) (by rw [List.length_append]; have := wB_le fixL_all (257 + R1); omega)
    have H2 := Lib.hid (H1.out.trans hf2)
    clear hwd c3 H1 h2 hf2
    go_wp2_with fail
    refine hput.mono ?_
    rintro e w3 ⟨rfl, h3, hf3⟩
    have H3 : Hid (SQ w3 low g base mb F gl gd ab cb l k f (putL (L ++ wB (nsOf fixL) (257 + R1)) R2 (m : Int)) ∧ Foot (SF g mb base) w w3) := Lib.hid ⟨h3, H2.out.trans hf3⟩
    clear hput h3 hf3 H2
    go_wp2_with fail
    go_end0
    exact ⟨rfl, H3.out⟩
theorem sqBack (h : SQ w low g base mb F gl gd ab cb l k f L) (m : Nat) (hm : m < 32768) (hL : L.length ≤ 274877906944) :
    Calls Tryd.prog 71 #[.pointer (some ⟨g, 0, none⟩), .int .i64 ((m : Int) + 1)] w fun e w' => e = .returned (.tuple #[]) ∧ SQ w' low g base mb F gl gd ab cb l k f (backL L (m + 1)) ∧ Foot (SF g mb base) w w' := by
  have hsp := spread_1 m (by omega) w
  have hbd := sprS_bd (v := m) (size := 1) (n := 14) (by omega)
  have hlen : backL L (m + 1) = putL (L ++ wB (nsOf fixD) (sprS m 1).1) (sprS m 1).2 (m : Int) := by unfold backL; rw [Nat.add_sub_cancel]
  rw [hlen]
  generalize (sprS m 1).1 = R1 at *
  generalize (sprS m 1).2 = R2 at *
  have hR1 : R1 < 30 := by omega
  have hR2 : R2 ≤ 13 := by omega
  have H := Lib.hid h
  clear hlen hbd h
  go_enter Tryd.func71, Tryd.ntmps71
  go_wp2_with fail
  refine hsp.mono ?_
  rintro e w1 ⟨rfl, hb1⟩
  have h1 := H.out.below hb1
  have c4 := h1.c4
  have hwd := sqDist h1 (S := R1) (by omega) (by omega)
  have H1 : Hid (Foot (SF g mb base) w w1) := Lib.hid (Foot.of_below hb1)
  clear hsp hb1 h1 H
  go_wp2_with fail
  refine hwd.mono ?_
  rintro e w2 ⟨rfl, h2, hf2⟩
  have hput := sqPut h2 R2 (by omega) (m : Int) (by omega) (by rw [List.length_append]; have := wB_le fixD_all R1; omega)
  have H2 := Lib.hid (H1.out.trans hf2)
  clear hwd c4 H1 h2 hf2
  go_wp2_with fail
  refine hput.mono ?_
  rintro e w3 ⟨rfl, h3, hf3⟩
  have H3 : Hid (SQ w3 low g base mb F gl gd ab cb l k f (putL (L ++ wB (nsOf fixD) R1) R2 (m : Int)) ∧ Foot (SF g mb base) w w3) := Lib.hid ⟨h3, H2.out.trans hf3⟩
  clear hput h3 hf3 H2
  go_wp2_with fail
  go_end0
  exact ⟨rfl, H3.out⟩
end
end Go.Proofs.YthfhafnffeijpaaDoor
