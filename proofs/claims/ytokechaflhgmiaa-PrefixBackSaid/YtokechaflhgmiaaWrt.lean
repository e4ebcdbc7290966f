/- What the writer of package bits does: contracts of its calls. Condition: the numbers fit their kinds, the bits are fewer than 2^40. -/
import Derived.Test.YtokechaflhgmiaaBitK
import Derived.Test.YtokechaflhgmiaaNewB
import Derived.Test.YtokechaflhgmiaaApp
import Derived.Deep.DeepCutAuto
import Derived.Deep.LoopGhost
set_option linter.unusedVariables false
namespace Go.Proofs.Ytokechaflhgmiaa
open Go.RowKit

/-- block g is a writer whose bytes lie in a row l of its own, and that counts k bits -/
def Wt (w : World) (base g : Nat) (a : Option Addr) (c : Nat) (l : List Int) (k : Nat) : Prop :=
  w.heap[g]? = some (.cells #[.slice a l.length c, .int .i64 (k : Int)] 52 (0, 0)) ∧ w.ownsRow base 5 1 (.slice a l.length c) l.length (l.map (Value.int .u8)) ∧ (Value.slice a l.length c).ownBlock ≠ some g
/-- a writer's blocks -/
def WF (g : Nat) (a : Option Addr) (n c : Nat) : Nat → Prop := fun i => i = g ∨ (Value.slice a n c).ownBlock = some i
theorem own_keep {w w' : World} {base : Nat} {t : TypeId} {v : Value} {n k : Nat} {xs : List Value} (h : w.ownsRow base t k v n xs) (hs : ∀ i, v.ownBlock = some i → w'.heap[i]? = w.heap[i]?) : w'.ownsRow base t k v n xs := by
  refine ⟨h.1, ?_⟩
  rcases h.2 with h2 | ⟨g, cap, cur, h1, h2, h3, h4⟩
  · exact .inl h2
  · exact .inr ⟨g, cap, cur, h1, h2, (hs g (by rw [h1]; rfl)).trans h3, h4⟩
theorem own_block_lt {w : World} {base : Nat} {t : TypeId} {v : Value} {n k : Nat} {xs : List Value} (h : w.ownsRow base t k v n xs) {i : Nat} (hi : v.ownBlock = some i) : base ≤ i ∧ i < w.heap.size := h.lt i hi
theorem Wt.keep {w w' : World} {base g : Nat} {a : Option Addr} {c : Nat} {l : List Int} {k : Nat} (h : Wt w base g a c l k) (hs : ∀ i, WF g a l.length c i → w'.heap[i]? = w.heap[i]?) : Wt w' base g a c l k :=
  ⟨(hs g (.inl rfl)).trans h.1, own_keep h.2.1 (fun i hi => hs i (.inr hi)), h.2.2⟩
theorem Wt.below {w w' : World} {base g : Nat} {a : Option Addr} {c : Nat} {l : List Int} {k : Nat} (h : Wt w base g a c l k) (hb : Below w.heap.size w w') : Wt w' base g a c l k :=
  h.keep fun i hi => by
    rcases hi with rfl | hi
    · exact hb.block _ (blk_lt h.1)
    · exact hb.block _ (h.2.1.lt i hi).2

theorem wrLen {w : World} {base g : Nat} {a : Option Addr} {c : Nat} {l : List Int} {k : Nat} (h : Wt w base g a c l k) :
    Calls Try.prog 19 #[.pointer (some ⟨g, 0, none⟩)] w fun e w' => e = .returned (.int .i64 k) ∧ w = w' := by
  have h2 : w.cell? ⟨g, 1, none⟩ = some (.int .i64 k) := blk_cell h.1 1
  clear h
  go_enter Try.func19, Try.ntmps19
  go_wp2
  go_ret
  exact ⟨rfl, rfl⟩
theorem wrBytes {w : World} {base g : Nat} {a : Option Addr} {c : Nat} {l : List Int} {k : Nat} (h : Wt w base g a c l k) (hl : Bytes l) (hm : l.length ≤ 140737488355328) :
    Calls Try.prog 18 #[.pointer (some ⟨g, 0, none⟩)] w (Made w l) := by
  have h0 : w.cell? ⟨g, 0, none⟩ = some (.slice a l.length c) := blk_cell h.1 0
  have HC := Lib.hid (clone_any a l.length c l rfl hm w (Bs.of_own h.2.1 hl))
  clear h
  go_enter Try.func18, Try.ntmps18
  go_wp2_with fail
  refine HC.out.mono ?_
  rintro e w' ⟨a2, c2, rfl, ho, hb⟩
  have HO := Lib.hid (And.intro ho hb); clear ho hb
  go_wp2_with fail
  go_ret
  exact ⟨a2, c2, rfl, HO.out.1, HO.out.2⟩
theorem put_wide (v : Int) (n s : Nat) (hn : n ≤ 16) (hs : s ≤ 7) : IntKind.u64.wrap (bits .and .u64 (IntKind.u64.wrap v) (IntKind.u64.wrap (IntKind.u64.wrap (2 ^ n) - 1)) * 2 ^ s) = v % 2 ^ n * 2 ^ s ∧ 0 ≤ v % 2 ^ n * 2 ^ s ∧ v % 2 ^ n * 2 ^ s < 8388608 := by
  have h1 := pow_mono2 hn
  have h1s := pow_mono2 hs
  have e16 : (2 : Int) ^ 16 = 65536 := by decide
  have e7 : (2 : Int) ^ 7 = 128 := by decide
  have hp := pow_pos2 n
  have hps := pow_pos2 s
  have h2 : IntKind.u64.wrap (2 ^ n) = 2 ^ n := IntWalk.u64_in _ (by omega)
  have h3 : IntKind.u64.wrap ((2 : Int) ^ n - 1) = 2 ^ n - 1 := IntWalk.u64_in _ (by omega)
  have hd : (2 : Int) ^ n ∣ 18446744073709551616 := ⟨2 ^ (64 - n), by rw [← Int.pow_add, show n + (64 - n) = 64 by omega]; rfl⟩
  rw [h2, h3, u64_wrap v, and_mask _ n hn (by omega), Int.emod_emod_of_dvd v hd]
  have hlt := Int.emod_lt_of_pos v hp
  have hge := Int.emod_nonneg v (b := (2 : Int) ^ n) (by omega)
  generalize v % 2 ^ n = x at *
  have k0 : 0 ≤ x * 2 ^ s := Int.mul_nonneg hge (by omega)
  have k1 : x * 2 ^ s ≤ 65535 * 2 ^ s := Int.mul_le_mul_of_nonneg_right (by omega) (by omega)
  exact ⟨IntWalk.u64_in _ (by omega), k0, by omega⟩
theorem bs_one (w : World) (x : Int) (hx : 0 ≤ x ∧ x ≤ 255) (t : TypeId) : Bs (w.alloc (.cells #[.int .u8 x] t)) (w.heap.size + 1) (some ⟨w.heap.size, 0, none⟩) [x] := by
  refine ⟨Bytes.one hx, fun hn => ⟨w.heap.size, 0, rfl, by omega, fun i hi => ?_⟩⟩
  have hi0 : i = 0 := by simpa using hi
  subst hi0
  rw [blk_cell (heap_alloc_new w _)]; rfl
/-- on the way through a Put: m bytes are laid -/
def PutSt (w : World) (base g : Nat) (a : Option Addr) (c : Nat) (L L' : List Bool) (m : Nat) (a1 : Option Addr) (c1 : Nat) (wr : World) : Prop :=
  wr.heap[g]? = some (.cells #[.slice a1 m c1, .int .i64 L'.length] 52 (0, 0)) ∧ wr.ownsRow base 5 1 (.slice a1 m c1) m (((pk L').take m).map (Value.int .u8)) ∧ (Value.slice a1 m c1).ownBlock ≠ some g ∧
  Foot (WF g a (pk L).length c) w wr ∧ (∀ i, (Value.slice a1 m c1).ownBlock = some i → (Value.slice a (pk L).length c).ownBlock = some i ∨ w.heap.size ≤ i)
set_option maxRecDepth 100000 in
set_option maxHeartbeats 2000000 in
theorem wrPut {w : World} {base g : Nat} {a : Option Addr} {c : Nat} {L : List Bool} (h : Wt w base g a c (pk L) L.length) (hm : L.length ≤ 1099511627776) (hbase : base ≤ w.heap.size)
    (n : Nat) (hn : n ≤ 16) (v : Int) (hv : -9223372036854775808 ≤ v ∧ v ≤ 9223372036854775807) :
    Calls Try.prog 17 #[.pointer (some ⟨g, 0, none⟩), .int .i64 n, .int .i64 v] w fun e w' => e = .returned (.int .i64 0) ∧ ∃ a' c', Wt w' base g a' c' (pk (putL L n v)) (putL L n v).length ∧ Foot (WF g a (pk L).length c) w w' ∧ (∀ i, (Value.slice a' (pk (putL L n v)).length c').ownBlock = some i → (Value.slice a (pk L).length c).ownBlock = some i ∨ w.heap.size ≤ i) := by
  have hw : isW (n : Int) = true := by unfold isW; simp; omega
  have hwd := fun W => bitWidth (n : Int) W
  rw [hw] at hwd
  have HW := Lib.hid hwd; clear hw hwd
  obtain ⟨hh, ho, hne⟩ := h
  have h0 : w.cell? ⟨g, 0, none⟩ = some (.slice a (pk L).length c) := blk_cell hh 0
  have h1 : w.cell? ⟨g, 1, none⟩ = some (.int .i64 L.length) := blk_cell hh 1
  have f0 := blk_free hh 0
  have f1 := blk_free hh 1
  have hglt := blk_lt hh
  have HH := Lib.hid (And.intro hh (And.intro ho hne))
  clear hh ho hne
  obtain ⟨m0, s, hs, hs7⟩ : ∃ m0 s : Nat, L.length = 8 * m0 + s ∧ s ≤ 7 := ⟨L.length / 8, L.length % 8, by omega, by omega⟩
  have i1 : (L.length : Int) % 8 = (s : Int) := by omega
  have hL' := putL_len L n v
  have hrs := putL_rest L n v m0 s hs hs7 hn
  have hlast := pkB_last L m0 s hs hs7
  have hxb := bsum_bound (f := fun i => bitL L (8 * m0 + i)) (fun i => bitL_bd _ _) s
  have hpl := pk_len L
  have hpl' := pk_len (putL L n v)
  obtain ⟨hwd, hv0, hv1⟩ := put_wide v n s hn hs7
  have HWD := Lib.hid hwd
  have HALL := Lib.hid (And.intro hs (And.intro hL' (And.intro hrs (And.intro hlast (And.intro hpl hpl')))))
  have hvn : 0 ≤ v % 2 ^ n := Int.emod_nonneg v (by have := pow_pos2 n; omega)
  clear hs hL' hrs hlast hpl hpl' hwd
  go_enter Try.func17, Try.ntmps17
  go_wp2_with fail
  refine (HW.out _).mono ?_
  rintro e w' ⟨rfl, rfl⟩
  go_upto_region 6 with (fail)
  rw [HWD.out, i1]
  obtain ⟨V, hV⟩ : ∃ V, v % 2 ^ n * 2 ^ s = V := ⟨_, rfl⟩
  rw [hV] at hv0 hv1 ⊢
  have HV := Lib.hid hV; clear hV
  go_upto_if 38 with (fail)
  go_cut [8] (fun v8 wr => ∃ (m : Nat) (a1 : Option Addr) (c1 : Nat), v8 = .int .u64 (rest (putL L n v) m) ∧ m ≤ ((putL L n v).length + 7) / 8 ∧ (putL L n v).length ≤ 8 * m + 24 ∧ PutSt w base g a c L (putL L n v) m a1 c1 wr)
  case first =>
    have HALL' := HALL.out
    obtain ⟨hs, hL', hrs, hlast, hpl, hpl'⟩ := HALL'
    have hfoot1 : Foot (WF g a (pk L).length c) w (w.setCell ⟨g, 1, none⟩ (.int .i64 ((L.length : Int) + n))) := (Foot.refl _ _).set (.inl (.inl rfl))
    have hset1 := blk_set HH.out.1 1 (.int .i64 ((L.length : Int) + n))
    have hrow1 := own_other HH.out.2.1 HH.out.2.2 1 (.int .i64 ((L.length : Int) + n))
    have hcast : ((putL L n v).length : Int) = (L.length : Int) + n := by omega
    rcases Nat.eq_zero_or_pos s with rfl | hs0
    · have hw0 : V = rest (putL L n v) m0 := by
        rw [hrs, HV.out]; simp [bsum]
      have htk : (pk (putL L n v)).take (pk L).length = pk L := by
        have hm0 : (pk L).length = m0 := by omega
        rw [hm0]
        have e1 := pk_take L (putL L n v) m0 (by omega) (by omega) (fun q hq => (putL_same L n v q (by omega)).symm)
        rw [← e1, pk_all L m0 (by omega)]
      have HX := Lib.hid (And.intro hw0 (And.intro htk (And.intro hfoot1 (And.intro hset1 (And.intro hrow1 (And.intro hcast (And.intro hs (And.intro hL' hpl))))))))
      clear hw0 htk hs hL' hrs hlast hpl hpl' hfoot1 hset1 hrow1 hcast i1
      go_wp2_with fail
      go_meet
      obtain ⟨hw0, htk, hfoot1, hset1, hrow1, hcast, hs, hL', hpl⟩ := HX.out
      have hm0 : (pk L).length = m0 := by omega
      refine ⟨(pk L).length, a, c, by rw [hw0, hm0], by omega, by omega, ?_, ?_, HH.out.2.2, hfoot1, fun i hi => .inl hi⟩
      · rw [hcast]; simpa using hset1
      · rw [htk]; exact hrow1
    · have hx : 0 ≤ pkB L m0 ∧ pkB L m0 < 2 ^ s := by rw [hlast]; exact hxb
      have hpm : (pk L).length = m0 + 1 := by omega
      have hrest : rest (putL L n v) m0 = pkB L m0 + V := by rw [hrs, hlast, HV.out]
      have hy : bits .or .u8 (pkB L m0) (V % 256) = rest (putL L n v) m0 % 256 := by
        rw [hrest, ← HV.out]; exact or_u8 _ _ s hs7 hx hvn
      have hv8 : V / 256 = rest (putL L n v) (m0 + 1) := by
        rw [← rest_div _ m0 (by omega), hrest, ← HV.out, div_apart _ _ s hs7 hx]
      have hset : (pk L).set m0 (rest (putL L n v) m0 % 256) = (pk (putL L n v)).take (m0 + 1) := by
        rw [pk_succ _ _ (by omega)]
        have e1 := pk_take L (putL L n v) m0 (by omega) (by omega) (fun q hq => (putL_same L n v q (by omega)).symm)
        have e2 : pk L = (pk L).take m0 ++ [(pk L).getD m0 0] := by rw [← take_succ' _ _ (by omega), ← hpm, List.take_length]
        rw [← e1]
        conv => lhs; rw [e2]
        rw [List.set_append_right _ _ (by simp; omega)]
        have e3 : m0 - ((pk L).take m0).length = 0 := by simp; omega
        rw [e3]; rfl
      obtain ⟨b, cap, hvb, hbb, hbl⟩ := HH.out.2.1.form (by omega)
      have ha2 : a = some ⟨b, 0, none⟩ := by injection hvb
      subst ha2
      obtain ⟨wa, hwa⟩ : ∃ wa, w.setCell ⟨g, 1, none⟩ (.int .i64 ((L.length : Int) + n)) = wa := ⟨_, rfl⟩
      rw [hwa] at hfoot1 hset1 hrow1 ⊢
      have kb := own_byte hrow1 (k := m0) rfl (by omega)
      rw [pk_getD] at kb
      have fb : wa.frozen? ⟨b, m0, none⟩ = false := hrow1.frozenAt _
      have k0 : wa.cell? ⟨g, 0, none⟩ = some (.slice (some ⟨b, 0, none⟩) (pk L).length c) := by rw [blk_cell hset1]; rfl
      have hput := own_put hrow1 m0 (rest (putL L n v) m0 % 256)
      rw [hset] at hput
      have hnb : ¬ b = g := fun e => HH.out.2.2 (by rw [← e]; rfl)
      have hhg : (wa.setCell ⟨b, m0, none⟩ (.int .u8 (rest (putL L n v) m0 % 256))).heap[g]? = some (.cells #[.slice (some ⟨b, 0, none⟩) (pk L).length c, .int .i64 ((L.length : Int) + n)] 52 (0, 0)) :=
        (Below.heap_setCell wa ⟨b, m0, none⟩ _ g (fun e => hnb e.symm)).trans (by simpa using hset1)
      have HX := Lib.hid (And.intro hput (And.intro hhg (And.intro hfoot1 (And.intro hcast (And.intro hs (And.intro hL' (And.intro hpm (And.intro hv8 hpl'))))))))
      have hmk : (m0 : Int) < (pk L).length := by omega
      have hi5 : ((pk L).length : Int) - 1 = (m0 : Int) := by omega
      have hxb8 := pkB_bd L m0
      have hm0b : m0 ≤ 1099511627776 := by omega
      clear hput hhg hfoot1 hcast hs hL' hpm hv8 hpl hpl' hset hrest hset1 hrow1 hwa hrs hlast hx hvb HWD h0 h1 f0 f1 i1
      generalize rest (putL L n v) m0 % 256 = y at *
      generalize pkB L m0 = x at *
      have hd : decide (0 < (s : Int)) = true := by simp; omega
      have hy2 : bits .or .u8 x (IntKind.u8.wrap V) = y := by rw [u8_wrap']; exact hy
      have hi6 : IntKind.i64.wrap (m0 : Int) = m0 := IntWalk.i64_in _ (by omega)
      have hi7 : (0 : Int) ≤ (m0 : Int) := by omega
      go_wp2_with fail
      go_region
      go_wp2_with fail
      go_meet
      obtain ⟨hput, hhg, hfoot1, hcast, hs, hL', hpm, hv8, hpl'⟩ := HX.out
      refine ⟨m0 + 1, some ⟨b, 0, none⟩, c, by rw [hv8], by omega, by omega, ?_, ?_, ?_, ?_, ?_⟩
      · rw [hcast, ← hpm]; exact hhg
      · rw [← hpm] at hput ⊢; exact hput
      · rw [← hpm]; exact HH.out.2.2
      · exact (hfoot1.drewN 1).set (.inl (.inr rfl))
      · rw [← hpm]; exact fun i hi => .inl hi
  case rest =>
    obtain ⟨m, a1, c1, rfl, hm1, hm2, hst⟩ := hcut
    have HP := Lib.hid hst
    clear hst
    have hL2 := HALL.out.2.1
    have hcast : ((putL L n v).length : Int) = (L.length : Int) + n := by omega
    have hLb : (putL L n v).length ≤ 1099511627792 := by omega
    have hpl' := HALL.out.2.2.2.2.2
    have hLn : L.length ≤ (putL L n v).length := by omega
    clear HWD HV hL2 hcast h0 h1 f0 f1 i1 hxb hvn
    generalize hLD : putL L n v = L' at *
    have HLD := Lib.hid hLD; clear hLD
    have HALL2 := HALL
    clear HALL HH
    obtain ⟨N, hN⟩ : ∃ N, (L'.length + 7) / 8 = N := ⟨_, rfl⟩
    rw [hN] at hm1 hpl'
    have hN1 : 8 * N ≤ L'.length + 7 := by omega
    have hN2 : L'.length ≤ 8 * N := by omega
    have HPL := Lib.hid hpl'; clear hpl' hN
    go_wp2_with fail
    go_loopg [8] (N - m) (fun k v8 wr => ∃ (m : Nat) (a1 : Option Addr) (c1 : Nat), N ≤ m + k ∧ m + k ≤ N ∧ v8 = .int .u64 (rest L' m) ∧ L'.length ≤ 8 * m + 24 ∧ Hid (PutSt w base g a c L L' m a1 c1 wr))
    case atStart => exact ⟨m, a1, c1, by omega, by omega, rfl, hm2, HP⟩
    case round =>
      clear hm1 hm2 HP m a1 c1
      obtain ⟨m, a1, c1, hk1, hk2, rfl, hm2, HP⟩ := hrel
      have hh := HP.out.1
      have h0 : wr.cell? ⟨g, 0, none⟩ = some (.slice a1 m c1) := blk_cell hh 0
      have h1 : wr.cell? ⟨g, 1, none⟩ = some (.int .i64 L'.length) := blk_cell hh 1
      have f0 := blk_free hh 0
      have hgl := blk_lt hh
      have i2 : IntKind.i64.wrap (8 * (m : Int)) = 8 * (m : Int) := IntWalk.i64_in _ (by omega)
      have hsz := HP.out.2.2.2.1.size
      clear hh
      by_cases hlt : 8 * m < L'.length
      · have hd : decide (8 * (m : Int) < L'.length) = true := by simp; omega
        have hrb := rest_bd L' m
        have hrm := rest_mod L' m
        have hrd := rest_div L' m hm2
        have hks := pk_succ L' m hlt
        have hbase2 : base ≤ wr.heap.size := by omega
        have HR := Lib.hid (And.intro hrm (And.intro hrd hks))
        clear hrm hrd hks
        generalize rest L' m = v8 at *
        have hO := HP.out.2.1
        have hNE := Lib.hid HP.out.2.2.1
        have HGB := Lib.hid HP.out.1
        go_wp2_with fail
        go_quiet (fail)
        go_wp2_with (at_builtin; refine wpList_app2 rfl (.tmp 72) (.tmp 75) rfl base (.slice a1 m c1) m ((pk L').take m) rfl ((show (wr.drewN nq).ownsRow base 5 1 (.slice a1 m c1) m (((pk L').take m).map (Value.int .u8)) from hO).alloc _) (wr.heap.size + 1) (some ⟨wr.heap.size, 0, none⟩) 1 1 [v8 % 256] rfl rfl (bs_one (wr.drewN nq) (v8 % 256) (by omega) _) (fun h => by cases h) (by omega) (by simp; omega) ?_; intro v2 w2 hown2 hg2 hw2; obtain ⟨a2, c2, rfl⟩ := own_shape hown2; have hh2 := (hg2.block g (by simp; omega) (fun e => hNE.out e.symm)).trans ((Below.heap_alloc (wr.drewN nq) _ g hgl).trans HGB.out); have h20 : w2.cell? ⟨g, 0, none⟩ = some (.slice a1 m c1) := blk_cell hh2 0; have f20 := blk_free hh2 0; have HH2 := Lib.hid hh2; clear hh2)
        obtain ⟨hrm, hrd, hks⟩ := HR.out
        have hg' : g < ((wr.drewN nq).alloc (.cells #[.int .u8 (v8 % 256)] 5)).heap.size := by simp; omega
        have hne2 : (Value.slice a2 (m + 1) c2).ownBlock ≠ some g := by
          rcases hw2 with q | q
          · rw [q]; exact hNE.out
          · rw [q]; intro e; injection e with e; omega
        have hft : Foot (WF g a (pk L).length c) w w2 := ((HP.out.2.2.2.1.drewN nq).alloc (.cells #[.int .u8 (v8 % 256)] 5)).grown hg2 (fun k hk => by
          rcases HP.out.2.2.2.2 k hk with q | q
          · exact .inl (.inr q)
          · exact .inr q)
        have hrow : ∀ i, (Value.slice a2 (m + 1) c2).ownBlock = some i → (Value.slice a (pk L).length c).ownBlock = some i ∨ w.heap.size ≤ i := fun i hi => by
          rcases hw2 with q | q
          · exact HP.out.2.2.2.2 i (by rw [← q]; exact hi)
          · rw [q] at hi; injection hi with hi; right; simp at hi; omega
        have hset := blk_set HH2.out 0 (.slice a2 (m + 1) c2)
        go_roundg (gk - 1)
        case measure => omega
        case rel => exact ⟨m + 1, a2, c2, by omega, by omega, by rw [hrd], by omega, Lib.hid ⟨by simpa using hset, by rw [hks, hrm, ← hrm]; exact own_other hown2 hne2 _ _, hne2, hft.set (.inl (.inl rfl)), hrow⟩⟩
      · have hd : decide (8 * (m : Int) < L'.length) = false := by simp; omega
        have hk : N ≤ m := by omega
        go_wp2_with fail
        go_quiet (fail)
        go_wp2_with fail
        go_ret
        have hN3 : m = N := by omega
        have hall : (pk L').take m = pk L' := List.take_of_length_le (by rw [HPL.out]; omega)
        obtain ⟨q1, q2, q3, q4, q5⟩ := HP.out
        rw [hall] at q2
        have hpm : (pk L').length = m := by rw [HPL.out, hN3]
        rw [HLD.out]
        refine ⟨rfl, a1, c1, ⟨by rw [hpm]; exact q1, by rw [hpm]; exact q2, by rw [hpm]; exact q3⟩, q4.drewN _, by rw [hpm]; exact q5⟩

theorem wt_new (w : World) (base : Nat) : Wt (w.alloc (.cells #[.slice none 0 0, .int .i64 0] 52)) base w.heap.size none 0 (pk []) ([] : List Bool).length :=
  ⟨heap_alloc_new w _, World.ownsRow_nil _ _ _ _, by simp [Value.ownBlock]⟩
/-- what a Put leaves -/
def PutPost (w : World) (base g : Nat) (a : Option Addr) (c : Nat) (L L' : List Bool) (e : Ending) (w' : World) : Prop :=
  e = .returned (.int .i64 0) ∧ ∃ a' c', Wt w' base g a' c' (pk L') L'.length ∧ Foot (WF g a (pk L).length c) w w' ∧ (∀ i, (Value.slice a' (pk L').length c').ownBlock = some i → (Value.slice a (pk L).length c).ownBlock = some i ∨ w.heap.size ≤ i)
theorem wrPutI {w : World} {base g : Nat} {a : Option Addr} {c : Nat} {L : List Bool} (h : Wt w base g a c (pk L) L.length) (hm : L.length ≤ 1099511627776) (hbase : base ≤ w.heap.size)
    (n : Nat) (N : Int) (hN : (n : Int) = N) (hn : n ≤ 16) (v : Int) (hv : -9223372036854775808 ≤ v ∧ v ≤ 9223372036854775807) :
    Calls Try.prog 17 #[.pointer (some ⟨g, 0, none⟩), .int .i64 N, .int .i64 v] w (PutPost w base g a c L (putL L n v)) := by
  subst hN; exact wrPut h hm hbase n hn v hv
end Go.Proofs.Ytokechaflhgmiaa
