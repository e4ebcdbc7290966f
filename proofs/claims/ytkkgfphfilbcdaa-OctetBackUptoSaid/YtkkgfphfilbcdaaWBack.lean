/- The walk of the law OctetBack: it returns true and turns nothing that was there. Condition: both rows of bytes take at most 1048576 places. -/
import Derived.Test.YtkkgfphfilbcdaaOctRd
set_option linter.unusedVariables false
namespace Go.Proofs.Ytkkgfphfilbcdaa
open Go.RowKit

theorem emod_mul_step (v a : Int) (ha : 0 < a) : v % (a * 256) = v % a + a * (v / a % 256) := by
  have h1 := Int.mul_ediv_add_emod v a
  have h2 := Int.mul_ediv_add_emod (v / a) 256
  have h3 := Int.emod_nonneg v (show a ≠ 0 by omega)
  have h4 := Int.emod_lt_of_pos v ha
  have h5 : 0 ≤ v / a % 256 ∧ v / a % 256 ≤ 255 := by omega
  have e : v = (v % a + a * (v / a % 256)) + a * 256 * (v / a / 256) := by
    have : a * (v / a) = a * (256 * (v / a / 256) + v / a % 256) := by rw [h2]
    rw [Int.mul_add, ← Int.mul_assoc] at this
    omega
  have hle : a * (v / a % 256) ≤ a * 255 := Int.mul_le_mul_of_nonneg_left h5.2 (by omega)
  have h0 : 0 ≤ a * (v / a % 256) := Int.mul_nonneg (by omega) h5.1
  conv => lhs; rw [e]
  rw [Int.add_mul_emod_self_left]
  exact Int.emod_eq_of_lt (by omega) (by omega)
theorem LE_succ' (v : Int) (k : Nat) : LE v (k + 1) = LE v k ++ [byteOf v k] := LE_succ v k
theorem big_LE (v : Int) : ∀ k, big (LE v k).reverse = v % 2 ^ (8 * k)
  | 0 => by simp [LE, big]
  | k + 1 => by
    rw [LE_succ, List.reverse_append, List.reverse_singleton, List.singleton_append, big_cons, List.length_reverse, LE_len, big_LE v k, pow256]
    have := emod_mul_step v (2 ^ (8 * k)) (pow_pos2 _)
    rw [show 8 * (k + 1) = 8 * k + 8 by omega, Int.pow_add, show (2 : Int) ^ 8 = 256 from rfl, this]
    unfold byteOf
    rw [Int.mul_comm (2 ^ (8 * k))]
    omega
/-- what is read back of a number in so many bytes -/
def low (v : Int) (k : Nat) : Int := wrap64 (v % 2 ^ (8 * k))
theorem numW_LE (v : Int) (k : Nat) : numW (LE v k).reverse = low v k := by unfold numW low; rw [big_LE]
theorem low8 (v : Int) (h : -9223372036854775808 ≤ v ∧ v ≤ 9223372036854775807) : low v 8 = v := by
  unfold low; rw [show 8 * 8 = 64 from rfl, show (2 : Int) ^ 64 = 18446744073709551616 from rfl]; unfold wrap64; omega
theorem low_and (v : Int) (k : Nat) (hk : k ≤ 7) : bits .and .i64 v (2 ^ (8 * k) - 1) = low v k := by
  have h1 := ofInt_toNat 64 v
  have h2 := ofInt_toNat 64 ((2 : Int) ^ (8 * k) - 1)
  have hp := pow_pos2 (8 * k)
  have hle := pow_mono2 (show 8 * k ≤ 56 by omega)
  have h56 : (2 : Int) ^ 56 = 72057594037927936 := by decide
  rw [Int.emod_eq_of_lt (by omega) (by omega)] at h2
  have h3 : (BitVec.ofInt 64 ((2 : Int) ^ (8 * k) - 1)).toNat = 2 ^ (8 * k) - 1 := by
    have e1 := pow_cast (8 * k)
    omega
  have hd : (2 : Int) ^ (8 * k) ∣ 2 ^ 64 := ⟨2 ^ (64 - 8 * k), by rw [← Int.pow_add]; congr 1; omega⟩
  have e : (((BitVec.ofInt 64 v).toNat % 2 ^ (8 * k) : Nat) : Int) = v % 2 ^ (8 * k) := by
    rw [Int.natCast_emod, h1, ← pow_cast, Int.emod_emod_of_dvd _ hd]
  rw [and64_is, BitVec.toNat_and, h3, Nat.and_two_pow_sub_one_eq_mod, e, wrap64_eq]
  rfl
theorem own_none {w : World} {base : Nat} {t : TypeId} {a : Option Addr} {n k c : Nat} {xs : List Value} (h : w.ownsRow base t k (.slice a n c) n xs) : a = none → n = 0 ∧ c = 0 := by
  rintro rfl
  rcases h.2 with ⟨e1, e2⟩ | ⟨g, cap, _, e1, _⟩
  · injection e1 with _ _ e1; exact ⟨e2, e1⟩
  · injection e1 with e1; cases e1
theorem piece_mid (a b c : List Int) : piece (a ++ b ++ c) (a.length : Int) (b.length : Int) = b := by
  unfold piece
  rw [Int.toNat_natCast, Int.toNat_natCast, List.append_assoc, List.drop_left, List.take_left]

set_option maxRecDepth 100000 in
set_option maxHeartbeats 2000000 in
theorem back_walk (w : World) (a0 : Option Addr) (n0 c0 : Nat) (l0 : List Int) (hl0 : l0.length = n0) (hc0 : n0 ≤ c0) (hA0 : a0 = none → c0 = 0) (hk0 : c0 ≤ 1048576) (hb0 : Bs w w.heap.size a0 l0)
    (v : Int) (wv : (Lit.int .i64 v).wf = true) (n : Int) (wn : (Lit.int .u8 n).wf = true)
    (a3 : Option Addr) (n3 c3 : Nat) (l3 : List Int) (hl3 : l3.length = n3) (hc3 : n3 ≤ c3) (hA3 : a3 = none → c3 = 0) (hk3 : c3 ≤ 1048576) (hb3 : Bs w w.heap.size a3 l3) :
    Calls Try.prog 12 #[.slice a0 n0 c0, .int .i64 v, .int .u8 n, .slice a3 n3 c3] w fun e w' => e = .returned (.bool true) ∧ Below w.heap.size w w' := by
  subst hl0; subst hl3
  have hv := bd_i64 wv
  have hn := bd_u8 wn
  have H0 : Hid (a0 = none → l0.length = 0 ∧ c0 = 0) := Lib.hid fun h => ⟨by have := hA0 h; omega, hA0 h⟩
  have H3 : Hid (a3 = none → l3.length = 0 ∧ c3 = 0) := Lib.hid fun h => ⟨by have := hA3 h; omega, hA3 h⟩
  clear hA0 hA3
  obtain ⟨K, hK⟩ : ∃ K : Nat, 1 + n % 8 = K := Int.eq_ofNat_of_zero_le (by omega)
  have hK8 : 1 ≤ K ∧ K ≤ 8 := by omega
  have hLE : LEof (K : Int) v = LE v K := by unfold LEof; rw [if_pos (by omega), Int.toNat_natCast]
  have p1 := octPutLittle (K : Int) v (by omega)
  have p2 := octPutBig (K : Int) v (by omega)
  rw [hLE] at p1 p2
  have hLl : (LE v K).length = K := LE_len v K
  have hLB : Bytes (LE v K) := LE_bytes v K
  have hlow := numW_LE v K
  have P1 := Lib.hid p1; clear p1
  have P2 := Lib.hid p2; clear p2
  have HLOW := Lib.hid hlow; clear hlow hLE
  have hand : K ≤ 7 → bits .and .i64 v (2 ^ (8 * K) - 1) = low v K := low_and v K
  have h8 : K = 8 → low v K = v := fun h => by subst h; exact low8 v hv
  have HAND := Lib.hid hand; clear hand
  have H8 := Lib.hid h8; clear h8
  generalize hL : LE v K = L at *
  have HL := Lib.hid hLl; clear hLl hL
  have HKK := Lib.hid hK
  go_enter Try.func12, Try.ntmps12
  go_wp2_with fail
  refine (octFixed _).mono ?_; rintro e w1 ⟨rfl, hb1⟩
  go_wp2_with fail
  refine (P1.out _).mono ?_; rintro e w2 ⟨aL, cL, rfl, oL, hb2⟩
  go_wp2_with fail
  refine (P2.out _).mono ?_; rintro e w4 ⟨aB, cB, rfl, oB, hb4⟩
  have bL := (Bs.of_own oL hLB).next hb4
  have bB := Bs.of_own oB hLB.reverse
  have b0 := ((hb0.next hb1).next hb2).next hb4
  have b3 := ((hb3.next hb1).next hb2).next hb4
  have nL := own_none oL
  have nB := own_none oB
  have NL := Lib.hid nL; clear nL
  have NB := Lib.hid nB; clear nB
  have hw4 := (hb1.trans (hb2.mono hb1.size)).trans (hb4.mono (Nat.le_trans hb1.size hb2.size))
  clear oL oB hb1 hb2 hb4
  have hL8 : L.length ≤ 8 := by rw [HL.out]; omega
  go_wp2_with (first
    | (at_builtin; refine wpList_app rfl (.tmp 30) (.tmp 31) rfl w4.heap.size (.slice (some ⟨w4.heap.size, 0, none⟩) 0 0) 0 [] rfl (World.ownsRow_lit w4 #[] 0 (Nat.le_refl _) (by decide) rfl) w4.heap.size a0 l0.length c0 l0 rfl rfl (b0.alloc (Nat.le_refl _) _) H0.out (by omega) (by simp) ?_; intro vp5 wp5 op5 gp5; rw [Nat.zero_add] at op5; obtain ⟨ap5, cp5, rfl⟩ := own_shape op5; have hp5 : Below w4.heap.size w4 wp5 := ((Below.refl w4.heap.size w4).alloc (Nat.le_refl _) _).grown gp5 (by simp) (fun k hk => by simp [Value.ownBlock] at hk; omega); have bbp5 := bL.next hp5)
    | (at_builtin; refine wpList_app rfl (.tmp 32) (.tmp 33) rfl w4.heap.size (.slice ap5 l0.length cp5) l0.length ([] ++ l0) rfl op5 wp5.heap.size aL L.length cL L rfl rfl bbp5 NL.out (by omega) hp5.size ?_; intro vp6 wp6 op6 gp6; obtain ⟨ap6, cp6, rfl⟩ := own_shape op6; have hp6 : Below w4.heap.size w4 wp6 := hp5.grown gp6 hp5.size (fun k hk => (op5.lt k hk).1); have bbp6 := b3.next hp6)
    | (at_builtin; refine wpList_app rfl (.tmp 34) (.tmp 35) rfl w4.heap.size (.slice ap6 (l0.length + L.length) cp6) (l0.length + L.length) ([] ++ l0 ++ L) rfl op6 wp6.heap.size a3 l3.length c3 l3 rfl rfl bbp6 H3.out (by omega) hp6.size ?_; intro vp7 wp7 op7 gp7; obtain ⟨ap7, cp7, rfl⟩ := own_shape op7; have hp7 : Below w4.heap.size w4 wp7 := hp6.grown gp7 hp6.size (fun k hk => (op6.lt k hk).1)))
  have hL1 : 1 ≤ L.length := by rw [HL.out]; omega
  have hcap7 := (own_cap op7).1
  have bs7 := Bs.of_own (l := l0 ++ L ++ l3) (own_cast (n' := (l0 ++ L ++ l3).length) op7 (by simp; omega) (by simp)) ((hb0.1.app hLB).app hb3.1)
  have lt7 : LT (l0 ++ L ++ l3) (l0.length : Int) (K : Int) = (low v K, 0) := by
    have hk : (K : Int) = (L.length : Int) := by rw [HL.out]
    have h1 := (bg_yes (l := l0 ++ L ++ l3) (at_ := (l0.length : Int)) (n := (K : Int)) (by omega) (by rw [hk]; simp; omega)).2
    rw [h1, hk, piece_mid, HLOW.out]
  have c7 := octLittle ap7 (l0.length + L.length + l3.length) cp7 (l0 ++ L ++ l3) (by simp; omega) (l0.length : Int) (K : Int) (by omega) (by omega) hcap7 (by omega) wp7 _ bs7
  rw [lt7] at c7
  have C7 := Lib.hid c7
  have b0 := b0.next hp7
  have b3 := b3.next hp7
  have bB := bB.next hp7
  have NB2 : Hid (aB = none → L.length = 0 ∧ cB = 0) := Lib.hid (by simpa using NB.out)
  have hw7 := hw4.trans (hp7.mono hw4.size)
  clear op5 gp5 op6 gp6 op7 gp7 hp5 hp6 hp7 bbp5 bbp6 bs7 lt7 c7 bL hw4
  refine C7.out.mono ?_; rintro e w8 ⟨rfl, rfl⟩
  go_wp2_with (first
    | (at_builtin; refine wpList_app rfl (.tmp 44) (.tmp 45) rfl wp7.heap.size (.slice (some ⟨wp7.heap.size, 0, none⟩) 0 0) 0 [] rfl (World.ownsRow_lit wp7 #[] 0 (Nat.le_refl _) (by decide) rfl) wp7.heap.size a0 l0.length c0 l0 rfl rfl (b0.alloc (Nat.le_refl _) _) H0.out (by omega) (by simp) ?_; intro vq5 wq5 oq5 gq5; rw [Nat.zero_add] at oq5; obtain ⟨aq5, cq5, rfl⟩ := own_shape oq5; have hq5 : Below wp7.heap.size wp7 wq5 := ((Below.refl wp7.heap.size wp7).alloc (Nat.le_refl _) _).grown gq5 (by simp) (fun k hk => by simp [Value.ownBlock] at hk; omega); have bbq5 := bB.next hq5)
    | (at_builtin; refine wpList_app rfl (.tmp 46) (.tmp 47) rfl wp7.heap.size (.slice aq5 l0.length cq5) l0.length ([] ++ l0) rfl oq5 wq5.heap.size aB L.length cB L.reverse rfl (by simp) bbq5 NB2.out (by omega) hq5.size ?_; intro vq6 wq6 oq6 gq6; obtain ⟨aq6, cq6, rfl⟩ := own_shape oq6; have hq6 : Below wp7.heap.size wp7 wq6 := hq5.grown gq6 hq5.size (fun k hk => (oq5.lt k hk).1); have bbq6 := b3.next hq6)
    | (at_builtin; refine wpList_app rfl (.tmp 48) (.tmp 49) rfl wp7.heap.size (.slice aq6 (l0.length + L.length) cq6) (l0.length + L.length) ([] ++ l0 ++ L.reverse) rfl oq6 wq6.heap.size a3 l3.length c3 l3 rfl rfl bbq6 H3.out (by omega) hq6.size ?_; intro vq7 wq7 oq7 gq7; obtain ⟨aq7, cq7, rfl⟩ := own_shape oq7; have hq7 : Below wp7.heap.size wp7 wq7 := hq6.grown gq7 hq6.size (fun k hk => (oq6.lt k hk).1)))
  have hcapq := (own_cap oq7).1
  have hLr : L.reverse.length = L.length := by simp
  have bsq := Bs.of_own (l := l0 ++ L.reverse ++ l3) (own_cast (n' := (l0 ++ L.reverse ++ l3).length) oq7 (by simp; omega) (by simp)) ((hb0.1.app hLB.reverse).app hb3.1)
  have ltq : BG (l0 ++ L.reverse ++ l3) (l0.length : Int) (K : Int) = (low v K, 0) := by
    have hk : (K : Int) = (L.reverse.length : Int) := by rw [hLr, HL.out]
    have h1 := (bg_yes (l := l0 ++ L.reverse ++ l3) (at_ := (l0.length : Int)) (n := (K : Int)) (by omega) (by rw [hk]; simp; omega)).1
    rw [h1, hk, piece_mid, HLOW.out]
  have cq := octBig aq7 (l0.length + L.length + l3.length) cq7 (l0 ++ L.reverse ++ l3) (by simp; omega) (l0.length : Int) (K : Int) (by omega) (by omega) hcapq (by omega) wq7 _ bsq
  rw [ltq] at cq
  have CQ := Lib.hid cq
  have hwq := hw7.trans (hq7.mono hw7.size)
  clear oq5 gq5 oq6 gq6 oq7 gq7 hq5 hq6 hq7 bbq5 bbq6 bsq ltq cq bB hw7 b0 b3 hLr hL1 hL8 hK hn
  refine CQ.out.mono ?_; rintro e w9 ⟨rfl, rfl⟩
  by_cases hK7 : K ≤ 7
  · have ha := HAND.out hK7
    generalize low v K = lo at *
    have hle := pow_mono2 (show 8 * K ≤ 56 by omega)
    have hpp := pow_pos2 (8 * K)
    have h56 : (2 : Int) ^ 56 = 72057594037927936 := by decide
    rw [h56] at hle
    clear h56
    go_wp2_with fail
    go_ret
    exact ⟨by simp, hwq⟩
  · have h8 := H8.out (by omega)
    rw [h8] at *
    have hK8' : (8 : Int) ≤ K := by omega
    go_wp2_with fail
    go_ret
    exact ⟨by simp, hwq⟩
end Go.Proofs.Ytkkgfphfilbcdaa
