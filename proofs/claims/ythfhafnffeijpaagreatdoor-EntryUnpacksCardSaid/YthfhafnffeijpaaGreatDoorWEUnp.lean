/- The walk of the law EntryUnpacks: it returns true and turns nothing that was there. Condition: the order of the lengths lies where the program's own text lays it. -/
import Derived.Test.YthfhafnffeijpaaGreatDoorRefT
import Derived.Test.YthfhafnffeijpaaGreatDoorRec
set_option linter.unusedVariables false
set_option maxRecDepth 100000
namespace Go.Proofs.YthfhafnffeijpaaGreatDoor
open Go.RowKit Go.Maps Go.ChangeMaps

theorem unpR_ok {w w' : World} {s : Except Int (List Int)} {e : Ending} (h : UnpR w s e w') {b : List Int} (hs : s = .ok b) : Below w.heap.size w w' ∧ ∃ a c, e = .returned (.tuple #[.slice a b.length c, .int .i64 0]) ∧ Bytes b ∧ w'.ownsRow w.heap.size 5 1 (.slice a b.length c) b.length (b.map (Value.int .u8)) := by
  obtain ⟨hb, ⟨b', v, h1, h2, h3, a, c, rfl, h4⟩ | ⟨er, h1, _, _⟩⟩ := h
  · rw [hs] at h1; injection h1 with h1; subst h1; exact ⟨hb, a, c, h2, h3, h4⟩
  · rw [hs] at h1; cases h1
theorem unpR_bad {w w' : World} {s : Except Int (List Int)} {e : Ending} (h : UnpR w s e w') {er : Int} (hs : s = .error er) : Below w.heap.size w w' ∧ er ≠ 0 ∧ e = .returned (.tuple #[.slice none 0 0, .int .i64 er]) := by
  obtain ⟨hb, ⟨b', v, h1, _⟩ | ⟨er', h1, h2, h3⟩⟩ := h
  · rw [hs] at h1; cases h1
  · rw [hs] at h1; injection h1 with h1; subst h1; exact ⟨hb, h2, h3⟩
set_option maxHeartbeats 8000000 in
theorem entryunpacks_walk (w : World) (nm : ByteArray) (me pk sz sm at_ hd : Int) (a : Option Addr) (n c : Nat) (l : List Int) (hn : l.length = n) (hc : n ≤ c) (hA : a = none → c = 0) (hm : c ≤ 140737488351232) (hb : Bs w w.heap.size a l) (hord : Ord w) :
    Calls Tryz.prog 3 #[recV nm me pk sz sm at_ hd, .slice a n c] w fun e w' => e = .returned (.bool true) ∧ Below w.heap.size w w' := by
  have hnew : (w.alloc (.cells #[.string nm, .int .i64 me, .int .i64 pk, .int .i64 sz, .int .i64 sm, .int .i64 at_, .int .i64 hd] 23)).heap[w.heap.size]? = some (.cells (recC nm me pk sz sm at_ hd) 23 (0, 0)) := heap_alloc_new w _
  have hbel := (Below.refl w.heap.size w).alloc (Nat.le_refl _) (.cells #[.string nm, .int .i64 me, .int .i64 pk, .int .i64 sz, .int .i64 sm, .int .i64 at_, .int .i64 hd] 23)
  have hfx := fixed10 _ (hord.below hbel)
  have hA' : a = none → n = 0 ∧ c = 0 := fun h => by have := hA h; omega
  have hz0 : (w.alloc (.cells #[.string nm, .int .i64 me, .int .i64 pk, .int .i64 sz, .int .i64 sm, .int .i64 at_, .int .i64 hd] 23)).heap.size = w.heap.size + 1 := by simp
  have H0 := Lib.hid (And.intro hord (And.intro hb (And.intro hA' (And.intro hnew (And.intro hbel (And.intro hz0 hA))))))
  clear hord hb hA hA' hnew hbel hz0
  unfold recV
  go_enter Tryz.func3, Tryz.ntmps3
  go_wp2_with fail
  refine hfx.mono ?_
  rintro e w1 ⟨rfl, hb1⟩
  have hw1 := below_next H0.out.2.2.2.2.1 (Nat.le_refl _) hb1
  have hr1 := (hb1.block w.heap.size (by rw [H0.out.2.2.2.2.2.1]; omega)).trans H0.out.2.2.2.1
  have H1 := Lib.hid (And.intro hw1 hr1)
  clear hfx hb1 hw1 hr1
  by_cases hlong : 6000 < n
  · have hd : decide ((n : Int) > 6000) = true := by simp; omega
    go_wp2_with fail
    go_ret
    exact ⟨rfl, H1.out.1⟩
  have hd6 : decide ((n : Int) > 6000) = false := by simp; omega
  have bs1 := (H0.out.2.1.below H1.out.1).more H1.out.1.size
  have hbyl := H0.out.2.1.1
  go_wp2_with (first | (at_builtin; refine wpList_app rfl _ _ rfl w1.heap.size (.slice (some ⟨w1.heap.size, 0, none⟩) 0 0) 0 [] rfl (World.ownsRow_lit w1 #[] 0 (Nat.le_refl _) (by decide) rfl) w1.heap.size a n c l rfl hn (bs1.alloc (Nat.le_refl _) _) H0.out.2.2.1 (by omega) (by simp) ?_; intro v2 w2 o2 g2; rw [Nat.zero_add] at o2; obtain ⟨a2, c2, rfl⟩ := own_shape o2; have hb2 : Below w1.heap.size w1 w2 := ((Below.refl w1.heap.size w1).alloc (Nat.le_refl _) _).grown g2 (by simp) (fun k hk => by simp [Value.ownBlock] at hk; omega)) | (refine rec_ld rfl rfl w.heap.size rfl ((hb2.block w.heap.size (blk_lt H1.out.2)).trans H1.out.2) ?_))
  have ho2 := own_cast (n' := l.length) (ys := l.map (Value.int .u8)) o2 hn.symm (by simp)
  have bs2 : Bs w2 w2.heap.size a2 l := Bs.of_own ho2 hbyl
  have hw2 := below_next H1.out.1 (Nat.le_refl _) hb2
  have hr2 := (hb2.block w.heap.size (blk_lt H1.out.2)).trans H1.out.2
  have hun := unpack_is w2 a2 n c2 l hn (by omega) bs2 nm me pk sz sm at_ hd (H0.out.1.below hw2)
  have H2 := Lib.hid (And.intro hw2 (And.intro bs2 hr2))
  clear o2 g2 hb2 bs1 hbyl bs2 hw2 ho2 hr2
  refine hun.mono ?_
  intro e w3 h3
  cases hu : unpackS me pk sz sm l with
  | error er =>
    obtain ⟨hb3, hne, rfl⟩ := unp_bad h3 hu
    have hw3 := below_next H2.out.1 (Nat.le_refl _) hb3
    have hsz3 := hb3.size
    have hr3 := (hb3.block w.heap.size (blk_lt H2.out.2.2)).trans H2.out.2.2
    have hru := refUnpack w3 a n c l hn hc (by omega) hm H0.out.2.2.2.2.2.2 ((H0.out.2.1.below hw3).more hw3.size) nm me pk sz sm at_ hd
    have H3 := Lib.hid (And.intro hw3 (And.intro hr3 (And.intro (H2.out.2.1.below hb3) hu)))
    clear h3 hun hb3 hu hw3 hr3
    go_wp2_with (refine rec_ld rfl rfl w.heap.size rfl H3.out.2.1 ?_)
    refine hru.mono ?_
    intro e w4 h4
    obtain ⟨hb4, _, rfl⟩ := unpR_bad h4 H3.out.2.2.2
    have hw4 := below_next H3.out.1 (Nat.le_refl _) hb4
    have bs4 := H3.out.2.2.1.below (hb4.mono hsz3)
    have hs1 := same_trueR (w := w4) (B := 0) (B' := 0) (a := none) (a' := none) (n := 0) (c := 0) (n' := 0) (c' := 0) (l := []) rfl rfl (by unfold maxLen; simp) (Bs.nil_ _ _ _) (Bs.nil_ _ _ _)
    have hs2 := fun d => same_trueR (w := w4.drewN d) (a := a2) (a' := a) (n := n) (c := c2) (n' := n) (c' := c) (l := l) hn hn (by unfold maxLen; omega) (bs4.below (low_drewN (Below.refl _ _) d)) (H0.out.2.1.below (low_drewN hw4 d))
    have t3 : (er == er) = true := by simp
    have H4 := Lib.hid hw4
    clear hb4 hw4 hru h4 bs4
    go_wp2_with fail
    refine hs1.mono ?_
    rintro e w5 ⟨rfl, d, rfl⟩
    clear hs1
    have hs2' := hs2 d
    clear hs2
    go_wp2_with fail
    refine hs2'.mono ?_
    rintro e w6 ⟨rfl, d2, rfl⟩
    clear hs2'
    go_wp2_with fail
    go_ret
    exact ⟨rfl, low_drewN H4.out _⟩
  | ok b =>
    obtain ⟨hb3, ax, cx, rfl, hBb, hbl, hox⟩ := unp_ok h3 hu
    have hw3 := below_next H2.out.1 (Nat.le_refl _) hb3
    have hsz3 := hb3.size
    have hr3 := (hb3.block w.heap.size (blk_lt H2.out.2.2)).trans H2.out.2.2
    have hru := refUnpack w3 a n c l hn hc (by omega) hm H0.out.2.2.2.2.2.2 ((H0.out.2.1.below hw3).more hw3.size) nm me pk sz sm at_ hd
    have H3 := Lib.hid (And.intro hw3 (And.intro hr3 (And.intro (H2.out.2.1.below hb3) (And.intro hu (And.intro hox hBb)))))
    clear h3 hun hb3 hu hw3 hr3 hox hBb
    go_wp2_with (refine rec_ld rfl rfl w.heap.size rfl H3.out.2.1 ?_)
    refine hru.mono ?_
    intro e w4 h4
    obtain ⟨hb4, ay, cy, rfl, _, hoy⟩ := unpR_ok h4 H3.out.2.2.2.1
    have hw4 := below_next H3.out.1 (Nat.le_refl _) hb4
    have bs4 := H3.out.2.2.1.below (hb4.mono hsz3)
    have hs1 := same_trueR (w := w4) (a := ax) (a' := ay) (n := b.length) (c := cx) (n' := b.length) (c' := cy) (l := b) rfl rfl (by unfold maxLen; omega) (Bs.of_own (own_below H3.out.2.2.2.2.1 hb4) H3.out.2.2.2.2.2) (Bs.of_own hoy H3.out.2.2.2.2.2)
    have hs2 := fun d => same_trueR (w := w4.drewN d) (a := a2) (a' := a) (n := n) (c := c2) (n' := n) (c' := c) (l := l) hn hn (by unfold maxLen; omega) (bs4.below (low_drewN (Below.refl _ _) d)) (H0.out.2.1.below (low_drewN hw4 d))
    have H4 := Lib.hid hw4
    clear hb4 hw4 hru h4 bs4 hoy
    go_wp2_with fail
    refine hs1.mono ?_
    rintro e w5 ⟨rfl, d, rfl⟩
    clear hs1
    have hs2' := hs2 d
    clear hs2
    go_wp2_with fail
    refine hs2'.mono ?_
    rintro e w6 ⟨rfl, d2, rfl⟩
    clear hs2'
    go_wp2_with fail
    go_ret
    exact ⟨rfl, low_drewN H4.out _⟩
end Go.Proofs.YthfhafnffeijpaaGreatDoor
