/- The calls of layer 9 whose answers the document fixes. Condition: the variable internal/bytealg.MaxLen has a value. -/
import Derived.Test.YtimojfkpcmphfaaDoorDe
import Derived.Test.YtimojfkpcmphfaaDoorNe
import Derived.Test.YtimojfkpcmphfaaDoorDn
import Derived.Lib.AppendZerosOnto
import Derived.Test.YtimojfkpcmphfaaDoorCr
set_option linter.unusedVariables false
set_option maxRecDepth 100000
namespace Go.Proofs.YtimojfkpcmphfaaDoor
open Go.RowKit Go.Maps Go.ChangeMaps
theorem bytes_of9 {l : List Int} (h : (l.all fun n => decide (0 ≤ n) && decide (n ≤ 255)) = true) : Bytes l := fun n hn => by
  have := List.all_eq_true.1 h n hn
  simpa using this

def z22 : List Int := [80, 75, 5, 6, 0, 0, 0, 0, 0, 0, 0, 0, 0, 0, 0, 0, 0, 0, 0, 0, 0, 0]
def y22 : List Int := [80, 75, 5, 6, 1, 0, 0, 0, 0, 0, 0, 0, 0, 0, 0, 0, 0, 0, 0, 0, 0, 0]
theorem by_z : Bytes z22 := bytes_of9 rfl
theorem end_z : endS z22 = .ok (0, 0, 0) := by kernel_rfl
theorem end_y : endS y22 = .error 10 := by kernel_rfl
theorem end_z0 : endS (z22 ++ [0]) = .error 9 := by kernel_rfl
theorem nm1 : nameB ⟨#[97, 47, 98]⟩ = true := by kernel_rfl
theorem nm2 : nameB ⟨#[97, 47]⟩ = true := by kernel_rfl
theorem nm3 : nameB ⟨#[47, 97]⟩ = false := by kernel_rfl
theorem nm4 : nameB ⟨#[97, 47, 47, 98]⟩ = false := by kernel_rfl
theorem nm5 : nameB ⟨#[46, 46, 47, 97]⟩ = false := by kernel_rfl
theorem nm6 : nameB ⟨#[]⟩ = false := by kernel_rfl
theorem zeros_is (w : World) : ∃ c w', (Builtin.append_ #[22, 3] 22 #[.slice (some ⟨w.heap.size, 0, none⟩) 4 4, .int .i64 18]).run Tryd.prog (w.alloc (.cells #[.int .u8 80, .int .u8 75, .int .u8 5, .int .u8 6] 5)) = .ok (.slice (some ⟨w.heap.size + 1, 0, none⟩) 22 c) w' ∧ 22 ≤ c ∧ w'.ownsRow w.heap.size 5 1 (.slice (some ⟨w.heap.size + 1, 0, none⟩) 22 c) 22 (z22.map (Value.int .u8)) ∧ Below w.heap.size w w' := by
  obtain ⟨i0, hi, hz0, hz1, hz2⟩ := info_parts u8_info
  obtain ⟨W, hW⟩ : ∃ W, w.alloc (.cells #[.int .u8 80, .int .u8 75, .int .u8 5, .int .u8 6] 5) = W := ⟨_, rfl⟩
  have hnew : W.heap[w.heap.size]? = some (.cells #[.int .u8 80, .int .u8 75, .int .u8 5, .int .u8 6] 5 (0, 0)) := by rw [← hW]; exact heap_alloc_new w _
  have hWs : W.heap.size = w.heap.size + 1 := by rw [← hW]; simp
  have hlow : Below w.heap.size w W := by rw [← hW]; exact (Below.refl _ _).alloc (Nat.le_refl _) _
  rw [hW]
  have hold : (Builtin.firstCells i0.size 4 (.slice (some ⟨w.heap.size, 0, none⟩) 4 4)).run Tryd.prog W.drew = .ok (([80, 75, 5, 6] : List Int).map (Value.int .u8)).toArray W.drew := by
    rw [hz1]
    refine run_firstCells_some W.drew 1 4 _ 4 4 _ rfl ?_
    intro j x hx
    show W.cell? (Addr.add ⟨w.heap.size, 0, none⟩ j) = some x
    rw [show Addr.add ⟨w.heap.size, 0, none⟩ j = ⟨w.heap.size, j, none⟩ by simp [Addr.add]; exact fun h => h.symm, blk_cell hnew]
    rw [← hx]; simp
  have hr := Go.Lib.run_append_grow_zeros (P := Tryd.prog) W 22 3 22 5 i0 (.int .u8 0) .i64 .i64 Tryd.underlying22 Tryd.underlying3 hi hz0 (some ⟨w.heap.size, 0, none⟩) 4 4 _ hold 18 (by decide) (by rw [hz1]; decide) (by omega) (by omega) (by rw [hz2]; omega) (by rw [hz2]; exact growslice_fits (by omega) (by omega))
  have hge : 4 + 18 ≤ grownCap W (4 + 18) 4 5 := grownCap_ge W 22 4 5
  have hle : grownCap W (4 + 18) 4 5 ≤ maxLen := grownCap_le_maxLen W 22 4 5 (by unfold maxLen; omega)
  rw [hWs] at hr
  have e18 : Builtin.zeroCells (Value.int .u8 0).cells 18 = ((List.replicate 18 (0 : Int)).map (Value.int .u8)).toArray := by kernel_rfl
  rw [e18] at hr
  obtain ⟨X, hX⟩ : ∃ X, Builtin.zeroCells (Value.int .u8 0).cells (grownCap W (4 + 18) 4 5 - (4 + 18)) = X := ⟨_, rfl⟩
  have hXs : X.size = grownCap W (4 + 18) 4 5 - (4 + 18) := by rw [← hX, size_zeroCells]; exact Nat.mul_one _
  rw [hX] at hr
  obtain ⟨C, hC⟩ : ∃ C, (([80, 75, 5, 6] : List Int).map (Value.int .u8)).toArray ++ ((List.replicate 18 (0 : Int)).map (Value.int .u8)).toArray ++ X = C := ⟨_, rfl⟩
  rw [hC] at hr
  have hCs : C.size = grownCap W (4 + 18) 4 5 := by
    rw [← hC]
    simp only [Array.size_append, List.size_toArray, List.length_map, List.length_replicate, List.length_cons, List.length_nil, hXs]
    omega
  have hCt : C.toList.take 22 = z22.map (Value.int .u8) := by
    rw [← hC, Array.toList_append, Array.toList_append, List.take_append_of_le_length (by simp)]
    rfl
  have hnw := heap_alloc_new W.drew (.cells C 5)
  rw [show W.drew.heap.size = w.heap.size + 1 from hWs] at hnw
  exact ⟨_, _, hr, hge, ⟨rfl, .inr ⟨w.heap.size + 1, _, C, rfl, by omega, hnw, hge, hle, by rw [hCs, Nat.mul_one], hCt⟩⟩, (low_drewN hlow 1).alloc hlow.size _⟩
theorem dirErr' (w : World) (b : Option Addr) (n c : Nat) (l : List Int) (hn : l.length = n) (hc : n ≤ c) (hm : n ≤ 65536) (hb : Bs w w.heap.size b l) (er : Int) (he : endS l = .error er) : Calls Tryd.prog 8 #[.slice b n c] w fun e w' => e = .returned (.tuple #[.slice none 0 0, .int .i64 er]) ∧ Below w.heap.size w w' := by
  subst hn; exact dirErr w b c l hc hm hb er he
theorem wpList_z22 {w : World} {ops : Array Oper} {rest : List Oper} {o : Oper} {a : Act} {Q : Exit → Act → World → Prop} (hgd : o.guard = none) (s x : Operand)
    (ho : o.op = .call { callee := .builtin .append, args := #[s, x], argTypes := #[22, 3] }) (hty : o.type = 22) (w0 : World) (hw : w = w0.alloc (.cells #[.int .u8 80, .int .u8 75, .int .u8 5, .int .u8 6] 5)) (hs : a.eval s = .slice (some ⟨w0.heap.size, 0, none⟩) 4 4) (hx : a.eval x = .int .i64 18)
    (h : ∀ c w', 22 ≤ c → w'.ownsRow w0.heap.size 5 1 (.slice (some ⟨w0.heap.size + 1, 0, none⟩) 22 c) 22 (z22.map (Value.int .u8)) → Below w0.heap.size w0 w' → wpList Tryd.prog ops Q rest (a.put o.dst (.slice (some ⟨w0.heap.size + 1, 0, none⟩) 22 c)) w') : wpList Tryd.prog ops Q (o :: rest) a w :=
  wpList_plain hgd fun _ hK => by
    subst hw
    obtain ⟨c, w', hr, h2, h3, h4⟩ := zeros_is w0
    unfold Oper.wp execOp
    simp only [ho, hty, resolve, invoke, builtin, Sem.run_bind, Sem.run_pure, Result.andThen_ok, List.map_toArray, List.map_cons, List.map_nil, hs, hx, hr]
    exact hK _ _ (h c w' h2 h3 h4)
set_option maxHeartbeats 8000000 in
theorem fixed9 (w : World) (hmx : Mx w) : Calls Tryd.prog 7 #[] w fun e w' => e = .returned (.bool true) ∧ Below w.heap.size w w' := by
  go_enter Tryd.func7, Tryd.ntmps7
  go_wp2_with (at_builtin; refine wpList_z22 rfl _ _ rfl rfl w rfl rfl rfl ?_; intro c1 w1 hc1 hown1 hb1)
  have hd1 := dirZero w1 _ c1 z22 hc1 (by decide) (Bs.of_own (l := z22) hown1 by_z) end_z
  have H1 := Lib.hid (And.intro hown1 hb1)
  clear hown1 hb1
  go_wp2_with fail
  refine hd1.mono ?_
  rintro e w2 ⟨rfl, hb2⟩
  have hb12 := below_next H1.out.2 (Nat.le_refl _) hb2
  have hown2 := own_below H1.out.1 hb2
  have hbs2 : Bs w2 w2.heap.size (some ⟨w.heap.size + 1, 0, none⟩) z22 := Bs.of_own (l := z22) hown2 by_z
  have H2 := Lib.hid (And.intro hown2 hb12)
  clear hd1 hb2 hb12 hown2
  go_wp2_with (first
    | (at_builtin; refine wpList_app2 rfl _ _ rfl w2.heap.size (.slice (some ⟨w2.heap.size, 0, none⟩) 0 0) 0 [] rfl (World.ownsRow_lit w2 #[] 0 (Nat.le_refl _) (by decide) rfl) w2.heap.size (some ⟨w.heap.size + 1, 0, none⟩) 22 c1 z22 rfl rfl (hbs2.alloc (Nat.le_refl _) _) (fun h => by cases h) (by omega) (by simp) ?_; intro v3 w3 hown3 hg3 hob3; have hb3 : Below w2.heap.size w2 w3 := ((Below.refl w2.heap.size w2).alloc (Nat.le_refl _) _).grown hg3 (by simp) (fun k hk => by simp [Value.ownBlock] at hk; omega); obtain ⟨g3, c3, rfl, hg3a, hg3b⟩ := hown3.form (by decide); rw [List.nil_append] at hown3; have H3 := Lib.hid (And.intro hown3 (And.intro hb3 hg3a)); clear hown3 hb3 hob3 hg3 hg3a hg3b)
    | (at_builtin; refine wpList_app2 rfl _ _ rfl w2.heap.size (.slice (some ⟨g3, 0, none⟩) 22 c3) 22 z22 rfl (own_below H3.out.1 ((Below.refl w3.heap.size w3).alloc (Nat.le_refl _) _)) (w3.heap.size + 1) (some ⟨w3.heap.size, 0, none⟩) 1 1 [0] rfl rfl (bs_lit w3 5 [0] (0, 0) (bytes_of9 rfl)) (fun h => by cases h) (by omega) (by have := H3.out.2.1.size; simp; omega) ?_; intro v4 w4 hown4 hg4 hob4; have hb4 : Below w2.heap.size w2 w4 := (H3.out.2.1.alloc H3.out.2.1.size _).grown hg4 (by have := H3.out.2.1.size; simp; omega) (fun k hk => by have := H3.out.2.2; simp [Value.ownBlock] at hk; omega); obtain ⟨g4, c4, rfl, hg4a, hg4b⟩ := hown4.form (by decide); have H4 := Lib.hid (And.intro hown4 hb4); clear hown4 hb4 hg4 hob4 hg4a hg4b))
  have hd2 := dirErr' w4 (some ⟨g4, 0, none⟩) 23 c4 (z22 ++ [0]) rfl (own_cap H4.out.1).1 (by decide) (Bs.of_own (l := z22 ++ [0]) H4.out.1 (bytes_of9 rfl)) 9 end_z0
  refine hd2.mono ?_
  rintro e w5 ⟨rfl, hb5⟩
  have hb25 := below_next H4.out.2 (Nat.le_refl _) hb5
  have hown5 := own_below H2.out.1 hb25
  have hbs5 : Bs w5 w5.heap.size (some ⟨w.heap.size + 1, 0, none⟩) z22 := Bs.of_own (l := z22) hown5 by_z
  have H5 := Lib.hid (below_next H2.out.2 (Nat.le_refl _) hb25)
  clear hd2 hb5 hb25 hown5 hbs2 H3 H4 H2
  go_wp2_with (at_builtin; refine wpList_app2 rfl _ _ rfl w5.heap.size (.slice (some ⟨w5.heap.size, 0, none⟩) 0 0) 0 [] rfl (World.ownsRow_lit w5 #[] 0 (Nat.le_refl _) (by decide) rfl) w5.heap.size (some ⟨w.heap.size + 1, 0, none⟩) 22 c1 z22 rfl rfl (hbs5.alloc (Nat.le_refl _) _) (fun h => by cases h) (by omega) (by simp) ?_; intro v6 w6 hown6 hg6 hob6; have hb6 : Below w5.heap.size w5 w6 := ((Below.refl w5.heap.size w5).alloc (Nat.le_refl _) _).grown hg6 (by simp) (fun k hk => by simp [Value.ownBlock] at hk; omega); obtain ⟨g6, c6, rfl, hg6a, hg6b⟩ := hown6.form (by decide); rw [List.nil_append] at hown6; have hcell6 : w6.cell? ⟨g6, 4, none⟩ = some (.int .u8 0) := own_byte (l := z22) hown6 rfl (by decide); have hfree6 := hown6.frozenAt 4; have hput6 := own_put (l := z22) hown6 4 1; have hb6' := below_next H5.out (Nat.le_refl _) (Below.setCell hb6 (p := ⟨g6, 4, none⟩) hg6a (.int .u8 1)); have H6 := Lib.hid (And.intro hput6 hb6'); clear hown6 hb6 hob6 hg6 hg6a hg6b hput6 hb6')
  obtain ⟨W6, hW6⟩ : ∃ W6, w6.setCell ⟨g6, 4, none⟩ (.int .u8 1) = W6 := ⟨_, rfl⟩
  rw [hW6] at H6 ⊢
  have hd3 := dirErr' W6 (some ⟨g6, 0, none⟩) 22 c6 y22 rfl (own_cap H6.out.1).1 (by decide) (Bs.of_own (l := y22) H6.out.1 (bytes_of9 rfl)) 10 end_y
  clear hcell6 hfree6 hW6 hbs5
  refine hd3.mono ?_
  rintro e w7 ⟨rfl, hb7⟩
  have H7 := Lib.hid (below_next H6.out.2 (Nat.le_refl _) hb7)
  have hd4 := dirNil w7
  clear hd3 hb7
  go_wp2_with fail
  refine hd4.mono ?_
  rintro e w8 ⟨rfl, hb8⟩
  have H8 := Lib.hid (below_next H7.out (Nat.le_refl _) hb8)
  have hn1 := name_is ⟨#[97, 47, 98]⟩ w8 (hmx.below H8.out)
  rw [nm1] at hn1
  clear hd4 hb8
  go_wp2_with fail
  refine hn1.mono ?_
  rintro e w9 ⟨rfl, hb9⟩
  have H9 := Lib.hid (below_next H8.out (Nat.le_refl _) hb9)
  have hn2 := name_is ⟨#[97, 47]⟩ w9 (hmx.below H9.out)
  rw [nm2] at hn2
  clear hn1 hb9
  go_wp2_with fail
  refine hn2.mono ?_
  rintro e w10 ⟨rfl, hb10⟩
  have H10 := Lib.hid (below_next H9.out (Nat.le_refl _) hb10)
  have hn3 := name_is ⟨#[47, 97]⟩ w10 (hmx.below H10.out)
  rw [nm3] at hn3
  clear hn2 hb10
  go_wp2_with fail
  refine hn3.mono ?_
  rintro e w11 ⟨rfl, hb11⟩
  have H11 := Lib.hid (below_next H10.out (Nat.le_refl _) hb11)
  have hn4 := name_is ⟨#[97, 47, 47, 98]⟩ w11 (hmx.below H11.out)
  rw [nm4] at hn4
  clear hn3 hb11
  go_wp2_with fail
  refine hn4.mono ?_
  rintro e w12 ⟨rfl, hb12⟩
  have H12 := Lib.hid (below_next H11.out (Nat.le_refl _) hb12)
  have hn5 := name_is ⟨#[46, 46, 47, 97]⟩ w12 (hmx.below H12.out)
  rw [nm5] at hn5
  clear hn4 hb12
  go_wp2_with fail
  refine hn5.mono ?_
  rintro e w13 ⟨rfl, hb13⟩
  have H13 := Lib.hid (below_next H12.out (Nat.le_refl _) hb13)
  have hn6 := name_is ⟨#[]⟩ w13 (hmx.below H13.out)
  rw [nm6] at hn6
  clear hn5 hb13
  go_wp2_with fail
  refine hn6.mono ?_
  rintro e w14 ⟨rfl, hb14⟩
  have H14 := Lib.hid (below_next H13.out (Nat.le_refl _) hb14)
  clear hn6 hb14
  go_wp2_with fail
  go_ret
  exact ⟨rfl, H14.out⟩
end Go.Proofs.YtimojfkpcmphfaaDoor
