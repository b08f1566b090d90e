import Derived.Test.YtmmnfkggfnokjaaGreatZr5
import Derived.OrdersHeld
import Derived.Deep.RegionHeld3
namespace Go.Proofs.YtmmnfkggfnokjaaGreat
open Go.RowKit
set_option maxHeartbeats 40000000 in
set_option maxRecDepth 100000 in
theorem head12_any (w : World) : Calls Tryz.prog 5 #[] w fun e w' => e = .returned (.bool true) ∧ Below w.heap.size w w' := by
  go_enter Tryz.func5, Tryz.ntmps5
  go_wp2_with fail
  obtain ⟨W0, hW0⟩ : ∃ V, ((w.alloc (.cells #[.int .i64 3, .string ⟨#[97]⟩, .int .i64 0] 42)).alloc (.cells #[.int .i64 3, .string ⟨#[98]⟩, .int .i64 0] 42)).alloc (.cells #[.int .i64 1, .string ⟨#[]⟩, .int .i64 0] 42) = V := ⟨_, rfl⟩
  have hb0 : Below w.heap.size w W0 := by rw [← hW0]; exact (((Below.refl _ _).new _).new _).new _
  have a0 : W0.cell? ⟨w.heap.size, 0, none⟩ = some (.int .i64 3) := by rw [← hW0]; exact keep (keep (cell_mk w _ _ 0 _ rfl) ((Below.refl _ _).new _)) ((Below.refl _ _).new _)
  have a1 : W0.cell? ⟨w.heap.size, 1, none⟩ = some (.string ⟨#[97]⟩) := by rw [← hW0]; exact keep (keep (cell_mk w _ _ 1 _ rfl) ((Below.refl _ _).new _)) ((Below.refl _ _).new _)
  have a2 : W0.cell? ⟨w.heap.size, 2, none⟩ = some (.int .i64 0) := by rw [← hW0]; exact keep (keep (cell_mk w _ _ 2 _ rfl) ((Below.refl _ _).new _)) ((Below.refl _ _).new _)
  have b0 : W0.cell? ⟨(w.alloc (.cells #[.int .i64 3, .string ⟨#[97]⟩, .int .i64 0] 42)).heap.size, 0, none⟩ = some (.int .i64 3) := by rw [← hW0]; exact keep (cell_mk (w.alloc (.cells #[.int .i64 3, .string ⟨#[97]⟩, .int .i64 0] 42)) _ _ 0 _ rfl) ((Below.refl _ _).new _)
  have b1 : W0.cell? ⟨(w.alloc (.cells #[.int .i64 3, .string ⟨#[97]⟩, .int .i64 0] 42)).heap.size, 1, none⟩ = some (.string ⟨#[98]⟩) := by rw [← hW0]; exact keep (cell_mk (w.alloc (.cells #[.int .i64 3, .string ⟨#[97]⟩, .int .i64 0] 42)) _ _ 1 _ rfl) ((Below.refl _ _).new _)
  have b2 : W0.cell? ⟨(w.alloc (.cells #[.int .i64 3, .string ⟨#[97]⟩, .int .i64 0] 42)).heap.size, 2, none⟩ = some (.int .i64 0) := by rw [← hW0]; exact keep (cell_mk (w.alloc (.cells #[.int .i64 3, .string ⟨#[97]⟩, .int .i64 0] 42)) _ _ 2 _ rfl) ((Below.refl _ _).new _)
  have v0 : W0.cell? ⟨((w.alloc (.cells #[.int .i64 3, .string ⟨#[97]⟩, .int .i64 0] 42)).alloc (.cells #[.int .i64 3, .string ⟨#[98]⟩, .int .i64 0] 42)).heap.size, 0, none⟩ = some (.int .i64 1) := by rw [← hW0]; exact cell_mk ((w.alloc (.cells #[.int .i64 3, .string ⟨#[97]⟩, .int .i64 0] 42)).alloc (.cells #[.int .i64 3, .string ⟨#[98]⟩, .int .i64 0] 42)) _ _ 0 _ rfl
  have v1 : W0.cell? ⟨((w.alloc (.cells #[.int .i64 3, .string ⟨#[97]⟩, .int .i64 0] 42)).alloc (.cells #[.int .i64 3, .string ⟨#[98]⟩, .int .i64 0] 42)).heap.size, 1, none⟩ = some (.string ⟨#[]⟩) := by rw [← hW0]; exact cell_mk ((w.alloc (.cells #[.int .i64 3, .string ⟨#[97]⟩, .int .i64 0] 42)).alloc (.cells #[.int .i64 3, .string ⟨#[98]⟩, .int .i64 0] 42)) _ _ 1 _ rfl
  have v2 : W0.cell? ⟨((w.alloc (.cells #[.int .i64 3, .string ⟨#[97]⟩, .int .i64 0] 42)).alloc (.cells #[.int .i64 3, .string ⟨#[98]⟩, .int .i64 0] 42)).heap.size, 2, none⟩ = some (.int .i64 0) := by rw [← hW0]; exact cell_mk ((w.alloc (.cells #[.int .i64 3, .string ⟨#[97]⟩, .int .i64 0] 42)).alloc (.cells #[.int .i64 3, .string ⟨#[98]⟩, .int .i64 0] 42)) _ _ 2 _ rfl
  rw [hW0]
  simp only [World.size_alloc] at b0 b1 b2 v0 v1 v2
  generalize w.heap.size + 1 + 1 = P3 at v0 v1 v2 ⊢
  generalize w.heap.size + 1 = P2 at b0 b1 b2 ⊢
  obtain ⟨P1, hP1⟩ : ∃ V, w.heap.size = V := ⟨_, rfl⟩
  rw [hP1] at a0 a1 a2 ⊢
  have HP := mkHid hP1
  have HB : Hid (Below w.heap.size w W0) := hb0
  have Za0 := mkHid a0
  have Za1 := mkHid a1
  have Za2 := mkHid a2
  have Zb0 := mkHid b0
  have Zb1 := mkHid b1
  have Zb2 := mkHid b2
  have Zv0 := mkHid v0
  have Zv1 := mkHid v1
  have Zv2 := mkHid v2
  clear hW0 hb0 hP1 a0 a1 a2 b0 b1 b2 v0 v1 v2
  generalize hA : Act.mk _ _ = A0
  refine Code.wp_mono (Q := fun ev A' W' => ev = .normal ∧ ∃ (e23 e24 e26 e27 e30 e31 : Value) (B : Nat) (a1 : Option Addr) (c1 : Nat) (a2 : Option Addr) (c2 : Nat) (a3 : Option Addr) (c3 : Nat), A' = ((((((((((((A0.put (some 22) (.agg #[.int .i64 3, .string ⟨#[97]⟩, .int .i64 0])).put (some 25) (.agg #[.int .i64 3, .string ⟨#[98]⟩, .int .i64 0])).put (some 28) (.agg #[.int .i64 3, .string ⟨#[97]⟩, .int .i64 0])).put (some 29) (.agg #[.int .i64 3, .string ⟨#[97]⟩, .int .i64 0])).put (some 23) e23).put (some 24) e24).put (some 26) e26).put (some 27) e27).put (some 30) e30).put (some 31) e31).put (some 32) (.slice (some ⟨B, 0, none⟩) 3 3)).put (some 4) (.slice (some ⟨B, 0, none⟩) 3 3)) ∧ Row W' (some ⟨B, 0, none⟩) 3 l12 ∧ W'.cell? ⟨B, 0, none⟩ = some (.slice a1 2 c1) ∧ W'.cell? ⟨B, 1, none⟩ = some (.slice a2 2 c2) ∧ W'.cell? ⟨B, 2, none⟩ = some (.slice a3 3 c3) ∧ Row W' a1 c1 pA ∧ Row W' a2 c2 pB ∧ Row W' a3 c3 qAA ∧ Below W0.heap.size W0 W') ?_ ?_
  rotate_left
  · subst hA
    have HS : Hid (∀ X, Below W0.heap.size W0 X → (fun X => X.cell? ⟨P1, 0, none⟩ = some (.int .i64 3) ∧ X.cell? ⟨P1, 1, none⟩ = some (.string ⟨#[97]⟩) ∧ X.cell? ⟨P1, 2, none⟩ = some (.int .i64 0) ∧ X.cell? ⟨P2, 0, none⟩ = some (.int .i64 3) ∧ X.cell? ⟨P2, 1, none⟩ = some (.string ⟨#[98]⟩) ∧ X.cell? ⟨P2, 2, none⟩ = some (.int .i64 0)) X) := fun X h => ⟨keep Za0.out h, keep Za1.out h, keep Za2.out h, keep Zb0.out h, keep Zb1.out h, keep Zb2.out h⟩
    have hd0 : Below W0.heap.size W0 W0.drew := (Below.refl _ _).drew
    refine wp_region_noPanic ?_
    refine wp_region_held_drew (S := fun X => X.cell? ⟨P1, 0, none⟩ = some (.int .i64 3) ∧ X.cell? ⟨P1, 1, none⟩ = some (.string ⟨#[97]⟩) ∧ X.cell? ⟨P1, 2, none⟩ = some (.int .i64 0) ∧ X.cell? ⟨P2, 0, none⟩ = some (.int .i64 3) ∧ X.cell? ⟨P2, 1, none⟩ = some (.string ⟨#[98]⟩) ∧ X.cell? ⟨P2, 2, none⟩ = some (.int .i64 0)) (by kernel_rfl) (HS.out _ hd0) (fun hSd => ?_)
    obtain ⟨x1, hx0⟩ : ∃ X, W0.drew = X := ⟨_, rfl⟩
    rw [hx0] at hd0 hSd ⊢
    clear hx0
    refine wpAnyH_take (i := 0) (oi := _) (v := ?_) rfl (by kernel_rfl) (by kernel_rfl) (by kernel_rfl) (fun _ _ _ h => h) (Or.inl ⟨by kernel_rfl, ?_⟩) (by assumption) ?_
    rotate_left
    · (intro w' hSw; obtain ⟨s0, s1, s2, s3, s4, s5⟩ := hSw; go_simp; try with_reducible rfl)
    (try simp only [List.getElem_toArray, List.getElem_cons_succ, List.getElem_cons_zero, Act.put, List.setIfInBounds_toArray, List.set_cons_zero, List.set_cons_succ])
    refine wpAnyH_take (i := 3) (oi := _) (v := ?_) rfl (by kernel_rfl) (by kernel_rfl) (by kernel_rfl) (fun _ _ _ h => h) (Or.inl ⟨by kernel_rfl, ?_⟩) (by assumption) ?_
    rotate_left
    · (intro w' hSw; obtain ⟨s0, s1, s2, s3, s4, s5⟩ := hSw; go_simp; try with_reducible rfl)
    (try simp only [List.getElem_toArray, List.getElem_cons_succ, List.getElem_cons_zero, Act.put, List.setIfInBounds_toArray, List.set_cons_zero, List.set_cons_succ])
    refine wpAnyH_take (i := 6) (oi := _) (v := ?_) rfl (by kernel_rfl) (by kernel_rfl) (by kernel_rfl) (fun _ _ _ h => h) (Or.inl ⟨by kernel_rfl, ?_⟩) (by assumption) ?_
    rotate_left
    · (intro w' hSw; obtain ⟨s0, s1, s2, s3, s4, s5⟩ := hSw; go_simp; try with_reducible rfl)
    (try simp only [List.getElem_toArray, List.getElem_cons_succ, List.getElem_cons_zero, Act.put, List.setIfInBounds_toArray, List.set_cons_zero, List.set_cons_succ])
    refine wpAnyH_take (i := 7) (oi := _) (v := ?_) rfl (by kernel_rfl) (by kernel_rfl) (by kernel_rfl) (fun _ _ _ h => h) (Or.inl ⟨by kernel_rfl, ?_⟩) (by assumption) ?_
    rotate_left
    · (intro w' hSw; obtain ⟨s0, s1, s2, s3, s4, s5⟩ := hSw; go_simp; try with_reducible rfl)
    (try simp only [List.getElem_toArray, List.getElem_cons_succ, List.getElem_cons_zero, Act.put, List.setIfInBounds_toArray, List.set_cons_zero, List.set_cons_succ])
    refine wpAnyH_ready (rs := [1, 4, 8]) (by kernel_rfl) (by simp) ?_
    refine AllReadyH.cons (o := _) rfl (fun K hK => ?_) ?_
    · skip
      go_simp
      try dsimp only
      have q0 : Row (x1.alloc (.cells #[.int .i64 3, .string ⟨#[97]⟩, .int .i64 0] 42)) (some ⟨x1.heap.size, 0, none⟩) 1 [cA] := rowC1 x1 cA cA_fit 42
      have hbx2 := (Below.refl x1.heap.size x1).new (.cells #[.int .i64 3, .string ⟨#[97]⟩, .int .i64 0] 42)
      have hd1_2 := hd0.then hbx2
      refine hK.out _ _ (HS.out _ hd1_2) (fun hSn => ?_)
      clear hK K hSn
      have hSx2 := HS.out _ hd1_2
      (try simp only [List.getElem_toArray, List.getElem_cons_succ, List.getElem_cons_zero, Act.put, List.setIfInBounds_toArray, List.set_cons_zero, List.set_cons_succ])
      obtain ⟨x2, hV⟩ : ∃ V, x1.alloc (.cells #[.int .i64 3, .string ⟨#[97]⟩, .int .i64 0] 42) = V := ⟨_, rfl⟩
      obtain ⟨Gx2, hG⟩ : ∃ V, x1.heap.size = V := ⟨_, rfl⟩
      rw [hV] at q0 hd1_2 hSx2 ⊢
      rw [hG] at q0 ⊢
      have RA := mkHid q0
      clear hV hG hbx2 q0
      refine wpAnyH_ready (rs := [2, 4, 8]) (by kernel_rfl) (by simp) ?_
      refine AllReadyH.cons (o := _) rfl (fun K hK => ?_) ?_
      · skip
        go_simp
        refine (p12_is (nm := ⟨#[112]⟩) (cl := ⟨3, ⟨#[112]⟩, 1⟩) (j := 2) (by decide) rfl RA.out (by decide) rfl rfl).mono ?_
        rintro e x3 ⟨a1, c1, rfl, r1, hbx3⟩
        have R1 := mkHid r1
        clear r1
        have hd2_3 := hd1_2.then hbx3
        replace RA := mkHid (RA.out.below hbx3)
        try dsimp only
        refine hK.out _ _ (HS.out _ hd2_3) (fun hSn => ?_)
        clear hK K hSn
        have hSx3 := HS.out _ hd2_3
        (try simp only [List.getElem_toArray, List.getElem_cons_succ, List.getElem_cons_zero, Act.put, List.setIfInBounds_toArray, List.set_cons_zero, List.set_cons_succ])
        clear hbx3
        refine wpAnyH_ready (rs := [4, 8]) (by kernel_rfl) (by simp) ?_
        refine AllReadyH.cons (o := _) rfl (fun K hK => ?_) ?_
        · skip
          go_simp
          try dsimp only
          have q0 : Row (x3.alloc (.cells #[.int .i64 3, .string ⟨#[98]⟩, .int .i64 0] 42)) (some ⟨x3.heap.size, 0, none⟩) 1 [cB] := rowC1 x3 cB cB_fit 42
          have hbx4 := (Below.refl x3.heap.size x3).new (.cells #[.int .i64 3, .string ⟨#[98]⟩, .int .i64 0] 42)
          have hd3_4 := hd2_3.then hbx4
          replace RA := mkHid (RA.out.below hbx4)
          replace R1 := mkHid (R1.out.below hbx4)
          refine hK.out _ _ (HS.out _ hd3_4) (fun hSn => ?_)
          clear hK K hSn
          have hSx4 := HS.out _ hd3_4
          (try simp only [List.getElem_toArray, List.getElem_cons_succ, List.getElem_cons_zero, Act.put, List.setIfInBounds_toArray, List.set_cons_zero, List.set_cons_succ])
          obtain ⟨x4, hV⟩ : ∃ V, x3.alloc (.cells #[.int .i64 3, .string ⟨#[98]⟩, .int .i64 0] 42) = V := ⟨_, rfl⟩
          obtain ⟨Gx4, hG⟩ : ∃ V, x3.heap.size = V := ⟨_, rfl⟩
          rw [hV] at q0 hd3_4 hSx4 RA R1 ⊢
          rw [hG] at q0 ⊢
          have RB := mkHid q0
          clear hV hG hbx4 q0
          refine wpAnyH_ready (rs := [5, 8]) (by kernel_rfl) (by simp) ?_
          refine AllReadyH.cons (o := _) rfl (fun K hK => ?_) ?_
          · skip
            go_simp
            refine (p12_is (nm := ⟨#[112]⟩) (cl := ⟨3, ⟨#[112]⟩, 1⟩) (j := 2) (by decide) rfl RB.out (by decide) rfl rfl).mono ?_
            rintro e x5 ⟨a2, c2, rfl, r2, hbx5⟩
            have R2 := mkHid r2
            clear r2
            have hd4_5 := hd3_4.then hbx5
            replace RA := mkHid (RA.out.below hbx5)
            replace R1 := mkHid (R1.out.below hbx5)
            replace RB := mkHid (RB.out.below hbx5)
            try dsimp only
            refine hK.out _ _ (HS.out _ hd4_5) (fun hSn => ?_)
            clear hK K hSn
            have hSx5 := HS.out _ hd4_5
            (try simp only [List.getElem_toArray, List.getElem_cons_succ, List.getElem_cons_zero, Act.put, List.setIfInBounds_toArray, List.set_cons_zero, List.set_cons_succ])
            clear hbx5
            refine wpAnyH_ready (rs := [8]) (by kernel_rfl) (by simp) ?_
            refine AllReadyH.cons (o := _) rfl (fun K hK => ?_) AllReadyH.nil
            go_simp
            try dsimp only
            have q0 : Row (x5.alloc (.cells #[.int .i64 3, .string ⟨#[97]⟩, .int .i64 0, .int .i64 3, .string ⟨#[97]⟩, .int .i64 0] 42)) (some ⟨x5.heap.size, 0, none⟩) 2 [cA, cA] := rowC2 x5 cA cA cA_fit cA_fit 42
            have hbx6 := (Below.refl x5.heap.size x5).new (.cells #[.int .i64 3, .string ⟨#[97]⟩, .int .i64 0, .int .i64 3, .string ⟨#[97]⟩, .int .i64 0] 42)
            have hd5_6 := hd4_5.then hbx6
            replace RA := mkHid (RA.out.below hbx6)
            replace R1 := mkHid (R1.out.below hbx6)
            replace RB := mkHid (RB.out.below hbx6)
            replace R2 := mkHid (R2.out.below hbx6)
            refine hK.out _ _ (HS.out _ hd5_6) (fun hSn => ?_)
            clear hK K hSn
            have hSx6 := HS.out _ hd5_6
            (try simp only [List.getElem_toArray, List.getElem_cons_succ, List.getElem_cons_zero, Act.put, List.setIfInBounds_toArray, List.set_cons_zero, List.set_cons_succ])
            obtain ⟨x6, hV⟩ : ∃ V, x5.alloc (.cells #[.int .i64 3, .string ⟨#[97]⟩, .int .i64 0, .int .i64 3, .string ⟨#[97]⟩, .int .i64 0] 42) = V := ⟨_, rfl⟩
            obtain ⟨Gx6, hG⟩ : ∃ V, x5.heap.size = V := ⟨_, rfl⟩
            rw [hV] at q0 hd5_6 hSx6 RA R1 RB R2 ⊢
            rw [hG] at q0 ⊢
            have RAA := mkHid q0
            clear hV hG hbx6 q0
            refine wpAnyH_ready (rs := [9]) (by kernel_rfl) (by simp) ?_
            refine AllReadyH.cons (o := _) rfl (fun K hK => ?_) AllReadyH.nil
            go_simp
            refine (p12_is (nm := ⟨#[113]⟩) (cl := ⟨3, ⟨#[113]⟩, 2⟩) (j := 3) (by decide) rfl RAA.out (by decide) rfl rfl).mono ?_
            rintro e x7 ⟨a3, c3, rfl, r3, hbx7⟩
            have R3 := mkHid r3
            clear r3
            have hd6_7 := hd5_6.then hbx7
            replace RA := mkHid (RA.out.below hbx7)
            replace R1 := mkHid (R1.out.below hbx7)
            replace RB := mkHid (RB.out.below hbx7)
            replace R2 := mkHid (R2.out.below hbx7)
            replace RAA := mkHid (RAA.out.below hbx7)
            try dsimp only
            refine hK.out _ _ (HS.out _ hd6_7) (fun hSn => ?_)
            clear hK K hSn
            have hSx7 := HS.out _ hd6_7
            (try simp only [List.getElem_toArray, List.getElem_cons_succ, List.getElem_cons_zero, Act.put, List.setIfInBounds_toArray, List.set_cons_zero, List.set_cons_succ])
            clear hbx7
            refine wpAnyH_ready (rs := [10]) (by kernel_rfl) (by simp) ?_
            refine AllReadyH.cons (o := _) rfl (fun K hK => ?_) AllReadyH.nil
            go_simp
            try dsimp only
            have q0 : Row (x7.alloc (.cells #[.slice a1 2 c1, .slice a2 2 c2, .slice a3 3 c3] 23)) (some ⟨x7.heap.size, 0, none⟩) 3 l12 := rowR3 (x := pA) (y := pB) (z := qAA) R1.out R2.out R3.out 23
            have hbx8 := (Below.refl x7.heap.size x7).new (.cells #[.slice a1 2 c1, .slice a2 2 c2, .slice a3 3 c3] 23)
            have q1 : (x7.alloc (.cells #[.slice a1 2 c1, .slice a2 2 c2, .slice a3 3 c3] 23)).cell? ⟨x7.heap.size, 0, none⟩ = some (.slice a1 2 c1) := cell_mk x7 _ _ 0 _ rfl
            have q2 : (x7.alloc (.cells #[.slice a1 2 c1, .slice a2 2 c2, .slice a3 3 c3] 23)).cell? ⟨x7.heap.size, 1, none⟩ = some (.slice a2 2 c2) := cell_mk x7 _ _ 1 _ rfl
            have q3 : (x7.alloc (.cells #[.slice a1 2 c1, .slice a2 2 c2, .slice a3 3 c3] 23)).cell? ⟨x7.heap.size, 2, none⟩ = some (.slice a3 3 c3) := cell_mk x7 _ _ 2 _ rfl
            have hd7_8 := hd6_7.then hbx8
            replace RA := mkHid (RA.out.below hbx8)
            replace R1 := mkHid (R1.out.below hbx8)
            replace RB := mkHid (RB.out.below hbx8)
            replace R2 := mkHid (R2.out.below hbx8)
            replace RAA := mkHid (RAA.out.below hbx8)
            replace R3 := mkHid (R3.out.below hbx8)
            refine hK.out _ _ (HS.out _ hd7_8) (fun hSn => ?_)
            clear hK K hSn
            have hSx8 := HS.out _ hd7_8
            (try simp only [List.getElem_toArray, List.getElem_cons_succ, List.getElem_cons_zero, Act.put, List.setIfInBounds_toArray, List.set_cons_zero, List.set_cons_succ])
            obtain ⟨x8, hV⟩ : ∃ V, x7.alloc (.cells #[.slice a1 2 c1, .slice a2 2 c2, .slice a3 3 c3] 23) = V := ⟨_, rfl⟩
            obtain ⟨Gx8, hG⟩ : ∃ V, x7.heap.size = V := ⟨_, rfl⟩
            rw [hV] at q0 q1 q2 q3 hd7_8 hSx8 RA R1 RB R2 RAA R3 ⊢
            rw [hG] at q0 q1 q2 q3 ⊢
            have RL := mkHid q0
            have C0 := mkHid q1
            have C1 := mkHid q2
            have C2 := mkHid q3
            clear hV hG hbx8 q0 q1 q2 q3
            refine wpAnyH_take (i := 11) (oi := _) (v := ?_) rfl (by kernel_rfl) (by kernel_rfl) (by kernel_rfl) (fun _ _ _ h => h) (Or.inl ⟨by kernel_rfl, ?_⟩) (by assumption) ?_
            rotate_left
            · (intro w' hSw; obtain ⟨s0, s1, s2, s3, s4, s5⟩ := hSw; go_simp; try with_reducible rfl)
            (try simp only [List.getElem_toArray, List.getElem_cons_succ, List.getElem_cons_zero, Act.put, List.setIfInBounds_toArray, List.set_cons_zero, List.set_cons_succ])
            refine wpAnyH_done (by kernel_rfl) (NoPanic.normal ?_) _
            refine ⟨rfl, ?_⟩
            (repeat apply Exists.intro)
            exact ⟨rfl, RL.out, C0.out, C1.out, C2.out, R1.out, R2.out, R3.out, hd7_8⟩
          refine AllReadyH.cons (o := _) rfl (fun K hK => ?_) AllReadyH.nil
          go_simp
          try dsimp only
          have q0 : Row (x4.alloc (.cells #[.int .i64 3, .string ⟨#[97]⟩, .int .i64 0, .int .i64 3, .string ⟨#[97]⟩, .int .i64 0] 42)) (some ⟨x4.heap.size, 0, none⟩) 2 [cA, cA] := rowC2 x4 cA cA cA_fit cA_fit 42
          have hbx9 := (Below.refl x4.heap.size x4).new (.cells #[.int .i64 3, .string ⟨#[97]⟩, .int .i64 0, .int .i64 3, .string ⟨#[97]⟩, .int .i64 0] 42)
          have hd4_9 := hd3_4.then hbx9
          replace RA := mkHid (RA.out.below hbx9)
          replace R1 := mkHid (R1.out.below hbx9)
          replace RB := mkHid (RB.out.below hbx9)
          refine hK.out _ _ (HS.out _ hd4_9) (fun hSn => ?_)
          clear hK K hSn
          have hSx9 := HS.out _ hd4_9
          (try simp only [List.getElem_toArray, List.getElem_cons_succ, List.getElem_cons_zero, Act.put, List.setIfInBounds_toArray, List.set_cons_zero, List.set_cons_succ])
          obtain ⟨x9, hV⟩ : ∃ V, x4.alloc (.cells #[.int .i64 3, .string ⟨#[97]⟩, .int .i64 0, .int .i64 3, .string ⟨#[97]⟩, .int .i64 0] 42) = V := ⟨_, rfl⟩
          obtain ⟨Gx9, hG⟩ : ∃ V, x4.heap.size = V := ⟨_, rfl⟩
          rw [hV] at q0 hd4_9 hSx9 RA R1 RB ⊢
          rw [hG] at q0 ⊢
          have RAA := mkHid q0
          clear hV hG hbx9 q0
          refine wpAnyH_ready (rs := [5]) (by kernel_rfl) (by simp) ?_
          refine AllReadyH.cons (o := _) rfl (fun K hK => ?_) AllReadyH.nil
          go_simp
          refine (p12_is (nm := ⟨#[112]⟩) (cl := ⟨3, ⟨#[112]⟩, 1⟩) (j := 2) (by decide) rfl RB.out (by decide) rfl rfl).mono ?_
          rintro e x10 ⟨a2, c2, rfl, r2, hbx10⟩
          have R2 := mkHid r2
          clear r2
          have hd5_10 := hd4_9.then hbx10
          replace RA := mkHid (RA.out.below hbx10)
          replace R1 := mkHid (R1.out.below hbx10)
          replace RB := mkHid (RB.out.below hbx10)
          replace RAA := mkHid (RAA.out.below hbx10)
          try dsimp only
          refine hK.out _ _ (HS.out _ hd5_10) (fun hSn => ?_)
          clear hK K hSn
          have hSx10 := HS.out _ hd5_10
          (try simp only [List.getElem_toArray, List.getElem_cons_succ, List.getElem_cons_zero, Act.put, List.setIfInBounds_toArray, List.set_cons_zero, List.set_cons_succ])
          clear hbx10
          refine wpAnyH_ready (rs := [9]) (by kernel_rfl) (by simp) ?_
          refine AllReadyH.cons (o := _) rfl (fun K hK => ?_) AllReadyH.nil
          go_simp
          refine (p12_is (nm := ⟨#[113]⟩) (cl := ⟨3, ⟨#[113]⟩, 2⟩) (j := 3) (by decide) rfl RAA.out (by decide) rfl rfl).mono ?_
          rintro e x11 ⟨a3, c3, rfl, r3, hbx11⟩
          have R3 := mkHid r3
          clear r3
          have hd6_11 := hd5_10.then hbx11
          replace RA := mkHid (RA.out.below hbx11)
          replace R1 := mkHid (R1.out.below hbx11)
          replace RB := mkHid (RB.out.below hbx11)
          replace RAA := mkHid (RAA.out.below hbx11)
          replace R2 := mkHid (R2.out.below hbx11)
          try dsimp only
          refine hK.out _ _ (HS.out _ hd6_11) (fun hSn => ?_)
          clear hK K hSn
          have hSx11 := HS.out _ hd6_11
          (try simp only [List.getElem_toArray, List.getElem_cons_succ, List.getElem_cons_zero, Act.put, List.setIfInBounds_toArray, List.set_cons_zero, List.set_cons_succ])
          clear hbx11
          refine wpAnyH_ready (rs := [10]) (by kernel_rfl) (by simp) ?_
          refine AllReadyH.cons (o := _) rfl (fun K hK => ?_) AllReadyH.nil
          go_simp
          try dsimp only
          have q0 : Row (x11.alloc (.cells #[.slice a1 2 c1, .slice a2 2 c2, .slice a3 3 c3] 23)) (some ⟨x11.heap.size, 0, none⟩) 3 l12 := rowR3 (x := pA) (y := pB) (z := qAA) R1.out R2.out R3.out 23
          have hbx12 := (Below.refl x11.heap.size x11).new (.cells #[.slice a1 2 c1, .slice a2 2 c2, .slice a3 3 c3] 23)
          have q1 : (x11.alloc (.cells #[.slice a1 2 c1, .slice a2 2 c2, .slice a3 3 c3] 23)).cell? ⟨x11.heap.size, 0, none⟩ = some (.slice a1 2 c1) := cell_mk x11 _ _ 0 _ rfl
          have q2 : (x11.alloc (.cells #[.slice a1 2 c1, .slice a2 2 c2, .slice a3 3 c3] 23)).cell? ⟨x11.heap.size, 1, none⟩ = some (.slice a2 2 c2) := cell_mk x11 _ _ 1 _ rfl
          have q3 : (x11.alloc (.cells #[.slice a1 2 c1, .slice a2 2 c2, .slice a3 3 c3] 23)).cell? ⟨x11.heap.size, 2, none⟩ = some (.slice a3 3 c3) := cell_mk x11 _ _ 2 _ rfl
          have hd7_12 := hd6_11.then hbx12
          replace RA := mkHid (RA.out.below hbx12)
          replace R1 := mkHid (R1.out.below hbx12)
          replace RB := mkHid (RB.out.below hbx12)
          replace RAA := mkHid (RAA.out.below hbx12)
          replace R2 := mkHid (R2.out.below hbx12)
          replace R3 := mkHid (R3.out.below hbx12)
          refine hK.out _ _ (HS.out _ hd7_12) (fun hSn => ?_)
          clear hK K hSn
          have hSx12 := HS.out _ hd7_12
          (try simp only [List.getElem_toArray, List.getElem_cons_succ, List.getElem_cons_zero, Act.put, List.setIfInBounds_toArray, List.set_cons_zero, List.set_cons_succ])
          obtain ⟨x12, hV⟩ : ∃ V, x11.alloc (.cells #[.slice a1 2 c1, .slice a2 2 c2, .slice a3 3 c3] 23) = V := ⟨_, rfl⟩
          obtain ⟨Gx12, hG⟩ : ∃ V, x11.heap.size = V := ⟨_, rfl⟩
          rw [hV] at q0 q1 q2 q3 hd7_12 hSx12 RA R1 RB RAA R2 R3 ⊢
          rw [hG] at q0 q1 q2 q3 ⊢
          have RL := mkHid q0
          have C0 := mkHid q1
          have C1 := mkHid q2
          have C2 := mkHid q3
          clear hV hG hbx12 q0 q1 q2 q3
          refine wpAnyH_take (i := 11) (oi := _) (v := ?_) rfl (by kernel_rfl) (by kernel_rfl) (by kernel_rfl) (fun _ _ _ h => h) (Or.inl ⟨by kernel_rfl, ?_⟩) (by assumption) ?_
          rotate_left
          · (intro w' hSw; obtain ⟨s0, s1, s2, s3, s4, s5⟩ := hSw; go_simp; try with_reducible rfl)
          (try simp only [List.getElem_toArray, List.getElem_cons_succ, List.getElem_cons_zero, Act.put, List.setIfInBounds_toArray, List.set_cons_zero, List.set_cons_succ])
          refine wpAnyH_done (by kernel_rfl) (NoPanic.normal ?_) _
          refine ⟨rfl, ?_⟩
          (repeat apply Exists.intro)
          exact ⟨rfl, RL.out, C0.out, C1.out, C2.out, R1.out, R2.out, R3.out, hd7_12⟩
        refine AllReadyH.cons (o := _) rfl (fun K hK => ?_) AllReadyH.nil
        go_simp
        try dsimp only
        have q0 : Row (x3.alloc (.cells #[.int .i64 3, .string ⟨#[97]⟩, .int .i64 0, .int .i64 3, .string ⟨#[97]⟩, .int .i64 0] 42)) (some ⟨x3.heap.size, 0, none⟩) 2 [cA, cA] := rowC2 x3 cA cA cA_fit cA_fit 42
        have hbx13 := (Below.refl x3.heap.size x3).new (.cells #[.int .i64 3, .string ⟨#[97]⟩, .int .i64 0, .int .i64 3, .string ⟨#[97]⟩, .int .i64 0] 42)
        have hd3_13 := hd2_3.then hbx13
        replace RA := mkHid (RA.out.below hbx13)
        replace R1 := mkHid (R1.out.below hbx13)
        refine hK.out _ _ (HS.out _ hd3_13) (fun hSn => ?_)
        clear hK K hSn
        have hSx13 := HS.out _ hd3_13
        (try simp only [List.getElem_toArray, List.getElem_cons_succ, List.getElem_cons_zero, Act.put, List.setIfInBounds_toArray, List.set_cons_zero, List.set_cons_succ])
        obtain ⟨x13, hV⟩ : ∃ V, x3.alloc (.cells #[.int .i64 3, .string ⟨#[97]⟩, .int .i64 0, .int .i64 3, .string ⟨#[97]⟩, .int .i64 0] 42) = V := ⟨_, rfl⟩
        obtain ⟨Gx13, hG⟩ : ∃ V, x3.heap.size = V := ⟨_, rfl⟩
        rw [hV] at q0 hd3_13 hSx13 RA R1 ⊢
        rw [hG] at q0 ⊢
        have RAA := mkHid q0
        clear hV hG hbx13 q0
        refine wpAnyH_ready (rs := [4]) (by kernel_rfl) (by simp) ?_
        refine AllReadyH.cons (o := _) rfl (fun K hK => ?_) AllReadyH.nil
        go_simp
        try dsimp only
        have q0 : Row (x13.alloc (.cells #[.int .i64 3, .string ⟨#[98]⟩, .int .i64 0] 42)) (some ⟨x13.heap.size, 0, none⟩) 1 [cB] := rowC1 x13 cB cB_fit 42
        have hbx14 := (Below.refl x13.heap.size x13).new (.cells #[.int .i64 3, .string ⟨#[98]⟩, .int .i64 0] 42)
        have hd4_14 := hd3_13.then hbx14
        replace RA := mkHid (RA.out.below hbx14)
        replace R1 := mkHid (R1.out.below hbx14)
        replace RAA := mkHid (RAA.out.below hbx14)
        refine hK.out _ _ (HS.out _ hd4_14) (fun hSn => ?_)
        clear hK K hSn
        have hSx14 := HS.out _ hd4_14
        (try simp only [List.getElem_toArray, List.getElem_cons_succ, List.getElem_cons_zero, Act.put, List.setIfInBounds_toArray, List.set_cons_zero, List.set_cons_succ])
        obtain ⟨x14, hV⟩ : ∃ V, x13.alloc (.cells #[.int .i64 3, .string ⟨#[98]⟩, .int .i64 0] 42) = V := ⟨_, rfl⟩
        obtain ⟨Gx14, hG⟩ : ∃ V, x13.heap.size = V := ⟨_, rfl⟩
        rw [hV] at q0 hd4_14 hSx14 RA R1 RAA ⊢
        rw [hG] at q0 ⊢
        have RB := mkHid q0
        clear hV hG hbx14 q0
        refine wpAnyH_ready (rs := [5]) (by kernel_rfl) (by simp) ?_
        refine AllReadyH.cons (o := _) rfl (fun K hK => ?_) AllReadyH.nil
        go_simp
        refine (p12_is (nm := ⟨#[112]⟩) (cl := ⟨3, ⟨#[112]⟩, 1⟩) (j := 2) (by decide) rfl RB.out (by decide) rfl rfl).mono ?_
        rintro e x15 ⟨a2, c2, rfl, r2, hbx15⟩
        have R2 := mkHid r2
        clear r2
        have hd5_15 := hd4_14.then hbx15
        replace RA := mkHid (RA.out.below hbx15)
        replace R1 := mkHid (R1.out.below hbx15)
        replace RAA := mkHid (RAA.out.below hbx15)
        replace RB := mkHid (RB.out.below hbx15)
        try dsimp only
        refine hK.out _ _ (HS.out _ hd5_15) (fun hSn => ?_)
        clear hK K hSn
        have hSx15 := HS.out _ hd5_15
        (try simp only [List.getElem_toArray, List.getElem_cons_succ, List.getElem_cons_zero, Act.put, List.setIfInBounds_toArray, List.set_cons_zero, List.set_cons_succ])
        clear hbx15
        refine wpAnyH_ready (rs := [9]) (by kernel_rfl) (by simp) ?_
        refine AllReadyH.cons (o := _) rfl (fun K hK => ?_) AllReadyH.nil
        go_simp
        refine (p12_is (nm := ⟨#[113]⟩) (cl := ⟨3, ⟨#[113]⟩, 2⟩) (j := 3) (by decide) rfl RAA.out (by decide) rfl rfl).mono ?_
        rintro e x16 ⟨a3, c3, rfl, r3, hbx16⟩
        have R3 := mkHid r3
        clear r3
        have hd6_16 := hd5_15.then hbx16
        replace RA := mkHid (RA.out.below hbx16)
        replace R1 := mkHid (R1.out.below hbx16)
        replace RAA := mkHid (RAA.out.below hbx16)
        replace RB := mkHid (RB.out.below hbx16)
        replace R2 := mkHid (R2.out.below hbx16)
        try dsimp only
        refine hK.out _ _ (HS.out _ hd6_16) (fun hSn => ?_)
        clear hK K hSn
        have hSx16 := HS.out _ hd6_16
        (try simp only [List.getElem_toArray, List.getElem_cons_succ, List.getElem_cons_zero, Act.put, List.setIfInBounds_toArray, List.set_cons_zero, List.set_cons_succ])
        clear hbx16
        refine wpAnyH_ready (rs := [10]) (by kernel_rfl) (by simp) ?_
        refine AllReadyH.cons (o := _) rfl (fun K hK => ?_) AllReadyH.nil
        go_simp
        try dsimp only
        have q0 : Row (x16.alloc (.cells #[.slice a1 2 c1, .slice a2 2 c2, .slice a3 3 c3] 23)) (some ⟨x16.heap.size, 0, none⟩) 3 l12 := rowR3 (x := pA) (y := pB) (z := qAA) R1.out R2.out R3.out 23
        have hbx17 := (Below.refl x16.heap.size x16).new (.cells #[.slice a1 2 c1, .slice a2 2 c2, .slice a3 3 c3] 23)
        have q1 : (x16.alloc (.cells #[.slice a1 2 c1, .slice a2 2 c2, .slice a3 3 c3] 23)).cell? ⟨x16.heap.size, 0, none⟩ = some (.slice a1 2 c1) := cell_mk x16 _ _ 0 _ rfl
        have q2 : (x16.alloc (.cells #[.slice a1 2 c1, .slice a2 2 c2, .slice a3 3 c3] 23)).cell? ⟨x16.heap.size, 1, none⟩ = some (.slice a2 2 c2) := cell_mk x16 _ _ 1 _ rfl
        have q3 : (x16.alloc (.cells #[.slice a1 2 c1, .slice a2 2 c2, .slice a3 3 c3] 23)).cell? ⟨x16.heap.size, 2, none⟩ = some (.slice a3 3 c3) := cell_mk x16 _ _ 2 _ rfl
        have hd7_17 := hd6_16.then hbx17
        replace RA := mkHid (RA.out.below hbx17)
        replace R1 := mkHid (R1.out.below hbx17)
        replace RAA := mkHid (RAA.out.below hbx17)
        replace RB := mkHid (RB.out.below hbx17)
        replace R2 := mkHid (R2.out.below hbx17)
        replace R3 := mkHid (R3.out.below hbx17)
        refine hK.out _ _ (HS.out _ hd7_17) (fun hSn => ?_)
        clear hK K hSn
        have hSx17 := HS.out _ hd7_17
        (try simp only [List.getElem_toArray, List.getElem_cons_succ, List.getElem_cons_zero, Act.put, List.setIfInBounds_toArray, List.set_cons_zero, List.set_cons_succ])
        obtain ⟨x17, hV⟩ : ∃ V, x16.alloc (.cells #[.slice a1 2 c1, .slice a2 2 c2, .slice a3 3 c3] 23) = V := ⟨_, rfl⟩
        obtain ⟨Gx17, hG⟩ : ∃ V, x16.heap.size = V := ⟨_, rfl⟩
        rw [hV] at q0 q1 q2 q3 hd7_17 hSx17 RA R1 RAA RB R2 R3 ⊢
        rw [hG] at q0 q1 q2 q3 ⊢
        have RL := mkHid q0
        have C0 := mkHid q1
        have C1 := mkHid q2
        have C2 := mkHid q3
        clear hV hG hbx17 q0 q1 q2 q3
        refine wpAnyH_take (i := 11) (oi := _) (v := ?_) rfl (by kernel_rfl) (by kernel_rfl) (by kernel_rfl) (fun _ _ _ h => h) (Or.inl ⟨by kernel_rfl, ?_⟩) (by assumption) ?_
        rotate_left
        · (intro w' hSw; obtain ⟨s0, s1, s2, s3, s4, s5⟩ := hSw; go_simp; try with_reducible rfl)
        (try simp only [List.getElem_toArray, List.getElem_cons_succ, List.getElem_cons_zero, Act.put, List.setIfInBounds_toArray, List.set_cons_zero, List.set_cons_succ])
        refine wpAnyH_done (by kernel_rfl) (NoPanic.normal ?_) _
        refine ⟨rfl, ?_⟩
        (repeat apply Exists.intro)
        exact ⟨rfl, RL.out, C0.out, C1.out, C2.out, R1.out, R2.out, R3.out, hd7_17⟩
      refine AllReadyH.cons (o := _) rfl (fun K hK => ?_) ?_
      · skip
        go_simp
        try dsimp only
        have q0 : Row (x2.alloc (.cells #[.int .i64 3, .string ⟨#[98]⟩, .int .i64 0] 42)) (some ⟨x2.heap.size, 0, none⟩) 1 [cB] := rowC1 x2 cB cB_fit 42
        have hbx18 := (Below.refl x2.heap.size x2).new (.cells #[.int .i64 3, .string ⟨#[98]⟩, .int .i64 0] 42)
        have hd2_18 := hd1_2.then hbx18
        replace RA := mkHid (RA.out.below hbx18)
        refine hK.out _ _ (HS.out _ hd2_18) (fun hSn => ?_)
        clear hK K hSn
        have hSx18 := HS.out _ hd2_18
        (try simp only [List.getElem_toArray, List.getElem_cons_succ, List.getElem_cons_zero, Act.put, List.setIfInBounds_toArray, List.set_cons_zero, List.set_cons_succ])
        obtain ⟨x18, hV⟩ : ∃ V, x2.alloc (.cells #[.int .i64 3, .string ⟨#[98]⟩, .int .i64 0] 42) = V := ⟨_, rfl⟩
        obtain ⟨Gx18, hG⟩ : ∃ V, x2.heap.size = V := ⟨_, rfl⟩
        rw [hV] at q0 hd2_18 hSx18 RA ⊢
        rw [hG] at q0 ⊢
        have RB := mkHid q0
        clear hV hG hbx18 q0
        refine wpAnyH_ready (rs := [2, 8]) (by kernel_rfl) (by simp) ?_
        refine AllReadyH.cons (o := _) rfl (fun K hK => ?_) ?_
        · skip
          go_simp
          refine (p12_is (nm := ⟨#[112]⟩) (cl := ⟨3, ⟨#[112]⟩, 1⟩) (j := 2) (by decide) rfl RA.out (by decide) rfl rfl).mono ?_
          rintro e x19 ⟨a1, c1, rfl, r1, hbx19⟩
          have R1 := mkHid r1
          clear r1
          have hd3_19 := hd2_18.then hbx19
          replace RA := mkHid (RA.out.below hbx19)
          replace RB := mkHid (RB.out.below hbx19)
          try dsimp only
          refine hK.out _ _ (HS.out _ hd3_19) (fun hSn => ?_)
          clear hK K hSn
          have hSx19 := HS.out _ hd3_19
          (try simp only [List.getElem_toArray, List.getElem_cons_succ, List.getElem_cons_zero, Act.put, List.setIfInBounds_toArray, List.set_cons_zero, List.set_cons_succ])
          clear hbx19
          refine wpAnyH_ready (rs := [5, 8]) (by kernel_rfl) (by simp) ?_
          refine AllReadyH.cons (o := _) rfl (fun K hK => ?_) ?_
          · skip
            go_simp
            refine (p12_is (nm := ⟨#[112]⟩) (cl := ⟨3, ⟨#[112]⟩, 1⟩) (j := 2) (by decide) rfl RB.out (by decide) rfl rfl).mono ?_
            rintro e x20 ⟨a2, c2, rfl, r2, hbx20⟩
            have R2 := mkHid r2
            clear r2
            have hd4_20 := hd3_19.then hbx20
            replace RA := mkHid (RA.out.below hbx20)
            replace RB := mkHid (RB.out.below hbx20)
            replace R1 := mkHid (R1.out.below hbx20)
            try dsimp only
            refine hK.out _ _ (HS.out _ hd4_20) (fun hSn => ?_)
            clear hK K hSn
            have hSx20 := HS.out _ hd4_20
            (try simp only [List.getElem_toArray, List.getElem_cons_succ, List.getElem_cons_zero, Act.put, List.setIfInBounds_toArray, List.set_cons_zero, List.set_cons_succ])
            clear hbx20
            refine wpAnyH_ready (rs := [8]) (by kernel_rfl) (by simp) ?_
            refine AllReadyH.cons (o := _) rfl (fun K hK => ?_) AllReadyH.nil
            go_simp
            try dsimp only
            have q0 : Row (x20.alloc (.cells #[.int .i64 3, .string ⟨#[97]⟩, .int .i64 0, .int .i64 3, .string ⟨#[97]⟩, .int .i64 0] 42)) (some ⟨x20.heap.size, 0, none⟩) 2 [cA, cA] := rowC2 x20 cA cA cA_fit cA_fit 42
            have hbx21 := (Below.refl x20.heap.size x20).new (.cells #[.int .i64 3, .string ⟨#[97]⟩, .int .i64 0, .int .i64 3, .string ⟨#[97]⟩, .int .i64 0] 42)
            have hd5_21 := hd4_20.then hbx21
            replace RA := mkHid (RA.out.below hbx21)
            replace RB := mkHid (RB.out.below hbx21)
            replace R1 := mkHid (R1.out.below hbx21)
            replace R2 := mkHid (R2.out.below hbx21)
            refine hK.out _ _ (HS.out _ hd5_21) (fun hSn => ?_)
            clear hK K hSn
            have hSx21 := HS.out _ hd5_21
            (try simp only [List.getElem_toArray, List.getElem_cons_succ, List.getElem_cons_zero, Act.put, List.setIfInBounds_toArray, List.set_cons_zero, List.set_cons_succ])
            obtain ⟨x21, hV⟩ : ∃ V, x20.alloc (.cells #[.int .i64 3, .string ⟨#[97]⟩, .int .i64 0, .int .i64 3, .string ⟨#[97]⟩, .int .i64 0] 42) = V := ⟨_, rfl⟩
            obtain ⟨Gx21, hG⟩ : ∃ V, x20.heap.size = V := ⟨_, rfl⟩
            rw [hV] at q0 hd5_21 hSx21 RA RB R1 R2 ⊢
            rw [hG] at q0 ⊢
            have RAA := mkHid q0
            clear hV hG hbx21 q0
            refine wpAnyH_ready (rs := [9]) (by kernel_rfl) (by simp) ?_
            refine AllReadyH.cons (o := _) rfl (fun K hK => ?_) AllReadyH.nil
            go_simp
            refine (p12_is (nm := ⟨#[113]⟩) (cl := ⟨3, ⟨#[113]⟩, 2⟩) (j := 3) (by decide) rfl RAA.out (by decide) rfl rfl).mono ?_
            rintro e x22 ⟨a3, c3, rfl, r3, hbx22⟩
            have R3 := mkHid r3
            clear r3
            have hd6_22 := hd5_21.then hbx22
            replace RA := mkHid (RA.out.below hbx22)
            replace RB := mkHid (RB.out.below hbx22)
            replace R1 := mkHid (R1.out.below hbx22)
            replace R2 := mkHid (R2.out.below hbx22)
            replace RAA := mkHid (RAA.out.below hbx22)
            try dsimp only
            refine hK.out _ _ (HS.out _ hd6_22) (fun hSn => ?_)
            clear hK K hSn
            have hSx22 := HS.out _ hd6_22
            (try simp only [List.getElem_toArray, List.getElem_cons_succ, List.getElem_cons_zero, Act.put, List.setIfInBounds_toArray, List.set_cons_zero, List.set_cons_succ])
            clear hbx22
            refine wpAnyH_ready (rs := [10]) (by kernel_rfl) (by simp) ?_
            refine AllReadyH.cons (o := _) rfl (fun K hK => ?_) AllReadyH.nil
            go_simp
            try dsimp only
            have q0 : Row (x22.alloc (.cells #[.slice a1 2 c1, .slice a2 2 c2, .slice a3 3 c3] 23)) (some ⟨x22.heap.size, 0, none⟩) 3 l12 := rowR3 (x := pA) (y := pB) (z := qAA) R1.out R2.out R3.out 23
            have hbx23 := (Below.refl x22.heap.size x22).new (.cells #[.slice a1 2 c1, .slice a2 2 c2, .slice a3 3 c3] 23)
            have q1 : (x22.alloc (.cells #[.slice a1 2 c1, .slice a2 2 c2, .slice a3 3 c3] 23)).cell? ⟨x22.heap.size, 0, none⟩ = some (.slice a1 2 c1) := cell_mk x22 _ _ 0 _ rfl
            have q2 : (x22.alloc (.cells #[.slice a1 2 c1, .slice a2 2 c2, .slice a3 3 c3] 23)).cell? ⟨x22.heap.size, 1, none⟩ = some (.slice a2 2 c2) := cell_mk x22 _ _ 1 _ rfl
            have q3 : (x22.alloc (.cells #[.slice a1 2 c1, .slice a2 2 c2, .slice a3 3 c3] 23)).cell? ⟨x22.heap.size, 2, none⟩ = some (.slice a3 3 c3) := cell_mk x22 _ _ 2 _ rfl
            have hd7_23 := hd6_22.then hbx23
            replace RA := mkHid (RA.out.below hbx23)
            replace RB := mkHid (RB.out.below hbx23)
            replace R1 := mkHid (R1.out.below hbx23)
            replace R2 := mkHid (R2.out.below hbx23)
            replace RAA := mkHid (RAA.out.below hbx23)
            replace R3 := mkHid (R3.out.below hbx23)
            refine hK.out _ _ (HS.out _ hd7_23) (fun hSn => ?_)
            clear hK K hSn
            have hSx23 := HS.out _ hd7_23
            (try simp only [List.getElem_toArray, List.getElem_cons_succ, List.getElem_cons_zero, Act.put, List.setIfInBounds_toArray, List.set_cons_zero, List.set_cons_succ])
            obtain ⟨x23, hV⟩ : ∃ V, x22.alloc (.cells #[.slice a1 2 c1, .slice a2 2 c2, .slice a3 3 c3] 23) = V := ⟨_, rfl⟩
            obtain ⟨Gx23, hG⟩ : ∃ V, x22.heap.size = V := ⟨_, rfl⟩
            rw [hV] at q0 q1 q2 q3 hd7_23 hSx23 RA RB R1 R2 RAA R3 ⊢
            rw [hG] at q0 q1 q2 q3 ⊢
            have RL := mkHid q0
            have C0 := mkHid q1
            have C1 := mkHid q2
            have C2 := mkHid q3
            clear hV hG hbx23 q0 q1 q2 q3
            refine wpAnyH_take (i := 11) (oi := _) (v := ?_) rfl (by kernel_rfl) (by kernel_rfl) (by kernel_rfl) (fun _ _ _ h => h) (Or.inl ⟨by kernel_rfl, ?_⟩) (by assumption) ?_
            rotate_left
            · (intro w' hSw; obtain ⟨s0, s1, s2, s3, s4, s5⟩ := hSw; go_simp; try with_reducible rfl)
            (try simp only [List.getElem_toArray, List.getElem_cons_succ, List.getElem_cons_zero, Act.put, List.setIfInBounds_toArray, List.set_cons_zero, List.set_cons_succ])
            refine wpAnyH_done (by kernel_rfl) (NoPanic.normal ?_) _
            refine ⟨rfl, ?_⟩
            (repeat apply Exists.intro)
            exact ⟨rfl, RL.out, C0.out, C1.out, C2.out, R1.out, R2.out, R3.out, hd7_23⟩
          refine AllReadyH.cons (o := _) rfl (fun K hK => ?_) AllReadyH.nil
          go_simp
          try dsimp only
          have q0 : Row (x19.alloc (.cells #[.int .i64 3, .string ⟨#[97]⟩, .int .i64 0, .int .i64 3, .string ⟨#[97]⟩, .int .i64 0] 42)) (some ⟨x19.heap.size, 0, none⟩) 2 [cA, cA] := rowC2 x19 cA cA cA_fit cA_fit 42
          have hbx24 := (Below.refl x19.heap.size x19).new (.cells #[.int .i64 3, .string ⟨#[97]⟩, .int .i64 0, .int .i64 3, .string ⟨#[97]⟩, .int .i64 0] 42)
          have hd4_24 := hd3_19.then hbx24
          replace RA := mkHid (RA.out.below hbx24)
          replace RB := mkHid (RB.out.below hbx24)
          replace R1 := mkHid (R1.out.below hbx24)
          refine hK.out _ _ (HS.out _ hd4_24) (fun hSn => ?_)
          clear hK K hSn
          have hSx24 := HS.out _ hd4_24
          (try simp only [List.getElem_toArray, List.getElem_cons_succ, List.getElem_cons_zero, Act.put, List.setIfInBounds_toArray, List.set_cons_zero, List.set_cons_succ])
          obtain ⟨x24, hV⟩ : ∃ V, x19.alloc (.cells #[.int .i64 3, .string ⟨#[97]⟩, .int .i64 0, .int .i64 3, .string ⟨#[97]⟩, .int .i64 0] 42) = V := ⟨_, rfl⟩
          obtain ⟨Gx24, hG⟩ : ∃ V, x19.heap.size = V := ⟨_, rfl⟩
          rw [hV] at q0 hd4_24 hSx24 RA RB R1 ⊢
          rw [hG] at q0 ⊢
          have RAA := mkHid q0
          clear hV hG hbx24 q0
          refine wpAnyH_ready (rs := [5]) (by kernel_rfl) (by simp) ?_
          refine AllReadyH.cons (o := _) rfl (fun K hK => ?_) AllReadyH.nil
          go_simp
          refine (p12_is (nm := ⟨#[112]⟩) (cl := ⟨3, ⟨#[112]⟩, 1⟩) (j := 2) (by decide) rfl RB.out (by decide) rfl rfl).mono ?_
          rintro e x25 ⟨a2, c2, rfl, r2, hbx25⟩
          have R2 := mkHid r2
          clear r2
          have hd5_25 := hd4_24.then hbx25
          replace RA := mkHid (RA.out.below hbx25)
          replace RB := mkHid (RB.out.below hbx25)
          replace R1 := mkHid (R1.out.below hbx25)
          replace RAA := mkHid (RAA.out.below hbx25)
          try dsimp only
          refine hK.out _ _ (HS.out _ hd5_25) (fun hSn => ?_)
          clear hK K hSn
          have hSx25 := HS.out _ hd5_25
          (try simp only [List.getElem_toArray, List.getElem_cons_succ, List.getElem_cons_zero, Act.put, List.setIfInBounds_toArray, List.set_cons_zero, List.set_cons_succ])
          clear hbx25
          refine wpAnyH_ready (rs := [9]) (by kernel_rfl) (by simp) ?_
          refine AllReadyH.cons (o := _) rfl (fun K hK => ?_) AllReadyH.nil
          go_simp
          refine (p12_is (nm := ⟨#[113]⟩) (cl := ⟨3, ⟨#[113]⟩, 2⟩) (j := 3) (by decide) rfl RAA.out (by decide) rfl rfl).mono ?_
          rintro e x26 ⟨a3, c3, rfl, r3, hbx26⟩
          have R3 := mkHid r3
          clear r3
          have hd6_26 := hd5_25.then hbx26
          replace RA := mkHid (RA.out.below hbx26)
          replace RB := mkHid (RB.out.below hbx26)
          replace R1 := mkHid (R1.out.below hbx26)
          replace RAA := mkHid (RAA.out.below hbx26)
          replace R2 := mkHid (R2.out.below hbx26)
          try dsimp only
          refine hK.out _ _ (HS.out _ hd6_26) (fun hSn => ?_)
          clear hK K hSn
          have hSx26 := HS.out _ hd6_26
          (try simp only [List.getElem_toArray, List.getElem_cons_succ, List.getElem_cons_zero, Act.put, List.setIfInBounds_toArray, List.set_cons_zero, List.set_cons_succ])
          clear hbx26
          refine wpAnyH_ready (rs := [10]) (by kernel_rfl) (by simp) ?_
          refine AllReadyH.cons (o := _) rfl (fun K hK => ?_) AllReadyH.nil
          go_simp
          try dsimp only
          have q0 : Row (x26.alloc (.cells #[.slice a1 2 c1, .slice a2 2 c2, .slice a3 3 c3] 23)) (some ⟨x26.heap.size, 0, none⟩) 3 l12 := rowR3 (x := pA) (y := pB) (z := qAA) R1.out R2.out R3.out 23
          have hbx27 := (Below.refl x26.heap.size x26).new (.cells #[.slice a1 2 c1, .slice a2 2 c2, .slice a3 3 c3] 23)
          have q1 : (x26.alloc (.cells #[.slice a1 2 c1, .slice a2 2 c2, .slice a3 3 c3] 23)).cell? ⟨x26.heap.size, 0, none⟩ = some (.slice a1 2 c1) := cell_mk x26 _ _ 0 _ rfl
          have q2 : (x26.alloc (.cells #[.slice a1 2 c1, .slice a2 2 c2, .slice a3 3 c3] 23)).cell? ⟨x26.heap.size, 1, none⟩ = some (.slice a2 2 c2) := cell_mk x26 _ _ 1 _ rfl
          have q3 : (x26.alloc (.cells #[.slice a1 2 c1, .slice a2 2 c2, .slice a3 3 c3] 23)).cell? ⟨x26.heap.size, 2, none⟩ = some (.slice a3 3 c3) := cell_mk x26 _ _ 2 _ rfl
          have hd7_27 := hd6_26.then hbx27
          replace RA := mkHid (RA.out.below hbx27)
          replace RB := mkHid (RB.out.below hbx27)
          replace R1 := mkHid (R1.out.below hbx27)
          replace RAA := mkHid (RAA.out.below hbx27)
          replace R2 := mkHid (R2.out.below hbx27)
          replace R3 := mkHid (R3.out.below hbx27)
          refine hK.out _ _ (HS.out _ hd7_27) (fun hSn => ?_)
          clear hK K hSn
          have hSx27 := HS.out _ hd7_27
          (try simp only [List.getElem_toArray, List.getElem_cons_succ, List.getElem_cons_zero, Act.put, List.setIfInBounds_toArray, List.set_cons_zero, List.set_cons_succ])
          obtain ⟨x27, hV⟩ : ∃ V, x26.alloc (.cells #[.slice a1 2 c1, .slice a2 2 c2, .slice a3 3 c3] 23) = V := ⟨_, rfl⟩
          obtain ⟨Gx27, hG⟩ : ∃ V, x26.heap.size = V := ⟨_, rfl⟩
          rw [hV] at q0 q1 q2 q3 hd7_27 hSx27 RA RB R1 RAA R2 R3 ⊢
          rw [hG] at q0 q1 q2 q3 ⊢
          have RL := mkHid q0
          have C0 := mkHid q1
          have C1 := mkHid q2
          have C2 := mkHid q3
          clear hV hG hbx27 q0 q1 q2 q3
          refine wpAnyH_take (i := 11) (oi := _) (v := ?_) rfl (by kernel_rfl) (by kernel_rfl) (by kernel_rfl) (fun _ _ _ h => h) (Or.inl ⟨by kernel_rfl, ?_⟩) (by assumption) ?_
          rotate_left
          · (intro w' hSw; obtain ⟨s0, s1, s2, s3, s4, s5⟩ := hSw; go_simp; try with_reducible rfl)
          (try simp only [List.getElem_toArray, List.getElem_cons_succ, List.getElem_cons_zero, Act.put, List.setIfInBounds_toArray, List.set_cons_zero, List.set_cons_succ])
          refine wpAnyH_done (by kernel_rfl) (NoPanic.normal ?_) _
          refine ⟨rfl, ?_⟩
          (repeat apply Exists.intro)
          exact ⟨rfl, RL.out, C0.out, C1.out, C2.out, R1.out, R2.out, R3.out, hd7_27⟩
        refine AllReadyH.cons (o := _) rfl (fun K hK => ?_) AllReadyH.nil
        go_simp
        try dsimp only
        have q0 : Row (x18.alloc (.cells #[.int .i64 3, .string ⟨#[97]⟩, .int .i64 0, .int .i64 3, .string ⟨#[97]⟩, .int .i64 0] 42)) (some ⟨x18.heap.size, 0, none⟩) 2 [cA, cA] := rowC2 x18 cA cA cA_fit cA_fit 42
        have hbx28 := (Below.refl x18.heap.size x18).new (.cells #[.int .i64 3, .string ⟨#[97]⟩, .int .i64 0, .int .i64 3, .string ⟨#[97]⟩, .int .i64 0] 42)
        have hd3_28 := hd2_18.then hbx28
        replace RA := mkHid (RA.out.below hbx28)
        replace RB := mkHid (RB.out.below hbx28)
        refine hK.out _ _ (HS.out _ hd3_28) (fun hSn => ?_)
        clear hK K hSn
        have hSx28 := HS.out _ hd3_28
        (try simp only [List.getElem_toArray, List.getElem_cons_succ, List.getElem_cons_zero, Act.put, List.setIfInBounds_toArray, List.set_cons_zero, List.set_cons_succ])
        obtain ⟨x28, hV⟩ : ∃ V, x18.alloc (.cells #[.int .i64 3, .string ⟨#[97]⟩, .int .i64 0, .int .i64 3, .string ⟨#[97]⟩, .int .i64 0] 42) = V := ⟨_, rfl⟩
        obtain ⟨Gx28, hG⟩ : ∃ V, x18.heap.size = V := ⟨_, rfl⟩
        rw [hV] at q0 hd3_28 hSx28 RA RB ⊢
        rw [hG] at q0 ⊢
        have RAA := mkHid q0
        clear hV hG hbx28 q0
        refine wpAnyH_ready (rs := [2]) (by kernel_rfl) (by simp) ?_
        refine AllReadyH.cons (o := _) rfl (fun K hK => ?_) AllReadyH.nil
        go_simp
        refine (p12_is (nm := ⟨#[112]⟩) (cl := ⟨3, ⟨#[112]⟩, 1⟩) (j := 2) (by decide) rfl RA.out (by decide) rfl rfl).mono ?_
        rintro e x29 ⟨a1, c1, rfl, r1, hbx29⟩
        have R1 := mkHid r1
        clear r1
        have hd4_29 := hd3_28.then hbx29
        replace RA := mkHid (RA.out.below hbx29)
        replace RB := mkHid (RB.out.below hbx29)
        replace RAA := mkHid (RAA.out.below hbx29)
        try dsimp only
        refine hK.out _ _ (HS.out _ hd4_29) (fun hSn => ?_)
        clear hK K hSn
        have hSx29 := HS.out _ hd4_29
        (try simp only [List.getElem_toArray, List.getElem_cons_succ, List.getElem_cons_zero, Act.put, List.setIfInBounds_toArray, List.set_cons_zero, List.set_cons_succ])
        clear hbx29
        refine wpAnyH_ready (rs := [5]) (by kernel_rfl) (by simp) ?_
        refine AllReadyH.cons (o := _) rfl (fun K hK => ?_) AllReadyH.nil
        go_simp
        refine (p12_is (nm := ⟨#[112]⟩) (cl := ⟨3, ⟨#[112]⟩, 1⟩) (j := 2) (by decide) rfl RB.out (by decide) rfl rfl).mono ?_
        rintro e x30 ⟨a2, c2, rfl, r2, hbx30⟩
        have R2 := mkHid r2
        clear r2
        have hd5_30 := hd4_29.then hbx30
        replace RA := mkHid (RA.out.below hbx30)
        replace RB := mkHid (RB.out.below hbx30)
        replace RAA := mkHid (RAA.out.below hbx30)
        replace R1 := mkHid (R1.out.below hbx30)
        try dsimp only
        refine hK.out _ _ (HS.out _ hd5_30) (fun hSn => ?_)
        clear hK K hSn
        have hSx30 := HS.out _ hd5_30
        (try simp only [List.getElem_toArray, List.getElem_cons_succ, List.getElem_cons_zero, Act.put, List.setIfInBounds_toArray, List.set_cons_zero, List.set_cons_succ])
        clear hbx30
        refine wpAnyH_ready (rs := [9]) (by kernel_rfl) (by simp) ?_
        refine AllReadyH.cons (o := _) rfl (fun K hK => ?_) AllReadyH.nil
        go_simp
        refine (p12_is (nm := ⟨#[113]⟩) (cl := ⟨3, ⟨#[113]⟩, 2⟩) (j := 3) (by decide) rfl RAA.out (by decide) rfl rfl).mono ?_
        rintro e x31 ⟨a3, c3, rfl, r3, hbx31⟩
        have R3 := mkHid r3
        clear r3
        have hd6_31 := hd5_30.then hbx31
        replace RA := mkHid (RA.out.below hbx31)
        replace RB := mkHid (RB.out.below hbx31)
        replace RAA := mkHid (RAA.out.below hbx31)
        replace R1 := mkHid (R1.out.below hbx31)
        replace R2 := mkHid (R2.out.below hbx31)
        try dsimp only
        refine hK.out _ _ (HS.out _ hd6_31) (fun hSn => ?_)
        clear hK K hSn
        have hSx31 := HS.out _ hd6_31
        (try simp only [List.getElem_toArray, List.getElem_cons_succ, List.getElem_cons_zero, Act.put, List.setIfInBounds_toArray, List.set_cons_zero, List.set_cons_succ])
        clear hbx31
        refine wpAnyH_ready (rs := [10]) (by kernel_rfl) (by simp) ?_
        refine AllReadyH.cons (o := _) rfl (fun K hK => ?_) AllReadyH.nil
        go_simp
        try dsimp only
        have q0 : Row (x31.alloc (.cells #[.slice a1 2 c1, .slice a2 2 c2, .slice a3 3 c3] 23)) (some ⟨x31.heap.size, 0, none⟩) 3 l12 := rowR3 (x := pA) (y := pB) (z := qAA) R1.out R2.out R3.out 23
        have hbx32 := (Below.refl x31.heap.size x31).new (.cells #[.slice a1 2 c1, .slice a2 2 c2, .slice a3 3 c3] 23)
        have q1 : (x31.alloc (.cells #[.slice a1 2 c1, .slice a2 2 c2, .slice a3 3 c3] 23)).cell? ⟨x31.heap.size, 0, none⟩ = some (.slice a1 2 c1) := cell_mk x31 _ _ 0 _ rfl
        have q2 : (x31.alloc (.cells #[.slice a1 2 c1, .slice a2 2 c2, .slice a3 3 c3] 23)).cell? ⟨x31.heap.size, 1, none⟩ = some (.slice a2 2 c2) := cell_mk x31 _ _ 1 _ rfl
        have q3 : (x31.alloc (.cells #[.slice a1 2 c1, .slice a2 2 c2, .slice a3 3 c3] 23)).cell? ⟨x31.heap.size, 2, none⟩ = some (.slice a3 3 c3) := cell_mk x31 _ _ 2 _ rfl
        have hd7_32 := hd6_31.then hbx32
        replace RA := mkHid (RA.out.below hbx32)
        replace RB := mkHid (RB.out.below hbx32)
        replace RAA := mkHid (RAA.out.below hbx32)
        replace R1 := mkHid (R1.out.below hbx32)
        replace R2 := mkHid (R2.out.below hbx32)
        replace R3 := mkHid (R3.out.below hbx32)
        refine hK.out _ _ (HS.out _ hd7_32) (fun hSn => ?_)
        clear hK K hSn
        have hSx32 := HS.out _ hd7_32
        (try simp only [List.getElem_toArray, List.getElem_cons_succ, List.getElem_cons_zero, Act.put, List.setIfInBounds_toArray, List.set_cons_zero, List.set_cons_succ])
        obtain ⟨x32, hV⟩ : ∃ V, x31.alloc (.cells #[.slice a1 2 c1, .slice a2 2 c2, .slice a3 3 c3] 23) = V := ⟨_, rfl⟩
        obtain ⟨Gx32, hG⟩ : ∃ V, x31.heap.size = V := ⟨_, rfl⟩
        rw [hV] at q0 q1 q2 q3 hd7_32 hSx32 RA RB RAA R1 R2 R3 ⊢
        rw [hG] at q0 q1 q2 q3 ⊢
        have RL := mkHid q0
        have C0 := mkHid q1
        have C1 := mkHid q2
        have C2 := mkHid q3
        clear hV hG hbx32 q0 q1 q2 q3
        refine wpAnyH_take (i := 11) (oi := _) (v := ?_) rfl (by kernel_rfl) (by kernel_rfl) (by kernel_rfl) (fun _ _ _ h => h) (Or.inl ⟨by kernel_rfl, ?_⟩) (by assumption) ?_
        rotate_left
        · (intro w' hSw; obtain ⟨s0, s1, s2, s3, s4, s5⟩ := hSw; go_simp; try with_reducible rfl)
        (try simp only [List.getElem_toArray, List.getElem_cons_succ, List.getElem_cons_zero, Act.put, List.setIfInBounds_toArray, List.set_cons_zero, List.set_cons_succ])
        refine wpAnyH_done (by kernel_rfl) (NoPanic.normal ?_) _
        refine ⟨rfl, ?_⟩
        (repeat apply Exists.intro)
        exact ⟨rfl, RL.out, C0.out, C1.out, C2.out, R1.out, R2.out, R3.out, hd7_32⟩
      refine AllReadyH.cons (o := _) rfl (fun K hK => ?_) AllReadyH.nil
      go_simp
      try dsimp only
      have q0 : Row (x2.alloc (.cells #[.int .i64 3, .string ⟨#[97]⟩, .int .i64 0, .int .i64 3, .string ⟨#[97]⟩, .int .i64 0] 42)) (some ⟨x2.heap.size, 0, none⟩) 2 [cA, cA] := rowC2 x2 cA cA cA_fit cA_fit 42
      have hbx33 := (Below.refl x2.heap.size x2).new (.cells #[.int .i64 3, .string ⟨#[97]⟩, .int .i64 0, .int .i64 3, .string ⟨#[97]⟩, .int .i64 0] 42)
      have hd2_33 := hd1_2.then hbx33
      replace RA := mkHid (RA.out.below hbx33)
      refine hK.out _ _ (HS.out _ hd2_33) (fun hSn => ?_)
      clear hK K hSn
      have hSx33 := HS.out _ hd2_33
      (try simp only [List.getElem_toArray, List.getElem_cons_succ, List.getElem_cons_zero, Act.put, List.setIfInBounds_toArray, List.set_cons_zero, List.set_cons_succ])
      obtain ⟨x33, hV⟩ : ∃ V, x2.alloc (.cells #[.int .i64 3, .string ⟨#[97]⟩, .int .i64 0, .int .i64 3, .string ⟨#[97]⟩, .int .i64 0] 42) = V := ⟨_, rfl⟩
      obtain ⟨Gx33, hG⟩ : ∃ V, x2.heap.size = V := ⟨_, rfl⟩
      rw [hV] at q0 hd2_33 hSx33 RA ⊢
      rw [hG] at q0 ⊢
      have RAA := mkHid q0
      clear hV hG hbx33 q0
      refine wpAnyH_ready (rs := [2, 4]) (by kernel_rfl) (by simp) ?_
      refine AllReadyH.cons (o := _) rfl (fun K hK => ?_) ?_
      · skip
        go_simp
        refine (p12_is (nm := ⟨#[112]⟩) (cl := ⟨3, ⟨#[112]⟩, 1⟩) (j := 2) (by decide) rfl RA.out (by decide) rfl rfl).mono ?_
        rintro e x34 ⟨a1, c1, rfl, r1, hbx34⟩
        have R1 := mkHid r1
        clear r1
        have hd3_34 := hd2_33.then hbx34
        replace RA := mkHid (RA.out.below hbx34)
        replace RAA := mkHid (RAA.out.below hbx34)
        try dsimp only
        refine hK.out _ _ (HS.out _ hd3_34) (fun hSn => ?_)
        clear hK K hSn
        have hSx34 := HS.out _ hd3_34
        (try simp only [List.getElem_toArray, List.getElem_cons_succ, List.getElem_cons_zero, Act.put, List.setIfInBounds_toArray, List.set_cons_zero, List.set_cons_succ])
        clear hbx34
        refine wpAnyH_ready (rs := [4]) (by kernel_rfl) (by simp) ?_
        refine AllReadyH.cons (o := _) rfl (fun K hK => ?_) AllReadyH.nil
        go_simp
        try dsimp only
        have q0 : Row (x34.alloc (.cells #[.int .i64 3, .string ⟨#[98]⟩, .int .i64 0] 42)) (some ⟨x34.heap.size, 0, none⟩) 1 [cB] := rowC1 x34 cB cB_fit 42
        have hbx35 := (Below.refl x34.heap.size x34).new (.cells #[.int .i64 3, .string ⟨#[98]⟩, .int .i64 0] 42)
        have hd4_35 := hd3_34.then hbx35
        replace RA := mkHid (RA.out.below hbx35)
        replace RAA := mkHid (RAA.out.below hbx35)
        replace R1 := mkHid (R1.out.below hbx35)
        refine hK.out _ _ (HS.out _ hd4_35) (fun hSn => ?_)
        clear hK K hSn
        have hSx35 := HS.out _ hd4_35
        (try simp only [List.getElem_toArray, List.getElem_cons_succ, List.getElem_cons_zero, Act.put, List.setIfInBounds_toArray, List.set_cons_zero, List.set_cons_succ])
        obtain ⟨x35, hV⟩ : ∃ V, x34.alloc (.cells #[.int .i64 3, .string ⟨#[98]⟩, .int .i64 0] 42) = V := ⟨_, rfl⟩
        obtain ⟨Gx35, hG⟩ : ∃ V, x34.heap.size = V := ⟨_, rfl⟩
        rw [hV] at q0 hd4_35 hSx35 RA RAA R1 ⊢
        rw [hG] at q0 ⊢
        have RB := mkHid q0
        clear hV hG hbx35 q0
        refine wpAnyH_ready (rs := [5]) (by kernel_rfl) (by simp) ?_
        refine AllReadyH.cons (o := _) rfl (fun K hK => ?_) AllReadyH.nil
        go_simp
        refine (p12_is (nm := ⟨#[112]⟩) (cl := ⟨3, ⟨#[112]⟩, 1⟩) (j := 2) (by decide) rfl RB.out (by decide) rfl rfl).mono ?_
        rintro e x36 ⟨a2, c2, rfl, r2, hbx36⟩
        have R2 := mkHid r2
        clear r2
        have hd5_36 := hd4_35.then hbx36
        replace RA := mkHid (RA.out.below hbx36)
        replace RAA := mkHid (RAA.out.below hbx36)
        replace R1 := mkHid (R1.out.below hbx36)
        replace RB := mkHid (RB.out.below hbx36)
        try dsimp only
        refine hK.out _ _ (HS.out _ hd5_36) (fun hSn => ?_)
        clear hK K hSn
        have hSx36 := HS.out _ hd5_36
        (try simp only [List.getElem_toArray, List.getElem_cons_succ, List.getElem_cons_zero, Act.put, List.setIfInBounds_toArray, List.set_cons_zero, List.set_cons_succ])
        clear hbx36
        refine wpAnyH_ready (rs := [9]) (by kernel_rfl) (by simp) ?_
        refine AllReadyH.cons (o := _) rfl (fun K hK => ?_) AllReadyH.nil
        go_simp
        refine (p12_is (nm := ⟨#[113]⟩) (cl := ⟨3, ⟨#[113]⟩, 2⟩) (j := 3) (by decide) rfl RAA.out (by decide) rfl rfl).mono ?_
        rintro e x37 ⟨a3, c3, rfl, r3, hbx37⟩
        have R3 := mkHid r3
        clear r3
        have hd6_37 := hd5_36.then hbx37
        replace RA := mkHid (RA.out.below hbx37)
        replace RAA := mkHid (RAA.out.below hbx37)
        replace R1 := mkHid (R1.out.below hbx37)
        replace RB := mkHid (RB.out.below hbx37)
        replace R2 := mkHid (R2.out.below hbx37)
        try dsimp only
        refine hK.out _ _ (HS.out _ hd6_37) (fun hSn => ?_)
        clear hK K hSn
        have hSx37 := HS.out _ hd6_37
        (try simp only [List.getElem_toArray, List.getElem_cons_succ, List.getElem_cons_zero, Act.put, List.setIfInBounds_toArray, List.set_cons_zero, List.set_cons_succ])
        clear hbx37
        refine wpAnyH_ready (rs := [10]) (by kernel_rfl) (by simp) ?_
        refine AllReadyH.cons (o := _) rfl (fun K hK => ?_) AllReadyH.nil
        go_simp
        try dsimp only
        have q0 : Row (x37.alloc (.cells #[.slice a1 2 c1, .slice a2 2 c2, .slice a3 3 c3] 23)) (some ⟨x37.heap.size, 0, none⟩) 3 l12 := rowR3 (x := pA) (y := pB) (z := qAA) R1.out R2.out R3.out 23
        have hbx38 := (Below.refl x37.heap.size x37).new (.cells #[.slice a1 2 c1, .slice a2 2 c2, .slice a3 3 c3] 23)
        have q1 : (x37.alloc (.cells #[.slice a1 2 c1, .slice a2 2 c2, .slice a3 3 c3] 23)).cell? ⟨x37.heap.size, 0, none⟩ = some (.slice a1 2 c1) := cell_mk x37 _ _ 0 _ rfl
        have q2 : (x37.alloc (.cells #[.slice a1 2 c1, .slice a2 2 c2, .slice a3 3 c3] 23)).cell? ⟨x37.heap.size, 1, none⟩ = some (.slice a2 2 c2) := cell_mk x37 _ _ 1 _ rfl
        have q3 : (x37.alloc (.cells #[.slice a1 2 c1, .slice a2 2 c2, .slice a3 3 c3] 23)).cell? ⟨x37.heap.size, 2, none⟩ = some (.slice a3 3 c3) := cell_mk x37 _ _ 2 _ rfl
        have hd7_38 := hd6_37.then hbx38
        replace RA := mkHid (RA.out.below hbx38)
        replace RAA := mkHid (RAA.out.below hbx38)
        replace R1 := mkHid (R1.out.below hbx38)
        replace RB := mkHid (RB.out.below hbx38)
        replace R2 := mkHid (R2.out.below hbx38)
        replace R3 := mkHid (R3.out.below hbx38)
        refine hK.out _ _ (HS.out _ hd7_38) (fun hSn => ?_)
        clear hK K hSn
        have hSx38 := HS.out _ hd7_38
        (try simp only [List.getElem_toArray, List.getElem_cons_succ, List.getElem_cons_zero, Act.put, List.setIfInBounds_toArray, List.set_cons_zero, List.set_cons_succ])
        obtain ⟨x38, hV⟩ : ∃ V, x37.alloc (.cells #[.slice a1 2 c1, .slice a2 2 c2, .slice a3 3 c3] 23) = V := ⟨_, rfl⟩
        obtain ⟨Gx38, hG⟩ : ∃ V, x37.heap.size = V := ⟨_, rfl⟩
        rw [hV] at q0 q1 q2 q3 hd7_38 hSx38 RA RAA R1 RB R2 R3 ⊢
        rw [hG] at q0 q1 q2 q3 ⊢
        have RL := mkHid q0
        have C0 := mkHid q1
        have C1 := mkHid q2
        have C2 := mkHid q3
        clear hV hG hbx38 q0 q1 q2 q3
        refine wpAnyH_take (i := 11) (oi := _) (v := ?_) rfl (by kernel_rfl) (by kernel_rfl) (by kernel_rfl) (fun _ _ _ h => h) (Or.inl ⟨by kernel_rfl, ?_⟩) (by assumption) ?_
        rotate_left
        · (intro w' hSw; obtain ⟨s0, s1, s2, s3, s4, s5⟩ := hSw; go_simp; try with_reducible rfl)
        (try simp only [List.getElem_toArray, List.getElem_cons_succ, List.getElem_cons_zero, Act.put, List.setIfInBounds_toArray, List.set_cons_zero, List.set_cons_succ])
        refine wpAnyH_done (by kernel_rfl) (NoPanic.normal ?_) _
        refine ⟨rfl, ?_⟩
        (repeat apply Exists.intro)
        exact ⟨rfl, RL.out, C0.out, C1.out, C2.out, R1.out, R2.out, R3.out, hd7_38⟩
      refine AllReadyH.cons (o := _) rfl (fun K hK => ?_) AllReadyH.nil
      go_simp
      try dsimp only
      have q0 : Row (x33.alloc (.cells #[.int .i64 3, .string ⟨#[98]⟩, .int .i64 0] 42)) (some ⟨x33.heap.size, 0, none⟩) 1 [cB] := rowC1 x33 cB cB_fit 42
      have hbx39 := (Below.refl x33.heap.size x33).new (.cells #[.int .i64 3, .string ⟨#[98]⟩, .int .i64 0] 42)
      have hd3_39 := hd2_33.then hbx39
      replace RA := mkHid (RA.out.below hbx39)
      replace RAA := mkHid (RAA.out.below hbx39)
      refine hK.out _ _ (HS.out _ hd3_39) (fun hSn => ?_)
      clear hK K hSn
      have hSx39 := HS.out _ hd3_39
      (try simp only [List.getElem_toArray, List.getElem_cons_succ, List.getElem_cons_zero, Act.put, List.setIfInBounds_toArray, List.set_cons_zero, List.set_cons_succ])
      obtain ⟨x39, hV⟩ : ∃ V, x33.alloc (.cells #[.int .i64 3, .string ⟨#[98]⟩, .int .i64 0] 42) = V := ⟨_, rfl⟩
      obtain ⟨Gx39, hG⟩ : ∃ V, x33.heap.size = V := ⟨_, rfl⟩
      rw [hV] at q0 hd3_39 hSx39 RA RAA ⊢
      rw [hG] at q0 ⊢
      have RB := mkHid q0
      clear hV hG hbx39 q0
      refine wpAnyH_ready (rs := [2]) (by kernel_rfl) (by simp) ?_
      refine AllReadyH.cons (o := _) rfl (fun K hK => ?_) AllReadyH.nil
      go_simp
      refine (p12_is (nm := ⟨#[112]⟩) (cl := ⟨3, ⟨#[112]⟩, 1⟩) (j := 2) (by decide) rfl RA.out (by decide) rfl rfl).mono ?_
      rintro e x40 ⟨a1, c1, rfl, r1, hbx40⟩
      have R1 := mkHid r1
      clear r1
      have hd4_40 := hd3_39.then hbx40
      replace RA := mkHid (RA.out.below hbx40)
      replace RAA := mkHid (RAA.out.below hbx40)
      replace RB := mkHid (RB.out.below hbx40)
      try dsimp only
      refine hK.out _ _ (HS.out _ hd4_40) (fun hSn => ?_)
      clear hK K hSn
      have hSx40 := HS.out _ hd4_40
      (try simp only [List.getElem_toArray, List.getElem_cons_succ, List.getElem_cons_zero, Act.put, List.setIfInBounds_toArray, List.set_cons_zero, List.set_cons_succ])
      clear hbx40
      refine wpAnyH_ready (rs := [5]) (by kernel_rfl) (by simp) ?_
      refine AllReadyH.cons (o := _) rfl (fun K hK => ?_) AllReadyH.nil
      go_simp
      refine (p12_is (nm := ⟨#[112]⟩) (cl := ⟨3, ⟨#[112]⟩, 1⟩) (j := 2) (by decide) rfl RB.out (by decide) rfl rfl).mono ?_
      rintro e x41 ⟨a2, c2, rfl, r2, hbx41⟩
      have R2 := mkHid r2
      clear r2
      have hd5_41 := hd4_40.then hbx41
      replace RA := mkHid (RA.out.below hbx41)
      replace RAA := mkHid (RAA.out.below hbx41)
      replace RB := mkHid (RB.out.below hbx41)
      replace R1 := mkHid (R1.out.below hbx41)
      try dsimp only
      refine hK.out _ _ (HS.out _ hd5_41) (fun hSn => ?_)
      clear hK K hSn
      have hSx41 := HS.out _ hd5_41
      (try simp only [List.getElem_toArray, List.getElem_cons_succ, List.getElem_cons_zero, Act.put, List.setIfInBounds_toArray, List.set_cons_zero, List.set_cons_succ])
      clear hbx41
      refine wpAnyH_ready (rs := [9]) (by kernel_rfl) (by simp) ?_
      refine AllReadyH.cons (o := _) rfl (fun K hK => ?_) AllReadyH.nil
      go_simp
      refine (p12_is (nm := ⟨#[113]⟩) (cl := ⟨3, ⟨#[113]⟩, 2⟩) (j := 3) (by decide) rfl RAA.out (by decide) rfl rfl).mono ?_
      rintro e x42 ⟨a3, c3, rfl, r3, hbx42⟩
      have R3 := mkHid r3
      clear r3
      have hd6_42 := hd5_41.then hbx42
      replace RA := mkHid (RA.out.below hbx42)
      replace RAA := mkHid (RAA.out.below hbx42)
      replace RB := mkHid (RB.out.below hbx42)
      replace R1 := mkHid (R1.out.below hbx42)
      replace R2 := mkHid (R2.out.below hbx42)
      try dsimp only
      refine hK.out _ _ (HS.out _ hd6_42) (fun hSn => ?_)
      clear hK K hSn
      have hSx42 := HS.out _ hd6_42
      (try simp only [List.getElem_toArray, List.getElem_cons_succ, List.getElem_cons_zero, Act.put, List.setIfInBounds_toArray, List.set_cons_zero, List.set_cons_succ])
      clear hbx42
      refine wpAnyH_ready (rs := [10]) (by kernel_rfl) (by simp) ?_
      refine AllReadyH.cons (o := _) rfl (fun K hK => ?_) AllReadyH.nil
      go_simp
      try dsimp only
      have q0 : Row (x42.alloc (.cells #[.slice a1 2 c1, .slice a2 2 c2, .slice a3 3 c3] 23)) (some ⟨x42.heap.size, 0, none⟩) 3 l12 := rowR3 (x := pA) (y := pB) (z := qAA) R1.out R2.out R3.out 23
      have hbx43 := (Below.refl x42.heap.size x42).new (.cells #[.slice a1 2 c1, .slice a2 2 c2, .slice a3 3 c3] 23)
      have q1 : (x42.alloc (.cells #[.slice a1 2 c1, .slice a2 2 c2, .slice a3 3 c3] 23)).cell? ⟨x42.heap.size, 0, none⟩ = some (.slice a1 2 c1) := cell_mk x42 _ _ 0 _ rfl
      have q2 : (x42.alloc (.cells #[.slice a1 2 c1, .slice a2 2 c2, .slice a3 3 c3] 23)).cell? ⟨x42.heap.size, 1, none⟩ = some (.slice a2 2 c2) := cell_mk x42 _ _ 1 _ rfl
      have q3 : (x42.alloc (.cells #[.slice a1 2 c1, .slice a2 2 c2, .slice a3 3 c3] 23)).cell? ⟨x42.heap.size, 2, none⟩ = some (.slice a3 3 c3) := cell_mk x42 _ _ 2 _ rfl
      have hd7_43 := hd6_42.then hbx43
      replace RA := mkHid (RA.out.below hbx43)
      replace RAA := mkHid (RAA.out.below hbx43)
      replace RB := mkHid (RB.out.below hbx43)
      replace R1 := mkHid (R1.out.below hbx43)
      replace R2 := mkHid (R2.out.below hbx43)
      replace R3 := mkHid (R3.out.below hbx43)
      refine hK.out _ _ (HS.out _ hd7_43) (fun hSn => ?_)
      clear hK K hSn
      have hSx43 := HS.out _ hd7_43
      (try simp only [List.getElem_toArray, List.getElem_cons_succ, List.getElem_cons_zero, Act.put, List.setIfInBounds_toArray, List.set_cons_zero, List.set_cons_succ])
      obtain ⟨x43, hV⟩ : ∃ V, x42.alloc (.cells #[.slice a1 2 c1, .slice a2 2 c2, .slice a3 3 c3] 23) = V := ⟨_, rfl⟩
      obtain ⟨Gx43, hG⟩ : ∃ V, x42.heap.size = V := ⟨_, rfl⟩
      rw [hV] at q0 q1 q2 q3 hd7_43 hSx43 RA RAA RB R1 R2 R3 ⊢
      rw [hG] at q0 q1 q2 q3 ⊢
      have RL := mkHid q0
      have C0 := mkHid q1
      have C1 := mkHid q2
      have C2 := mkHid q3
      clear hV hG hbx43 q0 q1 q2 q3
      refine wpAnyH_take (i := 11) (oi := _) (v := ?_) rfl (by kernel_rfl) (by kernel_rfl) (by kernel_rfl) (fun _ _ _ h => h) (Or.inl ⟨by kernel_rfl, ?_⟩) (by assumption) ?_
      rotate_left
      · (intro w' hSw; obtain ⟨s0, s1, s2, s3, s4, s5⟩ := hSw; go_simp; try with_reducible rfl)
      (try simp only [List.getElem_toArray, List.getElem_cons_succ, List.getElem_cons_zero, Act.put, List.setIfInBounds_toArray, List.set_cons_zero, List.set_cons_succ])
      refine wpAnyH_done (by kernel_rfl) (NoPanic.normal ?_) _
      refine ⟨rfl, ?_⟩
      (repeat apply Exists.intro)
      exact ⟨rfl, RL.out, C0.out, C1.out, C2.out, R1.out, R2.out, R3.out, hd7_43⟩
    refine AllReadyH.cons (o := _) rfl (fun K hK => ?_) ?_
    · skip
      go_simp
      try dsimp only
      have q0 : Row (x1.alloc (.cells #[.int .i64 3, .string ⟨#[98]⟩, .int .i64 0] 42)) (some ⟨x1.heap.size, 0, none⟩) 1 [cB] := rowC1 x1 cB cB_fit 42
      have hbx44 := (Below.refl x1.heap.size x1).new (.cells #[.int .i64 3, .string ⟨#[98]⟩, .int .i64 0] 42)
      have hd1_44 := hd0.then hbx44
      refine hK.out _ _ (HS.out _ hd1_44) (fun hSn => ?_)
      clear hK K hSn
      have hSx44 := HS.out _ hd1_44
      (try simp only [List.getElem_toArray, List.getElem_cons_succ, List.getElem_cons_zero, Act.put, List.setIfInBounds_toArray, List.set_cons_zero, List.set_cons_succ])
      obtain ⟨x44, hV⟩ : ∃ V, x1.alloc (.cells #[.int .i64 3, .string ⟨#[98]⟩, .int .i64 0] 42) = V := ⟨_, rfl⟩
      obtain ⟨Gx44, hG⟩ : ∃ V, x1.heap.size = V := ⟨_, rfl⟩
      rw [hV] at q0 hd1_44 hSx44 ⊢
      rw [hG] at q0 ⊢
      have RB := mkHid q0
      clear hV hG hbx44 q0
      refine wpAnyH_ready (rs := [1, 8]) (by kernel_rfl) (by simp) ?_
      refine AllReadyH.cons (o := _) rfl (fun K hK => ?_) ?_
      · skip
        go_simp
        try dsimp only
        have q0 : Row (x44.alloc (.cells #[.int .i64 3, .string ⟨#[97]⟩, .int .i64 0] 42)) (some ⟨x44.heap.size, 0, none⟩) 1 [cA] := rowC1 x44 cA cA_fit 42
        have hbx45 := (Below.refl x44.heap.size x44).new (.cells #[.int .i64 3, .string ⟨#[97]⟩, .int .i64 0] 42)
        have hd2_45 := hd1_44.then hbx45
        replace RB := mkHid (RB.out.below hbx45)
        refine hK.out _ _ (HS.out _ hd2_45) (fun hSn => ?_)
        clear hK K hSn
        have hSx45 := HS.out _ hd2_45
        (try simp only [List.getElem_toArray, List.getElem_cons_succ, List.getElem_cons_zero, Act.put, List.setIfInBounds_toArray, List.set_cons_zero, List.set_cons_succ])
        obtain ⟨x45, hV⟩ : ∃ V, x44.alloc (.cells #[.int .i64 3, .string ⟨#[97]⟩, .int .i64 0] 42) = V := ⟨_, rfl⟩
        obtain ⟨Gx45, hG⟩ : ∃ V, x44.heap.size = V := ⟨_, rfl⟩
        rw [hV] at q0 hd2_45 hSx45 RB ⊢
        rw [hG] at q0 ⊢
        have RA := mkHid q0
        clear hV hG hbx45 q0
        refine wpAnyH_ready (rs := [2, 8]) (by kernel_rfl) (by simp) ?_
        refine AllReadyH.cons (o := _) rfl (fun K hK => ?_) ?_
        · skip
          go_simp
          refine (p12_is (nm := ⟨#[112]⟩) (cl := ⟨3, ⟨#[112]⟩, 1⟩) (j := 2) (by decide) rfl RA.out (by decide) rfl rfl).mono ?_
          rintro e x46 ⟨a1, c1, rfl, r1, hbx46⟩
          have R1 := mkHid r1
          clear r1
          have hd3_46 := hd2_45.then hbx46
          replace RB := mkHid (RB.out.below hbx46)
          replace RA := mkHid (RA.out.below hbx46)
          try dsimp only
          refine hK.out _ _ (HS.out _ hd3_46) (fun hSn => ?_)
          clear hK K hSn
          have hSx46 := HS.out _ hd3_46
          (try simp only [List.getElem_toArray, List.getElem_cons_succ, List.getElem_cons_zero, Act.put, List.setIfInBounds_toArray, List.set_cons_zero, List.set_cons_succ])
          clear hbx46
          refine wpAnyH_ready (rs := [5, 8]) (by kernel_rfl) (by simp) ?_
          refine AllReadyH.cons (o := _) rfl (fun K hK => ?_) ?_
          · skip
            go_simp
            refine (p12_is (nm := ⟨#[112]⟩) (cl := ⟨3, ⟨#[112]⟩, 1⟩) (j := 2) (by decide) rfl RB.out (by decide) rfl rfl).mono ?_
            rintro e x47 ⟨a2, c2, rfl, r2, hbx47⟩
            have R2 := mkHid r2
            clear r2
            have hd4_47 := hd3_46.then hbx47
            replace RB := mkHid (RB.out.below hbx47)
            replace RA := mkHid (RA.out.below hbx47)
            replace R1 := mkHid (R1.out.below hbx47)
            try dsimp only
            refine hK.out _ _ (HS.out _ hd4_47) (fun hSn => ?_)
            clear hK K hSn
            have hSx47 := HS.out _ hd4_47
            (try simp only [List.getElem_toArray, List.getElem_cons_succ, List.getElem_cons_zero, Act.put, List.setIfInBounds_toArray, List.set_cons_zero, List.set_cons_succ])
            clear hbx47
            refine wpAnyH_ready (rs := [8]) (by kernel_rfl) (by simp) ?_
            refine AllReadyH.cons (o := _) rfl (fun K hK => ?_) AllReadyH.nil
            go_simp
            try dsimp only
            have q0 : Row (x47.alloc (.cells #[.int .i64 3, .string ⟨#[97]⟩, .int .i64 0, .int .i64 3, .string ⟨#[97]⟩, .int .i64 0] 42)) (some ⟨x47.heap.size, 0, none⟩) 2 [cA, cA] := rowC2 x47 cA cA cA_fit cA_fit 42
            have hbx48 := (Below.refl x47.heap.size x47).new (.cells #[.int .i64 3, .string ⟨#[97]⟩, .int .i64 0, .int .i64 3, .string ⟨#[97]⟩, .int .i64 0] 42)
            have hd5_48 := hd4_47.then hbx48
            replace RB := mkHid (RB.out.below hbx48)
            replace RA := mkHid (RA.out.below hbx48)
            replace R1 := mkHid (R1.out.below hbx48)
            replace R2 := mkHid (R2.out.below hbx48)
            refine hK.out _ _ (HS.out _ hd5_48) (fun hSn => ?_)
            clear hK K hSn
            have hSx48 := HS.out _ hd5_48
            (try simp only [List.getElem_toArray, List.getElem_cons_succ, List.getElem_cons_zero, Act.put, List.setIfInBounds_toArray, List.set_cons_zero, List.set_cons_succ])
            obtain ⟨x48, hV⟩ : ∃ V, x47.alloc (.cells #[.int .i64 3, .string ⟨#[97]⟩, .int .i64 0, .int .i64 3, .string ⟨#[97]⟩, .int .i64 0] 42) = V := ⟨_, rfl⟩
            obtain ⟨Gx48, hG⟩ : ∃ V, x47.heap.size = V := ⟨_, rfl⟩
            rw [hV] at q0 hd5_48 hSx48 RB RA R1 R2 ⊢
            rw [hG] at q0 ⊢
            have RAA := mkHid q0
            clear hV hG hbx48 q0
            refine wpAnyH_ready (rs := [9]) (by kernel_rfl) (by simp) ?_
            refine AllReadyH.cons (o := _) rfl (fun K hK => ?_) AllReadyH.nil
            go_simp
            refine (p12_is (nm := ⟨#[113]⟩) (cl := ⟨3, ⟨#[113]⟩, 2⟩) (j := 3) (by decide) rfl RAA.out (by decide) rfl rfl).mono ?_
            rintro e x49 ⟨a3, c3, rfl, r3, hbx49⟩
            have R3 := mkHid r3
            clear r3
            have hd6_49 := hd5_48.then hbx49
            replace RB := mkHid (RB.out.below hbx49)
            replace RA := mkHid (RA.out.below hbx49)
            replace R1 := mkHid (R1.out.below hbx49)
            replace R2 := mkHid (R2.out.below hbx49)
            replace RAA := mkHid (RAA.out.below hbx49)
            try dsimp only
            refine hK.out _ _ (HS.out _ hd6_49) (fun hSn => ?_)
            clear hK K hSn
            have hSx49 := HS.out _ hd6_49
            (try simp only [List.getElem_toArray, List.getElem_cons_succ, List.getElem_cons_zero, Act.put, List.setIfInBounds_toArray, List.set_cons_zero, List.set_cons_succ])
            clear hbx49
            refine wpAnyH_ready (rs := [10]) (by kernel_rfl) (by simp) ?_
            refine AllReadyH.cons (o := _) rfl (fun K hK => ?_) AllReadyH.nil
            go_simp
            try dsimp only
            have q0 : Row (x49.alloc (.cells #[.slice a1 2 c1, .slice a2 2 c2, .slice a3 3 c3] 23)) (some ⟨x49.heap.size, 0, none⟩) 3 l12 := rowR3 (x := pA) (y := pB) (z := qAA) R1.out R2.out R3.out 23
            have hbx50 := (Below.refl x49.heap.size x49).new (.cells #[.slice a1 2 c1, .slice a2 2 c2, .slice a3 3 c3] 23)
            have q1 : (x49.alloc (.cells #[.slice a1 2 c1, .slice a2 2 c2, .slice a3 3 c3] 23)).cell? ⟨x49.heap.size, 0, none⟩ = some (.slice a1 2 c1) := cell_mk x49 _ _ 0 _ rfl
            have q2 : (x49.alloc (.cells #[.slice a1 2 c1, .slice a2 2 c2, .slice a3 3 c3] 23)).cell? ⟨x49.heap.size, 1, none⟩ = some (.slice a2 2 c2) := cell_mk x49 _ _ 1 _ rfl
            have q3 : (x49.alloc (.cells #[.slice a1 2 c1, .slice a2 2 c2, .slice a3 3 c3] 23)).cell? ⟨x49.heap.size, 2, none⟩ = some (.slice a3 3 c3) := cell_mk x49 _ _ 2 _ rfl
            have hd7_50 := hd6_49.then hbx50
            replace RB := mkHid (RB.out.below hbx50)
            replace RA := mkHid (RA.out.below hbx50)
            replace R1 := mkHid (R1.out.below hbx50)
            replace R2 := mkHid (R2.out.below hbx50)
            replace RAA := mkHid (RAA.out.below hbx50)
            replace R3 := mkHid (R3.out.below hbx50)
            refine hK.out _ _ (HS.out _ hd7_50) (fun hSn => ?_)
            clear hK K hSn
            have hSx50 := HS.out _ hd7_50
            (try simp only [List.getElem_toArray, List.getElem_cons_succ, List.getElem_cons_zero, Act.put, List.setIfInBounds_toArray, List.set_cons_zero, List.set_cons_succ])
            obtain ⟨x50, hV⟩ : ∃ V, x49.alloc (.cells #[.slice a1 2 c1, .slice a2 2 c2, .slice a3 3 c3] 23) = V := ⟨_, rfl⟩
            obtain ⟨Gx50, hG⟩ : ∃ V, x49.heap.size = V := ⟨_, rfl⟩
            rw [hV] at q0 q1 q2 q3 hd7_50 hSx50 RB RA R1 R2 RAA R3 ⊢
            rw [hG] at q0 q1 q2 q3 ⊢
            have RL := mkHid q0
            have C0 := mkHid q1
            have C1 := mkHid q2
            have C2 := mkHid q3
            clear hV hG hbx50 q0 q1 q2 q3
            refine wpAnyH_take (i := 11) (oi := _) (v := ?_) rfl (by kernel_rfl) (by kernel_rfl) (by kernel_rfl) (fun _ _ _ h => h) (Or.inl ⟨by kernel_rfl, ?_⟩) (by assumption) ?_
            rotate_left
            · (intro w' hSw; obtain ⟨s0, s1, s2, s3, s4, s5⟩ := hSw; go_simp; try with_reducible rfl)
            (try simp only [List.getElem_toArray, List.getElem_cons_succ, List.getElem_cons_zero, Act.put, List.setIfInBounds_toArray, List.set_cons_zero, List.set_cons_succ])
            refine wpAnyH_done (by kernel_rfl) (NoPanic.normal ?_) _
            refine ⟨rfl, ?_⟩
            (repeat apply Exists.intro)
            exact ⟨rfl, RL.out, C0.out, C1.out, C2.out, R1.out, R2.out, R3.out, hd7_50⟩
          refine AllReadyH.cons (o := _) rfl (fun K hK => ?_) AllReadyH.nil
          go_simp
          try dsimp only
          have q0 : Row (x46.alloc (.cells #[.int .i64 3, .string ⟨#[97]⟩, .int .i64 0, .int .i64 3, .string ⟨#[97]⟩, .int .i64 0] 42)) (some ⟨x46.heap.size, 0, none⟩) 2 [cA, cA] := rowC2 x46 cA cA cA_fit cA_fit 42
          have hbx51 := (Below.refl x46.heap.size x46).new (.cells #[.int .i64 3, .string ⟨#[97]⟩, .int .i64 0, .int .i64 3, .string ⟨#[97]⟩, .int .i64 0] 42)
          have hd4_51 := hd3_46.then hbx51
          replace RB := mkHid (RB.out.below hbx51)
          replace RA := mkHid (RA.out.below hbx51)
          replace R1 := mkHid (R1.out.below hbx51)
          refine hK.out _ _ (HS.out _ hd4_51) (fun hSn => ?_)
          clear hK K hSn
          have hSx51 := HS.out _ hd4_51
          (try simp only [List.getElem_toArray, List.getElem_cons_succ, List.getElem_cons_zero, Act.put, List.setIfInBounds_toArray, List.set_cons_zero, List.set_cons_succ])
          obtain ⟨x51, hV⟩ : ∃ V, x46.alloc (.cells #[.int .i64 3, .string ⟨#[97]⟩, .int .i64 0, .int .i64 3, .string ⟨#[97]⟩, .int .i64 0] 42) = V := ⟨_, rfl⟩
          obtain ⟨Gx51, hG⟩ : ∃ V, x46.heap.size = V := ⟨_, rfl⟩
          rw [hV] at q0 hd4_51 hSx51 RB RA R1 ⊢
          rw [hG] at q0 ⊢
          have RAA := mkHid q0
          clear hV hG hbx51 q0
          refine wpAnyH_ready (rs := [5]) (by kernel_rfl) (by simp) ?_
          refine AllReadyH.cons (o := _) rfl (fun K hK => ?_) AllReadyH.nil
          go_simp
          refine (p12_is (nm := ⟨#[112]⟩) (cl := ⟨3, ⟨#[112]⟩, 1⟩) (j := 2) (by decide) rfl RB.out (by decide) rfl rfl).mono ?_
          rintro e x52 ⟨a2, c2, rfl, r2, hbx52⟩
          have R2 := mkHid r2
          clear r2
          have hd5_52 := hd4_51.then hbx52
          replace RB := mkHid (RB.out.below hbx52)
          replace RA := mkHid (RA.out.below hbx52)
          replace R1 := mkHid (R1.out.below hbx52)
          replace RAA := mkHid (RAA.out.below hbx52)
          try dsimp only
          refine hK.out _ _ (HS.out _ hd5_52) (fun hSn => ?_)
          clear hK K hSn
          have hSx52 := HS.out _ hd5_52
          (try simp only [List.getElem_toArray, List.getElem_cons_succ, List.getElem_cons_zero, Act.put, List.setIfInBounds_toArray, List.set_cons_zero, List.set_cons_succ])
          clear hbx52
          refine wpAnyH_ready (rs := [9]) (by kernel_rfl) (by simp) ?_
          refine AllReadyH.cons (o := _) rfl (fun K hK => ?_) AllReadyH.nil
          go_simp
          refine (p12_is (nm := ⟨#[113]⟩) (cl := ⟨3, ⟨#[113]⟩, 2⟩) (j := 3) (by decide) rfl RAA.out (by decide) rfl rfl).mono ?_
          rintro e x53 ⟨a3, c3, rfl, r3, hbx53⟩
          have R3 := mkHid r3
          clear r3
          have hd6_53 := hd5_52.then hbx53
          replace RB := mkHid (RB.out.below hbx53)
          replace RA := mkHid (RA.out.below hbx53)
          replace R1 := mkHid (R1.out.below hbx53)
          replace RAA := mkHid (RAA.out.below hbx53)
          replace R2 := mkHid (R2.out.below hbx53)
          try dsimp only
          refine hK.out _ _ (HS.out _ hd6_53) (fun hSn => ?_)
          clear hK K hSn
          have hSx53 := HS.out _ hd6_53
          (try simp only [List.getElem_toArray, List.getElem_cons_succ, List.getElem_cons_zero, Act.put, List.setIfInBounds_toArray, List.set_cons_zero, List.set_cons_succ])
          clear hbx53
          refine wpAnyH_ready (rs := [10]) (by kernel_rfl) (by simp) ?_
          refine AllReadyH.cons (o := _) rfl (fun K hK => ?_) AllReadyH.nil
          go_simp
          try dsimp only
          have q0 : Row (x53.alloc (.cells #[.slice a1 2 c1, .slice a2 2 c2, .slice a3 3 c3] 23)) (some ⟨x53.heap.size, 0, none⟩) 3 l12 := rowR3 (x := pA) (y := pB) (z := qAA) R1.out R2.out R3.out 23
          have hbx54 := (Below.refl x53.heap.size x53).new (.cells #[.slice a1 2 c1, .slice a2 2 c2, .slice a3 3 c3] 23)
          have q1 : (x53.alloc (.cells #[.slice a1 2 c1, .slice a2 2 c2, .slice a3 3 c3] 23)).cell? ⟨x53.heap.size, 0, none⟩ = some (.slice a1 2 c1) := cell_mk x53 _ _ 0 _ rfl
          have q2 : (x53.alloc (.cells #[.slice a1 2 c1, .slice a2 2 c2, .slice a3 3 c3] 23)).cell? ⟨x53.heap.size, 1, none⟩ = some (.slice a2 2 c2) := cell_mk x53 _ _ 1 _ rfl
          have q3 : (x53.alloc (.cells #[.slice a1 2 c1, .slice a2 2 c2, .slice a3 3 c3] 23)).cell? ⟨x53.heap.size, 2, none⟩ = some (.slice a3 3 c3) := cell_mk x53 _ _ 2 _ rfl
          have hd7_54 := hd6_53.then hbx54
          replace RB := mkHid (RB.out.below hbx54)
          replace RA := mkHid (RA.out.below hbx54)
          replace R1 := mkHid (R1.out.below hbx54)
          replace RAA := mkHid (RAA.out.below hbx54)
          replace R2 := mkHid (R2.out.below hbx54)
          replace R3 := mkHid (R3.out.below hbx54)
          refine hK.out _ _ (HS.out _ hd7_54) (fun hSn => ?_)
          clear hK K hSn
          have hSx54 := HS.out _ hd7_54
          (try simp only [List.getElem_toArray, List.getElem_cons_succ, List.getElem_cons_zero, Act.put, List.setIfInBounds_toArray, List.set_cons_zero, List.set_cons_succ])
          obtain ⟨x54, hV⟩ : ∃ V, x53.alloc (.cells #[.slice a1 2 c1, .slice a2 2 c2, .slice a3 3 c3] 23) = V := ⟨_, rfl⟩
          obtain ⟨Gx54, hG⟩ : ∃ V, x53.heap.size = V := ⟨_, rfl⟩
          rw [hV] at q0 q1 q2 q3 hd7_54 hSx54 RB RA R1 RAA R2 R3 ⊢
          rw [hG] at q0 q1 q2 q3 ⊢
          have RL := mkHid q0
          have C0 := mkHid q1
          have C1 := mkHid q2
          have C2 := mkHid q3
          clear hV hG hbx54 q0 q1 q2 q3
          refine wpAnyH_take (i := 11) (oi := _) (v := ?_) rfl (by kernel_rfl) (by kernel_rfl) (by kernel_rfl) (fun _ _ _ h => h) (Or.inl ⟨by kernel_rfl, ?_⟩) (by assumption) ?_
          rotate_left
          · (intro w' hSw; obtain ⟨s0, s1, s2, s3, s4, s5⟩ := hSw; go_simp; try with_reducible rfl)
          (try simp only [List.getElem_toArray, List.getElem_cons_succ, List.getElem_cons_zero, Act.put, List.setIfInBounds_toArray, List.set_cons_zero, List.set_cons_succ])
          refine wpAnyH_done (by kernel_rfl) (NoPanic.normal ?_) _
          refine ⟨rfl, ?_⟩
          (repeat apply Exists.intro)
          exact ⟨rfl, RL.out, C0.out, C1.out, C2.out, R1.out, R2.out, R3.out, hd7_54⟩
        refine AllReadyH.cons (o := _) rfl (fun K hK => ?_) AllReadyH.nil
        go_simp
        try dsimp only
        have q0 : Row (x45.alloc (.cells #[.int .i64 3, .string ⟨#[97]⟩, .int .i64 0, .int .i64 3, .string ⟨#[97]⟩, .int .i64 0] 42)) (some ⟨x45.heap.size, 0, none⟩) 2 [cA, cA] := rowC2 x45 cA cA cA_fit cA_fit 42
        have hbx55 := (Below.refl x45.heap.size x45).new (.cells #[.int .i64 3, .string ⟨#[97]⟩, .int .i64 0, .int .i64 3, .string ⟨#[97]⟩, .int .i64 0] 42)
        have hd3_55 := hd2_45.then hbx55
        replace RB := mkHid (RB.out.below hbx55)
        replace RA := mkHid (RA.out.below hbx55)
        refine hK.out _ _ (HS.out _ hd3_55) (fun hSn => ?_)
        clear hK K hSn
        have hSx55 := HS.out _ hd3_55
        (try simp only [List.getElem_toArray, List.getElem_cons_succ, List.getElem_cons_zero, Act.put, List.setIfInBounds_toArray, List.set_cons_zero, List.set_cons_succ])
        obtain ⟨x55, hV⟩ : ∃ V, x45.alloc (.cells #[.int .i64 3, .string ⟨#[97]⟩, .int .i64 0, .int .i64 3, .string ⟨#[97]⟩, .int .i64 0] 42) = V := ⟨_, rfl⟩
        obtain ⟨Gx55, hG⟩ : ∃ V, x45.heap.size = V := ⟨_, rfl⟩
        rw [hV] at q0 hd3_55 hSx55 RB RA ⊢
        rw [hG] at q0 ⊢
        have RAA := mkHid q0
        clear hV hG hbx55 q0
        refine wpAnyH_ready (rs := [2]) (by kernel_rfl) (by simp) ?_
        refine AllReadyH.cons (o := _) rfl (fun K hK => ?_) AllReadyH.nil
        go_simp
        refine (p12_is (nm := ⟨#[112]⟩) (cl := ⟨3, ⟨#[112]⟩, 1⟩) (j := 2) (by decide) rfl RA.out (by decide) rfl rfl).mono ?_
        rintro e x56 ⟨a1, c1, rfl, r1, hbx56⟩
        have R1 := mkHid r1
        clear r1
        have hd4_56 := hd3_55.then hbx56
        replace RB := mkHid (RB.out.below hbx56)
        replace RA := mkHid (RA.out.below hbx56)
        replace RAA := mkHid (RAA.out.below hbx56)
        try dsimp only
        refine hK.out _ _ (HS.out _ hd4_56) (fun hSn => ?_)
        clear hK K hSn
        have hSx56 := HS.out _ hd4_56
        (try simp only [List.getElem_toArray, List.getElem_cons_succ, List.getElem_cons_zero, Act.put, List.setIfInBounds_toArray, List.set_cons_zero, List.set_cons_succ])
        clear hbx56
        refine wpAnyH_ready (rs := [5]) (by kernel_rfl) (by simp) ?_
        refine AllReadyH.cons (o := _) rfl (fun K hK => ?_) AllReadyH.nil
        go_simp
        refine (p12_is (nm := ⟨#[112]⟩) (cl := ⟨3, ⟨#[112]⟩, 1⟩) (j := 2) (by decide) rfl RB.out (by decide) rfl rfl).mono ?_
        rintro e x57 ⟨a2, c2, rfl, r2, hbx57⟩
        have R2 := mkHid r2
        clear r2
        have hd5_57 := hd4_56.then hbx57
        replace RB := mkHid (RB.out.below hbx57)
        replace RA := mkHid (RA.out.below hbx57)
        replace RAA := mkHid (RAA.out.below hbx57)
        replace R1 := mkHid (R1.out.below hbx57)
        try dsimp only
        refine hK.out _ _ (HS.out _ hd5_57) (fun hSn => ?_)
        clear hK K hSn
        have hSx57 := HS.out _ hd5_57
        (try simp only [List.getElem_toArray, List.getElem_cons_succ, List.getElem_cons_zero, Act.put, List.setIfInBounds_toArray, List.set_cons_zero, List.set_cons_succ])
        clear hbx57
        refine wpAnyH_ready (rs := [9]) (by kernel_rfl) (by simp) ?_
        refine AllReadyH.cons (o := _) rfl (fun K hK => ?_) AllReadyH.nil
        go_simp
        refine (p12_is (nm := ⟨#[113]⟩) (cl := ⟨3, ⟨#[113]⟩, 2⟩) (j := 3) (by decide) rfl RAA.out (by decide) rfl rfl).mono ?_
        rintro e x58 ⟨a3, c3, rfl, r3, hbx58⟩
        have R3 := mkHid r3
        clear r3
        have hd6_58 := hd5_57.then hbx58
        replace RB := mkHid (RB.out.below hbx58)
        replace RA := mkHid (RA.out.below hbx58)
        replace RAA := mkHid (RAA.out.below hbx58)
        replace R1 := mkHid (R1.out.below hbx58)
        replace R2 := mkHid (R2.out.below hbx58)
        try dsimp only
        refine hK.out _ _ (HS.out _ hd6_58) (fun hSn => ?_)
        clear hK K hSn
        have hSx58 := HS.out _ hd6_58
        (try simp only [List.getElem_toArray, List.getElem_cons_succ, List.getElem_cons_zero, Act.put, List.setIfInBounds_toArray, List.set_cons_zero, List.set_cons_succ])
        clear hbx58
        refine wpAnyH_ready (rs := [10]) (by kernel_rfl) (by simp) ?_
        refine AllReadyH.cons (o := _) rfl (fun K hK => ?_) AllReadyH.nil
        go_simp
        try dsimp only
        have q0 : Row (x58.alloc (.cells #[.slice a1 2 c1, .slice a2 2 c2, .slice a3 3 c3] 23)) (some ⟨x58.heap.size, 0, none⟩) 3 l12 := rowR3 (x := pA) (y := pB) (z := qAA) R1.out R2.out R3.out 23
        have hbx59 := (Below.refl x58.heap.size x58).new (.cells #[.slice a1 2 c1, .slice a2 2 c2, .slice a3 3 c3] 23)
        have q1 : (x58.alloc (.cells #[.slice a1 2 c1, .slice a2 2 c2, .slice a3 3 c3] 23)).cell? ⟨x58.heap.size, 0, none⟩ = some (.slice a1 2 c1) := cell_mk x58 _ _ 0 _ rfl
        have q2 : (x58.alloc (.cells #[.slice a1 2 c1, .slice a2 2 c2, .slice a3 3 c3] 23)).cell? ⟨x58.heap.size, 1, none⟩ = some (.slice a2 2 c2) := cell_mk x58 _ _ 1 _ rfl
        have q3 : (x58.alloc (.cells #[.slice a1 2 c1, .slice a2 2 c2, .slice a3 3 c3] 23)).cell? ⟨x58.heap.size, 2, none⟩ = some (.slice a3 3 c3) := cell_mk x58 _ _ 2 _ rfl
        have hd7_59 := hd6_58.then hbx59
        replace RB := mkHid (RB.out.below hbx59)
        replace RA := mkHid (RA.out.below hbx59)
        replace RAA := mkHid (RAA.out.below hbx59)
        replace R1 := mkHid (R1.out.below hbx59)
        replace R2 := mkHid (R2.out.below hbx59)
        replace R3 := mkHid (R3.out.below hbx59)
        refine hK.out _ _ (HS.out _ hd7_59) (fun hSn => ?_)
        clear hK K hSn
        have hSx59 := HS.out _ hd7_59
        (try simp only [List.getElem_toArray, List.getElem_cons_succ, List.getElem_cons_zero, Act.put, List.setIfInBounds_toArray, List.set_cons_zero, List.set_cons_succ])
        obtain ⟨x59, hV⟩ : ∃ V, x58.alloc (.cells #[.slice a1 2 c1, .slice a2 2 c2, .slice a3 3 c3] 23) = V := ⟨_, rfl⟩
        obtain ⟨Gx59, hG⟩ : ∃ V, x58.heap.size = V := ⟨_, rfl⟩
        rw [hV] at q0 q1 q2 q3 hd7_59 hSx59 RB RA RAA R1 R2 R3 ⊢
        rw [hG] at q0 q1 q2 q3 ⊢
        have RL := mkHid q0
        have C0 := mkHid q1
        have C1 := mkHid q2
        have C2 := mkHid q3
        clear hV hG hbx59 q0 q1 q2 q3
        refine wpAnyH_take (i := 11) (oi := _) (v := ?_) rfl (by kernel_rfl) (by kernel_rfl) (by kernel_rfl) (fun _ _ _ h => h) (Or.inl ⟨by kernel_rfl, ?_⟩) (by assumption) ?_
        rotate_left
        · (intro w' hSw; obtain ⟨s0, s1, s2, s3, s4, s5⟩ := hSw; go_simp; try with_reducible rfl)
        (try simp only [List.getElem_toArray, List.getElem_cons_succ, List.getElem_cons_zero, Act.put, List.setIfInBounds_toArray, List.set_cons_zero, List.set_cons_succ])
        refine wpAnyH_done (by kernel_rfl) (NoPanic.normal ?_) _
        refine ⟨rfl, ?_⟩
        (repeat apply Exists.intro)
        exact ⟨rfl, RL.out, C0.out, C1.out, C2.out, R1.out, R2.out, R3.out, hd7_59⟩
      refine AllReadyH.cons (o := _) rfl (fun K hK => ?_) AllReadyH.nil
      go_simp
      try dsimp only
      have q0 : Row (x44.alloc (.cells #[.int .i64 3, .string ⟨#[97]⟩, .int .i64 0, .int .i64 3, .string ⟨#[97]⟩, .int .i64 0] 42)) (some ⟨x44.heap.size, 0, none⟩) 2 [cA, cA] := rowC2 x44 cA cA cA_fit cA_fit 42
      have hbx60 := (Below.refl x44.heap.size x44).new (.cells #[.int .i64 3, .string ⟨#[97]⟩, .int .i64 0, .int .i64 3, .string ⟨#[97]⟩, .int .i64 0] 42)
      have hd2_60 := hd1_44.then hbx60
      replace RB := mkHid (RB.out.below hbx60)
      refine hK.out _ _ (HS.out _ hd2_60) (fun hSn => ?_)
      clear hK K hSn
      have hSx60 := HS.out _ hd2_60
      (try simp only [List.getElem_toArray, List.getElem_cons_succ, List.getElem_cons_zero, Act.put, List.setIfInBounds_toArray, List.set_cons_zero, List.set_cons_succ])
      obtain ⟨x60, hV⟩ : ∃ V, x44.alloc (.cells #[.int .i64 3, .string ⟨#[97]⟩, .int .i64 0, .int .i64 3, .string ⟨#[97]⟩, .int .i64 0] 42) = V := ⟨_, rfl⟩
      obtain ⟨Gx60, hG⟩ : ∃ V, x44.heap.size = V := ⟨_, rfl⟩
      rw [hV] at q0 hd2_60 hSx60 RB ⊢
      rw [hG] at q0 ⊢
      have RAA := mkHid q0
      clear hV hG hbx60 q0
      refine wpAnyH_ready (rs := [1]) (by kernel_rfl) (by simp) ?_
      refine AllReadyH.cons (o := _) rfl (fun K hK => ?_) AllReadyH.nil
      go_simp
      try dsimp only
      have q0 : Row (x60.alloc (.cells #[.int .i64 3, .string ⟨#[97]⟩, .int .i64 0] 42)) (some ⟨x60.heap.size, 0, none⟩) 1 [cA] := rowC1 x60 cA cA_fit 42
      have hbx61 := (Below.refl x60.heap.size x60).new (.cells #[.int .i64 3, .string ⟨#[97]⟩, .int .i64 0] 42)
      have hd3_61 := hd2_60.then hbx61
      replace RB := mkHid (RB.out.below hbx61)
      replace RAA := mkHid (RAA.out.below hbx61)
      refine hK.out _ _ (HS.out _ hd3_61) (fun hSn => ?_)
      clear hK K hSn
      have hSx61 := HS.out _ hd3_61
      (try simp only [List.getElem_toArray, List.getElem_cons_succ, List.getElem_cons_zero, Act.put, List.setIfInBounds_toArray, List.set_cons_zero, List.set_cons_succ])
      obtain ⟨x61, hV⟩ : ∃ V, x60.alloc (.cells #[.int .i64 3, .string ⟨#[97]⟩, .int .i64 0] 42) = V := ⟨_, rfl⟩
      obtain ⟨Gx61, hG⟩ : ∃ V, x60.heap.size = V := ⟨_, rfl⟩
      rw [hV] at q0 hd3_61 hSx61 RB RAA ⊢
      rw [hG] at q0 ⊢
      have RA := mkHid q0
      clear hV hG hbx61 q0
      refine wpAnyH_ready (rs := [2]) (by kernel_rfl) (by simp) ?_
      refine AllReadyH.cons (o := _) rfl (fun K hK => ?_) AllReadyH.nil
      go_simp
      refine (p12_is (nm := ⟨#[112]⟩) (cl := ⟨3, ⟨#[112]⟩, 1⟩) (j := 2) (by decide) rfl RA.out (by decide) rfl rfl).mono ?_
      rintro e x62 ⟨a1, c1, rfl, r1, hbx62⟩
      have R1 := mkHid r1
      clear r1
      have hd4_62 := hd3_61.then hbx62
      replace RB := mkHid (RB.out.below hbx62)
      replace RAA := mkHid (RAA.out.below hbx62)
      replace RA := mkHid (RA.out.below hbx62)
      try dsimp only
      refine hK.out _ _ (HS.out _ hd4_62) (fun hSn => ?_)
      clear hK K hSn
      have hSx62 := HS.out _ hd4_62
      (try simp only [List.getElem_toArray, List.getElem_cons_succ, List.getElem_cons_zero, Act.put, List.setIfInBounds_toArray, List.set_cons_zero, List.set_cons_succ])
      clear hbx62
      refine wpAnyH_ready (rs := [5]) (by kernel_rfl) (by simp) ?_
      refine AllReadyH.cons (o := _) rfl (fun K hK => ?_) AllReadyH.nil
      go_simp
      refine (p12_is (nm := ⟨#[112]⟩) (cl := ⟨3, ⟨#[112]⟩, 1⟩) (j := 2) (by decide) rfl RB.out (by decide) rfl rfl).mono ?_
      rintro e x63 ⟨a2, c2, rfl, r2, hbx63⟩
      have R2 := mkHid r2
      clear r2
      have hd5_63 := hd4_62.then hbx63
      replace RB := mkHid (RB.out.below hbx63)
      replace RAA := mkHid (RAA.out.below hbx63)
      replace RA := mkHid (RA.out.below hbx63)
      replace R1 := mkHid (R1.out.below hbx63)
      try dsimp only
      refine hK.out _ _ (HS.out _ hd5_63) (fun hSn => ?_)
      clear hK K hSn
      have hSx63 := HS.out _ hd5_63
      (try simp only [List.getElem_toArray, List.getElem_cons_succ, List.getElem_cons_zero, Act.put, List.setIfInBounds_toArray, List.set_cons_zero, List.set_cons_succ])
      clear hbx63
      refine wpAnyH_ready (rs := [9]) (by kernel_rfl) (by simp) ?_
      refine AllReadyH.cons (o := _) rfl (fun K hK => ?_) AllReadyH.nil
      go_simp
      refine (p12_is (nm := ⟨#[113]⟩) (cl := ⟨3, ⟨#[113]⟩, 2⟩) (j := 3) (by decide) rfl RAA.out (by decide) rfl rfl).mono ?_
      rintro e x64 ⟨a3, c3, rfl, r3, hbx64⟩
      have R3 := mkHid r3
      clear r3
      have hd6_64 := hd5_63.then hbx64
      replace RB := mkHid (RB.out.below hbx64)
      replace RAA := mkHid (RAA.out.below hbx64)
      replace RA := mkHid (RA.out.below hbx64)
      replace R1 := mkHid (R1.out.below hbx64)
      replace R2 := mkHid (R2.out.below hbx64)
      try dsimp only
      refine hK.out _ _ (HS.out _ hd6_64) (fun hSn => ?_)
      clear hK K hSn
      have hSx64 := HS.out _ hd6_64
      (try simp only [List.getElem_toArray, List.getElem_cons_succ, List.getElem_cons_zero, Act.put, List.setIfInBounds_toArray, List.set_cons_zero, List.set_cons_succ])
      clear hbx64
      refine wpAnyH_ready (rs := [10]) (by kernel_rfl) (by simp) ?_
      refine AllReadyH.cons (o := _) rfl (fun K hK => ?_) AllReadyH.nil
      go_simp
      try dsimp only
      have q0 : Row (x64.alloc (.cells #[.slice a1 2 c1, .slice a2 2 c2, .slice a3 3 c3] 23)) (some ⟨x64.heap.size, 0, none⟩) 3 l12 := rowR3 (x := pA) (y := pB) (z := qAA) R1.out R2.out R3.out 23
      have hbx65 := (Below.refl x64.heap.size x64).new (.cells #[.slice a1 2 c1, .slice a2 2 c2, .slice a3 3 c3] 23)
      have q1 : (x64.alloc (.cells #[.slice a1 2 c1, .slice a2 2 c2, .slice a3 3 c3] 23)).cell? ⟨x64.heap.size, 0, none⟩ = some (.slice a1 2 c1) := cell_mk x64 _ _ 0 _ rfl
      have q2 : (x64.alloc (.cells #[.slice a1 2 c1, .slice a2 2 c2, .slice a3 3 c3] 23)).cell? ⟨x64.heap.size, 1, none⟩ = some (.slice a2 2 c2) := cell_mk x64 _ _ 1 _ rfl
      have q3 : (x64.alloc (.cells #[.slice a1 2 c1, .slice a2 2 c2, .slice a3 3 c3] 23)).cell? ⟨x64.heap.size, 2, none⟩ = some (.slice a3 3 c3) := cell_mk x64 _ _ 2 _ rfl
      have hd7_65 := hd6_64.then hbx65
      replace RB := mkHid (RB.out.below hbx65)
      replace RAA := mkHid (RAA.out.below hbx65)
      replace RA := mkHid (RA.out.below hbx65)
      replace R1 := mkHid (R1.out.below hbx65)
      replace R2 := mkHid (R2.out.below hbx65)
      replace R3 := mkHid (R3.out.below hbx65)
      refine hK.out _ _ (HS.out _ hd7_65) (fun hSn => ?_)
      clear hK K hSn
      have hSx65 := HS.out _ hd7_65
      (try simp only [List.getElem_toArray, List.getElem_cons_succ, List.getElem_cons_zero, Act.put, List.setIfInBounds_toArray, List.set_cons_zero, List.set_cons_succ])
      obtain ⟨x65, hV⟩ : ∃ V, x64.alloc (.cells #[.slice a1 2 c1, .slice a2 2 c2, .slice a3 3 c3] 23) = V := ⟨_, rfl⟩
      obtain ⟨Gx65, hG⟩ : ∃ V, x64.heap.size = V := ⟨_, rfl⟩
      rw [hV] at q0 q1 q2 q3 hd7_65 hSx65 RB RAA RA R1 R2 R3 ⊢
      rw [hG] at q0 q1 q2 q3 ⊢
      have RL := mkHid q0
      have C0 := mkHid q1
      have C1 := mkHid q2
      have C2 := mkHid q3
      clear hV hG hbx65 q0 q1 q2 q3
      refine wpAnyH_take (i := 11) (oi := _) (v := ?_) rfl (by kernel_rfl) (by kernel_rfl) (by kernel_rfl) (fun _ _ _ h => h) (Or.inl ⟨by kernel_rfl, ?_⟩) (by assumption) ?_
      rotate_left
      · (intro w' hSw; obtain ⟨s0, s1, s2, s3, s4, s5⟩ := hSw; go_simp; try with_reducible rfl)
      (try simp only [List.getElem_toArray, List.getElem_cons_succ, List.getElem_cons_zero, Act.put, List.setIfInBounds_toArray, List.set_cons_zero, List.set_cons_succ])
      refine wpAnyH_done (by kernel_rfl) (NoPanic.normal ?_) _
      refine ⟨rfl, ?_⟩
      (repeat apply Exists.intro)
      exact ⟨rfl, RL.out, C0.out, C1.out, C2.out, R1.out, R2.out, R3.out, hd7_65⟩
    refine AllReadyH.cons (o := _) rfl (fun K hK => ?_) AllReadyH.nil
    go_simp
    try dsimp only
    have q0 : Row (x1.alloc (.cells #[.int .i64 3, .string ⟨#[97]⟩, .int .i64 0, .int .i64 3, .string ⟨#[97]⟩, .int .i64 0] 42)) (some ⟨x1.heap.size, 0, none⟩) 2 [cA, cA] := rowC2 x1 cA cA cA_fit cA_fit 42
    have hbx66 := (Below.refl x1.heap.size x1).new (.cells #[.int .i64 3, .string ⟨#[97]⟩, .int .i64 0, .int .i64 3, .string ⟨#[97]⟩, .int .i64 0] 42)
    have hd1_66 := hd0.then hbx66
    refine hK.out _ _ (HS.out _ hd1_66) (fun hSn => ?_)
    clear hK K hSn
    have hSx66 := HS.out _ hd1_66
    (try simp only [List.getElem_toArray, List.getElem_cons_succ, List.getElem_cons_zero, Act.put, List.setIfInBounds_toArray, List.set_cons_zero, List.set_cons_succ])
    obtain ⟨x66, hV⟩ : ∃ V, x1.alloc (.cells #[.int .i64 3, .string ⟨#[97]⟩, .int .i64 0, .int .i64 3, .string ⟨#[97]⟩, .int .i64 0] 42) = V := ⟨_, rfl⟩
    obtain ⟨Gx66, hG⟩ : ∃ V, x1.heap.size = V := ⟨_, rfl⟩
    rw [hV] at q0 hd1_66 hSx66 ⊢
    rw [hG] at q0 ⊢
    have RAA := mkHid q0
    clear hV hG hbx66 q0
    refine wpAnyH_ready (rs := [1, 4]) (by kernel_rfl) (by simp) ?_
    refine AllReadyH.cons (o := _) rfl (fun K hK => ?_) ?_
    · skip
      go_simp
      try dsimp only
      have q0 : Row (x66.alloc (.cells #[.int .i64 3, .string ⟨#[97]⟩, .int .i64 0] 42)) (some ⟨x66.heap.size, 0, none⟩) 1 [cA] := rowC1 x66 cA cA_fit 42
      have hbx67 := (Below.refl x66.heap.size x66).new (.cells #[.int .i64 3, .string ⟨#[97]⟩, .int .i64 0] 42)
      have hd2_67 := hd1_66.then hbx67
      replace RAA := mkHid (RAA.out.below hbx67)
      refine hK.out _ _ (HS.out _ hd2_67) (fun hSn => ?_)
      clear hK K hSn
      have hSx67 := HS.out _ hd2_67
      (try simp only [List.getElem_toArray, List.getElem_cons_succ, List.getElem_cons_zero, Act.put, List.setIfInBounds_toArray, List.set_cons_zero, List.set_cons_succ])
      obtain ⟨x67, hV⟩ : ∃ V, x66.alloc (.cells #[.int .i64 3, .string ⟨#[97]⟩, .int .i64 0] 42) = V := ⟨_, rfl⟩
      obtain ⟨Gx67, hG⟩ : ∃ V, x66.heap.size = V := ⟨_, rfl⟩
      rw [hV] at q0 hd2_67 hSx67 RAA ⊢
      rw [hG] at q0 ⊢
      have RA := mkHid q0
      clear hV hG hbx67 q0
      refine wpAnyH_ready (rs := [2, 4]) (by kernel_rfl) (by simp) ?_
      refine AllReadyH.cons (o := _) rfl (fun K hK => ?_) ?_
      · skip
        go_simp
        refine (p12_is (nm := ⟨#[112]⟩) (cl := ⟨3, ⟨#[112]⟩, 1⟩) (j := 2) (by decide) rfl RA.out (by decide) rfl rfl).mono ?_
        rintro e x68 ⟨a1, c1, rfl, r1, hbx68⟩
        have R1 := mkHid r1
        clear r1
        have hd3_68 := hd2_67.then hbx68
        replace RAA := mkHid (RAA.out.below hbx68)
        replace RA := mkHid (RA.out.below hbx68)
        try dsimp only
        refine hK.out _ _ (HS.out _ hd3_68) (fun hSn => ?_)
        clear hK K hSn
        have hSx68 := HS.out _ hd3_68
        (try simp only [List.getElem_toArray, List.getElem_cons_succ, List.getElem_cons_zero, Act.put, List.setIfInBounds_toArray, List.set_cons_zero, List.set_cons_succ])
        clear hbx68
        refine wpAnyH_ready (rs := [4]) (by kernel_rfl) (by simp) ?_
        refine AllReadyH.cons (o := _) rfl (fun K hK => ?_) AllReadyH.nil
        go_simp
        try dsimp only
        have q0 : Row (x68.alloc (.cells #[.int .i64 3, .string ⟨#[98]⟩, .int .i64 0] 42)) (some ⟨x68.heap.size, 0, none⟩) 1 [cB] := rowC1 x68 cB cB_fit 42
        have hbx69 := (Below.refl x68.heap.size x68).new (.cells #[.int .i64 3, .string ⟨#[98]⟩, .int .i64 0] 42)
        have hd4_69 := hd3_68.then hbx69
        replace RAA := mkHid (RAA.out.below hbx69)
        replace RA := mkHid (RA.out.below hbx69)
        replace R1 := mkHid (R1.out.below hbx69)
        refine hK.out _ _ (HS.out _ hd4_69) (fun hSn => ?_)
        clear hK K hSn
        have hSx69 := HS.out _ hd4_69
        (try simp only [List.getElem_toArray, List.getElem_cons_succ, List.getElem_cons_zero, Act.put, List.setIfInBounds_toArray, List.set_cons_zero, List.set_cons_succ])
        obtain ⟨x69, hV⟩ : ∃ V, x68.alloc (.cells #[.int .i64 3, .string ⟨#[98]⟩, .int .i64 0] 42) = V := ⟨_, rfl⟩
        obtain ⟨Gx69, hG⟩ : ∃ V, x68.heap.size = V := ⟨_, rfl⟩
        rw [hV] at q0 hd4_69 hSx69 RAA RA R1 ⊢
        rw [hG] at q0 ⊢
        have RB := mkHid q0
        clear hV hG hbx69 q0
        refine wpAnyH_ready (rs := [5]) (by kernel_rfl) (by simp) ?_
        refine AllReadyH.cons (o := _) rfl (fun K hK => ?_) AllReadyH.nil
        go_simp
        refine (p12_is (nm := ⟨#[112]⟩) (cl := ⟨3, ⟨#[112]⟩, 1⟩) (j := 2) (by decide) rfl RB.out (by decide) rfl rfl).mono ?_
        rintro e x70 ⟨a2, c2, rfl, r2, hbx70⟩
        have R2 := mkHid r2
        clear r2
        have hd5_70 := hd4_69.then hbx70
        replace RAA := mkHid (RAA.out.below hbx70)
        replace RA := mkHid (RA.out.below hbx70)
        replace R1 := mkHid (R1.out.below hbx70)
        replace RB := mkHid (RB.out.below hbx70)
        try dsimp only
        refine hK.out _ _ (HS.out _ hd5_70) (fun hSn => ?_)
        clear hK K hSn
        have hSx70 := HS.out _ hd5_70
        (try simp only [List.getElem_toArray, List.getElem_cons_succ, List.getElem_cons_zero, Act.put, List.setIfInBounds_toArray, List.set_cons_zero, List.set_cons_succ])
        clear hbx70
        refine wpAnyH_ready (rs := [9]) (by kernel_rfl) (by simp) ?_
        refine AllReadyH.cons (o := _) rfl (fun K hK => ?_) AllReadyH.nil
        go_simp
        refine (p12_is (nm := ⟨#[113]⟩) (cl := ⟨3, ⟨#[113]⟩, 2⟩) (j := 3) (by decide) rfl RAA.out (by decide) rfl rfl).mono ?_
        rintro e x71 ⟨a3, c3, rfl, r3, hbx71⟩
        have R3 := mkHid r3
        clear r3
        have hd6_71 := hd5_70.then hbx71
        replace RAA := mkHid (RAA.out.below hbx71)
        replace RA := mkHid (RA.out.below hbx71)
        replace R1 := mkHid (R1.out.below hbx71)
        replace RB := mkHid (RB.out.below hbx71)
        replace R2 := mkHid (R2.out.below hbx71)
        try dsimp only
        refine hK.out _ _ (HS.out _ hd6_71) (fun hSn => ?_)
        clear hK K hSn
        have hSx71 := HS.out _ hd6_71
        (try simp only [List.getElem_toArray, List.getElem_cons_succ, List.getElem_cons_zero, Act.put, List.setIfInBounds_toArray, List.set_cons_zero, List.set_cons_succ])
        clear hbx71
        refine wpAnyH_ready (rs := [10]) (by kernel_rfl) (by simp) ?_
        refine AllReadyH.cons (o := _) rfl (fun K hK => ?_) AllReadyH.nil
        go_simp
        try dsimp only
        have q0 : Row (x71.alloc (.cells #[.slice a1 2 c1, .slice a2 2 c2, .slice a3 3 c3] 23)) (some ⟨x71.heap.size, 0, none⟩) 3 l12 := rowR3 (x := pA) (y := pB) (z := qAA) R1.out R2.out R3.out 23
        have hbx72 := (Below.refl x71.heap.size x71).new (.cells #[.slice a1 2 c1, .slice a2 2 c2, .slice a3 3 c3] 23)
        have q1 : (x71.alloc (.cells #[.slice a1 2 c1, .slice a2 2 c2, .slice a3 3 c3] 23)).cell? ⟨x71.heap.size, 0, none⟩ = some (.slice a1 2 c1) := cell_mk x71 _ _ 0 _ rfl
        have q2 : (x71.alloc (.cells #[.slice a1 2 c1, .slice a2 2 c2, .slice a3 3 c3] 23)).cell? ⟨x71.heap.size, 1, none⟩ = some (.slice a2 2 c2) := cell_mk x71 _ _ 1 _ rfl
        have q3 : (x71.alloc (.cells #[.slice a1 2 c1, .slice a2 2 c2, .slice a3 3 c3] 23)).cell? ⟨x71.heap.size, 2, none⟩ = some (.slice a3 3 c3) := cell_mk x71 _ _ 2 _ rfl
        have hd7_72 := hd6_71.then hbx72
        replace RAA := mkHid (RAA.out.below hbx72)
        replace RA := mkHid (RA.out.below hbx72)
        replace R1 := mkHid (R1.out.below hbx72)
        replace RB := mkHid (RB.out.below hbx72)
        replace R2 := mkHid (R2.out.below hbx72)
        replace R3 := mkHid (R3.out.below hbx72)
        refine hK.out _ _ (HS.out _ hd7_72) (fun hSn => ?_)
        clear hK K hSn
        have hSx72 := HS.out _ hd7_72
        (try simp only [List.getElem_toArray, List.getElem_cons_succ, List.getElem_cons_zero, Act.put, List.setIfInBounds_toArray, List.set_cons_zero, List.set_cons_succ])
        obtain ⟨x72, hV⟩ : ∃ V, x71.alloc (.cells #[.slice a1 2 c1, .slice a2 2 c2, .slice a3 3 c3] 23) = V := ⟨_, rfl⟩
        obtain ⟨Gx72, hG⟩ : ∃ V, x71.heap.size = V := ⟨_, rfl⟩
        rw [hV] at q0 q1 q2 q3 hd7_72 hSx72 RAA RA R1 RB R2 R3 ⊢
        rw [hG] at q0 q1 q2 q3 ⊢
        have RL := mkHid q0
        have C0 := mkHid q1
        have C1 := mkHid q2
        have C2 := mkHid q3
        clear hV hG hbx72 q0 q1 q2 q3
        refine wpAnyH_take (i := 11) (oi := _) (v := ?_) rfl (by kernel_rfl) (by kernel_rfl) (by kernel_rfl) (fun _ _ _ h => h) (Or.inl ⟨by kernel_rfl, ?_⟩) (by assumption) ?_
        rotate_left
        · (intro w' hSw; obtain ⟨s0, s1, s2, s3, s4, s5⟩ := hSw; go_simp; try with_reducible rfl)
        (try simp only [List.getElem_toArray, List.getElem_cons_succ, List.getElem_cons_zero, Act.put, List.setIfInBounds_toArray, List.set_cons_zero, List.set_cons_succ])
        refine wpAnyH_done (by kernel_rfl) (NoPanic.normal ?_) _
        refine ⟨rfl, ?_⟩
        (repeat apply Exists.intro)
        exact ⟨rfl, RL.out, C0.out, C1.out, C2.out, R1.out, R2.out, R3.out, hd7_72⟩
      refine AllReadyH.cons (o := _) rfl (fun K hK => ?_) AllReadyH.nil
      go_simp
      try dsimp only
      have q0 : Row (x67.alloc (.cells #[.int .i64 3, .string ⟨#[98]⟩, .int .i64 0] 42)) (some ⟨x67.heap.size, 0, none⟩) 1 [cB] := rowC1 x67 cB cB_fit 42
      have hbx73 := (Below.refl x67.heap.size x67).new (.cells #[.int .i64 3, .string ⟨#[98]⟩, .int .i64 0] 42)
      have hd3_73 := hd2_67.then hbx73
      replace RAA := mkHid (RAA.out.below hbx73)
      replace RA := mkHid (RA.out.below hbx73)
      refine hK.out _ _ (HS.out _ hd3_73) (fun hSn => ?_)
      clear hK K hSn
      have hSx73 := HS.out _ hd3_73
      (try simp only [List.getElem_toArray, List.getElem_cons_succ, List.getElem_cons_zero, Act.put, List.setIfInBounds_toArray, List.set_cons_zero, List.set_cons_succ])
      obtain ⟨x73, hV⟩ : ∃ V, x67.alloc (.cells #[.int .i64 3, .string ⟨#[98]⟩, .int .i64 0] 42) = V := ⟨_, rfl⟩
      obtain ⟨Gx73, hG⟩ : ∃ V, x67.heap.size = V := ⟨_, rfl⟩
      rw [hV] at q0 hd3_73 hSx73 RAA RA ⊢
      rw [hG] at q0 ⊢
      have RB := mkHid q0
      clear hV hG hbx73 q0
      refine wpAnyH_ready (rs := [2]) (by kernel_rfl) (by simp) ?_
      refine AllReadyH.cons (o := _) rfl (fun K hK => ?_) AllReadyH.nil
      go_simp
      refine (p12_is (nm := ⟨#[112]⟩) (cl := ⟨3, ⟨#[112]⟩, 1⟩) (j := 2) (by decide) rfl RA.out (by decide) rfl rfl).mono ?_
      rintro e x74 ⟨a1, c1, rfl, r1, hbx74⟩
      have R1 := mkHid r1
      clear r1
      have hd4_74 := hd3_73.then hbx74
      replace RAA := mkHid (RAA.out.below hbx74)
      replace RA := mkHid (RA.out.below hbx74)
      replace RB := mkHid (RB.out.below hbx74)
      try dsimp only
      refine hK.out _ _ (HS.out _ hd4_74) (fun hSn => ?_)
      clear hK K hSn
      have hSx74 := HS.out _ hd4_74
      (try simp only [List.getElem_toArray, List.getElem_cons_succ, List.getElem_cons_zero, Act.put, List.setIfInBounds_toArray, List.set_cons_zero, List.set_cons_succ])
      clear hbx74
      refine wpAnyH_ready (rs := [5]) (by kernel_rfl) (by simp) ?_
      refine AllReadyH.cons (o := _) rfl (fun K hK => ?_) AllReadyH.nil
      go_simp
      refine (p12_is (nm := ⟨#[112]⟩) (cl := ⟨3, ⟨#[112]⟩, 1⟩) (j := 2) (by decide) rfl RB.out (by decide) rfl rfl).mono ?_
      rintro e x75 ⟨a2, c2, rfl, r2, hbx75⟩
      have R2 := mkHid r2
      clear r2
      have hd5_75 := hd4_74.then hbx75
      replace RAA := mkHid (RAA.out.below hbx75)
      replace RA := mkHid (RA.out.below hbx75)
      replace RB := mkHid (RB.out.below hbx75)
      replace R1 := mkHid (R1.out.below hbx75)
      try dsimp only
      refine hK.out _ _ (HS.out _ hd5_75) (fun hSn => ?_)
      clear hK K hSn
      have hSx75 := HS.out _ hd5_75
      (try simp only [List.getElem_toArray, List.getElem_cons_succ, List.getElem_cons_zero, Act.put, List.setIfInBounds_toArray, List.set_cons_zero, List.set_cons_succ])
      clear hbx75
      refine wpAnyH_ready (rs := [9]) (by kernel_rfl) (by simp) ?_
      refine AllReadyH.cons (o := _) rfl (fun K hK => ?_) AllReadyH.nil
      go_simp
      refine (p12_is (nm := ⟨#[113]⟩) (cl := ⟨3, ⟨#[113]⟩, 2⟩) (j := 3) (by decide) rfl RAA.out (by decide) rfl rfl).mono ?_
      rintro e x76 ⟨a3, c3, rfl, r3, hbx76⟩
      have R3 := mkHid r3
      clear r3
      have hd6_76 := hd5_75.then hbx76
      replace RAA := mkHid (RAA.out.below hbx76)
      replace RA := mkHid (RA.out.below hbx76)
      replace RB := mkHid (RB.out.below hbx76)
      replace R1 := mkHid (R1.out.below hbx76)
      replace R2 := mkHid (R2.out.below hbx76)
      try dsimp only
      refine hK.out _ _ (HS.out _ hd6_76) (fun hSn => ?_)
      clear hK K hSn
      have hSx76 := HS.out _ hd6_76
      (try simp only [List.getElem_toArray, List.getElem_cons_succ, List.getElem_cons_zero, Act.put, List.setIfInBounds_toArray, List.set_cons_zero, List.set_cons_succ])
      clear hbx76
      refine wpAnyH_ready (rs := [10]) (by kernel_rfl) (by simp) ?_
      refine AllReadyH.cons (o := _) rfl (fun K hK => ?_) AllReadyH.nil
      go_simp
      try dsimp only
      have q0 : Row (x76.alloc (.cells #[.slice a1 2 c1, .slice a2 2 c2, .slice a3 3 c3] 23)) (some ⟨x76.heap.size, 0, none⟩) 3 l12 := rowR3 (x := pA) (y := pB) (z := qAA) R1.out R2.out R3.out 23
      have hbx77 := (Below.refl x76.heap.size x76).new (.cells #[.slice a1 2 c1, .slice a2 2 c2, .slice a3 3 c3] 23)
      have q1 : (x76.alloc (.cells #[.slice a1 2 c1, .slice a2 2 c2, .slice a3 3 c3] 23)).cell? ⟨x76.heap.size, 0, none⟩ = some (.slice a1 2 c1) := cell_mk x76 _ _ 0 _ rfl
      have q2 : (x76.alloc (.cells #[.slice a1 2 c1, .slice a2 2 c2, .slice a3 3 c3] 23)).cell? ⟨x76.heap.size, 1, none⟩ = some (.slice a2 2 c2) := cell_mk x76 _ _ 1 _ rfl
      have q3 : (x76.alloc (.cells #[.slice a1 2 c1, .slice a2 2 c2, .slice a3 3 c3] 23)).cell? ⟨x76.heap.size, 2, none⟩ = some (.slice a3 3 c3) := cell_mk x76 _ _ 2 _ rfl
      have hd7_77 := hd6_76.then hbx77
      replace RAA := mkHid (RAA.out.below hbx77)
      replace RA := mkHid (RA.out.below hbx77)
      replace RB := mkHid (RB.out.below hbx77)
      replace R1 := mkHid (R1.out.below hbx77)
      replace R2 := mkHid (R2.out.below hbx77)
      replace R3 := mkHid (R3.out.below hbx77)
      refine hK.out _ _ (HS.out _ hd7_77) (fun hSn => ?_)
      clear hK K hSn
      have hSx77 := HS.out _ hd7_77
      (try simp only [List.getElem_toArray, List.getElem_cons_succ, List.getElem_cons_zero, Act.put, List.setIfInBounds_toArray, List.set_cons_zero, List.set_cons_succ])
      obtain ⟨x77, hV⟩ : ∃ V, x76.alloc (.cells #[.slice a1 2 c1, .slice a2 2 c2, .slice a3 3 c3] 23) = V := ⟨_, rfl⟩
      obtain ⟨Gx77, hG⟩ : ∃ V, x76.heap.size = V := ⟨_, rfl⟩
      rw [hV] at q0 q1 q2 q3 hd7_77 hSx77 RAA RA RB R1 R2 R3 ⊢
      rw [hG] at q0 q1 q2 q3 ⊢
      have RL := mkHid q0
      have C0 := mkHid q1
      have C1 := mkHid q2
      have C2 := mkHid q3
      clear hV hG hbx77 q0 q1 q2 q3
      refine wpAnyH_take (i := 11) (oi := _) (v := ?_) rfl (by kernel_rfl) (by kernel_rfl) (by kernel_rfl) (fun _ _ _ h => h) (Or.inl ⟨by kernel_rfl, ?_⟩) (by assumption) ?_
      rotate_left
      · (intro w' hSw; obtain ⟨s0, s1, s2, s3, s4, s5⟩ := hSw; go_simp; try with_reducible rfl)
      (try simp only [List.getElem_toArray, List.getElem_cons_succ, List.getElem_cons_zero, Act.put, List.setIfInBounds_toArray, List.set_cons_zero, List.set_cons_succ])
      refine wpAnyH_done (by kernel_rfl) (NoPanic.normal ?_) _
      refine ⟨rfl, ?_⟩
      (repeat apply Exists.intro)
      exact ⟨rfl, RL.out, C0.out, C1.out, C2.out, R1.out, R2.out, R3.out, hd7_77⟩
    refine AllReadyH.cons (o := _) rfl (fun K hK => ?_) AllReadyH.nil
    go_simp
    try dsimp only
    have q0 : Row (x66.alloc (.cells #[.int .i64 3, .string ⟨#[98]⟩, .int .i64 0] 42)) (some ⟨x66.heap.size, 0, none⟩) 1 [cB] := rowC1 x66 cB cB_fit 42
    have hbx78 := (Below.refl x66.heap.size x66).new (.cells #[.int .i64 3, .string ⟨#[98]⟩, .int .i64 0] 42)
    have hd2_78 := hd1_66.then hbx78
    replace RAA := mkHid (RAA.out.below hbx78)
    refine hK.out _ _ (HS.out _ hd2_78) (fun hSn => ?_)
    clear hK K hSn
    have hSx78 := HS.out _ hd2_78
    (try simp only [List.getElem_toArray, List.getElem_cons_succ, List.getElem_cons_zero, Act.put, List.setIfInBounds_toArray, List.set_cons_zero, List.set_cons_succ])
    obtain ⟨x78, hV⟩ : ∃ V, x66.alloc (.cells #[.int .i64 3, .string ⟨#[98]⟩, .int .i64 0] 42) = V := ⟨_, rfl⟩
    obtain ⟨Gx78, hG⟩ : ∃ V, x66.heap.size = V := ⟨_, rfl⟩
    rw [hV] at q0 hd2_78 hSx78 RAA ⊢
    rw [hG] at q0 ⊢
    have RB := mkHid q0
    clear hV hG hbx78 q0
    refine wpAnyH_ready (rs := [1]) (by kernel_rfl) (by simp) ?_
    refine AllReadyH.cons (o := _) rfl (fun K hK => ?_) AllReadyH.nil
    go_simp
    try dsimp only
    have q0 : Row (x78.alloc (.cells #[.int .i64 3, .string ⟨#[97]⟩, .int .i64 0] 42)) (some ⟨x78.heap.size, 0, none⟩) 1 [cA] := rowC1 x78 cA cA_fit 42
    have hbx79 := (Below.refl x78.heap.size x78).new (.cells #[.int .i64 3, .string ⟨#[97]⟩, .int .i64 0] 42)
    have hd3_79 := hd2_78.then hbx79
    replace RAA := mkHid (RAA.out.below hbx79)
    replace RB := mkHid (RB.out.below hbx79)
    refine hK.out _ _ (HS.out _ hd3_79) (fun hSn => ?_)
    clear hK K hSn
    have hSx79 := HS.out _ hd3_79
    (try simp only [List.getElem_toArray, List.getElem_cons_succ, List.getElem_cons_zero, Act.put, List.setIfInBounds_toArray, List.set_cons_zero, List.set_cons_succ])
    obtain ⟨x79, hV⟩ : ∃ V, x78.alloc (.cells #[.int .i64 3, .string ⟨#[97]⟩, .int .i64 0] 42) = V := ⟨_, rfl⟩
    obtain ⟨Gx79, hG⟩ : ∃ V, x78.heap.size = V := ⟨_, rfl⟩
    rw [hV] at q0 hd3_79 hSx79 RAA RB ⊢
    rw [hG] at q0 ⊢
    have RA := mkHid q0
    clear hV hG hbx79 q0
    refine wpAnyH_ready (rs := [2]) (by kernel_rfl) (by simp) ?_
    refine AllReadyH.cons (o := _) rfl (fun K hK => ?_) AllReadyH.nil
    go_simp
    refine (p12_is (nm := ⟨#[112]⟩) (cl := ⟨3, ⟨#[112]⟩, 1⟩) (j := 2) (by decide) rfl RA.out (by decide) rfl rfl).mono ?_
    rintro e x80 ⟨a1, c1, rfl, r1, hbx80⟩
    have R1 := mkHid r1
    clear r1
    have hd4_80 := hd3_79.then hbx80
    replace RAA := mkHid (RAA.out.below hbx80)
    replace RB := mkHid (RB.out.below hbx80)
    replace RA := mkHid (RA.out.below hbx80)
    try dsimp only
    refine hK.out _ _ (HS.out _ hd4_80) (fun hSn => ?_)
    clear hK K hSn
    have hSx80 := HS.out _ hd4_80
    (try simp only [List.getElem_toArray, List.getElem_cons_succ, List.getElem_cons_zero, Act.put, List.setIfInBounds_toArray, List.set_cons_zero, List.set_cons_succ])
    clear hbx80
    refine wpAnyH_ready (rs := [5]) (by kernel_rfl) (by simp) ?_
    refine AllReadyH.cons (o := _) rfl (fun K hK => ?_) AllReadyH.nil
    go_simp
    refine (p12_is (nm := ⟨#[112]⟩) (cl := ⟨3, ⟨#[112]⟩, 1⟩) (j := 2) (by decide) rfl RB.out (by decide) rfl rfl).mono ?_
    rintro e x81 ⟨a2, c2, rfl, r2, hbx81⟩
    have R2 := mkHid r2
    clear r2
    have hd5_81 := hd4_80.then hbx81
    replace RAA := mkHid (RAA.out.below hbx81)
    replace RB := mkHid (RB.out.below hbx81)
    replace RA := mkHid (RA.out.below hbx81)
    replace R1 := mkHid (R1.out.below hbx81)
    try dsimp only
    refine hK.out _ _ (HS.out _ hd5_81) (fun hSn => ?_)
    clear hK K hSn
    have hSx81 := HS.out _ hd5_81
    (try simp only [List.getElem_toArray, List.getElem_cons_succ, List.getElem_cons_zero, Act.put, List.setIfInBounds_toArray, List.set_cons_zero, List.set_cons_succ])
    clear hbx81
    refine wpAnyH_ready (rs := [9]) (by kernel_rfl) (by simp) ?_
    refine AllReadyH.cons (o := _) rfl (fun K hK => ?_) AllReadyH.nil
    go_simp
    refine (p12_is (nm := ⟨#[113]⟩) (cl := ⟨3, ⟨#[113]⟩, 2⟩) (j := 3) (by decide) rfl RAA.out (by decide) rfl rfl).mono ?_
    rintro e x82 ⟨a3, c3, rfl, r3, hbx82⟩
    have R3 := mkHid r3
    clear r3
    have hd6_82 := hd5_81.then hbx82
    replace RAA := mkHid (RAA.out.below hbx82)
    replace RB := mkHid (RB.out.below hbx82)
    replace RA := mkHid (RA.out.below hbx82)
    replace R1 := mkHid (R1.out.below hbx82)
    replace R2 := mkHid (R2.out.below hbx82)
    try dsimp only
    refine hK.out _ _ (HS.out _ hd6_82) (fun hSn => ?_)
    clear hK K hSn
    have hSx82 := HS.out _ hd6_82
    (try simp only [List.getElem_toArray, List.getElem_cons_succ, List.getElem_cons_zero, Act.put, List.setIfInBounds_toArray, List.set_cons_zero, List.set_cons_succ])
    clear hbx82
    refine wpAnyH_ready (rs := [10]) (by kernel_rfl) (by simp) ?_
    refine AllReadyH.cons (o := _) rfl (fun K hK => ?_) AllReadyH.nil
    go_simp
    try dsimp only
    have q0 : Row (x82.alloc (.cells #[.slice a1 2 c1, .slice a2 2 c2, .slice a3 3 c3] 23)) (some ⟨x82.heap.size, 0, none⟩) 3 l12 := rowR3 (x := pA) (y := pB) (z := qAA) R1.out R2.out R3.out 23
    have hbx83 := (Below.refl x82.heap.size x82).new (.cells #[.slice a1 2 c1, .slice a2 2 c2, .slice a3 3 c3] 23)
    have q1 : (x82.alloc (.cells #[.slice a1 2 c1, .slice a2 2 c2, .slice a3 3 c3] 23)).cell? ⟨x82.heap.size, 0, none⟩ = some (.slice a1 2 c1) := cell_mk x82 _ _ 0 _ rfl
    have q2 : (x82.alloc (.cells #[.slice a1 2 c1, .slice a2 2 c2, .slice a3 3 c3] 23)).cell? ⟨x82.heap.size, 1, none⟩ = some (.slice a2 2 c2) := cell_mk x82 _ _ 1 _ rfl
    have q3 : (x82.alloc (.cells #[.slice a1 2 c1, .slice a2 2 c2, .slice a3 3 c3] 23)).cell? ⟨x82.heap.size, 2, none⟩ = some (.slice a3 3 c3) := cell_mk x82 _ _ 2 _ rfl
    have hd7_83 := hd6_82.then hbx83
    replace RAA := mkHid (RAA.out.below hbx83)
    replace RB := mkHid (RB.out.below hbx83)
    replace RA := mkHid (RA.out.below hbx83)
    replace R1 := mkHid (R1.out.below hbx83)
    replace R2 := mkHid (R2.out.below hbx83)
    replace R3 := mkHid (R3.out.below hbx83)
    refine hK.out _ _ (HS.out _ hd7_83) (fun hSn => ?_)
    clear hK K hSn
    have hSx83 := HS.out _ hd7_83
    (try simp only [List.getElem_toArray, List.getElem_cons_succ, List.getElem_cons_zero, Act.put, List.setIfInBounds_toArray, List.set_cons_zero, List.set_cons_succ])
    obtain ⟨x83, hV⟩ : ∃ V, x82.alloc (.cells #[.slice a1 2 c1, .slice a2 2 c2, .slice a3 3 c3] 23) = V := ⟨_, rfl⟩
    obtain ⟨Gx83, hG⟩ : ∃ V, x82.heap.size = V := ⟨_, rfl⟩
    rw [hV] at q0 q1 q2 q3 hd7_83 hSx83 RAA RB RA R1 R2 R3 ⊢
    rw [hG] at q0 q1 q2 q3 ⊢
    have RL := mkHid q0
    have C0 := mkHid q1
    have C1 := mkHid q2
    have C2 := mkHid q3
    clear hV hG hbx83 q0 q1 q2 q3
    refine wpAnyH_take (i := 11) (oi := _) (v := ?_) rfl (by kernel_rfl) (by kernel_rfl) (by kernel_rfl) (fun _ _ _ h => h) (Or.inl ⟨by kernel_rfl, ?_⟩) (by assumption) ?_
    rotate_left
    · (intro w' hSw; obtain ⟨s0, s1, s2, s3, s4, s5⟩ := hSw; go_simp; try with_reducible rfl)
    (try simp only [List.getElem_toArray, List.getElem_cons_succ, List.getElem_cons_zero, Act.put, List.setIfInBounds_toArray, List.set_cons_zero, List.set_cons_succ])
    refine wpAnyH_done (by kernel_rfl) (NoPanic.normal ?_) _
    refine ⟨rfl, ?_⟩
    (repeat apply Exists.intro)
    exact ⟨rfl, RL.out, C0.out, C1.out, C2.out, R1.out, R2.out, R3.out, hd7_83⟩
  rintro ev A' W1 ⟨rfl, e23, e24, e26, e27, e30, e31, PB, a1, c1, a2, c2, a3, c3, rfl, rl, d0, d1, d2, r1, r2, r3, hb1⟩
  subst hA
  simp only [Act.put, List.setIfInBounds_toArray, List.set_cons_zero, List.set_cons_succ]
  replace Za0 := mkHid (keep Za0.out hb1)
  replace Za1 := mkHid (keep Za1.out hb1)
  replace Za2 := mkHid (keep Za2.out hb1)
  replace Zb0 := mkHid (keep Zb0.out hb1)
  replace Zb1 := mkHid (keep Zb1.out hb1)
  replace Zb2 := mkHid (keep Zb2.out hb1)
  replace Zv0 := mkHid (keep Zv0.out hb1)
  replace Zv1 := mkHid (keep Zv1.out hb1)
  replace Zv2 := mkHid (keep Zv2.out hb1)
  replace HB := mkHid (HB.out.then hb1)
  have RL := mkHid rl
  have R1 := mkHid r1
  have R2 := mkHid r2
  have R3 := mkHid r3
  have D0 := mkHid d0
  have D1 := mkHid d1
  have D2 := mkHid d2
  clear rl r1 r2 r3 d0 d1 d2 hb1
  have RD1 : Hid (Row W1 (some ⟨PB, 1, none⟩) 2 (l12.drop 1)) := (RL.out.slice (i := 1) (j := 3) (by decide) (by decide))
  have RT2 : Hid (Row W1 (some ⟨PB, 0, none⟩) 3 (l12.take 2)) := (RL.out.slice (i := 0) (j := 2) (by decide) (by decide))
  have RT1 : Hid (Row W1 (some ⟨PB, 0, none⟩) 3 (l12.take 1)) := (RL.out.slice (i := 0) (j := 1) (by decide) (by decide))
  have RD2 : Hid (Row W1 (some ⟨PB, 2, none⟩) 1 (l12.drop 2)) := (RL.out.slice (i := 2) (j := 3) (by decide) (by decide))
  go_wp2_with fail
  have HS : Hid (∀ X, Below W1.heap.size W1 X → (fun X => X.cell? ⟨PB, 0, none⟩ = some (.slice a1 2 c1)) X) := fun X h => keep D0.out h
  have hd0 : Below W1.heap.size W1 W1.drew := (Below.refl _ _).drew
  refine wp_region_noPanic ?_
  refine wp_region_held_drew (S := fun X => X.cell? ⟨PB, 0, none⟩ = some (.slice a1 2 c1)) (by kernel_rfl) (HS.out _ hd0) (fun hSd => ?_)
  obtain ⟨x84, hx0⟩ : ∃ X, W1.drew = X := ⟨_, rfl⟩
  rw [hx0] at hd0 hSd ⊢
  clear hx0
  refine wpAnyH_take (i := 0) (oi := _) (v := ?_) rfl (by kernel_rfl) (by kernel_rfl) (by kernel_rfl) (fun _ _ _ h => h) (Or.inl ⟨by kernel_rfl, ?_⟩) (by assumption) ?_
  rotate_left
  · (intro w' hSw; obtain s0 := hSw; go_simp; try with_reducible rfl)
  (try simp only [List.getElem_toArray, List.getElem_cons_succ, List.getElem_cons_zero, Act.put, List.setIfInBounds_toArray, List.set_cons_zero, List.set_cons_succ])
  refine wpAnyH_take (i := 1) (oi := _) (v := ?_) rfl (by kernel_rfl) (by kernel_rfl) (by kernel_rfl) (fun _ _ _ h => h) (Or.inl ⟨by kernel_rfl, ?_⟩) (by assumption) ?_
  rotate_left
  · (intro w' hSw; obtain s0 := hSw; go_simp; try with_reducible rfl)
  (try simp only [List.getElem_toArray, List.getElem_cons_succ, List.getElem_cons_zero, Act.put, List.setIfInBounds_toArray, List.set_cons_zero, List.set_cons_succ])
  refine wpAnyH_take (i := 2) (oi := _) (v := ?_) rfl (by kernel_rfl) (by kernel_rfl) (by kernel_rfl) (fun _ _ _ h => h) (Or.inl ⟨by kernel_rfl, ?_⟩) (by assumption) ?_
  rotate_left
  · (intro w' hSw; obtain s0 := hSw; go_simp; try with_reducible rfl)
  (try simp only [List.getElem_toArray, List.getElem_cons_succ, List.getElem_cons_zero, Act.put, List.setIfInBounds_toArray, List.set_cons_zero, List.set_cons_succ])
  refine wpAnyH_take (i := 3) (oi := _) (v := ?_) rfl (by kernel_rfl) (by kernel_rfl) (by kernel_rfl) (fun _ _ _ h => h) (Or.inl ⟨by kernel_rfl, ?_⟩) (by assumption) ?_
  rotate_left
  · (intro w' hSw; obtain s0 := hSw; go_simp; try with_reducible rfl)
  (try simp only [List.getElem_toArray, List.getElem_cons_succ, List.getElem_cons_zero, Act.put, List.setIfInBounds_toArray, List.set_cons_zero, List.set_cons_succ])
  refine wpAnyH_take (i := 4) (oi := _) (v := ?_) rfl (by kernel_rfl) (by kernel_rfl) (by kernel_rfl) (fun _ _ _ h => h) (Or.inl ⟨by kernel_rfl, ?_⟩) (by assumption) ?_
  rotate_left
  · (intro w' hSw; obtain s0 := hSw; go_simp; try with_reducible rfl)
  (try simp only [List.getElem_toArray, List.getElem_cons_succ, List.getElem_cons_zero, Act.put, List.setIfInBounds_toArray, List.set_cons_zero, List.set_cons_succ])
  refine wpAnyH_ready (rs := [5]) (by kernel_rfl) (by simp) ?_
  refine AllReadyH.cons (o := _) rfl (fun K hK => ?_) AllReadyH.nil
  go_simp
  refine (add_is (n := 2) (k := 2) (j := 3) (E := 0) rfl (RD1.out.below hd0) rfl (R1.out.below hd0) (l12_fr.sub (List.drop_sublist _ _)) k12_add k12_addE rfl).mono ?_
  rintro e x85 ⟨a4, c4, rfl, r4, hbx85⟩
  have RM := mkHid r4
  clear r4
  have hd1_85 := hd0.then hbx85
  try dsimp only
  refine hK.out _ _ (HS.out _ hd1_85) (fun hSn => ?_)
  clear hK K hSn
  have hSx85 := HS.out _ hd1_85
  (try simp only [List.getElem_toArray, List.getElem_cons_succ, List.getElem_cons_zero, Act.put, List.setIfInBounds_toArray, List.set_cons_zero, List.set_cons_succ])
  clear hbx85
  refine wpAnyH_take (i := 6) (oi := _) (v := ?_) rfl (by kernel_rfl) (by kernel_rfl) (by kernel_rfl) (fun _ _ _ h => h) (Or.inl ⟨by kernel_rfl, ?_⟩) (by assumption) ?_
  rotate_left
  · (intro w' hSw; obtain s0 := hSw; go_simp; try with_reducible rfl)
  (try simp only [List.getElem_toArray, List.getElem_cons_succ, List.getElem_cons_zero, Act.put, List.setIfInBounds_toArray, List.set_cons_zero, List.set_cons_succ])
  refine wpAnyH_take (i := 7) (oi := _) (v := ?_) rfl (by kernel_rfl) (by kernel_rfl) (by kernel_rfl) (fun _ _ _ h => h) (Or.inl ⟨by kernel_rfl, ?_⟩) (by assumption) ?_
  rotate_left
  · (intro w' hSw; obtain s0 := hSw; go_simp; try with_reducible rfl)
  (try simp only [List.getElem_toArray, List.getElem_cons_succ, List.getElem_cons_zero, Act.put, List.setIfInBounds_toArray, List.set_cons_zero, List.set_cons_succ])
  refine wpAnyH_take (i := 8) (oi := _) (v := ?_) rfl (by kernel_rfl) (by kernel_rfl) (by kernel_rfl) (fun _ _ _ h => h) (Or.inl ⟨by kernel_rfl, ?_⟩) (by assumption) ?_
  rotate_left
  · (intro w' hSw; obtain s0 := hSw; go_simp; try with_reducible rfl)
  (try simp only [List.getElem_toArray, List.getElem_cons_succ, List.getElem_cons_zero, Act.put, List.setIfInBounds_toArray, List.set_cons_zero, List.set_cons_succ])
  refine wpAnyH_take (i := 9) (oi := _) (v := ?_) rfl (by kernel_rfl) (by kernel_rfl) (by kernel_rfl) (fun _ _ _ h => h) (Or.inl ⟨by kernel_rfl, ?_⟩) (by assumption) ?_
  rotate_left
  · (intro w' hSw; obtain s0 := hSw; go_simp; try with_reducible rfl)
  (try simp only [List.getElem_toArray, List.getElem_cons_succ, List.getElem_cons_zero, Act.put, List.setIfInBounds_toArray, List.set_cons_zero, List.set_cons_succ])
  refine wpAnyH_take (i := 10) (oi := _) (v := ?_) rfl (by kernel_rfl) (by kernel_rfl) (by kernel_rfl) (fun _ _ _ h => h) (Or.inl ⟨by kernel_rfl, ?_⟩) (by assumption) ?_
  rotate_left
  · (intro w' hSw; obtain s0 := hSw; go_simp; try with_reducible rfl)
  (try simp only [List.getElem_toArray, List.getElem_cons_succ, List.getElem_cons_zero, Act.put, List.setIfInBounds_toArray, List.set_cons_zero, List.set_cons_succ])
  refine wpAnyH_done (by kernel_rfl) (NoPanic.normal ?_) _
  clear HS
  have hZ := hd1_85
  replace RL := mkHid (RL.out.below hZ)
  replace R1 := mkHid (R1.out.below hZ)
  replace R2 := mkHid (R2.out.below hZ)
  replace R3 := mkHid (R3.out.below hZ)
  replace RD1 := mkHid (RD1.out.below hZ)
  replace RT2 := mkHid (RT2.out.below hZ)
  replace RT1 := mkHid (RT1.out.below hZ)
  replace RD2 := mkHid (RD2.out.below hZ)
  replace Za0 := mkHid (keep Za0.out hZ)
  replace Za1 := mkHid (keep Za1.out hZ)
  replace Za2 := mkHid (keep Za2.out hZ)
  replace Zb0 := mkHid (keep Zb0.out hZ)
  replace Zb1 := mkHid (keep Zb1.out hZ)
  replace Zb2 := mkHid (keep Zb2.out hZ)
  replace Zv0 := mkHid (keep Zv0.out hZ)
  replace Zv1 := mkHid (keep Zv1.out hZ)
  replace Zv2 := mkHid (keep Zv2.out hZ)
  replace D0 := mkHid (keep D0.out hZ)
  replace D1 := mkHid (keep D1.out hZ)
  replace D2 := mkHid (keep D2.out hZ)
  replace HB := mkHid (HB.out.then hZ)
  clear hZ
  have fZv0 := Zv0.out
  have fZv1 := Zv1.out
  have fZv2 := Zv2.out
  go_wp2_with fail
  clear fZv0 fZv1 fZv2
  have q0 : Row (x85.alloc (.cells #[.int .i64 1, .string ⟨#[]⟩, .int .i64 0] 42)) (some ⟨x85.heap.size, 0, none⟩) 1 [cV] := rowC1 x85 cV cV_fit 42
  have hx86 := (Below.refl x85.heap.size x85).new (.cells #[.int .i64 1, .string ⟨#[]⟩, .int .i64 0] 42)
  obtain ⟨x86, hV⟩ : ∃ V, x85.alloc (.cells #[.int .i64 1, .string ⟨#[]⟩, .int .i64 0] 42) = V := ⟨_, rfl⟩
  obtain ⟨Gx86, hG⟩ : ∃ V, x85.heap.size = V := ⟨_, rfl⟩
  rw [hV] at q0 hx86 ⊢
  rw [hG] at q0 ⊢
  replace RL := mkHid (RL.out.below hx86)
  replace R1 := mkHid (R1.out.below hx86)
  replace R2 := mkHid (R2.out.below hx86)
  replace R3 := mkHid (R3.out.below hx86)
  replace RD1 := mkHid (RD1.out.below hx86)
  replace RT2 := mkHid (RT2.out.below hx86)
  replace RT1 := mkHid (RT1.out.below hx86)
  replace RD2 := mkHid (RD2.out.below hx86)
  replace RM := mkHid (RM.out.below hx86)
  replace Za0 := mkHid (keep Za0.out hx86)
  replace Za1 := mkHid (keep Za1.out hx86)
  replace Za2 := mkHid (keep Za2.out hx86)
  replace Zb0 := mkHid (keep Zb0.out hx86)
  replace Zb1 := mkHid (keep Zb1.out hx86)
  replace Zb2 := mkHid (keep Zb2.out hx86)
  replace Zv0 := mkHid (keep Zv0.out hx86)
  replace Zv1 := mkHid (keep Zv1.out hx86)
  replace Zv2 := mkHid (keep Zv2.out hx86)
  replace D0 := mkHid (keep D0.out hx86)
  replace D1 := mkHid (keep D1.out hx86)
  replace D2 := mkHid (keep D2.out hx86)
  replace HB := mkHid (HB.out.then hx86)
  have RV := mkHid q0
  clear hV hG q0 hx86
  refine (p12_is (nm := ⟨#[112]⟩) (cl := ⟨3, ⟨#[112]⟩, 1⟩) (j := 2) (by decide) rfl RV.out (by decide) rfl rfl).mono ?_
  rintro e x87 ⟨a5, c5, rfl, r5, hx87⟩
  replace RL := mkHid (RL.out.below hx87)
  replace R1 := mkHid (R1.out.below hx87)
  replace R2 := mkHid (R2.out.below hx87)
  replace R3 := mkHid (R3.out.below hx87)
  replace RD1 := mkHid (RD1.out.below hx87)
  replace RT2 := mkHid (RT2.out.below hx87)
  replace RT1 := mkHid (RT1.out.below hx87)
  replace RD2 := mkHid (RD2.out.below hx87)
  replace RM := mkHid (RM.out.below hx87)
  replace RV := mkHid (RV.out.below hx87)
  replace Za0 := mkHid (keep Za0.out hx87)
  replace Za1 := mkHid (keep Za1.out hx87)
  replace Za2 := mkHid (keep Za2.out hx87)
  replace Zb0 := mkHid (keep Zb0.out hx87)
  replace Zb1 := mkHid (keep Zb1.out hx87)
  replace Zb2 := mkHid (keep Zb2.out hx87)
  replace Zv0 := mkHid (keep Zv0.out hx87)
  replace Zv1 := mkHid (keep Zv1.out hx87)
  replace Zv2 := mkHid (keep Zv2.out hx87)
  replace D0 := mkHid (keep D0.out hx87)
  replace D1 := mkHid (keep D1.out hx87)
  replace D2 := mkHid (keep D2.out hx87)
  replace HB := mkHid (HB.out.then hx87)
  clear hx87
  have RPV := mkHid r5
  clear r5
  go_wp2_with fail
  refine (add_is (n := 0) (k := 2) (j := 0) (E := 120) (l := []) rfl (nilRow _) rfl RPV.out FR.nil k12_addVl k12_addV rfl).mono ?_
  rintro e x88 ⟨a6, c6, rfl, _, hx88⟩
  replace RL := mkHid (RL.out.below hx88)
  replace R1 := mkHid (R1.out.below hx88)
  replace R2 := mkHid (R2.out.below hx88)
  replace R3 := mkHid (R3.out.below hx88)
  replace RD1 := mkHid (RD1.out.below hx88)
  replace RT2 := mkHid (RT2.out.below hx88)
  replace RT1 := mkHid (RT1.out.below hx88)
  replace RD2 := mkHid (RD2.out.below hx88)
  replace RM := mkHid (RM.out.below hx88)
  replace RV := mkHid (RV.out.below hx88)
  replace RPV := mkHid (RPV.out.below hx88)
  replace Za0 := mkHid (keep Za0.out hx88)
  replace Za1 := mkHid (keep Za1.out hx88)
  replace Za2 := mkHid (keep Za2.out hx88)
  replace Zb0 := mkHid (keep Zb0.out hx88)
  replace Zb1 := mkHid (keep Zb1.out hx88)
  replace Zb2 := mkHid (keep Zb2.out hx88)
  replace Zv0 := mkHid (keep Zv0.out hx88)
  replace Zv1 := mkHid (keep Zv1.out hx88)
  replace Zv2 := mkHid (keep Zv2.out hx88)
  replace D0 := mkHid (keep D0.out hx88)
  replace D1 := mkHid (keep D1.out hx88)
  replace D2 := mkHid (keep D2.out hx88)
  replace HB := mkHid (HB.out.then hx88)
  clear hx88
  have fD1 := D1.out
  go_wp2_with fail
  clear fD1
  refine (drop_is (n := 3) (k := 2) (j := 2) (E := 0) rfl RL.out rfl R2.out l12_fr k12_drop k12_dropE rfl).mono ?_
  rintro e x89 ⟨a7, c7, rfl, r7, hx89⟩
  replace RL := mkHid (RL.out.below hx89)
  replace R1 := mkHid (R1.out.below hx89)
  replace R2 := mkHid (R2.out.below hx89)
  replace R3 := mkHid (R3.out.below hx89)
  replace RD1 := mkHid (RD1.out.below hx89)
  replace RT2 := mkHid (RT2.out.below hx89)
  replace RT1 := mkHid (RT1.out.below hx89)
  replace RD2 := mkHid (RD2.out.below hx89)
  replace RM := mkHid (RM.out.below hx89)
  replace RV := mkHid (RV.out.below hx89)
  replace RPV := mkHid (RPV.out.below hx89)
  replace Za0 := mkHid (keep Za0.out hx89)
  replace Za1 := mkHid (keep Za1.out hx89)
  replace Za2 := mkHid (keep Za2.out hx89)
  replace Zb0 := mkHid (keep Zb0.out hx89)
  replace Zb1 := mkHid (keep Zb1.out hx89)
  replace Zb2 := mkHid (keep Zb2.out hx89)
  replace Zv0 := mkHid (keep Zv0.out hx89)
  replace Zv1 := mkHid (keep Zv1.out hx89)
  replace Zv2 := mkHid (keep Zv2.out hx89)
  replace D0 := mkHid (keep D0.out hx89)
  replace D1 := mkHid (keep D1.out hx89)
  replace D2 := mkHid (keep D2.out hx89)
  replace HB := mkHid (HB.out.then hx89)
  clear hx89
  have RN := mkHid r7
  clear r7
  have fZa0 := Za0.out
  have fZa1 := Za1.out
  have fZa2 := Za2.out
  have fZb0 := Zb0.out
  have fZb1 := Zb1.out
  have fZb2 := Zb2.out
  go_wp2_with fail
  clear fZa0 fZa1 fZa2 fZb0 fZb1 fZb2
  have q0 : Row (x89.alloc (.cells #[.int .i64 3, .string ⟨#[97]⟩, .int .i64 0, .int .i64 3, .string ⟨#[98]⟩, .int .i64 0] 42)) (some ⟨x89.heap.size, 0, none⟩) 2 [cA, cB] := rowC2 x89 cA cB cA_fit cB_fit 42
  have hx90 := (Below.refl x89.heap.size x89).new (.cells #[.int .i64 3, .string ⟨#[97]⟩, .int .i64 0, .int .i64 3, .string ⟨#[98]⟩, .int .i64 0] 42)
  obtain ⟨x90, hV⟩ : ∃ V, x89.alloc (.cells #[.int .i64 3, .string ⟨#[97]⟩, .int .i64 0, .int .i64 3, .string ⟨#[98]⟩, .int .i64 0] 42) = V := ⟨_, rfl⟩
  obtain ⟨Gx90, hG⟩ : ∃ V, x89.heap.size = V := ⟨_, rfl⟩
  rw [hV] at q0 hx90 ⊢
  rw [hG] at q0 ⊢
  replace RL := mkHid (RL.out.below hx90)
  replace R1 := mkHid (R1.out.below hx90)
  replace R2 := mkHid (R2.out.below hx90)
  replace R3 := mkHid (R3.out.below hx90)
  replace RD1 := mkHid (RD1.out.below hx90)
  replace RT2 := mkHid (RT2.out.below hx90)
  replace RT1 := mkHid (RT1.out.below hx90)
  replace RD2 := mkHid (RD2.out.below hx90)
  replace RM := mkHid (RM.out.below hx90)
  replace RV := mkHid (RV.out.below hx90)
  replace RPV := mkHid (RPV.out.below hx90)
  replace RN := mkHid (RN.out.below hx90)
  replace Za0 := mkHid (keep Za0.out hx90)
  replace Za1 := mkHid (keep Za1.out hx90)
  replace Za2 := mkHid (keep Za2.out hx90)
  replace Zb0 := mkHid (keep Zb0.out hx90)
  replace Zb1 := mkHid (keep Zb1.out hx90)
  replace Zb2 := mkHid (keep Zb2.out hx90)
  replace Zv0 := mkHid (keep Zv0.out hx90)
  replace Zv1 := mkHid (keep Zv1.out hx90)
  replace Zv2 := mkHid (keep Zv2.out hx90)
  replace D0 := mkHid (keep D0.out hx90)
  replace D1 := mkHid (keep D1.out hx90)
  replace D2 := mkHid (keep D2.out hx90)
  replace HB := mkHid (HB.out.then hx90)
  have RAB := mkHid q0
  clear hV hG q0 hx90
  refine (p12_is (nm := ⟨#[113]⟩) (cl := ⟨3, ⟨#[113]⟩, 2⟩) (j := 3) (by decide) rfl RAB.out (by decide) rfl rfl).mono ?_
  rintro e x91 ⟨a8, c8, rfl, r8, hx91⟩
  replace RL := mkHid (RL.out.below hx91)
  replace R1 := mkHid (R1.out.below hx91)
  replace R2 := mkHid (R2.out.below hx91)
  replace R3 := mkHid (R3.out.below hx91)
  replace RD1 := mkHid (RD1.out.below hx91)
  replace RT2 := mkHid (RT2.out.below hx91)
  replace RT1 := mkHid (RT1.out.below hx91)
  replace RD2 := mkHid (RD2.out.below hx91)
  replace RM := mkHid (RM.out.below hx91)
  replace RV := mkHid (RV.out.below hx91)
  replace RPV := mkHid (RPV.out.below hx91)
  replace RN := mkHid (RN.out.below hx91)
  replace RAB := mkHid (RAB.out.below hx91)
  replace Za0 := mkHid (keep Za0.out hx91)
  replace Za1 := mkHid (keep Za1.out hx91)
  replace Za2 := mkHid (keep Za2.out hx91)
  replace Zb0 := mkHid (keep Zb0.out hx91)
  replace Zb1 := mkHid (keep Zb1.out hx91)
  replace Zb2 := mkHid (keep Zb2.out hx91)
  replace Zv0 := mkHid (keep Zv0.out hx91)
  replace Zv1 := mkHid (keep Zv1.out hx91)
  replace Zv2 := mkHid (keep Zv2.out hx91)
  replace D0 := mkHid (keep D0.out hx91)
  replace D1 := mkHid (keep D1.out hx91)
  replace D2 := mkHid (keep D2.out hx91)
  replace HB := mkHid (HB.out.then hx91)
  clear hx91
  have RQAB := mkHid r8
  clear r8
  go_wp2_with fail
  refine (drop_is (n := 3) (k := 3) (j := 0) (E := 3) rfl RL.out rfl RQAB.out l12_fr k12_dropql k12_dropq rfl).mono ?_
  rintro e x92 ⟨a9, c9, rfl, _, hx92⟩
  replace RL := mkHid (RL.out.below hx92)
  replace R1 := mkHid (R1.out.below hx92)
  replace R2 := mkHid (R2.out.below hx92)
  replace R3 := mkHid (R3.out.below hx92)
  replace RD1 := mkHid (RD1.out.below hx92)
  replace RT2 := mkHid (RT2.out.below hx92)
  replace RT1 := mkHid (RT1.out.below hx92)
  replace RD2 := mkHid (RD2.out.below hx92)
  replace RM := mkHid (RM.out.below hx92)
  replace RV := mkHid (RV.out.below hx92)
  replace RPV := mkHid (RPV.out.below hx92)
  replace RN := mkHid (RN.out.below hx92)
  replace RAB := mkHid (RAB.out.below hx92)
  replace RQAB := mkHid (RQAB.out.below hx92)
  replace Za0 := mkHid (keep Za0.out hx92)
  replace Za1 := mkHid (keep Za1.out hx92)
  replace Za2 := mkHid (keep Za2.out hx92)
  replace Zb0 := mkHid (keep Zb0.out hx92)
  replace Zb1 := mkHid (keep Zb1.out hx92)
  replace Zb2 := mkHid (keep Zb2.out hx92)
  replace Zv0 := mkHid (keep Zv0.out hx92)
  replace Zv1 := mkHid (keep Zv1.out hx92)
  replace Zv2 := mkHid (keep Zv2.out hx92)
  replace D0 := mkHid (keep D0.out hx92)
  replace D1 := mkHid (keep D1.out hx92)
  replace D2 := mkHid (keep D2.out hx92)
  replace HB := mkHid (HB.out.then hx92)
  clear hx92
  go_wp2_with fail
  have q0 : Row (x92.alloc (.cells #[.int .i64 2, .string ⟨#[]⟩, .int .i64 0] 42)) (some ⟨x92.heap.size, 0, none⟩) 1 nO := rowC1 x92 ⟨2, ⟨#[]⟩, 0⟩ c0_fit 42
  have hx93 := (Below.refl x92.heap.size x92).new (.cells #[.int .i64 2, .string ⟨#[]⟩, .int .i64 0] 42)
  obtain ⟨x93, hV⟩ : ∃ V, x92.alloc (.cells #[.int .i64 2, .string ⟨#[]⟩, .int .i64 0] 42) = V := ⟨_, rfl⟩
  obtain ⟨Gx93, hG⟩ : ∃ V, x92.heap.size = V := ⟨_, rfl⟩
  rw [hV] at q0 hx93 ⊢
  rw [hG] at q0 ⊢
  replace RL := mkHid (RL.out.below hx93)
  replace R1 := mkHid (R1.out.below hx93)
  replace R2 := mkHid (R2.out.below hx93)
  replace R3 := mkHid (R3.out.below hx93)
  replace RD1 := mkHid (RD1.out.below hx93)
  replace RT2 := mkHid (RT2.out.below hx93)
  replace RT1 := mkHid (RT1.out.below hx93)
  replace RD2 := mkHid (RD2.out.below hx93)
  replace RM := mkHid (RM.out.below hx93)
  replace RV := mkHid (RV.out.below hx93)
  replace RPV := mkHid (RPV.out.below hx93)
  replace RN := mkHid (RN.out.below hx93)
  replace RAB := mkHid (RAB.out.below hx93)
  replace RQAB := mkHid (RQAB.out.below hx93)
  replace Za0 := mkHid (keep Za0.out hx93)
  replace Za1 := mkHid (keep Za1.out hx93)
  replace Za2 := mkHid (keep Za2.out hx93)
  replace Zb0 := mkHid (keep Zb0.out hx93)
  replace Zb1 := mkHid (keep Zb1.out hx93)
  replace Zb2 := mkHid (keep Zb2.out hx93)
  replace Zv0 := mkHid (keep Zv0.out hx93)
  replace Zv1 := mkHid (keep Zv1.out hx93)
  replace Zv2 := mkHid (keep Zv2.out hx93)
  replace D0 := mkHid (keep D0.out hx93)
  replace D1 := mkHid (keep D1.out hx93)
  replace D2 := mkHid (keep D2.out hx93)
  replace HB := mkHid (HB.out.then hx93)
  have RNO := mkHid q0
  clear hV hG q0 hx93
  refine (drop_is (n := 3) (k := 1) (j := 0) (E := 120) rfl RL.out rfl RNO.out l12_fr k12_dropnl k12_dropn rfl).mono ?_
  rintro e x94 ⟨a10, c10, rfl, _, hx94⟩
  replace RL := mkHid (RL.out.below hx94)
  replace R1 := mkHid (R1.out.below hx94)
  replace R2 := mkHid (R2.out.below hx94)
  replace R3 := mkHid (R3.out.below hx94)
  replace RD1 := mkHid (RD1.out.below hx94)
  replace RT2 := mkHid (RT2.out.below hx94)
  replace RT1 := mkHid (RT1.out.below hx94)
  replace RD2 := mkHid (RD2.out.below hx94)
  replace RM := mkHid (RM.out.below hx94)
  replace RV := mkHid (RV.out.below hx94)
  replace RPV := mkHid (RPV.out.below hx94)
  replace RN := mkHid (RN.out.below hx94)
  replace RAB := mkHid (RAB.out.below hx94)
  replace RQAB := mkHid (RQAB.out.below hx94)
  replace RNO := mkHid (RNO.out.below hx94)
  replace Za0 := mkHid (keep Za0.out hx94)
  replace Za1 := mkHid (keep Za1.out hx94)
  replace Za2 := mkHid (keep Za2.out hx94)
  replace Zb0 := mkHid (keep Zb0.out hx94)
  replace Zb1 := mkHid (keep Zb1.out hx94)
  replace Zb2 := mkHid (keep Zb2.out hx94)
  replace Zv0 := mkHid (keep Zv0.out hx94)
  replace Zv1 := mkHid (keep Zv1.out hx94)
  replace Zv2 := mkHid (keep Zv2.out hx94)
  replace D0 := mkHid (keep D0.out hx94)
  replace D1 := mkHid (keep D1.out hx94)
  replace D2 := mkHid (keep D2.out hx94)
  replace HB := mkHid (HB.out.then hx94)
  clear hx94
  have fD2 := D2.out
  go_wp2_with fail
  clear fD2
  refine (add_is (n := 3) (k := 3) (j := 3) (E := 0) rfl RL.out rfl R3.out l12_fr k12_addq k12_addqE rfl).mono ?_
  rintro e x95 ⟨a11, c11, rfl, r11, hx95⟩
  replace RL := mkHid (RL.out.below hx95)
  replace R1 := mkHid (R1.out.below hx95)
  replace R2 := mkHid (R2.out.below hx95)
  replace R3 := mkHid (R3.out.below hx95)
  replace RD1 := mkHid (RD1.out.below hx95)
  replace RT2 := mkHid (RT2.out.below hx95)
  replace RT1 := mkHid (RT1.out.below hx95)
  replace RD2 := mkHid (RD2.out.below hx95)
  replace RM := mkHid (RM.out.below hx95)
  replace RV := mkHid (RV.out.below hx95)
  replace RPV := mkHid (RPV.out.below hx95)
  replace RN := mkHid (RN.out.below hx95)
  replace RAB := mkHid (RAB.out.below hx95)
  replace RQAB := mkHid (RQAB.out.below hx95)
  replace RNO := mkHid (RNO.out.below hx95)
  replace Za0 := mkHid (keep Za0.out hx95)
  replace Za1 := mkHid (keep Za1.out hx95)
  replace Za2 := mkHid (keep Za2.out hx95)
  replace Zb0 := mkHid (keep Zb0.out hx95)
  replace Zb1 := mkHid (keep Zb1.out hx95)
  replace Zb2 := mkHid (keep Zb2.out hx95)
  replace Zv0 := mkHid (keep Zv0.out hx95)
  replace Zv1 := mkHid (keep Zv1.out hx95)
  replace Zv2 := mkHid (keep Zv2.out hx95)
  replace D0 := mkHid (keep D0.out hx95)
  replace D1 := mkHid (keep D1.out hx95)
  replace D2 := mkHid (keep D2.out hx95)
  replace HB := mkHid (HB.out.then hx95)
  clear hx95
  have RO := mkHid r11
  clear r11
  go_wp2_with fail
  have HS : Hid (∀ X, Below x95.heap.size x95 X → (fun X => X.cell? ⟨PB, 0, none⟩ = some (.slice a1 2 c1)) X) := fun X h => keep D0.out h
  have hd0 : Below x95.heap.size x95 x95.drew := (Below.refl _ _).drew
  refine wp_region_noPanic ?_
  refine wp_region_held_drew (S := fun X => X.cell? ⟨PB, 0, none⟩ = some (.slice a1 2 c1)) (by kernel_rfl) (HS.out _ hd0) (fun hSd => ?_)
  obtain ⟨x96, hx0⟩ : ∃ X, x95.drew = X := ⟨_, rfl⟩
  rw [hx0] at hd0 hSd ⊢
  clear hx0
  refine wpAnyH_take (i := 0) (oi := _) (v := ?_) rfl (by kernel_rfl) (by kernel_rfl) (by kernel_rfl) (fun _ _ _ h => h) (Or.inl ⟨by kernel_rfl, ?_⟩) (by assumption) ?_
  rotate_left
  · (intro w' hSw; obtain s0 := hSw; go_simp; try with_reducible rfl)
  (try simp only [List.getElem_toArray, List.getElem_cons_succ, List.getElem_cons_zero, Act.put, List.setIfInBounds_toArray, List.set_cons_zero, List.set_cons_succ])
  refine wpAnyH_take (i := 1) (oi := _) (v := ?_) rfl (by kernel_rfl) (by kernel_rfl) (by kernel_rfl) (fun _ _ _ h => h) (Or.inl ⟨by kernel_rfl, ?_⟩) (by assumption) ?_
  rotate_left
  · (intro w' hSw; obtain s0 := hSw; go_simp; try with_reducible rfl)
  (try simp only [List.getElem_toArray, List.getElem_cons_succ, List.getElem_cons_zero, Act.put, List.setIfInBounds_toArray, List.set_cons_zero, List.set_cons_succ])
  refine wpAnyH_take (i := 2) (oi := _) (v := ?_) rfl (by kernel_rfl) (by kernel_rfl) (by kernel_rfl) (fun _ _ _ h => h) (Or.inl ⟨by kernel_rfl, ?_⟩) (by assumption) ?_
  rotate_left
  · (intro w' hSw; obtain s0 := hSw; go_simp; try with_reducible rfl)
  (try simp only [List.getElem_toArray, List.getElem_cons_succ, List.getElem_cons_zero, Act.put, List.setIfInBounds_toArray, List.set_cons_zero, List.set_cons_succ])
  refine wpAnyH_take (i := 3) (oi := _) (v := ?_) rfl (by kernel_rfl) (by kernel_rfl) (by kernel_rfl) (fun _ _ _ h => h) (Or.inl ⟨by kernel_rfl, ?_⟩) (by assumption) ?_
  rotate_left
  · (intro w' hSw; obtain s0 := hSw; go_simp; try with_reducible rfl)
  (try simp only [List.getElem_toArray, List.getElem_cons_succ, List.getElem_cons_zero, Act.put, List.setIfInBounds_toArray, List.set_cons_zero, List.set_cons_succ])
  refine wpAnyH_ready (rs := [4]) (by kernel_rfl) (by simp) ?_
  refine AllReadyH.cons (o := _) rfl (fun K hK => ?_) AllReadyH.nil
  go_simp
  refine (diff_is (n := 2) (k := 2) (i := 1) (j := 1) rfl (RT2.out.below hd0) rfl (RD1.out.below hd0) (l12_fr.sub (List.take_sublist _ _)) (l12_fr.sub (List.drop_sublist _ _)) k12_came k12_went rfl rfl).mono ?_
  rintro e x97 ⟨a12, c12, a13, c13, rfl, r12, r13, hbx97⟩
  have RX := mkHid r12
  clear r12
  have RY := mkHid r13
  clear r13
  have hd1_97 := hd0.then hbx97
  try dsimp only
  refine hK.out _ _ (HS.out _ hd1_97) (fun hSn => ?_)
  clear hK K hSn
  have hSx97 := HS.out _ hd1_97
  (try simp only [List.getElem_toArray, List.getElem_cons_succ, List.getElem_cons_zero, Act.put, List.setIfInBounds_toArray, List.set_cons_zero, List.set_cons_succ])
  clear hbx97
  refine wpAnyH_take (i := 5) (oi := _) (v := ?_) rfl (by kernel_rfl) (by kernel_rfl) (by kernel_rfl) (fun _ _ _ h => h) (Or.inl ⟨by kernel_rfl, ?_⟩) (by assumption) ?_
  rotate_left
  · (intro w' hSw; obtain s0 := hSw; go_simp; try with_reducible rfl)
  (try simp only [List.getElem_toArray, List.getElem_cons_succ, List.getElem_cons_zero, Act.put, List.setIfInBounds_toArray, List.set_cons_zero, List.set_cons_succ])
  refine wpAnyH_take (i := 6) (oi := _) (v := ?_) rfl (by kernel_rfl) (by kernel_rfl) (by kernel_rfl) (fun _ _ _ h => h) (Or.inl ⟨by kernel_rfl, ?_⟩) (by assumption) ?_
  rotate_left
  · (intro w' hSw; obtain s0 := hSw; go_simp; try with_reducible rfl)
  (try simp only [List.getElem_toArray, List.getElem_cons_succ, List.getElem_cons_zero, Act.put, List.setIfInBounds_toArray, List.set_cons_zero, List.set_cons_succ])
  refine wpAnyH_take (i := 7) (oi := _) (v := ?_) rfl (by kernel_rfl) (by kernel_rfl) (by kernel_rfl) (fun _ _ _ h => h) (Or.inl ⟨by kernel_rfl, ?_⟩) (by assumption) ?_
  rotate_left
  · (intro w' hSw; obtain s0 := hSw; go_simp; try with_reducible rfl)
  (try simp only [List.getElem_toArray, List.getElem_cons_succ, List.getElem_cons_zero, Act.put, List.setIfInBounds_toArray, List.set_cons_zero, List.set_cons_succ])
  refine wpAnyH_take (i := 8) (oi := _) (v := ?_) rfl (by kernel_rfl) (by kernel_rfl) (by kernel_rfl) (fun _ _ _ h => h) (Or.inl ⟨by kernel_rfl, ?_⟩) (by assumption) ?_
  rotate_left
  · (intro w' hSw; obtain s0 := hSw; go_simp; try with_reducible rfl)
  (try simp only [List.getElem_toArray, List.getElem_cons_succ, List.getElem_cons_zero, Act.put, List.setIfInBounds_toArray, List.set_cons_zero, List.set_cons_succ])
  refine wpAnyH_take (i := 9) (oi := _) (v := ?_) rfl (by kernel_rfl) (by kernel_rfl) (by kernel_rfl) (fun _ _ _ h => h) (Or.inl ⟨by kernel_rfl, ?_⟩) (by assumption) ?_
  rotate_left
  · (intro w' hSw; obtain s0 := hSw; go_simp; try with_reducible rfl)
  (try simp only [List.getElem_toArray, List.getElem_cons_succ, List.getElem_cons_zero, Act.put, List.setIfInBounds_toArray, List.set_cons_zero, List.set_cons_succ])
  refine wpAnyH_done (by kernel_rfl) (NoPanic.normal ?_) _
  clear HS
  have hZ := hd1_97
  replace RL := mkHid (RL.out.below hZ)
  replace R1 := mkHid (R1.out.below hZ)
  replace R2 := mkHid (R2.out.below hZ)
  replace R3 := mkHid (R3.out.below hZ)
  replace RD1 := mkHid (RD1.out.below hZ)
  replace RT2 := mkHid (RT2.out.below hZ)
  replace RT1 := mkHid (RT1.out.below hZ)
  replace RD2 := mkHid (RD2.out.below hZ)
  replace RM := mkHid (RM.out.below hZ)
  replace RV := mkHid (RV.out.below hZ)
  replace RPV := mkHid (RPV.out.below hZ)
  replace RN := mkHid (RN.out.below hZ)
  replace RAB := mkHid (RAB.out.below hZ)
  replace RQAB := mkHid (RQAB.out.below hZ)
  replace RNO := mkHid (RNO.out.below hZ)
  replace RO := mkHid (RO.out.below hZ)
  replace Za0 := mkHid (keep Za0.out hZ)
  replace Za1 := mkHid (keep Za1.out hZ)
  replace Za2 := mkHid (keep Za2.out hZ)
  replace Zb0 := mkHid (keep Zb0.out hZ)
  replace Zb1 := mkHid (keep Zb1.out hZ)
  replace Zb2 := mkHid (keep Zb2.out hZ)
  replace Zv0 := mkHid (keep Zv0.out hZ)
  replace Zv1 := mkHid (keep Zv1.out hZ)
  replace Zv2 := mkHid (keep Zv2.out hZ)
  replace D0 := mkHid (keep D0.out hZ)
  replace D1 := mkHid (keep D1.out hZ)
  replace D2 := mkHid (keep D2.out hZ)
  replace HB := mkHid (HB.out.then hZ)
  clear hZ
  go_wp2_with fail
  refine head12_r10 x97 PB P3 a1 a2 a3 a4 a7 a11 a12 a13 c1 c2 c3 c4 c7 c11 c12 c13 RL R1 R2 R3 RM RN RO RX RY RT2 RT1 RD2 D0 D1 D2 Zv0 Zv1 Zv2 _ ?_ ?_ ?_ ?_ ?_ ?_ ?_ ?_ ?_ ?_ ?_ ?_ ?_ ?_ ?_ ?_
  · rfl
  · rfl
  · rfl
  · rfl
  · rfl
  · rfl
  · rfl
  · rfl
  · rfl
  · rfl
  · rfl
  · rfl
  · rfl
  · rfl
  · rfl
  intro A V hdf s0 hb
  refine (‹∀ (a : Act) (w : World), Code.wp Tryz.prog Code.ret _ a w → _› _ _ ?_)
  refine wp_ret (bodyPost_ret (P := Tryz.prog) (fn := Tryz.f5) (R := fun e w' => e = .returned (.bool true) ∧ Below w.heap.size w w') (v := .bool true) ?_ hdf ⟨rfl, HB.out.then hb⟩)
  rw [results_tmp rfl, show A.tmps.getD 0 undef = .bool true from s0.eval]
end Go.Proofs.YtmmnfkggfnokjaaGreat
