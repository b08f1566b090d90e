import Derived.Test.YtefnmjoapmnkbaaZr6
import Derived.OrdersHeld
import Derived.Deep.RegionHeld3
set_option linter.unusedVariables false
namespace Go.Proofs.Ytefnmjoapmnkbaa
open Go.RowKit

theorem new8_any (r : Int) (w : World) : Calls Try.prog 16 #[.int .i64 r] w fun e w' => e = .returned (.agg #[.slice none 0 0, .slice none 0 0, .int .i64 (roomI r)]) ∧ Below w.heap.size w w' := new_any r w
set_option maxRecDepth 100000 in
set_option maxHeartbeats 64000000 in
theorem head8_any (w : World) : Calls Try.prog 12 #[] w fun e w' => e = .returned (.bool true) ∧ Below w.heap.size w w' := by
  go_enter Try.func12, Try.ntmps12
  have HB := mkHid (Below.refl w.heap.size w)
  go_wp2_with fail
  refine (new_any 7 w).mono ?_
  rintro e w1 ⟨rfl, hw1⟩
  replace HB := mkHid (HB.out.then hw1)
  clear hw1
  rw [show roomI 7 = 7 from rfl]
  go_wp2_with fail
  refine (f8_any _ _ _).mono ?_
  rintro e w2 ⟨rfl, hw2⟩
  replace HB := mkHid (HB.out.then hw2)
  clear hw2
  go_wp2_with fail
  refine (v8_any _ _).mono ?_
  rintro e w3 ⟨rfl, hw3⟩
  replace HB := mkHid (HB.out.then hw3)
  clear hw3
  go_wp2_with fail
  refine (f8_any _ _ _).mono ?_
  rintro e w4 ⟨rfl, hw4⟩
  replace HB := mkHid (HB.out.then hw4)
  clear hw4
  go_wp2_with fail
  refine (v8_any _ _).mono ?_
  rintro e w5 ⟨rfl, hw5⟩
  replace HB := mkHid (HB.out.then hw5)
  clear hw5
  go_wp2_with fail
  refine (n8_any _ _).mono ?_
  rintro e w6 ⟨rfl, hw6⟩
  replace HB := mkHid (HB.out.then hw6)
  clear hw6
  go_wp2_with fail
  have q_T : Row (w6.alloc (.cells #[.int .i64 3, .string ⟨#[102]⟩, .int .i64 3, .int .i64 1, .string ⟨#[]⟩, .int .i64 0, .int .i64 3, .string ⟨#[103]⟩, .int .i64 1, .int .i64 1, .string ⟨#[]⟩, .int .i64 0, .int .i64 2, .string ⟨#[]⟩, .int .i64 7] 54)) (some ⟨w6.heap.size, 0, none⟩) 5 hdT := cellsH w6 hdT 5 _ rfl rfl (by decide +kernel) (by decide) _
  have hw7 := (Below.refl w6.heap.size w6).new (.cells #[.int .i64 3, .string ⟨#[102]⟩, .int .i64 3, .int .i64 1, .string ⟨#[]⟩, .int .i64 0, .int .i64 3, .string ⟨#[103]⟩, .int .i64 1, .int .i64 1, .string ⟨#[]⟩, .int .i64 0, .int .i64 2, .string ⟨#[]⟩, .int .i64 7] 54)
  replace HB := mkHid (HB.out.then hw7)
  obtain ⟨w7, hV⟩ : ∃ V, w6.alloc (.cells #[.int .i64 3, .string ⟨#[102]⟩, .int .i64 3, .int .i64 1, .string ⟨#[]⟩, .int .i64 0, .int .i64 3, .string ⟨#[103]⟩, .int .i64 1, .int .i64 1, .string ⟨#[]⟩, .int .i64 0, .int .i64 2, .string ⟨#[]⟩, .int .i64 7] 54) = V := ⟨_, rfl⟩
  obtain ⟨GT, hG⟩ : ∃ V, w6.heap.size = V := ⟨_, rfl⟩
  rw [hV] at  HB q_T ⊢
  rw [hG] at q_T ⊢
  have RT := mkHid q_T
  clear hV hG q_T hw7
  refine (putK (n2 := 6) (k2 := 1) hdTm (nil_row _) (nil_row _) RT.out (nil_row _) hdTm_flat hdTm_ok (by decide) (by decide) (by decide) (by decide) (by decide +kernel) put_h1 (by decide) rfl rfl rfl rfl rfl rfl).mono ?_
  rintro e w8 ⟨a1, c1, t1, d1, p1, q1, rfl, r1, s1, u1, hw8⟩
  clear RT
  replace HB := mkHid (HB.out.then hw8)
  clear hw8
  have R1 := mkHid (r1)
  have S1 := mkHid (s1)
  have U1 := mkHid (u1)
  clear r1 s1 u1
  go_wp2_with fail
  have q_1 : HBx (w8.alloc (.cells #[.slice a1 6 c1, .slice t1 0 d1, .int .i64 7] 25)) w8.heap.size a1 6 c1 t1 0 d1 7 := ⟨World.cell?_alloc_at _ _ _ 0 rfl, World.cell?_alloc_at _ _ _ 1 rfl, World.cell?_alloc_at _ _ _ 2 rfl⟩
  have hw9 := (Below.refl w8.heap.size w8).new (.cells #[.slice a1 6 c1, .slice t1 0 d1, .int .i64 7] 25)
  replace R1 := mkHid (R1.out.below hw9)
  replace S1 := mkHid (S1.out.below hw9)
  replace U1 := mkHid (U1.out.below hw9)
  replace HB := mkHid (HB.out.then hw9)
  obtain ⟨w9, hV⟩ : ∃ V, w8.alloc (.cells #[.slice a1 6 c1, .slice t1 0 d1, .int .i64 7] 25) = V := ⟨_, rfl⟩
  obtain ⟨G1, hG⟩ : ∃ V, w8.heap.size = V := ⟨_, rfl⟩
  rw [hV] at R1 S1 U1 HB q_1 ⊢
  rw [hG] at q_1 ⊢
  have X1 := mkHid q_1
  clear hV hG q_1 hw9
  generalize hA : Act.mk _ _ = A0
  refine Code.wp_mono (Q := fun ev A' W' => ev = .normal ∧ ∃ (e41 e42 e43 e44 e45 e40 e46 e47 e48 e49 : Value) (B : Nat) (b2 : Option Addr) (x2 : Nat) (m2 : Option Addr) (y2 : Nat) (f2 : Option Addr) (g2 : Nat), A' = ((((((((((((((A0.put (some 41) e41).put (some 42) e42).put (some 43) e43).put (some 44) e44).put (some 45) e45).put (some 40) e40).put (some 46) e46).put (some 47) e47).put (some 48) e48).put (some 49) e49).put (some 5) (.pointer (some ⟨B, 0, none⟩))).put (some 6) (.int .i64 6)).put (some 7) (.slice f2 1 g2)).put (some 8) (.int .i64 0)) ∧ HBx W' B b2 7 x2 m2 0 y2 7 ∧ Row W' b2 x2 hdG ∧ Row W' m2 y2 ([] : List Int) ∧ Row W' f2 g2 ([1] : List Int) ∧ Below w9.heap.size w9 W') ?_ ?_
  rotate_left
  · subst hA
    have HS : Hid (∀ X, Below w9.heap.size w9 X → HBx X G1 a1 6 c1 t1 0 d1 7) := fun X h => X1.out.below h
    have hd0 : Below w9.heap.size w9 w9.drew := (Below.refl _ _).drew
    refine wp_region_noPanic ?_
    refine wp_region_held_drew (S := fun X => HBx X G1 a1 6 c1 t1 0 d1 7) (by kernel_rfl) (HS.out _ hd0) (fun hSd => ?_)
    obtain ⟨v0, hx0⟩ : ∃ X, w9.drew = X := ⟨_, rfl⟩
    rw [hx0] at hd0 hSd ⊢
    clear hx0
    refine wpAnyH_take (i := 0) (oi := _) (v := ?_) rfl (by kernel_rfl) (by kernel_rfl) (by kernel_rfl) (fun _ _ _ h => h) (Or.inl ⟨by rfl, ?_⟩) (by assumption) ?_
    rotate_left
    · (intro w' hSw; obtain ⟨q0, q1, q2⟩ := hSw; go_simp; try with_reducible rfl)
    (try simp only [List.getElem_toArray, List.getElem_cons_succ, List.getElem_cons_zero, Act.put, List.setIfInBounds_toArray, List.set_cons_zero, List.set_cons_succ])
    refine wpAnyH_take (i := 3) (oi := _) (v := ?_) rfl (by kernel_rfl) (by kernel_rfl) (by kernel_rfl) (fun _ _ _ h => h) (Or.inl ⟨by rfl, ?_⟩) (by assumption) ?_
    rotate_left
    · (intro w' hSw; obtain ⟨q0, q1, q2⟩ := hSw; go_simp; try with_reducible rfl)
    (try simp only [List.getElem_toArray, List.getElem_cons_succ, List.getElem_cons_zero, Act.put, List.setIfInBounds_toArray, List.set_cons_zero, List.set_cons_succ])
    refine wpAnyH_ready (rs := [1, 10]) (by kernel_rfl) (by simp) ?_
    refine AllReadyH.cons (o := _) rfl (fun K hK => ?_) ?_
    · skip
      go_simp
      refine (n8_any 7 _).mono ?_
      rintro e v1 ⟨rfl, hbv1⟩
      have hd1 := hd0.then hbv1
      try dsimp only
      clear hbv1
      refine hK.out _ _ (HS.out _ hd1) (fun hSv1 => ?_)
      clear hK K
      (try simp only [List.getElem_toArray, List.getElem_cons_succ, List.getElem_cons_zero, Act.put, List.setIfInBounds_toArray, List.set_cons_zero, List.set_cons_succ])
      refine wpAnyH_ready (rs := [2, 10]) (by kernel_rfl) (by simp) ?_
      refine AllReadyH.cons (o := _) rfl (fun K hK => ?_) ?_
      · skip
        go_simp
        try dsimp only
        have q0 : Row (v1.alloc (.cells #[.int .i64 2, .string ⟨#[]⟩, .int .i64 7] 54)) (some ⟨v1.heap.size, 0, none⟩) 1 [hN 7] := cellsH v1 [hN 7] 1 _ rfl rfl (by decide +kernel) (by decide) _
        have hbv2 := (Below.refl v1.heap.size v1).new (.cells #[.int .i64 2, .string ⟨#[]⟩, .int .i64 7] 54)
        have hd2 := hd1.then hbv2
        clear hbv2
        refine hK.out _ _ (HS.out _ hd2) (fun hSv2 => ?_)
        clear hK K
        (try simp only [List.getElem_toArray, List.getElem_cons_succ, List.getElem_cons_zero, Act.put, List.setIfInBounds_toArray, List.set_cons_zero, List.set_cons_succ])
        obtain ⟨v2, hV⟩ : ∃ V, v1.alloc (.cells #[.int .i64 2, .string ⟨#[]⟩, .int .i64 7] 54) = V := ⟨_, rfl⟩
        obtain ⟨G, hG⟩ : ∃ V, v1.heap.size = V := ⟨_, rfl⟩
        rw [hV] at q0 hd2 hSv2  ⊢
        rw [hG] at q0 ⊢
        have RQ := mkHid q0
        clear hV hG q0
        refine wpAnyH_ready (rs := [4, 10]) (by kernel_rfl) (by simp) ?_
        refine AllReadyH.cons (o := _) rfl (fun K hK => ?_) ?_
        · skip
          go_simp
          refine (putK (n2 := 7) (k2 := 1) (.mk (hN 7) []) (R1.out.below hd2) (S1.out.below hd2) RQ.out (U1.out.below hd2) (by simp [Tm.flat, flats]) hdN_ok (by decide) (by decide) (by decide) (by decide) (by decide +kernel) put_h2 (by decide) rfl rfl rfl rfl rfl rfl).mono ?_
          rintro e v3 ⟨bb, xx, mm, yy, ff, gg, rfl, r2, s2, u2, hbv3⟩
          replace RQ := mkHid (RQ.out.below hbv3)
          have hd3 := hd2.then hbv3
          try dsimp only
          clear hbv3
          have Hr2 := mkHid r2
          clear r2
          have Hs2 := mkHid s2
          clear s2
          have Hu2 := mkHid u2
          clear u2
          refine hK.out _ _ (HS.out _ hd3) (fun hSv3 => ?_)
          clear hK K
          (try simp only [List.getElem_toArray, List.getElem_cons_succ, List.getElem_cons_zero, Act.put, List.setIfInBounds_toArray, List.set_cons_zero, List.set_cons_succ])
          refine wpAnyH_take (i := 5) (oi := _) (v := ?_) rfl (by kernel_rfl) (by kernel_rfl) (by kernel_rfl) (fun _ _ _ h => h) (Or.inl ⟨by rfl, ?_⟩) (by assumption) ?_
          rotate_left
          · (intro w' hSw; obtain ⟨q0, q1, q2⟩ := hSw; go_simp; try with_reducible rfl)
          (try simp only [List.getElem_toArray, List.getElem_cons_succ, List.getElem_cons_zero, Act.put, List.setIfInBounds_toArray, List.set_cons_zero, List.set_cons_succ])
          refine wpAnyH_take (i := 6) (oi := _) (v := ?_) rfl (by kernel_rfl) (by kernel_rfl) (by kernel_rfl) (fun _ _ _ h => h) (Or.inl ⟨by rfl, ?_⟩) (by assumption) ?_
          rotate_left
          · (intro w' hSw; obtain ⟨q0, q1, q2⟩ := hSw; go_simp; try with_reducible rfl)
          (try simp only [List.getElem_toArray, List.getElem_cons_succ, List.getElem_cons_zero, Act.put, List.setIfInBounds_toArray, List.set_cons_zero, List.set_cons_succ])
          refine wpAnyH_take (i := 7) (oi := _) (v := ?_) rfl (by kernel_rfl) (by kernel_rfl) (by kernel_rfl) (fun _ _ _ h => h) (Or.inl ⟨by rfl, ?_⟩) (by assumption) ?_
          rotate_left
          · (intro w' hSw; obtain ⟨q0, q1, q2⟩ := hSw; go_simp; try with_reducible rfl)
          (try simp only [List.getElem_toArray, List.getElem_cons_succ, List.getElem_cons_zero, Act.put, List.setIfInBounds_toArray, List.set_cons_zero, List.set_cons_succ])
          refine wpAnyH_take (i := 8) (oi := _) (v := ?_) rfl (by kernel_rfl) (by kernel_rfl) (by kernel_rfl) (fun _ _ _ h => h) (Or.inl ⟨by rfl, ?_⟩) (by assumption) ?_
          rotate_left
          · (intro w' hSw; obtain ⟨q0, q1, q2⟩ := hSw; go_simp; try with_reducible rfl)
          (try simp only [List.getElem_toArray, List.getElem_cons_succ, List.getElem_cons_zero, Act.put, List.setIfInBounds_toArray, List.set_cons_zero, List.set_cons_succ])
          refine wpAnyH_take (i := 9) (oi := _) (v := ?_) rfl (by kernel_rfl) (by kernel_rfl) (by kernel_rfl) (fun _ _ _ h => h) (Or.inl ⟨by rfl, ?_⟩) (by assumption) ?_
          rotate_left
          · (intro w' hSw; obtain ⟨q0, q1, q2⟩ := hSw; go_simp; try with_reducible rfl)
          (try simp only [List.getElem_toArray, List.getElem_cons_succ, List.getElem_cons_zero, Act.put, List.setIfInBounds_toArray, List.set_cons_zero, List.set_cons_succ])
          refine wpAnyH_ready (rs := [10]) (by kernel_rfl) (by simp) ?_
          refine AllReadyH.cons (o := _) rfl (fun K hK => ?_) AllReadyH.nil
          go_simp
          try dsimp only
          have q0 : ZB (v3.alloc (.cells #[.slice none 0 0, .slice none 0 0, .int .i64 0] 25)) v3.heap.size := ZB.new v3
          have hge := hd3.size
          have hbv4 := (Below.refl v3.heap.size v3).new (.cells #[.slice none 0 0, .slice none 0 0, .int .i64 0] 25)
          replace RQ := mkHid (RQ.out.below hbv4)
          replace Hr2 := mkHid (Hr2.out.below hbv4)
          replace Hs2 := mkHid (Hs2.out.below hbv4)
          replace Hu2 := mkHid (Hu2.out.below hbv4)
          have hd4 := hd3.then hbv4
          clear hbv4
          refine hK.out _ _ (HS.out _ hd4) (fun hSv4 => ?_)
          clear hK K
          (try simp only [List.getElem_toArray, List.getElem_cons_succ, List.getElem_cons_zero, Act.put, List.setIfInBounds_toArray, List.set_cons_zero, List.set_cons_succ])
          obtain ⟨v4, hV⟩ : ∃ V, v3.alloc (.cells #[.slice none 0 0, .slice none 0 0, .int .i64 0] 25) = V := ⟨_, rfl⟩
          obtain ⟨B, hG⟩ : ∃ V, v3.heap.size = V := ⟨_, rfl⟩
          rw [hV] at q0 hd4 hSv4 RQ Hr2 Hs2 Hu2 ⊢
          rw [hG] at q0 hge ⊢
          have RZ := mkHid q0
          clear hV hG q0
          have HGE := mkHid hge
          clear hge
          refine wpAnyH_ready (rs := [11]) (by kernel_rfl) (by simp) ?_
          refine AllReadyH.cons (o := _) rfl (fun K hK => ?_) AllReadyH.nil
          have z0 := RZ.out.cell 0
          have z1 := RZ.out.cell 1
          have z2 := RZ.out.cell 2
          have y0 := RZ.out.froz 0
          have y1 := RZ.out.froz 1
          have y2' := RZ.out.froz 2
          simp only [List.getElem?_toArray, List.getElem?_cons_zero, List.getElem?_cons_succ] at z0 z1 z2
          go_simp
          try dsimp only
          have hbx : HBx (((v4.setCell ⟨B, 0, none⟩ (.slice bb 7 xx)).setCell ⟨B, 1, none⟩ (.slice mm 0 yy)).setCell ⟨B, 2, none⟩ (.int .i64 7)) B bb 7 xx mm 0 yy 7 := HBx.set3 RZ.out
          have ho := Oth.set3 v4 B (.slice bb 7 xx) (.slice mm 0 yy) (.int .i64 7)
          have r2 := ho.cels RZ.out Hr2.out
          have s2 := ho.ints RZ.out Hs2.out (by simp)
          have u2 := ho.ints RZ.out Hu2.out (by simp)
          have hd5 : Below w9.heap.size w9 (((v4.setCell ⟨B, 0, none⟩ (.slice bb 7 xx)).setCell ⟨B, 1, none⟩ (.slice mm 0 yy)).setCell ⟨B, 2, none⟩ (.int .i64 7)) := hd4.trans ((set3 B v4 _ _ _).mono HGE.out)
          clear z0 z1 z2 y0 y1 y2'
          refine hK.out _ _ (HS.out _ hd5) (fun hSv5 => ?_)
          clear hK K
          (try simp only [List.getElem_toArray, List.getElem_cons_succ, List.getElem_cons_zero, Act.put, List.setIfInBounds_toArray, List.set_cons_zero, List.set_cons_succ])
          have HX2 := mkHid hbx
          have Hr2 := mkHid r2
          have Hs2 := mkHid s2
          have Hu2 := mkHid u2
          have HD := mkHid hd5
          clear hbx r2 s2 u2 ho
          refine wpAnyH_take (i := 12) (oi := _) (v := ?_) rfl (by kernel_rfl) (by kernel_rfl) (by kernel_rfl) (fun _ _ _ h => h) (Or.inl ⟨by rfl, ?_⟩) (by assumption) ?_
          rotate_left
          · (intro w' hSw; obtain ⟨q0, q1, q2⟩ := hSw; go_simp; try with_reducible rfl)
          (try simp only [List.getElem_toArray, List.getElem_cons_succ, List.getElem_cons_zero, Act.put, List.setIfInBounds_toArray, List.set_cons_zero, List.set_cons_succ])
          refine wpAnyH_take (i := 13) (oi := _) (v := ?_) rfl (by kernel_rfl) (by kernel_rfl) (by kernel_rfl) (fun _ _ _ h => h) (Or.inl ⟨by rfl, ?_⟩) (by assumption) ?_
          rotate_left
          · (intro w' hSw; obtain ⟨q0, q1, q2⟩ := hSw; go_simp; try with_reducible rfl)
          (try simp only [List.getElem_toArray, List.getElem_cons_succ, List.getElem_cons_zero, Act.put, List.setIfInBounds_toArray, List.set_cons_zero, List.set_cons_succ])
          refine wpAnyH_take (i := 14) (oi := _) (v := ?_) rfl (by kernel_rfl) (by kernel_rfl) (by kernel_rfl) (fun _ _ _ h => h) (Or.inl ⟨by rfl, ?_⟩) (by assumption) ?_
          rotate_left
          · (intro w' hSw; obtain ⟨q0, q1, q2⟩ := hSw; go_simp; try with_reducible rfl)
          (try simp only [List.getElem_toArray, List.getElem_cons_succ, List.getElem_cons_zero, Act.put, List.setIfInBounds_toArray, List.set_cons_zero, List.set_cons_succ])
          refine wpAnyH_done (by kernel_rfl) (NoPanic.normal ?_) _
          refine ⟨rfl, ?_⟩
          (repeat apply Exists.intro)
          exact ⟨rfl, HX2.out, Hr2.out, Hs2.out, Hu2.out, HD.out⟩
        refine AllReadyH.cons (o := _) rfl (fun K hK => ?_) AllReadyH.nil
        go_simp
        try dsimp only
        have q0 : ZB (v2.alloc (.cells #[.slice none 0 0, .slice none 0 0, .int .i64 0] 25)) v2.heap.size := ZB.new v2
        have hge := hd2.size
        have hbv6 := (Below.refl v2.heap.size v2).new (.cells #[.slice none 0 0, .slice none 0 0, .int .i64 0] 25)
        replace RQ := mkHid (RQ.out.below hbv6)
        have hd6 := hd2.then hbv6
        clear hbv6
        refine hK.out _ _ (HS.out _ hd6) (fun hSv6 => ?_)
        clear hK K
        (try simp only [List.getElem_toArray, List.getElem_cons_succ, List.getElem_cons_zero, Act.put, List.setIfInBounds_toArray, List.set_cons_zero, List.set_cons_succ])
        obtain ⟨v6, hV⟩ : ∃ V, v2.alloc (.cells #[.slice none 0 0, .slice none 0 0, .int .i64 0] 25) = V := ⟨_, rfl⟩
        obtain ⟨B, hG⟩ : ∃ V, v2.heap.size = V := ⟨_, rfl⟩
        rw [hV] at q0 hd6 hSv6 RQ ⊢
        rw [hG] at q0 hge ⊢
        have RZ := mkHid q0
        clear hV hG q0
        have HGE := mkHid hge
        clear hge
        refine wpAnyH_ready (rs := [4]) (by kernel_rfl) (by simp) ?_
        refine AllReadyH.cons (o := _) rfl (fun K hK => ?_) AllReadyH.nil
        go_simp
        refine (putK (n2 := 7) (k2 := 1) (.mk (hN 7) []) (R1.out.below hd6) (S1.out.below hd6) RQ.out (U1.out.below hd6) (by simp [Tm.flat, flats]) hdN_ok (by decide) (by decide) (by decide) (by decide) (by decide +kernel) put_h2 (by decide) rfl rfl rfl rfl rfl rfl).mono ?_
        rintro e v7 ⟨bb, xx, mm, yy, ff, gg, rfl, r2, s2, u2, hbv7⟩
        replace RQ := mkHid (RQ.out.below hbv7)
        replace RZ := mkHid (RZ.out.below hbv7)
        have hd7 := hd6.then hbv7
        try dsimp only
        clear hbv7
        have Hr2 := mkHid r2
        clear r2
        have Hs2 := mkHid s2
        clear s2
        have Hu2 := mkHid u2
        clear u2
        refine hK.out _ _ (HS.out _ hd7) (fun hSv7 => ?_)
        clear hK K
        (try simp only [List.getElem_toArray, List.getElem_cons_succ, List.getElem_cons_zero, Act.put, List.setIfInBounds_toArray, List.set_cons_zero, List.set_cons_succ])
        refine wpAnyH_take (i := 5) (oi := _) (v := ?_) rfl (by kernel_rfl) (by kernel_rfl) (by kernel_rfl) (fun _ _ _ h => h) (Or.inl ⟨by rfl, ?_⟩) (by assumption) ?_
        rotate_left
        · (intro w' hSw; obtain ⟨q0, q1, q2⟩ := hSw; go_simp; try with_reducible rfl)
        (try simp only [List.getElem_toArray, List.getElem_cons_succ, List.getElem_cons_zero, Act.put, List.setIfInBounds_toArray, List.set_cons_zero, List.set_cons_succ])
        refine wpAnyH_take (i := 6) (oi := _) (v := ?_) rfl (by kernel_rfl) (by kernel_rfl) (by kernel_rfl) (fun _ _ _ h => h) (Or.inl ⟨by rfl, ?_⟩) (by assumption) ?_
        rotate_left
        · (intro w' hSw; obtain ⟨q0, q1, q2⟩ := hSw; go_simp; try with_reducible rfl)
        (try simp only [List.getElem_toArray, List.getElem_cons_succ, List.getElem_cons_zero, Act.put, List.setIfInBounds_toArray, List.set_cons_zero, List.set_cons_succ])
        refine wpAnyH_take (i := 7) (oi := _) (v := ?_) rfl (by kernel_rfl) (by kernel_rfl) (by kernel_rfl) (fun _ _ _ h => h) (Or.inl ⟨by rfl, ?_⟩) (by assumption) ?_
        rotate_left
        · (intro w' hSw; obtain ⟨q0, q1, q2⟩ := hSw; go_simp; try with_reducible rfl)
        (try simp only [List.getElem_toArray, List.getElem_cons_succ, List.getElem_cons_zero, Act.put, List.setIfInBounds_toArray, List.set_cons_zero, List.set_cons_succ])
        refine wpAnyH_take (i := 8) (oi := _) (v := ?_) rfl (by kernel_rfl) (by kernel_rfl) (by kernel_rfl) (fun _ _ _ h => h) (Or.inl ⟨by rfl, ?_⟩) (by assumption) ?_
        rotate_left
        · (intro w' hSw; obtain ⟨q0, q1, q2⟩ := hSw; go_simp; try with_reducible rfl)
        (try simp only [List.getElem_toArray, List.getElem_cons_succ, List.getElem_cons_zero, Act.put, List.setIfInBounds_toArray, List.set_cons_zero, List.set_cons_succ])
        refine wpAnyH_take (i := 9) (oi := _) (v := ?_) rfl (by kernel_rfl) (by kernel_rfl) (by kernel_rfl) (fun _ _ _ h => h) (Or.inl ⟨by rfl, ?_⟩) (by assumption) ?_
        rotate_left
        · (intro w' hSw; obtain ⟨q0, q1, q2⟩ := hSw; go_simp; try with_reducible rfl)
        (try simp only [List.getElem_toArray, List.getElem_cons_succ, List.getElem_cons_zero, Act.put, List.setIfInBounds_toArray, List.set_cons_zero, List.set_cons_succ])
        refine wpAnyH_ready (rs := [11]) (by kernel_rfl) (by simp) ?_
        refine AllReadyH.cons (o := _) rfl (fun K hK => ?_) AllReadyH.nil
        have z0 := RZ.out.cell 0
        have z1 := RZ.out.cell 1
        have z2 := RZ.out.cell 2
        have y0 := RZ.out.froz 0
        have y1 := RZ.out.froz 1
        have y2' := RZ.out.froz 2
        simp only [List.getElem?_toArray, List.getElem?_cons_zero, List.getElem?_cons_succ] at z0 z1 z2
        go_simp
        try dsimp only
        have hbx : HBx (((v7.setCell ⟨B, 0, none⟩ (.slice bb 7 xx)).setCell ⟨B, 1, none⟩ (.slice mm 0 yy)).setCell ⟨B, 2, none⟩ (.int .i64 7)) B bb 7 xx mm 0 yy 7 := HBx.set3 RZ.out
        have ho := Oth.set3 v7 B (.slice bb 7 xx) (.slice mm 0 yy) (.int .i64 7)
        have r2 := ho.cels RZ.out Hr2.out
        have s2 := ho.ints RZ.out Hs2.out (by simp)
        have u2 := ho.ints RZ.out Hu2.out (by simp)
        have hd8 : Below w9.heap.size w9 (((v7.setCell ⟨B, 0, none⟩ (.slice bb 7 xx)).setCell ⟨B, 1, none⟩ (.slice mm 0 yy)).setCell ⟨B, 2, none⟩ (.int .i64 7)) := hd7.trans ((set3 B v7 _ _ _).mono HGE.out)
        clear z0 z1 z2 y0 y1 y2'
        refine hK.out _ _ (HS.out _ hd8) (fun hSv8 => ?_)
        clear hK K
        (try simp only [List.getElem_toArray, List.getElem_cons_succ, List.getElem_cons_zero, Act.put, List.setIfInBounds_toArray, List.set_cons_zero, List.set_cons_succ])
        have HX2 := mkHid hbx
        have Hr2 := mkHid r2
        have Hs2 := mkHid s2
        have Hu2 := mkHid u2
        have HD := mkHid hd8
        clear hbx r2 s2 u2 ho
        refine wpAnyH_take (i := 12) (oi := _) (v := ?_) rfl (by kernel_rfl) (by kernel_rfl) (by kernel_rfl) (fun _ _ _ h => h) (Or.inl ⟨by rfl, ?_⟩) (by assumption) ?_
        rotate_left
        · (intro w' hSw; obtain ⟨q0, q1, q2⟩ := hSw; go_simp; try with_reducible rfl)
        (try simp only [List.getElem_toArray, List.getElem_cons_succ, List.getElem_cons_zero, Act.put, List.setIfInBounds_toArray, List.set_cons_zero, List.set_cons_succ])
        refine wpAnyH_take (i := 13) (oi := _) (v := ?_) rfl (by kernel_rfl) (by kernel_rfl) (by kernel_rfl) (fun _ _ _ h => h) (Or.inl ⟨by rfl, ?_⟩) (by assumption) ?_
        rotate_left
        · (intro w' hSw; obtain ⟨q0, q1, q2⟩ := hSw; go_simp; try with_reducible rfl)
        (try simp only [List.getElem_toArray, List.getElem_cons_succ, List.getElem_cons_zero, Act.put, List.setIfInBounds_toArray, List.set_cons_zero, List.set_cons_succ])
        refine wpAnyH_take (i := 14) (oi := _) (v := ?_) rfl (by kernel_rfl) (by kernel_rfl) (by kernel_rfl) (fun _ _ _ h => h) (Or.inl ⟨by rfl, ?_⟩) (by assumption) ?_
        rotate_left
        · (intro w' hSw; obtain ⟨q0, q1, q2⟩ := hSw; go_simp; try with_reducible rfl)
        (try simp only [List.getElem_toArray, List.getElem_cons_succ, List.getElem_cons_zero, Act.put, List.setIfInBounds_toArray, List.set_cons_zero, List.set_cons_succ])
        refine wpAnyH_done (by kernel_rfl) (NoPanic.normal ?_) _
        refine ⟨rfl, ?_⟩
        (repeat apply Exists.intro)
        exact ⟨rfl, HX2.out, Hr2.out, Hs2.out, Hu2.out, HD.out⟩
      refine AllReadyH.cons (o := _) rfl (fun K hK => ?_) AllReadyH.nil
      go_simp
      try dsimp only
      have q0 : ZB (v1.alloc (.cells #[.slice none 0 0, .slice none 0 0, .int .i64 0] 25)) v1.heap.size := ZB.new v1
      have hge := hd1.size
      have hbv9 := (Below.refl v1.heap.size v1).new (.cells #[.slice none 0 0, .slice none 0 0, .int .i64 0] 25)
      have hd9 := hd1.then hbv9
      clear hbv9
      refine hK.out _ _ (HS.out _ hd9) (fun hSv9 => ?_)
      clear hK K
      (try simp only [List.getElem_toArray, List.getElem_cons_succ, List.getElem_cons_zero, Act.put, List.setIfInBounds_toArray, List.set_cons_zero, List.set_cons_succ])
      obtain ⟨v9, hV⟩ : ∃ V, v1.alloc (.cells #[.slice none 0 0, .slice none 0 0, .int .i64 0] 25) = V := ⟨_, rfl⟩
      obtain ⟨B, hG⟩ : ∃ V, v1.heap.size = V := ⟨_, rfl⟩
      rw [hV] at q0 hd9 hSv9  ⊢
      rw [hG] at q0 hge ⊢
      have RZ := mkHid q0
      clear hV hG q0
      have HGE := mkHid hge
      clear hge
      refine wpAnyH_ready (rs := [2]) (by kernel_rfl) (by simp) ?_
      refine AllReadyH.cons (o := _) rfl (fun K hK => ?_) AllReadyH.nil
      go_simp
      try dsimp only
      have q0 : Row (v9.alloc (.cells #[.int .i64 2, .string ⟨#[]⟩, .int .i64 7] 54)) (some ⟨v9.heap.size, 0, none⟩) 1 [hN 7] := cellsH v9 [hN 7] 1 _ rfl rfl (by decide +kernel) (by decide) _
      have hbv10 := (Below.refl v9.heap.size v9).new (.cells #[.int .i64 2, .string ⟨#[]⟩, .int .i64 7] 54)
      replace RZ := mkHid (RZ.out.below hbv10)
      have hd10 := hd9.then hbv10
      clear hbv10
      refine hK.out _ _ (HS.out _ hd10) (fun hSv10 => ?_)
      clear hK K
      (try simp only [List.getElem_toArray, List.getElem_cons_succ, List.getElem_cons_zero, Act.put, List.setIfInBounds_toArray, List.set_cons_zero, List.set_cons_succ])
      obtain ⟨v10, hV⟩ : ∃ V, v9.alloc (.cells #[.int .i64 2, .string ⟨#[]⟩, .int .i64 7] 54) = V := ⟨_, rfl⟩
      obtain ⟨G, hG⟩ : ∃ V, v9.heap.size = V := ⟨_, rfl⟩
      rw [hV] at q0 hd10 hSv10 RZ ⊢
      rw [hG] at q0 ⊢
      have RQ := mkHid q0
      clear hV hG q0
      refine wpAnyH_ready (rs := [4]) (by kernel_rfl) (by simp) ?_
      refine AllReadyH.cons (o := _) rfl (fun K hK => ?_) AllReadyH.nil
      go_simp
      refine (putK (n2 := 7) (k2 := 1) (.mk (hN 7) []) (R1.out.below hd10) (S1.out.below hd10) RQ.out (U1.out.below hd10) (by simp [Tm.flat, flats]) hdN_ok (by decide) (by decide) (by decide) (by decide) (by decide +kernel) put_h2 (by decide) rfl rfl rfl rfl rfl rfl).mono ?_
      rintro e v11 ⟨bb, xx, mm, yy, ff, gg, rfl, r2, s2, u2, hbv11⟩
      replace RZ := mkHid (RZ.out.below hbv11)
      replace RQ := mkHid (RQ.out.below hbv11)
      have hd11 := hd10.then hbv11
      try dsimp only
      clear hbv11
      have Hr2 := mkHid r2
      clear r2
      have Hs2 := mkHid s2
      clear s2
      have Hu2 := mkHid u2
      clear u2
      refine hK.out _ _ (HS.out _ hd11) (fun hSv11 => ?_)
      clear hK K
      (try simp only [List.getElem_toArray, List.getElem_cons_succ, List.getElem_cons_zero, Act.put, List.setIfInBounds_toArray, List.set_cons_zero, List.set_cons_succ])
      refine wpAnyH_take (i := 5) (oi := _) (v := ?_) rfl (by kernel_rfl) (by kernel_rfl) (by kernel_rfl) (fun _ _ _ h => h) (Or.inl ⟨by rfl, ?_⟩) (by assumption) ?_
      rotate_left
      · (intro w' hSw; obtain ⟨q0, q1, q2⟩ := hSw; go_simp; try with_reducible rfl)
      (try simp only [List.getElem_toArray, List.getElem_cons_succ, List.getElem_cons_zero, Act.put, List.setIfInBounds_toArray, List.set_cons_zero, List.set_cons_succ])
      refine wpAnyH_take (i := 6) (oi := _) (v := ?_) rfl (by kernel_rfl) (by kernel_rfl) (by kernel_rfl) (fun _ _ _ h => h) (Or.inl ⟨by rfl, ?_⟩) (by assumption) ?_
      rotate_left
      · (intro w' hSw; obtain ⟨q0, q1, q2⟩ := hSw; go_simp; try with_reducible rfl)
      (try simp only [List.getElem_toArray, List.getElem_cons_succ, List.getElem_cons_zero, Act.put, List.setIfInBounds_toArray, List.set_cons_zero, List.set_cons_succ])
      refine wpAnyH_take (i := 7) (oi := _) (v := ?_) rfl (by kernel_rfl) (by kernel_rfl) (by kernel_rfl) (fun _ _ _ h => h) (Or.inl ⟨by rfl, ?_⟩) (by assumption) ?_
      rotate_left
      · (intro w' hSw; obtain ⟨q0, q1, q2⟩ := hSw; go_simp; try with_reducible rfl)
      (try simp only [List.getElem_toArray, List.getElem_cons_succ, List.getElem_cons_zero, Act.put, List.setIfInBounds_toArray, List.set_cons_zero, List.set_cons_succ])
      refine wpAnyH_take (i := 8) (oi := _) (v := ?_) rfl (by kernel_rfl) (by kernel_rfl) (by kernel_rfl) (fun _ _ _ h => h) (Or.inl ⟨by rfl, ?_⟩) (by assumption) ?_
      rotate_left
      · (intro w' hSw; obtain ⟨q0, q1, q2⟩ := hSw; go_simp; try with_reducible rfl)
      (try simp only [List.getElem_toArray, List.getElem_cons_succ, List.getElem_cons_zero, Act.put, List.setIfInBounds_toArray, List.set_cons_zero, List.set_cons_succ])
      refine wpAnyH_take (i := 9) (oi := _) (v := ?_) rfl (by kernel_rfl) (by kernel_rfl) (by kernel_rfl) (fun _ _ _ h => h) (Or.inl ⟨by rfl, ?_⟩) (by assumption) ?_
      rotate_left
      · (intro w' hSw; obtain ⟨q0, q1, q2⟩ := hSw; go_simp; try with_reducible rfl)
      (try simp only [List.getElem_toArray, List.getElem_cons_succ, List.getElem_cons_zero, Act.put, List.setIfInBounds_toArray, List.set_cons_zero, List.set_cons_succ])
      refine wpAnyH_ready (rs := [11]) (by kernel_rfl) (by simp) ?_
      refine AllReadyH.cons (o := _) rfl (fun K hK => ?_) AllReadyH.nil
      have z0 := RZ.out.cell 0
      have z1 := RZ.out.cell 1
      have z2 := RZ.out.cell 2
      have y0 := RZ.out.froz 0
      have y1 := RZ.out.froz 1
      have y2' := RZ.out.froz 2
      simp only [List.getElem?_toArray, List.getElem?_cons_zero, List.getElem?_cons_succ] at z0 z1 z2
      go_simp
      try dsimp only
      have hbx : HBx (((v11.setCell ⟨B, 0, none⟩ (.slice bb 7 xx)).setCell ⟨B, 1, none⟩ (.slice mm 0 yy)).setCell ⟨B, 2, none⟩ (.int .i64 7)) B bb 7 xx mm 0 yy 7 := HBx.set3 RZ.out
      have ho := Oth.set3 v11 B (.slice bb 7 xx) (.slice mm 0 yy) (.int .i64 7)
      have r2 := ho.cels RZ.out Hr2.out
      have s2 := ho.ints RZ.out Hs2.out (by simp)
      have u2 := ho.ints RZ.out Hu2.out (by simp)
      have hd12 : Below w9.heap.size w9 (((v11.setCell ⟨B, 0, none⟩ (.slice bb 7 xx)).setCell ⟨B, 1, none⟩ (.slice mm 0 yy)).setCell ⟨B, 2, none⟩ (.int .i64 7)) := hd11.trans ((set3 B v11 _ _ _).mono HGE.out)
      clear z0 z1 z2 y0 y1 y2'
      refine hK.out _ _ (HS.out _ hd12) (fun hSv12 => ?_)
      clear hK K
      (try simp only [List.getElem_toArray, List.getElem_cons_succ, List.getElem_cons_zero, Act.put, List.setIfInBounds_toArray, List.set_cons_zero, List.set_cons_succ])
      have HX2 := mkHid hbx
      have Hr2 := mkHid r2
      have Hs2 := mkHid s2
      have Hu2 := mkHid u2
      have HD := mkHid hd12
      clear hbx r2 s2 u2 ho
      refine wpAnyH_take (i := 12) (oi := _) (v := ?_) rfl (by kernel_rfl) (by kernel_rfl) (by kernel_rfl) (fun _ _ _ h => h) (Or.inl ⟨by rfl, ?_⟩) (by assumption) ?_
      rotate_left
      · (intro w' hSw; obtain ⟨q0, q1, q2⟩ := hSw; go_simp; try with_reducible rfl)
      (try simp only [List.getElem_toArray, List.getElem_cons_succ, List.getElem_cons_zero, Act.put, List.setIfInBounds_toArray, List.set_cons_zero, List.set_cons_succ])
      refine wpAnyH_take (i := 13) (oi := _) (v := ?_) rfl (by kernel_rfl) (by kernel_rfl) (by kernel_rfl) (fun _ _ _ h => h) (Or.inl ⟨by rfl, ?_⟩) (by assumption) ?_
      rotate_left
      · (intro w' hSw; obtain ⟨q0, q1, q2⟩ := hSw; go_simp; try with_reducible rfl)
      (try simp only [List.getElem_toArray, List.getElem_cons_succ, List.getElem_cons_zero, Act.put, List.setIfInBounds_toArray, List.set_cons_zero, List.set_cons_succ])
      refine wpAnyH_take (i := 14) (oi := _) (v := ?_) rfl (by kernel_rfl) (by kernel_rfl) (by kernel_rfl) (fun _ _ _ h => h) (Or.inl ⟨by rfl, ?_⟩) (by assumption) ?_
      rotate_left
      · (intro w' hSw; obtain ⟨q0, q1, q2⟩ := hSw; go_simp; try with_reducible rfl)
      (try simp only [List.getElem_toArray, List.getElem_cons_succ, List.getElem_cons_zero, Act.put, List.setIfInBounds_toArray, List.set_cons_zero, List.set_cons_succ])
      refine wpAnyH_done (by kernel_rfl) (NoPanic.normal ?_) _
      refine ⟨rfl, ?_⟩
      (repeat apply Exists.intro)
      exact ⟨rfl, HX2.out, Hr2.out, Hs2.out, Hu2.out, HD.out⟩
    refine AllReadyH.cons (o := _) rfl (fun K hK => ?_) AllReadyH.nil
    go_simp
    try dsimp only
    have q0 : ZB (v0.alloc (.cells #[.slice none 0 0, .slice none 0 0, .int .i64 0] 25)) v0.heap.size := ZB.new v0
    have hge := hd0.size
    have hbv13 := (Below.refl v0.heap.size v0).new (.cells #[.slice none 0 0, .slice none 0 0, .int .i64 0] 25)
    have hd13 := hd0.then hbv13
    clear hbv13
    refine hK.out _ _ (HS.out _ hd13) (fun hSv13 => ?_)
    clear hK K
    (try simp only [List.getElem_toArray, List.getElem_cons_succ, List.getElem_cons_zero, Act.put, List.setIfInBounds_toArray, List.set_cons_zero, List.set_cons_succ])
    obtain ⟨v13, hV⟩ : ∃ V, v0.alloc (.cells #[.slice none 0 0, .slice none 0 0, .int .i64 0] 25) = V := ⟨_, rfl⟩
    obtain ⟨B, hG⟩ : ∃ V, v0.heap.size = V := ⟨_, rfl⟩
    rw [hV] at q0 hd13 hSv13  ⊢
    rw [hG] at q0 hge ⊢
    have RZ := mkHid q0
    clear hV hG q0
    have HGE := mkHid hge
    clear hge
    refine wpAnyH_ready (rs := [1]) (by kernel_rfl) (by simp) ?_
    refine AllReadyH.cons (o := _) rfl (fun K hK => ?_) AllReadyH.nil
    go_simp
    refine (n8_any 7 _).mono ?_
    rintro e v14 ⟨rfl, hbv14⟩
    replace RZ := mkHid (RZ.out.below hbv14)
    have hd14 := hd13.then hbv14
    try dsimp only
    clear hbv14
    refine hK.out _ _ (HS.out _ hd14) (fun hSv14 => ?_)
    clear hK K
    (try simp only [List.getElem_toArray, List.getElem_cons_succ, List.getElem_cons_zero, Act.put, List.setIfInBounds_toArray, List.set_cons_zero, List.set_cons_succ])
    refine wpAnyH_ready (rs := [2]) (by kernel_rfl) (by simp) ?_
    refine AllReadyH.cons (o := _) rfl (fun K hK => ?_) AllReadyH.nil
    go_simp
    try dsimp only
    have q0 : Row (v14.alloc (.cells #[.int .i64 2, .string ⟨#[]⟩, .int .i64 7] 54)) (some ⟨v14.heap.size, 0, none⟩) 1 [hN 7] := cellsH v14 [hN 7] 1 _ rfl rfl (by decide +kernel) (by decide) _
    have hbv15 := (Below.refl v14.heap.size v14).new (.cells #[.int .i64 2, .string ⟨#[]⟩, .int .i64 7] 54)
    replace RZ := mkHid (RZ.out.below hbv15)
    have hd15 := hd14.then hbv15
    clear hbv15
    refine hK.out _ _ (HS.out _ hd15) (fun hSv15 => ?_)
    clear hK K
    (try simp only [List.getElem_toArray, List.getElem_cons_succ, List.getElem_cons_zero, Act.put, List.setIfInBounds_toArray, List.set_cons_zero, List.set_cons_succ])
    obtain ⟨v15, hV⟩ : ∃ V, v14.alloc (.cells #[.int .i64 2, .string ⟨#[]⟩, .int .i64 7] 54) = V := ⟨_, rfl⟩
    obtain ⟨G, hG⟩ : ∃ V, v14.heap.size = V := ⟨_, rfl⟩
    rw [hV] at q0 hd15 hSv15 RZ ⊢
    rw [hG] at q0 ⊢
    have RQ := mkHid q0
    clear hV hG q0
    refine wpAnyH_ready (rs := [4]) (by kernel_rfl) (by simp) ?_
    refine AllReadyH.cons (o := _) rfl (fun K hK => ?_) AllReadyH.nil
    go_simp
    refine (putK (n2 := 7) (k2 := 1) (.mk (hN 7) []) (R1.out.below hd15) (S1.out.below hd15) RQ.out (U1.out.below hd15) (by simp [Tm.flat, flats]) hdN_ok (by decide) (by decide) (by decide) (by decide) (by decide +kernel) put_h2 (by decide) rfl rfl rfl rfl rfl rfl).mono ?_
    rintro e v16 ⟨bb, xx, mm, yy, ff, gg, rfl, r2, s2, u2, hbv16⟩
    replace RZ := mkHid (RZ.out.below hbv16)
    replace RQ := mkHid (RQ.out.below hbv16)
    have hd16 := hd15.then hbv16
    try dsimp only
    clear hbv16
    have Hr2 := mkHid r2
    clear r2
    have Hs2 := mkHid s2
    clear s2
    have Hu2 := mkHid u2
    clear u2
    refine hK.out _ _ (HS.out _ hd16) (fun hSv16 => ?_)
    clear hK K
    (try simp only [List.getElem_toArray, List.getElem_cons_succ, List.getElem_cons_zero, Act.put, List.setIfInBounds_toArray, List.set_cons_zero, List.set_cons_succ])
    refine wpAnyH_take (i := 5) (oi := _) (v := ?_) rfl (by kernel_rfl) (by kernel_rfl) (by kernel_rfl) (fun _ _ _ h => h) (Or.inl ⟨by rfl, ?_⟩) (by assumption) ?_
    rotate_left
    · (intro w' hSw; obtain ⟨q0, q1, q2⟩ := hSw; go_simp; try with_reducible rfl)
    (try simp only [List.getElem_toArray, List.getElem_cons_succ, List.getElem_cons_zero, Act.put, List.setIfInBounds_toArray, List.set_cons_zero, List.set_cons_succ])
    refine wpAnyH_take (i := 6) (oi := _) (v := ?_) rfl (by kernel_rfl) (by kernel_rfl) (by kernel_rfl) (fun _ _ _ h => h) (Or.inl ⟨by rfl, ?_⟩) (by assumption) ?_
    rotate_left
    · (intro w' hSw; obtain ⟨q0, q1, q2⟩ := hSw; go_simp; try with_reducible rfl)
    (try simp only [List.getElem_toArray, List.getElem_cons_succ, List.getElem_cons_zero, Act.put, List.setIfInBounds_toArray, List.set_cons_zero, List.set_cons_succ])
    refine wpAnyH_take (i := 7) (oi := _) (v := ?_) rfl (by kernel_rfl) (by kernel_rfl) (by kernel_rfl) (fun _ _ _ h => h) (Or.inl ⟨by rfl, ?_⟩) (by assumption) ?_
    rotate_left
    · (intro w' hSw; obtain ⟨q0, q1, q2⟩ := hSw; go_simp; try with_reducible rfl)
    (try simp only [List.getElem_toArray, List.getElem_cons_succ, List.getElem_cons_zero, Act.put, List.setIfInBounds_toArray, List.set_cons_zero, List.set_cons_succ])
    refine wpAnyH_take (i := 8) (oi := _) (v := ?_) rfl (by kernel_rfl) (by kernel_rfl) (by kernel_rfl) (fun _ _ _ h => h) (Or.inl ⟨by rfl, ?_⟩) (by assumption) ?_
    rotate_left
    · (intro w' hSw; obtain ⟨q0, q1, q2⟩ := hSw; go_simp; try with_reducible rfl)
    (try simp only [List.getElem_toArray, List.getElem_cons_succ, List.getElem_cons_zero, Act.put, List.setIfInBounds_toArray, List.set_cons_zero, List.set_cons_succ])
    refine wpAnyH_take (i := 9) (oi := _) (v := ?_) rfl (by kernel_rfl) (by kernel_rfl) (by kernel_rfl) (fun _ _ _ h => h) (Or.inl ⟨by rfl, ?_⟩) (by assumption) ?_
    rotate_left
    · (intro w' hSw; obtain ⟨q0, q1, q2⟩ := hSw; go_simp; try with_reducible rfl)
    (try simp only [List.getElem_toArray, List.getElem_cons_succ, List.getElem_cons_zero, Act.put, List.setIfInBounds_toArray, List.set_cons_zero, List.set_cons_succ])
    refine wpAnyH_ready (rs := [11]) (by kernel_rfl) (by simp) ?_
    refine AllReadyH.cons (o := _) rfl (fun K hK => ?_) AllReadyH.nil
    have z0 := RZ.out.cell 0
    have z1 := RZ.out.cell 1
    have z2 := RZ.out.cell 2
    have y0 := RZ.out.froz 0
    have y1 := RZ.out.froz 1
    have y2' := RZ.out.froz 2
    simp only [List.getElem?_toArray, List.getElem?_cons_zero, List.getElem?_cons_succ] at z0 z1 z2
    go_simp
    try dsimp only
    have hbx : HBx (((v16.setCell ⟨B, 0, none⟩ (.slice bb 7 xx)).setCell ⟨B, 1, none⟩ (.slice mm 0 yy)).setCell ⟨B, 2, none⟩ (.int .i64 7)) B bb 7 xx mm 0 yy 7 := HBx.set3 RZ.out
    have ho := Oth.set3 v16 B (.slice bb 7 xx) (.slice mm 0 yy) (.int .i64 7)
    have r2 := ho.cels RZ.out Hr2.out
    have s2 := ho.ints RZ.out Hs2.out (by simp)
    have u2 := ho.ints RZ.out Hu2.out (by simp)
    have hd17 : Below w9.heap.size w9 (((v16.setCell ⟨B, 0, none⟩ (.slice bb 7 xx)).setCell ⟨B, 1, none⟩ (.slice mm 0 yy)).setCell ⟨B, 2, none⟩ (.int .i64 7)) := hd16.trans ((set3 B v16 _ _ _).mono HGE.out)
    clear z0 z1 z2 y0 y1 y2'
    refine hK.out _ _ (HS.out _ hd17) (fun hSv17 => ?_)
    clear hK K
    (try simp only [List.getElem_toArray, List.getElem_cons_succ, List.getElem_cons_zero, Act.put, List.setIfInBounds_toArray, List.set_cons_zero, List.set_cons_succ])
    have HX2 := mkHid hbx
    have Hr2 := mkHid r2
    have Hs2 := mkHid s2
    have Hu2 := mkHid u2
    have HD := mkHid hd17
    clear hbx r2 s2 u2 ho
    refine wpAnyH_take (i := 12) (oi := _) (v := ?_) rfl (by kernel_rfl) (by kernel_rfl) (by kernel_rfl) (fun _ _ _ h => h) (Or.inl ⟨by rfl, ?_⟩) (by assumption) ?_
    rotate_left
    · (intro w' hSw; obtain ⟨q0, q1, q2⟩ := hSw; go_simp; try with_reducible rfl)
    (try simp only [List.getElem_toArray, List.getElem_cons_succ, List.getElem_cons_zero, Act.put, List.setIfInBounds_toArray, List.set_cons_zero, List.set_cons_succ])
    refine wpAnyH_take (i := 13) (oi := _) (v := ?_) rfl (by kernel_rfl) (by kernel_rfl) (by kernel_rfl) (fun _ _ _ h => h) (Or.inl ⟨by rfl, ?_⟩) (by assumption) ?_
    rotate_left
    · (intro w' hSw; obtain ⟨q0, q1, q2⟩ := hSw; go_simp; try with_reducible rfl)
    (try simp only [List.getElem_toArray, List.getElem_cons_succ, List.getElem_cons_zero, Act.put, List.setIfInBounds_toArray, List.set_cons_zero, List.set_cons_succ])
    refine wpAnyH_take (i := 14) (oi := _) (v := ?_) rfl (by kernel_rfl) (by kernel_rfl) (by kernel_rfl) (fun _ _ _ h => h) (Or.inl ⟨by rfl, ?_⟩) (by assumption) ?_
    rotate_left
    · (intro w' hSw; obtain ⟨q0, q1, q2⟩ := hSw; go_simp; try with_reducible rfl)
    (try simp only [List.getElem_toArray, List.getElem_cons_succ, List.getElem_cons_zero, Act.put, List.setIfInBounds_toArray, List.set_cons_zero, List.set_cons_succ])
    refine wpAnyH_done (by kernel_rfl) (NoPanic.normal ?_) _
    refine ⟨rfl, ?_⟩
    (repeat apply Exists.intro)
    exact ⟨rfl, HX2.out, Hr2.out, Hs2.out, Hu2.out, HD.out⟩
  rintro ev A' w10 ⟨rfl, e41, e42, e43, e44, e45, e40, e46, e47, e48, e49, B2, b2, x2, m2, y2, f2, g2, rfl, hbx, r2, s2, u2, hw10⟩
  subst hA
  simp only [Act.put, List.setIfInBounds_toArray, List.set_cons_zero, List.set_cons_succ]
  replace R1 := mkHid (R1.out.below hw10)
  replace S1 := mkHid (S1.out.below hw10)
  replace U1 := mkHid (U1.out.below hw10)
  replace X1 := mkHid (X1.out.below hw10)
  replace HB := mkHid (HB.out.then hw10)
  clear hw10
  have X2 := mkHid (hbx)
  have R2 := mkHid (r2)
  have S2 := mkHid (s2)
  have U2 := mkHid (u2)
  clear hbx r2 s2 u2
  go_wp2_with fail
  generalize hA : Act.mk _ _ = A0
  refine Code.wp_mono (Q := fun ev A' W' => ev = .normal ∧ ∃ (e51 e52 e53 e54 e55 e50 e56 e57 e58 e59 : Value) (B : Nat) (b2 : Option Addr) (x2 : Nat) (m2 : Option Addr) (y2 : Nat) (f2 : Option Addr) (g2 : Nat), A' = ((((((((((((((A0.put (some 51) e51).put (some 52) e52).put (some 53) e53).put (some 54) e54).put (some 55) e55).put (some 50) e50).put (some 56) e56).put (some 57) e57).put (some 58) e58).put (some 59) e59).put (some 9) (.pointer (some ⟨B, 0, none⟩))).put (some 10) (.int .i64 0)).put (some 11) (.slice f2 0 g2)).put (some 12) (.int .i64 80)) ∧ HBx W' B b2 7 x2 m2 0 y2 7 ∧ Row W' b2 x2 hdG ∧ Row W' m2 y2 ([] : List Int) ∧ Row W' f2 g2 ([] : List Int) ∧ Below w10.heap.size w10 W') ?_ ?_
  rotate_left
  · subst hA
    have HS : Hid (∀ X, Below w10.heap.size w10 X → HBx X B2 b2 7 x2 m2 0 y2 7) := fun X h => X2.out.below h
    have hd0 : Below w10.heap.size w10 w10.drew := (Below.refl _ _).drew
    refine wp_region_noPanic ?_
    refine wp_region_held_drew (S := fun X => HBx X B2 b2 7 x2 m2 0 y2 7) (by kernel_rfl) (HS.out _ hd0) (fun hSd => ?_)
    obtain ⟨v0, hx0⟩ : ∃ X, w10.drew = X := ⟨_, rfl⟩
    rw [hx0] at hd0 hSd ⊢
    clear hx0
    refine wpAnyH_take (i := 0) (oi := _) (v := ?_) rfl (by kernel_rfl) (by kernel_rfl) (by kernel_rfl) (fun _ _ _ h => h) (Or.inl ⟨by rfl, ?_⟩) (by assumption) ?_
    rotate_left
    · (intro w' hSw; obtain ⟨q0, q1, q2⟩ := hSw; go_simp; try with_reducible rfl)
    (try simp only [List.getElem_toArray, List.getElem_cons_succ, List.getElem_cons_zero, Act.put, List.setIfInBounds_toArray, List.set_cons_zero, List.set_cons_succ])
    refine wpAnyH_take (i := 3) (oi := _) (v := ?_) rfl (by kernel_rfl) (by kernel_rfl) (by kernel_rfl) (fun _ _ _ h => h) (Or.inl ⟨by rfl, ?_⟩) (by assumption) ?_
    rotate_left
    · (intro w' hSw; obtain ⟨q0, q1, q2⟩ := hSw; go_simp; try with_reducible rfl)
    (try simp only [List.getElem_toArray, List.getElem_cons_succ, List.getElem_cons_zero, Act.put, List.setIfInBounds_toArray, List.set_cons_zero, List.set_cons_succ])
    refine wpAnyH_ready (rs := [1, 10]) (by kernel_rfl) (by simp) ?_
    refine AllReadyH.cons (o := _) rfl (fun K hK => ?_) ?_
    · skip
      go_simp
      refine (v8_any 1 _).mono ?_
      rintro e v1 ⟨rfl, hbv1⟩
      have hd1 := hd0.then hbv1
      try dsimp only
      clear hbv1
      refine hK.out _ _ (HS.out _ hd1) (fun hSv1 => ?_)
      clear hK K
      (try simp only [List.getElem_toArray, List.getElem_cons_succ, List.getElem_cons_zero, Act.put, List.setIfInBounds_toArray, List.set_cons_zero, List.set_cons_succ])
      refine wpAnyH_ready (rs := [2, 10]) (by kernel_rfl) (by simp) ?_
      refine AllReadyH.cons (o := _) rfl (fun K hK => ?_) ?_
      · skip
        go_simp
        try dsimp only
        have q0 : Row (v1.alloc (.cells #[.int .i64 1, .string ⟨#[]⟩, .int .i64 1] 54)) (some ⟨v1.heap.size, 0, none⟩) 1 [hV 1] := cellsH v1 [hV 1] 1 _ rfl rfl (by decide +kernel) (by decide) _
        have hbv2 := (Below.refl v1.heap.size v1).new (.cells #[.int .i64 1, .string ⟨#[]⟩, .int .i64 1] 54)
        have hd2 := hd1.then hbv2
        clear hbv2
        refine hK.out _ _ (HS.out _ hd2) (fun hSv2 => ?_)
        clear hK K
        (try simp only [List.getElem_toArray, List.getElem_cons_succ, List.getElem_cons_zero, Act.put, List.setIfInBounds_toArray, List.set_cons_zero, List.set_cons_succ])
        obtain ⟨v2, hV⟩ : ∃ V, v1.alloc (.cells #[.int .i64 1, .string ⟨#[]⟩, .int .i64 1] 54) = V := ⟨_, rfl⟩
        obtain ⟨G, hG⟩ : ∃ V, v1.heap.size = V := ⟨_, rfl⟩
        rw [hV] at q0 hd2 hSv2  ⊢
        rw [hG] at q0 ⊢
        have RQ := mkHid q0
        clear hV hG q0
        refine wpAnyH_ready (rs := [4, 10]) (by kernel_rfl) (by simp) ?_
        refine AllReadyH.cons (o := _) rfl (fun K hK => ?_) ?_
        · skip
          go_simp
          refine (putF (.mk (hV 1) []) (R2.out.below hd2) (S2.out.below hd2) RQ.out (U2.out.below hd2) (by simp [Tm.flat, flats]) hdV1_ok (by decide) (by decide) (by decide) (by decide) (by decide +kernel) (by rw [put_h3]; decide) rfl rfl rfl rfl).mono ?_
          rintro e v3 ⟨bb, xx, mm, yy, ff, gg, rfl, r2, s2, u2, hbv3⟩
          replace RQ := mkHid (RQ.out.below hbv3)
          have hd3 := hd2.then hbv3
          try dsimp only
          clear hbv3
          have Hr2 := mkHid r2
          clear r2
          have Hs2 := mkHid s2
          clear s2
          have Hu2 := mkHid u2
          clear u2
          refine hK.out _ _ (HS.out _ hd3) (fun hSv3 => ?_)
          clear hK K
          (try simp only [List.getElem_toArray, List.getElem_cons_succ, List.getElem_cons_zero, Act.put, List.setIfInBounds_toArray, List.set_cons_zero, List.set_cons_succ])
          refine wpAnyH_take (i := 5) (oi := _) (v := ?_) rfl (by kernel_rfl) (by kernel_rfl) (by kernel_rfl) (fun _ _ _ h => h) (Or.inl ⟨by rfl, ?_⟩) (by assumption) ?_
          rotate_left
          · (intro w' hSw; obtain ⟨q0, q1, q2⟩ := hSw; go_simp; try with_reducible rfl)
          (try simp only [List.getElem_toArray, List.getElem_cons_succ, List.getElem_cons_zero, Act.put, List.setIfInBounds_toArray, List.set_cons_zero, List.set_cons_succ])
          refine wpAnyH_take (i := 6) (oi := _) (v := ?_) rfl (by kernel_rfl) (by kernel_rfl) (by kernel_rfl) (fun _ _ _ h => h) (Or.inl ⟨by rfl, ?_⟩) (by assumption) ?_
          rotate_left
          · (intro w' hSw; obtain ⟨q0, q1, q2⟩ := hSw; go_simp; try with_reducible rfl)
          (try simp only [List.getElem_toArray, List.getElem_cons_succ, List.getElem_cons_zero, Act.put, List.setIfInBounds_toArray, List.set_cons_zero, List.set_cons_succ])
          refine wpAnyH_take (i := 7) (oi := _) (v := ?_) rfl (by kernel_rfl) (by kernel_rfl) (by kernel_rfl) (fun _ _ _ h => h) (Or.inl ⟨by rfl, ?_⟩) (by assumption) ?_
          rotate_left
          · (intro w' hSw; obtain ⟨q0, q1, q2⟩ := hSw; go_simp; try with_reducible rfl)
          (try simp only [List.getElem_toArray, List.getElem_cons_succ, List.getElem_cons_zero, Act.put, List.setIfInBounds_toArray, List.set_cons_zero, List.set_cons_succ])
          refine wpAnyH_take (i := 8) (oi := _) (v := ?_) rfl (by kernel_rfl) (by kernel_rfl) (by kernel_rfl) (fun _ _ _ h => h) (Or.inl ⟨by rfl, ?_⟩) (by assumption) ?_
          rotate_left
          · (intro w' hSw; obtain ⟨q0, q1, q2⟩ := hSw; go_simp; try with_reducible rfl)
          (try simp only [List.getElem_toArray, List.getElem_cons_succ, List.getElem_cons_zero, Act.put, List.setIfInBounds_toArray, List.set_cons_zero, List.set_cons_succ])
          refine wpAnyH_take (i := 9) (oi := _) (v := ?_) rfl (by kernel_rfl) (by kernel_rfl) (by kernel_rfl) (fun _ _ _ h => h) (Or.inl ⟨by rfl, ?_⟩) (by assumption) ?_
          rotate_left
          · (intro w' hSw; obtain ⟨q0, q1, q2⟩ := hSw; go_simp; try with_reducible rfl)
          (try simp only [List.getElem_toArray, List.getElem_cons_succ, List.getElem_cons_zero, Act.put, List.setIfInBounds_toArray, List.set_cons_zero, List.set_cons_succ])
          refine wpAnyH_ready (rs := [10]) (by kernel_rfl) (by simp) ?_
          refine AllReadyH.cons (o := _) rfl (fun K hK => ?_) AllReadyH.nil
          go_simp
          try dsimp only
          have q0 : ZB (v3.alloc (.cells #[.slice none 0 0, .slice none 0 0, .int .i64 0] 25)) v3.heap.size := ZB.new v3
          have hge := hd3.size
          have hbv4 := (Below.refl v3.heap.size v3).new (.cells #[.slice none 0 0, .slice none 0 0, .int .i64 0] 25)
          replace RQ := mkHid (RQ.out.below hbv4)
          replace Hr2 := mkHid (Hr2.out.below hbv4)
          replace Hs2 := mkHid (Hs2.out.below hbv4)
          replace Hu2 := mkHid (Hu2.out.below hbv4)
          have hd4 := hd3.then hbv4
          clear hbv4
          refine hK.out _ _ (HS.out _ hd4) (fun hSv4 => ?_)
          clear hK K
          (try simp only [List.getElem_toArray, List.getElem_cons_succ, List.getElem_cons_zero, Act.put, List.setIfInBounds_toArray, List.set_cons_zero, List.set_cons_succ])
          obtain ⟨v4, hV⟩ : ∃ V, v3.alloc (.cells #[.slice none 0 0, .slice none 0 0, .int .i64 0] 25) = V := ⟨_, rfl⟩
          obtain ⟨B, hG⟩ : ∃ V, v3.heap.size = V := ⟨_, rfl⟩
          rw [hV] at q0 hd4 hSv4 RQ Hr2 Hs2 Hu2 ⊢
          rw [hG] at q0 hge ⊢
          have RZ := mkHid q0
          clear hV hG q0
          have HGE := mkHid hge
          clear hge
          refine wpAnyH_ready (rs := [11]) (by kernel_rfl) (by simp) ?_
          refine AllReadyH.cons (o := _) rfl (fun K hK => ?_) AllReadyH.nil
          have z0 := RZ.out.cell 0
          have z1 := RZ.out.cell 1
          have z2 := RZ.out.cell 2
          have y0 := RZ.out.froz 0
          have y1 := RZ.out.froz 1
          have y2' := RZ.out.froz 2
          simp only [List.getElem?_toArray, List.getElem?_cons_zero, List.getElem?_cons_succ] at z0 z1 z2
          go_simp
          try dsimp only
          have hbx : HBx (((v4.setCell ⟨B, 0, none⟩ (.slice bb 7 xx)).setCell ⟨B, 1, none⟩ (.slice mm 0 yy)).setCell ⟨B, 2, none⟩ (.int .i64 7)) B bb 7 xx mm 0 yy 7 := HBx.set3 RZ.out
          have ho := Oth.set3 v4 B (.slice bb 7 xx) (.slice mm 0 yy) (.int .i64 7)
          have r2 := ho.cels RZ.out Hr2.out
          have s2 := ho.ints RZ.out Hs2.out (by simp)
          have u2 := ho.ints RZ.out Hu2.out (by simp)
          have hd5 : Below w10.heap.size w10 (((v4.setCell ⟨B, 0, none⟩ (.slice bb 7 xx)).setCell ⟨B, 1, none⟩ (.slice mm 0 yy)).setCell ⟨B, 2, none⟩ (.int .i64 7)) := hd4.trans ((set3 B v4 _ _ _).mono HGE.out)
          clear z0 z1 z2 y0 y1 y2'
          refine hK.out _ _ (HS.out _ hd5) (fun hSv5 => ?_)
          clear hK K
          (try simp only [List.getElem_toArray, List.getElem_cons_succ, List.getElem_cons_zero, Act.put, List.setIfInBounds_toArray, List.set_cons_zero, List.set_cons_succ])
          have HX2 := mkHid hbx
          have Hr2 := mkHid r2
          have Hs2 := mkHid s2
          have Hu2 := mkHid u2
          have HD := mkHid hd5
          clear hbx r2 s2 u2 ho
          refine wpAnyH_take (i := 12) (oi := _) (v := ?_) rfl (by kernel_rfl) (by kernel_rfl) (by kernel_rfl) (fun _ _ _ h => h) (Or.inl ⟨by rfl, ?_⟩) (by assumption) ?_
          rotate_left
          · (intro w' hSw; obtain ⟨q0, q1, q2⟩ := hSw; go_simp; try with_reducible rfl)
          (try simp only [List.getElem_toArray, List.getElem_cons_succ, List.getElem_cons_zero, Act.put, List.setIfInBounds_toArray, List.set_cons_zero, List.set_cons_succ])
          refine wpAnyH_take (i := 13) (oi := _) (v := ?_) rfl (by kernel_rfl) (by kernel_rfl) (by kernel_rfl) (fun _ _ _ h => h) (Or.inl ⟨by rfl, ?_⟩) (by assumption) ?_
          rotate_left
          · (intro w' hSw; obtain ⟨q0, q1, q2⟩ := hSw; go_simp; try with_reducible rfl)
          (try simp only [List.getElem_toArray, List.getElem_cons_succ, List.getElem_cons_zero, Act.put, List.setIfInBounds_toArray, List.set_cons_zero, List.set_cons_succ])
          refine wpAnyH_take (i := 14) (oi := _) (v := ?_) rfl (by kernel_rfl) (by kernel_rfl) (by kernel_rfl) (fun _ _ _ h => h) (Or.inl ⟨by rfl, ?_⟩) (by assumption) ?_
          rotate_left
          · (intro w' hSw; obtain ⟨q0, q1, q2⟩ := hSw; go_simp; try with_reducible rfl)
          (try simp only [List.getElem_toArray, List.getElem_cons_succ, List.getElem_cons_zero, Act.put, List.setIfInBounds_toArray, List.set_cons_zero, List.set_cons_succ])
          refine wpAnyH_done (by kernel_rfl) (NoPanic.normal ?_) _
          refine ⟨rfl, ?_⟩
          (repeat apply Exists.intro)
          exact ⟨rfl, HX2.out, Hr2.out, Hs2.out, Hu2.out, HD.out⟩
        refine AllReadyH.cons (o := _) rfl (fun K hK => ?_) AllReadyH.nil
        go_simp
        try dsimp only
        have q0 : ZB (v2.alloc (.cells #[.slice none 0 0, .slice none 0 0, .int .i64 0] 25)) v2.heap.size := ZB.new v2
        have hge := hd2.size
        have hbv6 := (Below.refl v2.heap.size v2).new (.cells #[.slice none 0 0, .slice none 0 0, .int .i64 0] 25)
        replace RQ := mkHid (RQ.out.below hbv6)
        have hd6 := hd2.then hbv6
        clear hbv6
        refine hK.out _ _ (HS.out _ hd6) (fun hSv6 => ?_)
        clear hK K
        (try simp only [List.getElem_toArray, List.getElem_cons_succ, List.getElem_cons_zero, Act.put, List.setIfInBounds_toArray, List.set_cons_zero, List.set_cons_succ])
        obtain ⟨v6, hV⟩ : ∃ V, v2.alloc (.cells #[.slice none 0 0, .slice none 0 0, .int .i64 0] 25) = V := ⟨_, rfl⟩
        obtain ⟨B, hG⟩ : ∃ V, v2.heap.size = V := ⟨_, rfl⟩
        rw [hV] at q0 hd6 hSv6 RQ ⊢
        rw [hG] at q0 hge ⊢
        have RZ := mkHid q0
        clear hV hG q0
        have HGE := mkHid hge
        clear hge
        refine wpAnyH_ready (rs := [4]) (by kernel_rfl) (by simp) ?_
        refine AllReadyH.cons (o := _) rfl (fun K hK => ?_) AllReadyH.nil
        go_simp
        refine (putF (.mk (hV 1) []) (R2.out.below hd6) (S2.out.below hd6) RQ.out (U2.out.below hd6) (by simp [Tm.flat, flats]) hdV1_ok (by decide) (by decide) (by decide) (by decide) (by decide +kernel) (by rw [put_h3]; decide) rfl rfl rfl rfl).mono ?_
        rintro e v7 ⟨bb, xx, mm, yy, ff, gg, rfl, r2, s2, u2, hbv7⟩
        replace RQ := mkHid (RQ.out.below hbv7)
        replace RZ := mkHid (RZ.out.below hbv7)
        have hd7 := hd6.then hbv7
        try dsimp only
        clear hbv7
        have Hr2 := mkHid r2
        clear r2
        have Hs2 := mkHid s2
        clear s2
        have Hu2 := mkHid u2
        clear u2
        refine hK.out _ _ (HS.out _ hd7) (fun hSv7 => ?_)
        clear hK K
        (try simp only [List.getElem_toArray, List.getElem_cons_succ, List.getElem_cons_zero, Act.put, List.setIfInBounds_toArray, List.set_cons_zero, List.set_cons_succ])
        refine wpAnyH_take (i := 5) (oi := _) (v := ?_) rfl (by kernel_rfl) (by kernel_rfl) (by kernel_rfl) (fun _ _ _ h => h) (Or.inl ⟨by rfl, ?_⟩) (by assumption) ?_
        rotate_left
        · (intro w' hSw; obtain ⟨q0, q1, q2⟩ := hSw; go_simp; try with_reducible rfl)
        (try simp only [List.getElem_toArray, List.getElem_cons_succ, List.getElem_cons_zero, Act.put, List.setIfInBounds_toArray, List.set_cons_zero, List.set_cons_succ])
        refine wpAnyH_take (i := 6) (oi := _) (v := ?_) rfl (by kernel_rfl) (by kernel_rfl) (by kernel_rfl) (fun _ _ _ h => h) (Or.inl ⟨by rfl, ?_⟩) (by assumption) ?_
        rotate_left
        · (intro w' hSw; obtain ⟨q0, q1, q2⟩ := hSw; go_simp; try with_reducible rfl)
        (try simp only [List.getElem_toArray, List.getElem_cons_succ, List.getElem_cons_zero, Act.put, List.setIfInBounds_toArray, List.set_cons_zero, List.set_cons_succ])
        refine wpAnyH_take (i := 7) (oi := _) (v := ?_) rfl (by kernel_rfl) (by kernel_rfl) (by kernel_rfl) (fun _ _ _ h => h) (Or.inl ⟨by rfl, ?_⟩) (by assumption) ?_
        rotate_left
        · (intro w' hSw; obtain ⟨q0, q1, q2⟩ := hSw; go_simp; try with_reducible rfl)
        (try simp only [List.getElem_toArray, List.getElem_cons_succ, List.getElem_cons_zero, Act.put, List.setIfInBounds_toArray, List.set_cons_zero, List.set_cons_succ])
        refine wpAnyH_take (i := 8) (oi := _) (v := ?_) rfl (by kernel_rfl) (by kernel_rfl) (by kernel_rfl) (fun _ _ _ h => h) (Or.inl ⟨by rfl, ?_⟩) (by assumption) ?_
        rotate_left
        · (intro w' hSw; obtain ⟨q0, q1, q2⟩ := hSw; go_simp; try with_reducible rfl)
        (try simp only [List.getElem_toArray, List.getElem_cons_succ, List.getElem_cons_zero, Act.put, List.setIfInBounds_toArray, List.set_cons_zero, List.set_cons_succ])
        refine wpAnyH_take (i := 9) (oi := _) (v := ?_) rfl (by kernel_rfl) (by kernel_rfl) (by kernel_rfl) (fun _ _ _ h => h) (Or.inl ⟨by rfl, ?_⟩) (by assumption) ?_
        rotate_left
        · (intro w' hSw; obtain ⟨q0, q1, q2⟩ := hSw; go_simp; try with_reducible rfl)
        (try simp only [List.getElem_toArray, List.getElem_cons_succ, List.getElem_cons_zero, Act.put, List.setIfInBounds_toArray, List.set_cons_zero, List.set_cons_succ])
        refine wpAnyH_ready (rs := [11]) (by kernel_rfl) (by simp) ?_
        refine AllReadyH.cons (o := _) rfl (fun K hK => ?_) AllReadyH.nil
        have z0 := RZ.out.cell 0
        have z1 := RZ.out.cell 1
        have z2 := RZ.out.cell 2
        have y0 := RZ.out.froz 0
        have y1 := RZ.out.froz 1
        have y2' := RZ.out.froz 2
        simp only [List.getElem?_toArray, List.getElem?_cons_zero, List.getElem?_cons_succ] at z0 z1 z2
        go_simp
        try dsimp only
        have hbx : HBx (((v7.setCell ⟨B, 0, none⟩ (.slice bb 7 xx)).setCell ⟨B, 1, none⟩ (.slice mm 0 yy)).setCell ⟨B, 2, none⟩ (.int .i64 7)) B bb 7 xx mm 0 yy 7 := HBx.set3 RZ.out
        have ho := Oth.set3 v7 B (.slice bb 7 xx) (.slice mm 0 yy) (.int .i64 7)
        have r2 := ho.cels RZ.out Hr2.out
        have s2 := ho.ints RZ.out Hs2.out (by simp)
        have u2 := ho.ints RZ.out Hu2.out (by simp)
        have hd8 : Below w10.heap.size w10 (((v7.setCell ⟨B, 0, none⟩ (.slice bb 7 xx)).setCell ⟨B, 1, none⟩ (.slice mm 0 yy)).setCell ⟨B, 2, none⟩ (.int .i64 7)) := hd7.trans ((set3 B v7 _ _ _).mono HGE.out)
        clear z0 z1 z2 y0 y1 y2'
        refine hK.out _ _ (HS.out _ hd8) (fun hSv8 => ?_)
        clear hK K
        (try simp only [List.getElem_toArray, List.getElem_cons_succ, List.getElem_cons_zero, Act.put, List.setIfInBounds_toArray, List.set_cons_zero, List.set_cons_succ])
        have HX2 := mkHid hbx
        have Hr2 := mkHid r2
        have Hs2 := mkHid s2
        have Hu2 := mkHid u2
        have HD := mkHid hd8
        clear hbx r2 s2 u2 ho
        refine wpAnyH_take (i := 12) (oi := _) (v := ?_) rfl (by kernel_rfl) (by kernel_rfl) (by kernel_rfl) (fun _ _ _ h => h) (Or.inl ⟨by rfl, ?_⟩) (by assumption) ?_
        rotate_left
        · (intro w' hSw; obtain ⟨q0, q1, q2⟩ := hSw; go_simp; try with_reducible rfl)
        (try simp only [List.getElem_toArray, List.getElem_cons_succ, List.getElem_cons_zero, Act.put, List.setIfInBounds_toArray, List.set_cons_zero, List.set_cons_succ])
        refine wpAnyH_take (i := 13) (oi := _) (v := ?_) rfl (by kernel_rfl) (by kernel_rfl) (by kernel_rfl) (fun _ _ _ h => h) (Or.inl ⟨by rfl, ?_⟩) (by assumption) ?_
        rotate_left
        · (intro w' hSw; obtain ⟨q0, q1, q2⟩ := hSw; go_simp; try with_reducible rfl)
        (try simp only [List.getElem_toArray, List.getElem_cons_succ, List.getElem_cons_zero, Act.put, List.setIfInBounds_toArray, List.set_cons_zero, List.set_cons_succ])
        refine wpAnyH_take (i := 14) (oi := _) (v := ?_) rfl (by kernel_rfl) (by kernel_rfl) (by kernel_rfl) (fun _ _ _ h => h) (Or.inl ⟨by rfl, ?_⟩) (by assumption) ?_
        rotate_left
        · (intro w' hSw; obtain ⟨q0, q1, q2⟩ := hSw; go_simp; try with_reducible rfl)
        (try simp only [List.getElem_toArray, List.getElem_cons_succ, List.getElem_cons_zero, Act.put, List.setIfInBounds_toArray, List.set_cons_zero, List.set_cons_succ])
        refine wpAnyH_done (by kernel_rfl) (NoPanic.normal ?_) _
        refine ⟨rfl, ?_⟩
        (repeat apply Exists.intro)
        exact ⟨rfl, HX2.out, Hr2.out, Hs2.out, Hu2.out, HD.out⟩
      refine AllReadyH.cons (o := _) rfl (fun K hK => ?_) AllReadyH.nil
      go_simp
      try dsimp only
      have q0 : ZB (v1.alloc (.cells #[.slice none 0 0, .slice none 0 0, .int .i64 0] 25)) v1.heap.size := ZB.new v1
      have hge := hd1.size
      have hbv9 := (Below.refl v1.heap.size v1).new (.cells #[.slice none 0 0, .slice none 0 0, .int .i64 0] 25)
      have hd9 := hd1.then hbv9
      clear hbv9
      refine hK.out _ _ (HS.out _ hd9) (fun hSv9 => ?_)
      clear hK K
      (try simp only [List.getElem_toArray, List.getElem_cons_succ, List.getElem_cons_zero, Act.put, List.setIfInBounds_toArray, List.set_cons_zero, List.set_cons_succ])
      obtain ⟨v9, hV⟩ : ∃ V, v1.alloc (.cells #[.slice none 0 0, .slice none 0 0, .int .i64 0] 25) = V := ⟨_, rfl⟩
      obtain ⟨B, hG⟩ : ∃ V, v1.heap.size = V := ⟨_, rfl⟩
      rw [hV] at q0 hd9 hSv9  ⊢
      rw [hG] at q0 hge ⊢
      have RZ := mkHid q0
      clear hV hG q0
      have HGE := mkHid hge
      clear hge
      refine wpAnyH_ready (rs := [2]) (by kernel_rfl) (by simp) ?_
      refine AllReadyH.cons (o := _) rfl (fun K hK => ?_) AllReadyH.nil
      go_simp
      try dsimp only
      have q0 : Row (v9.alloc (.cells #[.int .i64 1, .string ⟨#[]⟩, .int .i64 1] 54)) (some ⟨v9.heap.size, 0, none⟩) 1 [hV 1] := cellsH v9 [hV 1] 1 _ rfl rfl (by decide +kernel) (by decide) _
      have hbv10 := (Below.refl v9.heap.size v9).new (.cells #[.int .i64 1, .string ⟨#[]⟩, .int .i64 1] 54)
      replace RZ := mkHid (RZ.out.below hbv10)
      have hd10 := hd9.then hbv10
      clear hbv10
      refine hK.out _ _ (HS.out _ hd10) (fun hSv10 => ?_)
      clear hK K
      (try simp only [List.getElem_toArray, List.getElem_cons_succ, List.getElem_cons_zero, Act.put, List.setIfInBounds_toArray, List.set_cons_zero, List.set_cons_succ])
      obtain ⟨v10, hV⟩ : ∃ V, v9.alloc (.cells #[.int .i64 1, .string ⟨#[]⟩, .int .i64 1] 54) = V := ⟨_, rfl⟩
      obtain ⟨G, hG⟩ : ∃ V, v9.heap.size = V := ⟨_, rfl⟩
      rw [hV] at q0 hd10 hSv10 RZ ⊢
      rw [hG] at q0 ⊢
      have RQ := mkHid q0
      clear hV hG q0
      refine wpAnyH_ready (rs := [4]) (by kernel_rfl) (by simp) ?_
      refine AllReadyH.cons (o := _) rfl (fun K hK => ?_) AllReadyH.nil
      go_simp
      refine (putF (.mk (hV 1) []) (R2.out.below hd10) (S2.out.below hd10) RQ.out (U2.out.below hd10) (by simp [Tm.flat, flats]) hdV1_ok (by decide) (by decide) (by decide) (by decide) (by decide +kernel) (by rw [put_h3]; decide) rfl rfl rfl rfl).mono ?_
      rintro e v11 ⟨bb, xx, mm, yy, ff, gg, rfl, r2, s2, u2, hbv11⟩
      replace RZ := mkHid (RZ.out.below hbv11)
      replace RQ := mkHid (RQ.out.below hbv11)
      have hd11 := hd10.then hbv11
      try dsimp only
      clear hbv11
      have Hr2 := mkHid r2
      clear r2
      have Hs2 := mkHid s2
      clear s2
      have Hu2 := mkHid u2
      clear u2
      refine hK.out _ _ (HS.out _ hd11) (fun hSv11 => ?_)
      clear hK K
      (try simp only [List.getElem_toArray, List.getElem_cons_succ, List.getElem_cons_zero, Act.put, List.setIfInBounds_toArray, List.set_cons_zero, List.set_cons_succ])
      refine wpAnyH_take (i := 5) (oi := _) (v := ?_) rfl (by kernel_rfl) (by kernel_rfl) (by kernel_rfl) (fun _ _ _ h => h) (Or.inl ⟨by rfl, ?_⟩) (by assumption) ?_
      rotate_left
      · (intro w' hSw; obtain ⟨q0, q1, q2⟩ := hSw; go_simp; try with_reducible rfl)
      (try simp only [List.getElem_toArray, List.getElem_cons_succ, List.getElem_cons_zero, Act.put, List.setIfInBounds_toArray, List.set_cons_zero, List.set_cons_succ])
      refine wpAnyH_take (i := 6) (oi := _) (v := ?_) rfl (by kernel_rfl) (by kernel_rfl) (by kernel_rfl) (fun _ _ _ h => h) (Or.inl ⟨by rfl, ?_⟩) (by assumption) ?_
      rotate_left
      · (intro w' hSw; obtain ⟨q0, q1, q2⟩ := hSw; go_simp; try with_reducible rfl)
      (try simp only [List.getElem_toArray, List.getElem_cons_succ, List.getElem_cons_zero, Act.put, List.setIfInBounds_toArray, List.set_cons_zero, List.set_cons_succ])
      refine wpAnyH_take (i := 7) (oi := _) (v := ?_) rfl (by kernel_rfl) (by kernel_rfl) (by kernel_rfl) (fun _ _ _ h => h) (Or.inl ⟨by rfl, ?_⟩) (by assumption) ?_
      rotate_left
      · (intro w' hSw; obtain ⟨q0, q1, q2⟩ := hSw; go_simp; try with_reducible rfl)
      (try simp only [List.getElem_toArray, List.getElem_cons_succ, List.getElem_cons_zero, Act.put, List.setIfInBounds_toArray, List.set_cons_zero, List.set_cons_succ])
      refine wpAnyH_take (i := 8) (oi := _) (v := ?_) rfl (by kernel_rfl) (by kernel_rfl) (by kernel_rfl) (fun _ _ _ h => h) (Or.inl ⟨by rfl, ?_⟩) (by assumption) ?_
      rotate_left
      · (intro w' hSw; obtain ⟨q0, q1, q2⟩ := hSw; go_simp; try with_reducible rfl)
      (try simp only [List.getElem_toArray, List.getElem_cons_succ, List.getElem_cons_zero, Act.put, List.setIfInBounds_toArray, List.set_cons_zero, List.set_cons_succ])
      refine wpAnyH_take (i := 9) (oi := _) (v := ?_) rfl (by kernel_rfl) (by kernel_rfl) (by kernel_rfl) (fun _ _ _ h => h) (Or.inl ⟨by rfl, ?_⟩) (by assumption) ?_
      rotate_left
      · (intro w' hSw; obtain ⟨q0, q1, q2⟩ := hSw; go_simp; try with_reducible rfl)
      (try simp only [List.getElem_toArray, List.getElem_cons_succ, List.getElem_cons_zero, Act.put, List.setIfInBounds_toArray, List.set_cons_zero, List.set_cons_succ])
      refine wpAnyH_ready (rs := [11]) (by kernel_rfl) (by simp) ?_
      refine AllReadyH.cons (o := _) rfl (fun K hK => ?_) AllReadyH.nil
      have z0 := RZ.out.cell 0
      have z1 := RZ.out.cell 1
      have z2 := RZ.out.cell 2
      have y0 := RZ.out.froz 0
      have y1 := RZ.out.froz 1
      have y2' := RZ.out.froz 2
      simp only [List.getElem?_toArray, List.getElem?_cons_zero, List.getElem?_cons_succ] at z0 z1 z2
      go_simp
      try dsimp only
      have hbx : HBx (((v11.setCell ⟨B, 0, none⟩ (.slice bb 7 xx)).setCell ⟨B, 1, none⟩ (.slice mm 0 yy)).setCell ⟨B, 2, none⟩ (.int .i64 7)) B bb 7 xx mm 0 yy 7 := HBx.set3 RZ.out
      have ho := Oth.set3 v11 B (.slice bb 7 xx) (.slice mm 0 yy) (.int .i64 7)
      have r2 := ho.cels RZ.out Hr2.out
      have s2 := ho.ints RZ.out Hs2.out (by simp)
      have u2 := ho.ints RZ.out Hu2.out (by simp)
      have hd12 : Below w10.heap.size w10 (((v11.setCell ⟨B, 0, none⟩ (.slice bb 7 xx)).setCell ⟨B, 1, none⟩ (.slice mm 0 yy)).setCell ⟨B, 2, none⟩ (.int .i64 7)) := hd11.trans ((set3 B v11 _ _ _).mono HGE.out)
      clear z0 z1 z2 y0 y1 y2'
      refine hK.out _ _ (HS.out _ hd12) (fun hSv12 => ?_)
      clear hK K
      (try simp only [List.getElem_toArray, List.getElem_cons_succ, List.getElem_cons_zero, Act.put, List.setIfInBounds_toArray, List.set_cons_zero, List.set_cons_succ])
      have HX2 := mkHid hbx
      have Hr2 := mkHid r2
      have Hs2 := mkHid s2
      have Hu2 := mkHid u2
      have HD := mkHid hd12
      clear hbx r2 s2 u2 ho
      refine wpAnyH_take (i := 12) (oi := _) (v := ?_) rfl (by kernel_rfl) (by kernel_rfl) (by kernel_rfl) (fun _ _ _ h => h) (Or.inl ⟨by rfl, ?_⟩) (by assumption) ?_
      rotate_left
      · (intro w' hSw; obtain ⟨q0, q1, q2⟩ := hSw; go_simp; try with_reducible rfl)
      (try simp only [List.getElem_toArray, List.getElem_cons_succ, List.getElem_cons_zero, Act.put, List.setIfInBounds_toArray, List.set_cons_zero, List.set_cons_succ])
      refine wpAnyH_take (i := 13) (oi := _) (v := ?_) rfl (by kernel_rfl) (by kernel_rfl) (by kernel_rfl) (fun _ _ _ h => h) (Or.inl ⟨by rfl, ?_⟩) (by assumption) ?_
      rotate_left
      · (intro w' hSw; obtain ⟨q0, q1, q2⟩ := hSw; go_simp; try with_reducible rfl)
      (try simp only [List.getElem_toArray, List.getElem_cons_succ, List.getElem_cons_zero, Act.put, List.setIfInBounds_toArray, List.set_cons_zero, List.set_cons_succ])
      refine wpAnyH_take (i := 14) (oi := _) (v := ?_) rfl (by kernel_rfl) (by kernel_rfl) (by kernel_rfl) (fun _ _ _ h => h) (Or.inl ⟨by rfl, ?_⟩) (by assumption) ?_
      rotate_left
      · (intro w' hSw; obtain ⟨q0, q1, q2⟩ := hSw; go_simp; try with_reducible rfl)
      (try simp only [List.getElem_toArray, List.getElem_cons_succ, List.getElem_cons_zero, Act.put, List.setIfInBounds_toArray, List.set_cons_zero, List.set_cons_succ])
      refine wpAnyH_done (by kernel_rfl) (NoPanic.normal ?_) _
      refine ⟨rfl, ?_⟩
      (repeat apply Exists.intro)
      exact ⟨rfl, HX2.out, Hr2.out, Hs2.out, Hu2.out, HD.out⟩
    refine AllReadyH.cons (o := _) rfl (fun K hK => ?_) AllReadyH.nil
    go_simp
    try dsimp only
    have q0 : ZB (v0.alloc (.cells #[.slice none 0 0, .slice none 0 0, .int .i64 0] 25)) v0.heap.size := ZB.new v0
    have hge := hd0.size
    have hbv13 := (Below.refl v0.heap.size v0).new (.cells #[.slice none 0 0, .slice none 0 0, .int .i64 0] 25)
    have hd13 := hd0.then hbv13
    clear hbv13
    refine hK.out _ _ (HS.out _ hd13) (fun hSv13 => ?_)
    clear hK K
    (try simp only [List.getElem_toArray, List.getElem_cons_succ, List.getElem_cons_zero, Act.put, List.setIfInBounds_toArray, List.set_cons_zero, List.set_cons_succ])
    obtain ⟨v13, hV⟩ : ∃ V, v0.alloc (.cells #[.slice none 0 0, .slice none 0 0, .int .i64 0] 25) = V := ⟨_, rfl⟩
    obtain ⟨B, hG⟩ : ∃ V, v0.heap.size = V := ⟨_, rfl⟩
    rw [hV] at q0 hd13 hSv13  ⊢
    rw [hG] at q0 hge ⊢
    have RZ := mkHid q0
    clear hV hG q0
    have HGE := mkHid hge
    clear hge
    refine wpAnyH_ready (rs := [1]) (by kernel_rfl) (by simp) ?_
    refine AllReadyH.cons (o := _) rfl (fun K hK => ?_) AllReadyH.nil
    go_simp
    refine (v8_any 1 _).mono ?_
    rintro e v14 ⟨rfl, hbv14⟩
    replace RZ := mkHid (RZ.out.below hbv14)
    have hd14 := hd13.then hbv14
    try dsimp only
    clear hbv14
    refine hK.out _ _ (HS.out _ hd14) (fun hSv14 => ?_)
    clear hK K
    (try simp only [List.getElem_toArray, List.getElem_cons_succ, List.getElem_cons_zero, Act.put, List.setIfInBounds_toArray, List.set_cons_zero, List.set_cons_succ])
    refine wpAnyH_ready (rs := [2]) (by kernel_rfl) (by simp) ?_
    refine AllReadyH.cons (o := _) rfl (fun K hK => ?_) AllReadyH.nil
    go_simp
    try dsimp only
    have q0 : Row (v14.alloc (.cells #[.int .i64 1, .string ⟨#[]⟩, .int .i64 1] 54)) (some ⟨v14.heap.size, 0, none⟩) 1 [hV 1] := cellsH v14 [hV 1] 1 _ rfl rfl (by decide +kernel) (by decide) _
    have hbv15 := (Below.refl v14.heap.size v14).new (.cells #[.int .i64 1, .string ⟨#[]⟩, .int .i64 1] 54)
    replace RZ := mkHid (RZ.out.below hbv15)
    have hd15 := hd14.then hbv15
    clear hbv15
    refine hK.out _ _ (HS.out _ hd15) (fun hSv15 => ?_)
    clear hK K
    (try simp only [List.getElem_toArray, List.getElem_cons_succ, List.getElem_cons_zero, Act.put, List.setIfInBounds_toArray, List.set_cons_zero, List.set_cons_succ])
    obtain ⟨v15, hV⟩ : ∃ V, v14.alloc (.cells #[.int .i64 1, .string ⟨#[]⟩, .int .i64 1] 54) = V := ⟨_, rfl⟩
    obtain ⟨G, hG⟩ : ∃ V, v14.heap.size = V := ⟨_, rfl⟩
    rw [hV] at q0 hd15 hSv15 RZ ⊢
    rw [hG] at q0 ⊢
    have RQ := mkHid q0
    clear hV hG q0
    refine wpAnyH_ready (rs := [4]) (by kernel_rfl) (by simp) ?_
    refine AllReadyH.cons (o := _) rfl (fun K hK => ?_) AllReadyH.nil
    go_simp
    refine (putF (.mk (hV 1) []) (R2.out.below hd15) (S2.out.below hd15) RQ.out (U2.out.below hd15) (by simp [Tm.flat, flats]) hdV1_ok (by decide) (by decide) (by decide) (by decide) (by decide +kernel) (by rw [put_h3]; decide) rfl rfl rfl rfl).mono ?_
    rintro e v16 ⟨bb, xx, mm, yy, ff, gg, rfl, r2, s2, u2, hbv16⟩
    replace RZ := mkHid (RZ.out.below hbv16)
    replace RQ := mkHid (RQ.out.below hbv16)
    have hd16 := hd15.then hbv16
    try dsimp only
    clear hbv16
    have Hr2 := mkHid r2
    clear r2
    have Hs2 := mkHid s2
    clear s2
    have Hu2 := mkHid u2
    clear u2
    refine hK.out _ _ (HS.out _ hd16) (fun hSv16 => ?_)
    clear hK K
    (try simp only [List.getElem_toArray, List.getElem_cons_succ, List.getElem_cons_zero, Act.put, List.setIfInBounds_toArray, List.set_cons_zero, List.set_cons_succ])
    refine wpAnyH_take (i := 5) (oi := _) (v := ?_) rfl (by kernel_rfl) (by kernel_rfl) (by kernel_rfl) (fun _ _ _ h => h) (Or.inl ⟨by rfl, ?_⟩) (by assumption) ?_
    rotate_left
    · (intro w' hSw; obtain ⟨q0, q1, q2⟩ := hSw; go_simp; try with_reducible rfl)
    (try simp only [List.getElem_toArray, List.getElem_cons_succ, List.getElem_cons_zero, Act.put, List.setIfInBounds_toArray, List.set_cons_zero, List.set_cons_succ])
    refine wpAnyH_take (i := 6) (oi := _) (v := ?_) rfl (by kernel_rfl) (by kernel_rfl) (by kernel_rfl) (fun _ _ _ h => h) (Or.inl ⟨by rfl, ?_⟩) (by assumption) ?_
    rotate_left
    · (intro w' hSw; obtain ⟨q0, q1, q2⟩ := hSw; go_simp; try with_reducible rfl)
    (try simp only [List.getElem_toArray, List.getElem_cons_succ, List.getElem_cons_zero, Act.put, List.setIfInBounds_toArray, List.set_cons_zero, List.set_cons_succ])
    refine wpAnyH_take (i := 7) (oi := _) (v := ?_) rfl (by kernel_rfl) (by kernel_rfl) (by kernel_rfl) (fun _ _ _ h => h) (Or.inl ⟨by rfl, ?_⟩) (by assumption) ?_
    rotate_left
    · (intro w' hSw; obtain ⟨q0, q1, q2⟩ := hSw; go_simp; try with_reducible rfl)
    (try simp only [List.getElem_toArray, List.getElem_cons_succ, List.getElem_cons_zero, Act.put, List.setIfInBounds_toArray, List.set_cons_zero, List.set_cons_succ])
    refine wpAnyH_take (i := 8) (oi := _) (v := ?_) rfl (by kernel_rfl) (by kernel_rfl) (by kernel_rfl) (fun _ _ _ h => h) (Or.inl ⟨by rfl, ?_⟩) (by assumption) ?_
    rotate_left
    · (intro w' hSw; obtain ⟨q0, q1, q2⟩ := hSw; go_simp; try with_reducible rfl)
    (try simp only [List.getElem_toArray, List.getElem_cons_succ, List.getElem_cons_zero, Act.put, List.setIfInBounds_toArray, List.set_cons_zero, List.set_cons_succ])
    refine wpAnyH_take (i := 9) (oi := _) (v := ?_) rfl (by kernel_rfl) (by kernel_rfl) (by kernel_rfl) (fun _ _ _ h => h) (Or.inl ⟨by rfl, ?_⟩) (by assumption) ?_
    rotate_left
    · (intro w' hSw; obtain ⟨q0, q1, q2⟩ := hSw; go_simp; try with_reducible rfl)
    (try simp only [List.getElem_toArray, List.getElem_cons_succ, List.getElem_cons_zero, Act.put, List.setIfInBounds_toArray, List.set_cons_zero, List.set_cons_succ])
    refine wpAnyH_ready (rs := [11]) (by kernel_rfl) (by simp) ?_
    refine AllReadyH.cons (o := _) rfl (fun K hK => ?_) AllReadyH.nil
    have z0 := RZ.out.cell 0
    have z1 := RZ.out.cell 1
    have z2 := RZ.out.cell 2
    have y0 := RZ.out.froz 0
    have y1 := RZ.out.froz 1
    have y2' := RZ.out.froz 2
    simp only [List.getElem?_toArray, List.getElem?_cons_zero, List.getElem?_cons_succ] at z0 z1 z2
    go_simp
    try dsimp only
    have hbx : HBx (((v16.setCell ⟨B, 0, none⟩ (.slice bb 7 xx)).setCell ⟨B, 1, none⟩ (.slice mm 0 yy)).setCell ⟨B, 2, none⟩ (.int .i64 7)) B bb 7 xx mm 0 yy 7 := HBx.set3 RZ.out
    have ho := Oth.set3 v16 B (.slice bb 7 xx) (.slice mm 0 yy) (.int .i64 7)
    have r2 := ho.cels RZ.out Hr2.out
    have s2 := ho.ints RZ.out Hs2.out (by simp)
    have u2 := ho.ints RZ.out Hu2.out (by simp)
    have hd17 : Below w10.heap.size w10 (((v16.setCell ⟨B, 0, none⟩ (.slice bb 7 xx)).setCell ⟨B, 1, none⟩ (.slice mm 0 yy)).setCell ⟨B, 2, none⟩ (.int .i64 7)) := hd16.trans ((set3 B v16 _ _ _).mono HGE.out)
    clear z0 z1 z2 y0 y1 y2'
    refine hK.out _ _ (HS.out _ hd17) (fun hSv17 => ?_)
    clear hK K
    (try simp only [List.getElem_toArray, List.getElem_cons_succ, List.getElem_cons_zero, Act.put, List.setIfInBounds_toArray, List.set_cons_zero, List.set_cons_succ])
    have HX2 := mkHid hbx
    have Hr2 := mkHid r2
    have Hs2 := mkHid s2
    have Hu2 := mkHid u2
    have HD := mkHid hd17
    clear hbx r2 s2 u2 ho
    refine wpAnyH_take (i := 12) (oi := _) (v := ?_) rfl (by kernel_rfl) (by kernel_rfl) (by kernel_rfl) (fun _ _ _ h => h) (Or.inl ⟨by rfl, ?_⟩) (by assumption) ?_
    rotate_left
    · (intro w' hSw; obtain ⟨q0, q1, q2⟩ := hSw; go_simp; try with_reducible rfl)
    (try simp only [List.getElem_toArray, List.getElem_cons_succ, List.getElem_cons_zero, Act.put, List.setIfInBounds_toArray, List.set_cons_zero, List.set_cons_succ])
    refine wpAnyH_take (i := 13) (oi := _) (v := ?_) rfl (by kernel_rfl) (by kernel_rfl) (by kernel_rfl) (fun _ _ _ h => h) (Or.inl ⟨by rfl, ?_⟩) (by assumption) ?_
    rotate_left
    · (intro w' hSw; obtain ⟨q0, q1, q2⟩ := hSw; go_simp; try with_reducible rfl)
    (try simp only [List.getElem_toArray, List.getElem_cons_succ, List.getElem_cons_zero, Act.put, List.setIfInBounds_toArray, List.set_cons_zero, List.set_cons_succ])
    refine wpAnyH_take (i := 14) (oi := _) (v := ?_) rfl (by kernel_rfl) (by kernel_rfl) (by kernel_rfl) (fun _ _ _ h => h) (Or.inl ⟨by rfl, ?_⟩) (by assumption) ?_
    rotate_left
    · (intro w' hSw; obtain ⟨q0, q1, q2⟩ := hSw; go_simp; try with_reducible rfl)
    (try simp only [List.getElem_toArray, List.getElem_cons_succ, List.getElem_cons_zero, Act.put, List.setIfInBounds_toArray, List.set_cons_zero, List.set_cons_succ])
    refine wpAnyH_done (by kernel_rfl) (NoPanic.normal ?_) _
    refine ⟨rfl, ?_⟩
    (repeat apply Exists.intro)
    exact ⟨rfl, HX2.out, Hr2.out, Hs2.out, Hu2.out, HD.out⟩
  rintro ev A' w11 ⟨rfl, e51, e52, e53, e54, e55, e50, e56, e57, e58, e59, B3, b3, x3, m3, y3, f3, g3, rfl, hbx, r2, s2, u2, hw11⟩
  subst hA
  simp only [Act.put, List.setIfInBounds_toArray, List.set_cons_zero, List.set_cons_succ]
  replace R1 := mkHid (R1.out.below hw11)
  replace S1 := mkHid (S1.out.below hw11)
  replace U1 := mkHid (U1.out.below hw11)
  replace X1 := mkHid (X1.out.below hw11)
  replace X2 := mkHid (X2.out.below hw11)
  replace R2 := mkHid (R2.out.below hw11)
  replace S2 := mkHid (S2.out.below hw11)
  replace U2 := mkHid (U2.out.below hw11)
  replace HB := mkHid (HB.out.then hw11)
  clear hw11
  clear hbx r2 s2 u2
  go_wp2_with fail
  generalize hA : Act.mk _ _ = A0
  refine Code.wp_mono (Q := fun ev A' W' => ev = .normal ∧ ∃ (e61 e62 e63 e64 e65 e60 e66 e67 e68 e69 : Value) (B : Nat) (b2 : Option Addr) (x2 : Nat) (m2 : Option Addr) (y2 : Nat) (f2 : Option Addr) (g2 : Nat), A' = ((((((((((((((A0.put (some 61) e61).put (some 62) e62).put (some 63) e63).put (some 64) e64).put (some 65) e65).put (some 60) e60).put (some 66) e66).put (some 67) e67).put (some 68) e68).put (some 69) e69).put (some 13) (.pointer (some ⟨B, 0, none⟩))).put (some 14) (.int .i64 1)).put (some 15) (.slice f2 1 g2)).put (some 16) (.int .i64 0)) ∧ HBx W' B b2 7 x2 m2 0 y2 7 ∧ Row W' b2 x2 hdG ∧ Row W' m2 y2 ([] : List Int) ∧ Row W' f2 g2 ([1] : List Int) ∧ Below w11.heap.size w11 W') ?_ ?_
  rotate_left
  · subst hA
    have HS : Hid (∀ X, Below w11.heap.size w11 X → HBx X B2 b2 7 x2 m2 0 y2 7) := fun X h => X2.out.below h
    have hd0 : Below w11.heap.size w11 w11.drew := (Below.refl _ _).drew
    refine wp_region_noPanic ?_
    refine wp_region_held_drew (S := fun X => HBx X B2 b2 7 x2 m2 0 y2 7) (by kernel_rfl) (HS.out _ hd0) (fun hSd => ?_)
    obtain ⟨v0, hx0⟩ : ∃ X, w11.drew = X := ⟨_, rfl⟩
    rw [hx0] at hd0 hSd ⊢
    clear hx0
    refine wpAnyH_take (i := 0) (oi := _) (v := ?_) rfl (by kernel_rfl) (by kernel_rfl) (by kernel_rfl) (fun _ _ _ h => h) (Or.inl ⟨by rfl, ?_⟩) (by assumption) ?_
    rotate_left
    · (intro w' hSw; obtain ⟨q0, q1, q2⟩ := hSw; go_simp; try with_reducible rfl)
    (try simp only [List.getElem_toArray, List.getElem_cons_succ, List.getElem_cons_zero, Act.put, List.setIfInBounds_toArray, List.set_cons_zero, List.set_cons_succ])
    refine wpAnyH_take (i := 3) (oi := _) (v := ?_) rfl (by kernel_rfl) (by kernel_rfl) (by kernel_rfl) (fun _ _ _ h => h) (Or.inl ⟨by rfl, ?_⟩) (by assumption) ?_
    rotate_left
    · (intro w' hSw; obtain ⟨q0, q1, q2⟩ := hSw; go_simp; try with_reducible rfl)
    (try simp only [List.getElem_toArray, List.getElem_cons_succ, List.getElem_cons_zero, Act.put, List.setIfInBounds_toArray, List.set_cons_zero, List.set_cons_succ])
    refine wpAnyH_ready (rs := [1, 10]) (by kernel_rfl) (by simp) ?_
    refine AllReadyH.cons (o := _) rfl (fun K hK => ?_) ?_
    · skip
      go_simp
      refine (v8_any 0 _).mono ?_
      rintro e v1 ⟨rfl, hbv1⟩
      have hd1 := hd0.then hbv1
      try dsimp only
      clear hbv1
      refine hK.out _ _ (HS.out _ hd1) (fun hSv1 => ?_)
      clear hK K
      (try simp only [List.getElem_toArray, List.getElem_cons_succ, List.getElem_cons_zero, Act.put, List.setIfInBounds_toArray, List.set_cons_zero, List.set_cons_succ])
      refine wpAnyH_ready (rs := [2, 10]) (by kernel_rfl) (by simp) ?_
      refine AllReadyH.cons (o := _) rfl (fun K hK => ?_) ?_
      · skip
        go_simp
        try dsimp only
        have q0 : Row (v1.alloc (.cells #[.int .i64 1, .string ⟨#[]⟩, .int .i64 0] 54)) (some ⟨v1.heap.size, 0, none⟩) 1 [hV 0] := cellsH v1 [hV 0] 1 _ rfl rfl (by decide +kernel) (by decide) _
        have hbv2 := (Below.refl v1.heap.size v1).new (.cells #[.int .i64 1, .string ⟨#[]⟩, .int .i64 0] 54)
        have hd2 := hd1.then hbv2
        clear hbv2
        refine hK.out _ _ (HS.out _ hd2) (fun hSv2 => ?_)
        clear hK K
        (try simp only [List.getElem_toArray, List.getElem_cons_succ, List.getElem_cons_zero, Act.put, List.setIfInBounds_toArray, List.set_cons_zero, List.set_cons_succ])
        obtain ⟨v2, hV⟩ : ∃ V, v1.alloc (.cells #[.int .i64 1, .string ⟨#[]⟩, .int .i64 0] 54) = V := ⟨_, rfl⟩
        obtain ⟨G, hG⟩ : ∃ V, v1.heap.size = V := ⟨_, rfl⟩
        rw [hV] at q0 hd2 hSv2  ⊢
        rw [hG] at q0 ⊢
        have RQ := mkHid q0
        clear hV hG q0
        refine wpAnyH_ready (rs := [4, 10]) (by kernel_rfl) (by simp) ?_
        refine AllReadyH.cons (o := _) rfl (fun K hK => ?_) ?_
        · skip
          go_simp
          refine (putK (n2 := 7) (k2 := 1) (.mk (hV 0) []) (R2.out.below hd2) (S2.out.below hd2) RQ.out (U2.out.below hd2) (by simp [Tm.flat, flats]) hdV0_ok (by decide) (by decide) (by decide) (by decide) (by decide +kernel) put_h4 (by decide) rfl rfl rfl rfl rfl rfl).mono ?_
          rintro e v3 ⟨bb, xx, mm, yy, ff, gg, rfl, r2, s2, u2, hbv3⟩
          replace RQ := mkHid (RQ.out.below hbv3)
          have hd3 := hd2.then hbv3
          try dsimp only
          clear hbv3
          have Hr2 := mkHid r2
          clear r2
          have Hs2 := mkHid s2
          clear s2
          have Hu2 := mkHid u2
          clear u2
          refine hK.out _ _ (HS.out _ hd3) (fun hSv3 => ?_)
          clear hK K
          (try simp only [List.getElem_toArray, List.getElem_cons_succ, List.getElem_cons_zero, Act.put, List.setIfInBounds_toArray, List.set_cons_zero, List.set_cons_succ])
          refine wpAnyH_take (i := 5) (oi := _) (v := ?_) rfl (by kernel_rfl) (by kernel_rfl) (by kernel_rfl) (fun _ _ _ h => h) (Or.inl ⟨by rfl, ?_⟩) (by assumption) ?_
          rotate_left
          · (intro w' hSw; obtain ⟨q0, q1, q2⟩ := hSw; go_simp; try with_reducible rfl)
          (try simp only [List.getElem_toArray, List.getElem_cons_succ, List.getElem_cons_zero, Act.put, List.setIfInBounds_toArray, List.set_cons_zero, List.set_cons_succ])
          refine wpAnyH_take (i := 6) (oi := _) (v := ?_) rfl (by kernel_rfl) (by kernel_rfl) (by kernel_rfl) (fun _ _ _ h => h) (Or.inl ⟨by rfl, ?_⟩) (by assumption) ?_
          rotate_left
          · (intro w' hSw; obtain ⟨q0, q1, q2⟩ := hSw; go_simp; try with_reducible rfl)
          (try simp only [List.getElem_toArray, List.getElem_cons_succ, List.getElem_cons_zero, Act.put, List.setIfInBounds_toArray, List.set_cons_zero, List.set_cons_succ])
          refine wpAnyH_take (i := 7) (oi := _) (v := ?_) rfl (by kernel_rfl) (by kernel_rfl) (by kernel_rfl) (fun _ _ _ h => h) (Or.inl ⟨by rfl, ?_⟩) (by assumption) ?_
          rotate_left
          · (intro w' hSw; obtain ⟨q0, q1, q2⟩ := hSw; go_simp; try with_reducible rfl)
          (try simp only [List.getElem_toArray, List.getElem_cons_succ, List.getElem_cons_zero, Act.put, List.setIfInBounds_toArray, List.set_cons_zero, List.set_cons_succ])
          refine wpAnyH_take (i := 8) (oi := _) (v := ?_) rfl (by kernel_rfl) (by kernel_rfl) (by kernel_rfl) (fun _ _ _ h => h) (Or.inl ⟨by rfl, ?_⟩) (by assumption) ?_
          rotate_left
          · (intro w' hSw; obtain ⟨q0, q1, q2⟩ := hSw; go_simp; try with_reducible rfl)
          (try simp only [List.getElem_toArray, List.getElem_cons_succ, List.getElem_cons_zero, Act.put, List.setIfInBounds_toArray, List.set_cons_zero, List.set_cons_succ])
          refine wpAnyH_take (i := 9) (oi := _) (v := ?_) rfl (by kernel_rfl) (by kernel_rfl) (by kernel_rfl) (fun _ _ _ h => h) (Or.inl ⟨by rfl, ?_⟩) (by assumption) ?_
          rotate_left
          · (intro w' hSw; obtain ⟨q0, q1, q2⟩ := hSw; go_simp; try with_reducible rfl)
          (try simp only [List.getElem_toArray, List.getElem_cons_succ, List.getElem_cons_zero, Act.put, List.setIfInBounds_toArray, List.set_cons_zero, List.set_cons_succ])
          refine wpAnyH_ready (rs := [10]) (by kernel_rfl) (by simp) ?_
          refine AllReadyH.cons (o := _) rfl (fun K hK => ?_) AllReadyH.nil
          go_simp
          try dsimp only
          have q0 : ZB (v3.alloc (.cells #[.slice none 0 0, .slice none 0 0, .int .i64 0] 25)) v3.heap.size := ZB.new v3
          have hge := hd3.size
          have hbv4 := (Below.refl v3.heap.size v3).new (.cells #[.slice none 0 0, .slice none 0 0, .int .i64 0] 25)
          replace RQ := mkHid (RQ.out.below hbv4)
          replace Hr2 := mkHid (Hr2.out.below hbv4)
          replace Hs2 := mkHid (Hs2.out.below hbv4)
          replace Hu2 := mkHid (Hu2.out.below hbv4)
          have hd4 := hd3.then hbv4
          clear hbv4
          refine hK.out _ _ (HS.out _ hd4) (fun hSv4 => ?_)
          clear hK K
          (try simp only [List.getElem_toArray, List.getElem_cons_succ, List.getElem_cons_zero, Act.put, List.setIfInBounds_toArray, List.set_cons_zero, List.set_cons_succ])
          obtain ⟨v4, hV⟩ : ∃ V, v3.alloc (.cells #[.slice none 0 0, .slice none 0 0, .int .i64 0] 25) = V := ⟨_, rfl⟩
          obtain ⟨B, hG⟩ : ∃ V, v3.heap.size = V := ⟨_, rfl⟩
          rw [hV] at q0 hd4 hSv4 RQ Hr2 Hs2 Hu2 ⊢
          rw [hG] at q0 hge ⊢
          have RZ := mkHid q0
          clear hV hG q0
          have HGE := mkHid hge
          clear hge
          refine wpAnyH_ready (rs := [11]) (by kernel_rfl) (by simp) ?_
          refine AllReadyH.cons (o := _) rfl (fun K hK => ?_) AllReadyH.nil
          have z0 := RZ.out.cell 0
          have z1 := RZ.out.cell 1
          have z2 := RZ.out.cell 2
          have y0 := RZ.out.froz 0
          have y1 := RZ.out.froz 1
          have y2' := RZ.out.froz 2
          simp only [List.getElem?_toArray, List.getElem?_cons_zero, List.getElem?_cons_succ] at z0 z1 z2
          go_simp
          try dsimp only
          have hbx : HBx (((v4.setCell ⟨B, 0, none⟩ (.slice bb 7 xx)).setCell ⟨B, 1, none⟩ (.slice mm 0 yy)).setCell ⟨B, 2, none⟩ (.int .i64 7)) B bb 7 xx mm 0 yy 7 := HBx.set3 RZ.out
          have ho := Oth.set3 v4 B (.slice bb 7 xx) (.slice mm 0 yy) (.int .i64 7)
          have r2 := ho.cels RZ.out Hr2.out
          have s2 := ho.ints RZ.out Hs2.out (by simp)
          have u2 := ho.ints RZ.out Hu2.out (by simp)
          have hd5 : Below w11.heap.size w11 (((v4.setCell ⟨B, 0, none⟩ (.slice bb 7 xx)).setCell ⟨B, 1, none⟩ (.slice mm 0 yy)).setCell ⟨B, 2, none⟩ (.int .i64 7)) := hd4.trans ((set3 B v4 _ _ _).mono HGE.out)
          clear z0 z1 z2 y0 y1 y2'
          refine hK.out _ _ (HS.out _ hd5) (fun hSv5 => ?_)
          clear hK K
          (try simp only [List.getElem_toArray, List.getElem_cons_succ, List.getElem_cons_zero, Act.put, List.setIfInBounds_toArray, List.set_cons_zero, List.set_cons_succ])
          have HX2 := mkHid hbx
          have Hr2 := mkHid r2
          have Hs2 := mkHid s2
          have Hu2 := mkHid u2
          have HD := mkHid hd5
          clear hbx r2 s2 u2 ho
          refine wpAnyH_take (i := 12) (oi := _) (v := ?_) rfl (by kernel_rfl) (by kernel_rfl) (by kernel_rfl) (fun _ _ _ h => h) (Or.inl ⟨by rfl, ?_⟩) (by assumption) ?_
          rotate_left
          · (intro w' hSw; obtain ⟨q0, q1, q2⟩ := hSw; go_simp; try with_reducible rfl)
          (try simp only [List.getElem_toArray, List.getElem_cons_succ, List.getElem_cons_zero, Act.put, List.setIfInBounds_toArray, List.set_cons_zero, List.set_cons_succ])
          refine wpAnyH_take (i := 13) (oi := _) (v := ?_) rfl (by kernel_rfl) (by kernel_rfl) (by kernel_rfl) (fun _ _ _ h => h) (Or.inl ⟨by rfl, ?_⟩) (by assumption) ?_
          rotate_left
          · (intro w' hSw; obtain ⟨q0, q1, q2⟩ := hSw; go_simp; try with_reducible rfl)
          (try simp only [List.getElem_toArray, List.getElem_cons_succ, List.getElem_cons_zero, Act.put, List.setIfInBounds_toArray, List.set_cons_zero, List.set_cons_succ])
          refine wpAnyH_take (i := 14) (oi := _) (v := ?_) rfl (by kernel_rfl) (by kernel_rfl) (by kernel_rfl) (fun _ _ _ h => h) (Or.inl ⟨by rfl, ?_⟩) (by assumption) ?_
          rotate_left
          · (intro w' hSw; obtain ⟨q0, q1, q2⟩ := hSw; go_simp; try with_reducible rfl)
          (try simp only [List.getElem_toArray, List.getElem_cons_succ, List.getElem_cons_zero, Act.put, List.setIfInBounds_toArray, List.set_cons_zero, List.set_cons_succ])
          refine wpAnyH_done (by kernel_rfl) (NoPanic.normal ?_) _
          refine ⟨rfl, ?_⟩
          (repeat apply Exists.intro)
          exact ⟨rfl, HX2.out, Hr2.out, Hs2.out, Hu2.out, HD.out⟩
        refine AllReadyH.cons (o := _) rfl (fun K hK => ?_) AllReadyH.nil
        go_simp
        try dsimp only
        have q0 : ZB (v2.alloc (.cells #[.slice none 0 0, .slice none 0 0, .int .i64 0] 25)) v2.heap.size := ZB.new v2
        have hge := hd2.size
        have hbv6 := (Below.refl v2.heap.size v2).new (.cells #[.slice none 0 0, .slice none 0 0, .int .i64 0] 25)
        replace RQ := mkHid (RQ.out.below hbv6)
        have hd6 := hd2.then hbv6
        clear hbv6
        refine hK.out _ _ (HS.out _ hd6) (fun hSv6 => ?_)
        clear hK K
        (try simp only [List.getElem_toArray, List.getElem_cons_succ, List.getElem_cons_zero, Act.put, List.setIfInBounds_toArray, List.set_cons_zero, List.set_cons_succ])
        obtain ⟨v6, hV⟩ : ∃ V, v2.alloc (.cells #[.slice none 0 0, .slice none 0 0, .int .i64 0] 25) = V := ⟨_, rfl⟩
        obtain ⟨B, hG⟩ : ∃ V, v2.heap.size = V := ⟨_, rfl⟩
        rw [hV] at q0 hd6 hSv6 RQ ⊢
        rw [hG] at q0 hge ⊢
        have RZ := mkHid q0
        clear hV hG q0
        have HGE := mkHid hge
        clear hge
        refine wpAnyH_ready (rs := [4]) (by kernel_rfl) (by simp) ?_
        refine AllReadyH.cons (o := _) rfl (fun K hK => ?_) AllReadyH.nil
        go_simp
        refine (putK (n2 := 7) (k2 := 1) (.mk (hV 0) []) (R2.out.below hd6) (S2.out.below hd6) RQ.out (U2.out.below hd6) (by simp [Tm.flat, flats]) hdV0_ok (by decide) (by decide) (by decide) (by decide) (by decide +kernel) put_h4 (by decide) rfl rfl rfl rfl rfl rfl).mono ?_
        rintro e v7 ⟨bb, xx, mm, yy, ff, gg, rfl, r2, s2, u2, hbv7⟩
        replace RQ := mkHid (RQ.out.below hbv7)
        replace RZ := mkHid (RZ.out.below hbv7)
        have hd7 := hd6.then hbv7
        try dsimp only
        clear hbv7
        have Hr2 := mkHid r2
        clear r2
        have Hs2 := mkHid s2
        clear s2
        have Hu2 := mkHid u2
        clear u2
        refine hK.out _ _ (HS.out _ hd7) (fun hSv7 => ?_)
        clear hK K
        (try simp only [List.getElem_toArray, List.getElem_cons_succ, List.getElem_cons_zero, Act.put, List.setIfInBounds_toArray, List.set_cons_zero, List.set_cons_succ])
        refine wpAnyH_take (i := 5) (oi := _) (v := ?_) rfl (by kernel_rfl) (by kernel_rfl) (by kernel_rfl) (fun _ _ _ h => h) (Or.inl ⟨by rfl, ?_⟩) (by assumption) ?_
        rotate_left
        · (intro w' hSw; obtain ⟨q0, q1, q2⟩ := hSw; go_simp; try with_reducible rfl)
        (try simp only [List.getElem_toArray, List.getElem_cons_succ, List.getElem_cons_zero, Act.put, List.setIfInBounds_toArray, List.set_cons_zero, List.set_cons_succ])
        refine wpAnyH_take (i := 6) (oi := _) (v := ?_) rfl (by kernel_rfl) (by kernel_rfl) (by kernel_rfl) (fun _ _ _ h => h) (Or.inl ⟨by rfl, ?_⟩) (by assumption) ?_
        rotate_left
        · (intro w' hSw; obtain ⟨q0, q1, q2⟩ := hSw; go_simp; try with_reducible rfl)
        (try simp only [List.getElem_toArray, List.getElem_cons_succ, List.getElem_cons_zero, Act.put, List.setIfInBounds_toArray, List.set_cons_zero, List.set_cons_succ])
        refine wpAnyH_take (i := 7) (oi := _) (v := ?_) rfl (by kernel_rfl) (by kernel_rfl) (by kernel_rfl) (fun _ _ _ h => h) (Or.inl ⟨by rfl, ?_⟩) (by assumption) ?_
        rotate_left
        · (intro w' hSw; obtain ⟨q0, q1, q2⟩ := hSw; go_simp; try with_reducible rfl)
        (try simp only [List.getElem_toArray, List.getElem_cons_succ, List.getElem_cons_zero, Act.put, List.setIfInBounds_toArray, List.set_cons_zero, List.set_cons_succ])
        refine wpAnyH_take (i := 8) (oi := _) (v := ?_) rfl (by kernel_rfl) (by kernel_rfl) (by kernel_rfl) (fun _ _ _ h => h) (Or.inl ⟨by rfl, ?_⟩) (by assumption) ?_
        rotate_left
        · (intro w' hSw; obtain ⟨q0, q1, q2⟩ := hSw; go_simp; try with_reducible rfl)
        (try simp only [List.getElem_toArray, List.getElem_cons_succ, List.getElem_cons_zero, Act.put, List.setIfInBounds_toArray, List.set_cons_zero, List.set_cons_succ])
        refine wpAnyH_take (i := 9) (oi := _) (v := ?_) rfl (by kernel_rfl) (by kernel_rfl) (by kernel_rfl) (fun _ _ _ h => h) (Or.inl ⟨by rfl, ?_⟩) (by assumption) ?_
        rotate_left
        · (intro w' hSw; obtain ⟨q0, q1, q2⟩ := hSw; go_simp; try with_reducible rfl)
        (try simp only [List.getElem_toArray, List.getElem_cons_succ, List.getElem_cons_zero, Act.put, List.setIfInBounds_toArray, List.set_cons_zero, List.set_cons_succ])
        refine wpAnyH_ready (rs := [11]) (by kernel_rfl) (by simp) ?_
        refine AllReadyH.cons (o := _) rfl (fun K hK => ?_) AllReadyH.nil
        have z0 := RZ.out.cell 0
        have z1 := RZ.out.cell 1
        have z2 := RZ.out.cell 2
        have y0 := RZ.out.froz 0
        have y1 := RZ.out.froz 1
        have y2' := RZ.out.froz 2
        simp only [List.getElem?_toArray, List.getElem?_cons_zero, List.getElem?_cons_succ] at z0 z1 z2
        go_simp
        try dsimp only
        have hbx : HBx (((v7.setCell ⟨B, 0, none⟩ (.slice bb 7 xx)).setCell ⟨B, 1, none⟩ (.slice mm 0 yy)).setCell ⟨B, 2, none⟩ (.int .i64 7)) B bb 7 xx mm 0 yy 7 := HBx.set3 RZ.out
        have ho := Oth.set3 v7 B (.slice bb 7 xx) (.slice mm 0 yy) (.int .i64 7)
        have r2 := ho.cels RZ.out Hr2.out
        have s2 := ho.ints RZ.out Hs2.out (by simp)
        have u2 := ho.ints RZ.out Hu2.out (by simp)
        have hd8 : Below w11.heap.size w11 (((v7.setCell ⟨B, 0, none⟩ (.slice bb 7 xx)).setCell ⟨B, 1, none⟩ (.slice mm 0 yy)).setCell ⟨B, 2, none⟩ (.int .i64 7)) := hd7.trans ((set3 B v7 _ _ _).mono HGE.out)
        clear z0 z1 z2 y0 y1 y2'
        refine hK.out _ _ (HS.out _ hd8) (fun hSv8 => ?_)
        clear hK K
        (try simp only [List.getElem_toArray, List.getElem_cons_succ, List.getElem_cons_zero, Act.put, List.setIfInBounds_toArray, List.set_cons_zero, List.set_cons_succ])
        have HX2 := mkHid hbx
        have Hr2 := mkHid r2
        have Hs2 := mkHid s2
        have Hu2 := mkHid u2
        have HD := mkHid hd8
        clear hbx r2 s2 u2 ho
        refine wpAnyH_take (i := 12) (oi := _) (v := ?_) rfl (by kernel_rfl) (by kernel_rfl) (by kernel_rfl) (fun _ _ _ h => h) (Or.inl ⟨by rfl, ?_⟩) (by assumption) ?_
        rotate_left
        · (intro w' hSw; obtain ⟨q0, q1, q2⟩ := hSw; go_simp; try with_reducible rfl)
        (try simp only [List.getElem_toArray, List.getElem_cons_succ, List.getElem_cons_zero, Act.put, List.setIfInBounds_toArray, List.set_cons_zero, List.set_cons_succ])
        refine wpAnyH_take (i := 13) (oi := _) (v := ?_) rfl (by kernel_rfl) (by kernel_rfl) (by kernel_rfl) (fun _ _ _ h => h) (Or.inl ⟨by rfl, ?_⟩) (by assumption) ?_
        rotate_left
        · (intro w' hSw; obtain ⟨q0, q1, q2⟩ := hSw; go_simp; try with_reducible rfl)
        (try simp only [List.getElem_toArray, List.getElem_cons_succ, List.getElem_cons_zero, Act.put, List.setIfInBounds_toArray, List.set_cons_zero, List.set_cons_succ])
        refine wpAnyH_take (i := 14) (oi := _) (v := ?_) rfl (by kernel_rfl) (by kernel_rfl) (by kernel_rfl) (fun _ _ _ h => h) (Or.inl ⟨by rfl, ?_⟩) (by assumption) ?_
        rotate_left
        · (intro w' hSw; obtain ⟨q0, q1, q2⟩ := hSw; go_simp; try with_reducible rfl)
        (try simp only [List.getElem_toArray, List.getElem_cons_succ, List.getElem_cons_zero, Act.put, List.setIfInBounds_toArray, List.set_cons_zero, List.set_cons_succ])
        refine wpAnyH_done (by kernel_rfl) (NoPanic.normal ?_) _
        refine ⟨rfl, ?_⟩
        (repeat apply Exists.intro)
        exact ⟨rfl, HX2.out, Hr2.out, Hs2.out, Hu2.out, HD.out⟩
      refine AllReadyH.cons (o := _) rfl (fun K hK => ?_) AllReadyH.nil
      go_simp
      try dsimp only
      have q0 : ZB (v1.alloc (.cells #[.slice none 0 0, .slice none 0 0, .int .i64 0] 25)) v1.heap.size := ZB.new v1
      have hge := hd1.size
      have hbv9 := (Below.refl v1.heap.size v1).new (.cells #[.slice none 0 0, .slice none 0 0, .int .i64 0] 25)
      have hd9 := hd1.then hbv9
      clear hbv9
      refine hK.out _ _ (HS.out _ hd9) (fun hSv9 => ?_)
      clear hK K
      (try simp only [List.getElem_toArray, List.getElem_cons_succ, List.getElem_cons_zero, Act.put, List.setIfInBounds_toArray, List.set_cons_zero, List.set_cons_succ])
      obtain ⟨v9, hV⟩ : ∃ V, v1.alloc (.cells #[.slice none 0 0, .slice none 0 0, .int .i64 0] 25) = V := ⟨_, rfl⟩
      obtain ⟨B, hG⟩ : ∃ V, v1.heap.size = V := ⟨_, rfl⟩
      rw [hV] at q0 hd9 hSv9  ⊢
      rw [hG] at q0 hge ⊢
      have RZ := mkHid q0
      clear hV hG q0
      have HGE := mkHid hge
      clear hge
      refine wpAnyH_ready (rs := [2]) (by kernel_rfl) (by simp) ?_
      refine AllReadyH.cons (o := _) rfl (fun K hK => ?_) AllReadyH.nil
      go_simp
      try dsimp only
      have q0 : Row (v9.alloc (.cells #[.int .i64 1, .string ⟨#[]⟩, .int .i64 0] 54)) (some ⟨v9.heap.size, 0, none⟩) 1 [hV 0] := cellsH v9 [hV 0] 1 _ rfl rfl (by decide +kernel) (by decide) _
      have hbv10 := (Below.refl v9.heap.size v9).new (.cells #[.int .i64 1, .string ⟨#[]⟩, .int .i64 0] 54)
      replace RZ := mkHid (RZ.out.below hbv10)
      have hd10 := hd9.then hbv10
      clear hbv10
      refine hK.out _ _ (HS.out _ hd10) (fun hSv10 => ?_)
      clear hK K
      (try simp only [List.getElem_toArray, List.getElem_cons_succ, List.getElem_cons_zero, Act.put, List.setIfInBounds_toArray, List.set_cons_zero, List.set_cons_succ])
      obtain ⟨v10, hV⟩ : ∃ V, v9.alloc (.cells #[.int .i64 1, .string ⟨#[]⟩, .int .i64 0] 54) = V := ⟨_, rfl⟩
      obtain ⟨G, hG⟩ : ∃ V, v9.heap.size = V := ⟨_, rfl⟩
      rw [hV] at q0 hd10 hSv10 RZ ⊢
      rw [hG] at q0 ⊢
      have RQ := mkHid q0
      clear hV hG q0
      refine wpAnyH_ready (rs := [4]) (by kernel_rfl) (by simp) ?_
      refine AllReadyH.cons (o := _) rfl (fun K hK => ?_) AllReadyH.nil
      go_simp
      refine (putK (n2 := 7) (k2 := 1) (.mk (hV 0) []) (R2.out.below hd10) (S2.out.below hd10) RQ.out (U2.out.below hd10) (by simp [Tm.flat, flats]) hdV0_ok (by decide) (by decide) (by decide) (by decide) (by decide +kernel) put_h4 (by decide) rfl rfl rfl rfl rfl rfl).mono ?_
      rintro e v11 ⟨bb, xx, mm, yy, ff, gg, rfl, r2, s2, u2, hbv11⟩
      replace RZ := mkHid (RZ.out.below hbv11)
      replace RQ := mkHid (RQ.out.below hbv11)
      have hd11 := hd10.then hbv11
      try dsimp only
      clear hbv11
      have Hr2 := mkHid r2
      clear r2
      have Hs2 := mkHid s2
      clear s2
      have Hu2 := mkHid u2
      clear u2
      refine hK.out _ _ (HS.out _ hd11) (fun hSv11 => ?_)
      clear hK K
      (try simp only [List.getElem_toArray, List.getElem_cons_succ, List.getElem_cons_zero, Act.put, List.setIfInBounds_toArray, List.set_cons_zero, List.set_cons_succ])
      refine wpAnyH_take (i := 5) (oi := _) (v := ?_) rfl (by kernel_rfl) (by kernel_rfl) (by kernel_rfl) (fun _ _ _ h => h) (Or.inl ⟨by rfl, ?_⟩) (by assumption) ?_
      rotate_left
      · (intro w' hSw; obtain ⟨q0, q1, q2⟩ := hSw; go_simp; try with_reducible rfl)
      (try simp only [List.getElem_toArray, List.getElem_cons_succ, List.getElem_cons_zero, Act.put, List.setIfInBounds_toArray, List.set_cons_zero, List.set_cons_succ])
      refine wpAnyH_take (i := 6) (oi := _) (v := ?_) rfl (by kernel_rfl) (by kernel_rfl) (by kernel_rfl) (fun _ _ _ h => h) (Or.inl ⟨by rfl, ?_⟩) (by assumption) ?_
      rotate_left
      · (intro w' hSw; obtain ⟨q0, q1, q2⟩ := hSw; go_simp; try with_reducible rfl)
      (try simp only [List.getElem_toArray, List.getElem_cons_succ, List.getElem_cons_zero, Act.put, List.setIfInBounds_toArray, List.set_cons_zero, List.set_cons_succ])
      refine wpAnyH_take (i := 7) (oi := _) (v := ?_) rfl (by kernel_rfl) (by kernel_rfl) (by kernel_rfl) (fun _ _ _ h => h) (Or.inl ⟨by rfl, ?_⟩) (by assumption) ?_
      rotate_left
      · (intro w' hSw; obtain ⟨q0, q1, q2⟩ := hSw; go_simp; try with_reducible rfl)
      (try simp only [List.getElem_toArray, List.getElem_cons_succ, List.getElem_cons_zero, Act.put, List.setIfInBounds_toArray, List.set_cons_zero, List.set_cons_succ])
      refine wpAnyH_take (i := 8) (oi := _) (v := ?_) rfl (by kernel_rfl) (by kernel_rfl) (by kernel_rfl) (fun _ _ _ h => h) (Or.inl ⟨by rfl, ?_⟩) (by assumption) ?_
      rotate_left
      · (intro w' hSw; obtain ⟨q0, q1, q2⟩ := hSw; go_simp; try with_reducible rfl)
      (try simp only [List.getElem_toArray, List.getElem_cons_succ, List.getElem_cons_zero, Act.put, List.setIfInBounds_toArray, List.set_cons_zero, List.set_cons_succ])
      refine wpAnyH_take (i := 9) (oi := _) (v := ?_) rfl (by kernel_rfl) (by kernel_rfl) (by kernel_rfl) (fun _ _ _ h => h) (Or.inl ⟨by rfl, ?_⟩) (by assumption) ?_
      rotate_left
      · (intro w' hSw; obtain ⟨q0, q1, q2⟩ := hSw; go_simp; try with_reducible rfl)
      (try simp only [List.getElem_toArray, List.getElem_cons_succ, List.getElem_cons_zero, Act.put, List.setIfInBounds_toArray, List.set_cons_zero, List.set_cons_succ])
      refine wpAnyH_ready (rs := [11]) (by kernel_rfl) (by simp) ?_
      refine AllReadyH.cons (o := _) rfl (fun K hK => ?_) AllReadyH.nil
      have z0 := RZ.out.cell 0
      have z1 := RZ.out.cell 1
      have z2 := RZ.out.cell 2
      have y0 := RZ.out.froz 0
      have y1 := RZ.out.froz 1
      have y2' := RZ.out.froz 2
      simp only [List.getElem?_toArray, List.getElem?_cons_zero, List.getElem?_cons_succ] at z0 z1 z2
      go_simp
      try dsimp only
      have hbx : HBx (((v11.setCell ⟨B, 0, none⟩ (.slice bb 7 xx)).setCell ⟨B, 1, none⟩ (.slice mm 0 yy)).setCell ⟨B, 2, none⟩ (.int .i64 7)) B bb 7 xx mm 0 yy 7 := HBx.set3 RZ.out
      have ho := Oth.set3 v11 B (.slice bb 7 xx) (.slice mm 0 yy) (.int .i64 7)
      have r2 := ho.cels RZ.out Hr2.out
      have s2 := ho.ints RZ.out Hs2.out (by simp)
      have u2 := ho.ints RZ.out Hu2.out (by simp)
      have hd12 : Below w11.heap.size w11 (((v11.setCell ⟨B, 0, none⟩ (.slice bb 7 xx)).setCell ⟨B, 1, none⟩ (.slice mm 0 yy)).setCell ⟨B, 2, none⟩ (.int .i64 7)) := hd11.trans ((set3 B v11 _ _ _).mono HGE.out)
      clear z0 z1 z2 y0 y1 y2'
      refine hK.out _ _ (HS.out _ hd12) (fun hSv12 => ?_)
      clear hK K
      (try simp only [List.getElem_toArray, List.getElem_cons_succ, List.getElem_cons_zero, Act.put, List.setIfInBounds_toArray, List.set_cons_zero, List.set_cons_succ])
      have HX2 := mkHid hbx
      have Hr2 := mkHid r2
      have Hs2 := mkHid s2
      have Hu2 := mkHid u2
      have HD := mkHid hd12
      clear hbx r2 s2 u2 ho
      refine wpAnyH_take (i := 12) (oi := _) (v := ?_) rfl (by kernel_rfl) (by kernel_rfl) (by kernel_rfl) (fun _ _ _ h => h) (Or.inl ⟨by rfl, ?_⟩) (by assumption) ?_
      rotate_left
      · (intro w' hSw; obtain ⟨q0, q1, q2⟩ := hSw; go_simp; try with_reducible rfl)
      (try simp only [List.getElem_toArray, List.getElem_cons_succ, List.getElem_cons_zero, Act.put, List.setIfInBounds_toArray, List.set_cons_zero, List.set_cons_succ])
      refine wpAnyH_take (i := 13) (oi := _) (v := ?_) rfl (by kernel_rfl) (by kernel_rfl) (by kernel_rfl) (fun _ _ _ h => h) (Or.inl ⟨by rfl, ?_⟩) (by assumption) ?_
      rotate_left
      · (intro w' hSw; obtain ⟨q0, q1, q2⟩ := hSw; go_simp; try with_reducible rfl)
      (try simp only [List.getElem_toArray, List.getElem_cons_succ, List.getElem_cons_zero, Act.put, List.setIfInBounds_toArray, List.set_cons_zero, List.set_cons_succ])
      refine wpAnyH_take (i := 14) (oi := _) (v := ?_) rfl (by kernel_rfl) (by kernel_rfl) (by kernel_rfl) (fun _ _ _ h => h) (Or.inl ⟨by rfl, ?_⟩) (by assumption) ?_
      rotate_left
      · (intro w' hSw; obtain ⟨q0, q1, q2⟩ := hSw; go_simp; try with_reducible rfl)
      (try simp only [List.getElem_toArray, List.getElem_cons_succ, List.getElem_cons_zero, Act.put, List.setIfInBounds_toArray, List.set_cons_zero, List.set_cons_succ])
      refine wpAnyH_done (by kernel_rfl) (NoPanic.normal ?_) _
      refine ⟨rfl, ?_⟩
      (repeat apply Exists.intro)
      exact ⟨rfl, HX2.out, Hr2.out, Hs2.out, Hu2.out, HD.out⟩
    refine AllReadyH.cons (o := _) rfl (fun K hK => ?_) AllReadyH.nil
    go_simp
    try dsimp only
    have q0 : ZB (v0.alloc (.cells #[.slice none 0 0, .slice none 0 0, .int .i64 0] 25)) v0.heap.size := ZB.new v0
    have hge := hd0.size
    have hbv13 := (Below.refl v0.heap.size v0).new (.cells #[.slice none 0 0, .slice none 0 0, .int .i64 0] 25)
    have hd13 := hd0.then hbv13
    clear hbv13
    refine hK.out _ _ (HS.out _ hd13) (fun hSv13 => ?_)
    clear hK K
    (try simp only [List.getElem_toArray, List.getElem_cons_succ, List.getElem_cons_zero, Act.put, List.setIfInBounds_toArray, List.set_cons_zero, List.set_cons_succ])
    obtain ⟨v13, hV⟩ : ∃ V, v0.alloc (.cells #[.slice none 0 0, .slice none 0 0, .int .i64 0] 25) = V := ⟨_, rfl⟩
    obtain ⟨B, hG⟩ : ∃ V, v0.heap.size = V := ⟨_, rfl⟩
    rw [hV] at q0 hd13 hSv13  ⊢
    rw [hG] at q0 hge ⊢
    have RZ := mkHid q0
    clear hV hG q0
    have HGE := mkHid hge
    clear hge
    refine wpAnyH_ready (rs := [1]) (by kernel_rfl) (by simp) ?_
    refine AllReadyH.cons (o := _) rfl (fun K hK => ?_) AllReadyH.nil
    go_simp
    refine (v8_any 0 _).mono ?_
    rintro e v14 ⟨rfl, hbv14⟩
    replace RZ := mkHid (RZ.out.below hbv14)
    have hd14 := hd13.then hbv14
    try dsimp only
    clear hbv14
    refine hK.out _ _ (HS.out _ hd14) (fun hSv14 => ?_)
    clear hK K
    (try simp only [List.getElem_toArray, List.getElem_cons_succ, List.getElem_cons_zero, Act.put, List.setIfInBounds_toArray, List.set_cons_zero, List.set_cons_succ])
    refine wpAnyH_ready (rs := [2]) (by kernel_rfl) (by simp) ?_
    refine AllReadyH.cons (o := _) rfl (fun K hK => ?_) AllReadyH.nil
    go_simp
    try dsimp only
    have q0 : Row (v14.alloc (.cells #[.int .i64 1, .string ⟨#[]⟩, .int .i64 0] 54)) (some ⟨v14.heap.size, 0, none⟩) 1 [hV 0] := cellsH v14 [hV 0] 1 _ rfl rfl (by decide +kernel) (by decide) _
    have hbv15 := (Below.refl v14.heap.size v14).new (.cells #[.int .i64 1, .string ⟨#[]⟩, .int .i64 0] 54)
    replace RZ := mkHid (RZ.out.below hbv15)
    have hd15 := hd14.then hbv15
    clear hbv15
    refine hK.out _ _ (HS.out _ hd15) (fun hSv15 => ?_)
    clear hK K
    (try simp only [List.getElem_toArray, List.getElem_cons_succ, List.getElem_cons_zero, Act.put, List.setIfInBounds_toArray, List.set_cons_zero, List.set_cons_succ])
    obtain ⟨v15, hV⟩ : ∃ V, v14.alloc (.cells #[.int .i64 1, .string ⟨#[]⟩, .int .i64 0] 54) = V := ⟨_, rfl⟩
    obtain ⟨G, hG⟩ : ∃ V, v14.heap.size = V := ⟨_, rfl⟩
    rw [hV] at q0 hd15 hSv15 RZ ⊢
    rw [hG] at q0 ⊢
    have RQ := mkHid q0
    clear hV hG q0
    refine wpAnyH_ready (rs := [4]) (by kernel_rfl) (by simp) ?_
    refine AllReadyH.cons (o := _) rfl (fun K hK => ?_) AllReadyH.nil
    go_simp
    refine (putK (n2 := 7) (k2 := 1) (.mk (hV 0) []) (R2.out.below hd15) (S2.out.below hd15) RQ.out (U2.out.below hd15) (by simp [Tm.flat, flats]) hdV0_ok (by decide) (by decide) (by decide) (by decide) (by decide +kernel) put_h4 (by decide) rfl rfl rfl rfl rfl rfl).mono ?_
    rintro e v16 ⟨bb, xx, mm, yy, ff, gg, rfl, r2, s2, u2, hbv16⟩
    replace RZ := mkHid (RZ.out.below hbv16)
    replace RQ := mkHid (RQ.out.below hbv16)
    have hd16 := hd15.then hbv16
    try dsimp only
    clear hbv16
    have Hr2 := mkHid r2
    clear r2
    have Hs2 := mkHid s2
    clear s2
    have Hu2 := mkHid u2
    clear u2
    refine hK.out _ _ (HS.out _ hd16) (fun hSv16 => ?_)
    clear hK K
    (try simp only [List.getElem_toArray, List.getElem_cons_succ, List.getElem_cons_zero, Act.put, List.setIfInBounds_toArray, List.set_cons_zero, List.set_cons_succ])
    refine wpAnyH_take (i := 5) (oi := _) (v := ?_) rfl (by kernel_rfl) (by kernel_rfl) (by kernel_rfl) (fun _ _ _ h => h) (Or.inl ⟨by rfl, ?_⟩) (by assumption) ?_
    rotate_left
    · (intro w' hSw; obtain ⟨q0, q1, q2⟩ := hSw; go_simp; try with_reducible rfl)
    (try simp only [List.getElem_toArray, List.getElem_cons_succ, List.getElem_cons_zero, Act.put, List.setIfInBounds_toArray, List.set_cons_zero, List.set_cons_succ])
    refine wpAnyH_take (i := 6) (oi := _) (v := ?_) rfl (by kernel_rfl) (by kernel_rfl) (by kernel_rfl) (fun _ _ _ h => h) (Or.inl ⟨by rfl, ?_⟩) (by assumption) ?_
    rotate_left
    · (intro w' hSw; obtain ⟨q0, q1, q2⟩ := hSw; go_simp; try with_reducible rfl)
    (try simp only [List.getElem_toArray, List.getElem_cons_succ, List.getElem_cons_zero, Act.put, List.setIfInBounds_toArray, List.set_cons_zero, List.set_cons_succ])
    refine wpAnyH_take (i := 7) (oi := _) (v := ?_) rfl (by kernel_rfl) (by kernel_rfl) (by kernel_rfl) (fun _ _ _ h => h) (Or.inl ⟨by rfl, ?_⟩) (by assumption) ?_
    rotate_left
    · (intro w' hSw; obtain ⟨q0, q1, q2⟩ := hSw; go_simp; try with_reducible rfl)
    (try simp only [List.getElem_toArray, List.getElem_cons_succ, List.getElem_cons_zero, Act.put, List.setIfInBounds_toArray, List.set_cons_zero, List.set_cons_succ])
    refine wpAnyH_take (i := 8) (oi := _) (v := ?_) rfl (by kernel_rfl) (by kernel_rfl) (by kernel_rfl) (fun _ _ _ h => h) (Or.inl ⟨by rfl, ?_⟩) (by assumption) ?_
    rotate_left
    · (intro w' hSw; obtain ⟨q0, q1, q2⟩ := hSw; go_simp; try with_reducible rfl)
    (try simp only [List.getElem_toArray, List.getElem_cons_succ, List.getElem_cons_zero, Act.put, List.setIfInBounds_toArray, List.set_cons_zero, List.set_cons_succ])
    refine wpAnyH_take (i := 9) (oi := _) (v := ?_) rfl (by kernel_rfl) (by kernel_rfl) (by kernel_rfl) (fun _ _ _ h => h) (Or.inl ⟨by rfl, ?_⟩) (by assumption) ?_
    rotate_left
    · (intro w' hSw; obtain ⟨q0, q1, q2⟩ := hSw; go_simp; try with_reducible rfl)
    (try simp only [List.getElem_toArray, List.getElem_cons_succ, List.getElem_cons_zero, Act.put, List.setIfInBounds_toArray, List.set_cons_zero, List.set_cons_succ])
    refine wpAnyH_ready (rs := [11]) (by kernel_rfl) (by simp) ?_
    refine AllReadyH.cons (o := _) rfl (fun K hK => ?_) AllReadyH.nil
    have z0 := RZ.out.cell 0
    have z1 := RZ.out.cell 1
    have z2 := RZ.out.cell 2
    have y0 := RZ.out.froz 0
    have y1 := RZ.out.froz 1
    have y2' := RZ.out.froz 2
    simp only [List.getElem?_toArray, List.getElem?_cons_zero, List.getElem?_cons_succ] at z0 z1 z2
    go_simp
    try dsimp only
    have hbx : HBx (((v16.setCell ⟨B, 0, none⟩ (.slice bb 7 xx)).setCell ⟨B, 1, none⟩ (.slice mm 0 yy)).setCell ⟨B, 2, none⟩ (.int .i64 7)) B bb 7 xx mm 0 yy 7 := HBx.set3 RZ.out
    have ho := Oth.set3 v16 B (.slice bb 7 xx) (.slice mm 0 yy) (.int .i64 7)
    have r2 := ho.cels RZ.out Hr2.out
    have s2 := ho.ints RZ.out Hs2.out (by simp)
    have u2 := ho.ints RZ.out Hu2.out (by simp)
    have hd17 : Below w11.heap.size w11 (((v16.setCell ⟨B, 0, none⟩ (.slice bb 7 xx)).setCell ⟨B, 1, none⟩ (.slice mm 0 yy)).setCell ⟨B, 2, none⟩ (.int .i64 7)) := hd16.trans ((set3 B v16 _ _ _).mono HGE.out)
    clear z0 z1 z2 y0 y1 y2'
    refine hK.out _ _ (HS.out _ hd17) (fun hSv17 => ?_)
    clear hK K
    (try simp only [List.getElem_toArray, List.getElem_cons_succ, List.getElem_cons_zero, Act.put, List.setIfInBounds_toArray, List.set_cons_zero, List.set_cons_succ])
    have HX2 := mkHid hbx
    have Hr2 := mkHid r2
    have Hs2 := mkHid s2
    have Hu2 := mkHid u2
    have HD := mkHid hd17
    clear hbx r2 s2 u2 ho
    refine wpAnyH_take (i := 12) (oi := _) (v := ?_) rfl (by kernel_rfl) (by kernel_rfl) (by kernel_rfl) (fun _ _ _ h => h) (Or.inl ⟨by rfl, ?_⟩) (by assumption) ?_
    rotate_left
    · (intro w' hSw; obtain ⟨q0, q1, q2⟩ := hSw; go_simp; try with_reducible rfl)
    (try simp only [List.getElem_toArray, List.getElem_cons_succ, List.getElem_cons_zero, Act.put, List.setIfInBounds_toArray, List.set_cons_zero, List.set_cons_succ])
    refine wpAnyH_take (i := 13) (oi := _) (v := ?_) rfl (by kernel_rfl) (by kernel_rfl) (by kernel_rfl) (fun _ _ _ h => h) (Or.inl ⟨by rfl, ?_⟩) (by assumption) ?_
    rotate_left
    · (intro w' hSw; obtain ⟨q0, q1, q2⟩ := hSw; go_simp; try with_reducible rfl)
    (try simp only [List.getElem_toArray, List.getElem_cons_succ, List.getElem_cons_zero, Act.put, List.setIfInBounds_toArray, List.set_cons_zero, List.set_cons_succ])
    refine wpAnyH_take (i := 14) (oi := _) (v := ?_) rfl (by kernel_rfl) (by kernel_rfl) (by kernel_rfl) (fun _ _ _ h => h) (Or.inl ⟨by rfl, ?_⟩) (by assumption) ?_
    rotate_left
    · (intro w' hSw; obtain ⟨q0, q1, q2⟩ := hSw; go_simp; try with_reducible rfl)
    (try simp only [List.getElem_toArray, List.getElem_cons_succ, List.getElem_cons_zero, Act.put, List.setIfInBounds_toArray, List.set_cons_zero, List.set_cons_succ])
    refine wpAnyH_done (by kernel_rfl) (NoPanic.normal ?_) _
    refine ⟨rfl, ?_⟩
    (repeat apply Exists.intro)
    exact ⟨rfl, HX2.out, Hr2.out, Hs2.out, Hu2.out, HD.out⟩
  rintro ev A' w12 ⟨rfl, e61, e62, e63, e64, e65, e60, e66, e67, e68, e69, B4, b4, x4, m4, y4, f4, g4, rfl, hbx, r2, s2, u2, hw12⟩
  subst hA
  simp only [Act.put, List.setIfInBounds_toArray, List.set_cons_zero, List.set_cons_succ]
  replace R1 := mkHid (R1.out.below hw12)
  replace S1 := mkHid (S1.out.below hw12)
  replace U1 := mkHid (U1.out.below hw12)
  replace X1 := mkHid (X1.out.below hw12)
  replace X2 := mkHid (X2.out.below hw12)
  replace R2 := mkHid (R2.out.below hw12)
  replace S2 := mkHid (S2.out.below hw12)
  replace U2 := mkHid (U2.out.below hw12)
  replace HB := mkHid (HB.out.then hw12)
  clear hw12
  clear hbx r2 s2 u2
  obtain ⟨j20, j21, j22⟩ := X2.out
  go_wp2_with fail
  clear j20 j21 j22
  refine (uniK (n2 := 7) (m2 := 1) R2.out S2.out (by decide) (by decide) (by simp [pfit]) hdG_few (fun h => uout_some hd_u1 h) rfl rfl rfl rfl).mono ?_
  rintro e w13 ⟨a5, c5, t5, d5, rfl, r5, s5, hw13⟩
  replace R1 := mkHid (R1.out.below hw13)
  replace S1 := mkHid (S1.out.below hw13)
  replace U1 := mkHid (U1.out.below hw13)
  replace X1 := mkHid (X1.out.below hw13)
  replace X2 := mkHid (X2.out.below hw13)
  replace R2 := mkHid (R2.out.below hw13)
  replace S2 := mkHid (S2.out.below hw13)
  replace U2 := mkHid (U2.out.below hw13)
  replace HB := mkHid (HB.out.then hw13)
  clear hw13
  have R5 := mkHid (r5)
  have S5 := mkHid (s5)
  clear r5 s5
  go_wp2_with fail
  have q_5 : HBx (w13.alloc (.cells #[.slice a5 7 c5, .slice t5 1 d5, .int .i64 7] 25)) w13.heap.size a5 7 c5 t5 1 d5 7 := ⟨World.cell?_alloc_at _ _ _ 0 rfl, World.cell?_alloc_at _ _ _ 1 rfl, World.cell?_alloc_at _ _ _ 2 rfl⟩
  have hw14 := (Below.refl w13.heap.size w13).new (.cells #[.slice a5 7 c5, .slice t5 1 d5, .int .i64 7] 25)
  replace R1 := mkHid (R1.out.below hw14)
  replace S1 := mkHid (S1.out.below hw14)
  replace U1 := mkHid (U1.out.below hw14)
  replace X1 := mkHid (X1.out.below hw14)
  replace X2 := mkHid (X2.out.below hw14)
  replace R2 := mkHid (R2.out.below hw14)
  replace S2 := mkHid (S2.out.below hw14)
  replace U2 := mkHid (U2.out.below hw14)
  replace R5 := mkHid (R5.out.below hw14)
  replace S5 := mkHid (S5.out.below hw14)
  replace HB := mkHid (HB.out.then hw14)
  obtain ⟨w14, hV⟩ : ∃ V, w13.alloc (.cells #[.slice a5 7 c5, .slice t5 1 d5, .int .i64 7] 25) = V := ⟨_, rfl⟩
  obtain ⟨G5, hG⟩ : ∃ V, w13.heap.size = V := ⟨_, rfl⟩
  rw [hV] at R1 S1 U1 X1 X2 R2 S2 U2 R5 S5 HB q_5 ⊢
  rw [hG] at q_5 ⊢
  have X5 := mkHid q_5
  clear hV hG q_5 hw14
  refine (getK (n2 := 5) R5.out (by decide) (by decide) (by decide) get_u rfl rfl).mono ?_
  rintro e w15 ⟨a6, c6, rfl, r6, hw15⟩
  replace R1 := mkHid (R1.out.below hw15)
  replace S1 := mkHid (S1.out.below hw15)
  replace U1 := mkHid (U1.out.below hw15)
  replace X1 := mkHid (X1.out.below hw15)
  replace X2 := mkHid (X2.out.below hw15)
  replace R2 := mkHid (R2.out.below hw15)
  replace S2 := mkHid (S2.out.below hw15)
  replace U2 := mkHid (U2.out.below hw15)
  replace R5 := mkHid (R5.out.below hw15)
  replace S5 := mkHid (S5.out.below hw15)
  replace X5 := mkHid (X5.out.below hw15)
  replace HB := mkHid (HB.out.then hw15)
  clear hw15
  have R6 := mkHid (r6)
  clear r6
  obtain ⟨j20, j21, j22⟩ := X2.out
  go_wp2_with fail
  clear j20 j21 j22
  refine (uniK (n2 := 7) (m2 := 0) R2.out S2.out (by decide) (by decide) (by simp [pfit]) hdG_few (fun h => uout_none hd_u2 h) rfl rfl rfl rfl).mono ?_
  rintro e w16 ⟨a7, c7, t7, d7, rfl, r7, s7, hw16⟩
  replace R1 := mkHid (R1.out.below hw16)
  replace S1 := mkHid (S1.out.below hw16)
  replace U1 := mkHid (U1.out.below hw16)
  replace X1 := mkHid (X1.out.below hw16)
  replace X2 := mkHid (X2.out.below hw16)
  replace R2 := mkHid (R2.out.below hw16)
  replace S2 := mkHid (S2.out.below hw16)
  replace U2 := mkHid (U2.out.below hw16)
  replace R5 := mkHid (R5.out.below hw16)
  replace S5 := mkHid (S5.out.below hw16)
  replace X5 := mkHid (X5.out.below hw16)
  replace R6 := mkHid (R6.out.below hw16)
  replace HB := mkHid (HB.out.then hw16)
  clear hw16
  have R7 := mkHid (r7)
  have S7 := mkHid (s7)
  clear r7 s7
  go_wp2_with fail
  have q_7 : HBx (w16.alloc (.cells #[.slice a7 7 c7, .slice t7 0 d7, .int .i64 7] 25)) w16.heap.size a7 7 c7 t7 0 d7 7 := ⟨World.cell?_alloc_at _ _ _ 0 rfl, World.cell?_alloc_at _ _ _ 1 rfl, World.cell?_alloc_at _ _ _ 2 rfl⟩
  have hw17 := (Below.refl w16.heap.size w16).new (.cells #[.slice a7 7 c7, .slice t7 0 d7, .int .i64 7] 25)
  replace R1 := mkHid (R1.out.below hw17)
  replace S1 := mkHid (S1.out.below hw17)
  replace U1 := mkHid (U1.out.below hw17)
  replace X1 := mkHid (X1.out.below hw17)
  replace X2 := mkHid (X2.out.below hw17)
  replace R2 := mkHid (R2.out.below hw17)
  replace S2 := mkHid (S2.out.below hw17)
  replace U2 := mkHid (U2.out.below hw17)
  replace R5 := mkHid (R5.out.below hw17)
  replace S5 := mkHid (S5.out.below hw17)
  replace X5 := mkHid (X5.out.below hw17)
  replace R6 := mkHid (R6.out.below hw17)
  replace R7 := mkHid (R7.out.below hw17)
  replace S7 := mkHid (S7.out.below hw17)
  replace HB := mkHid (HB.out.then hw17)
  obtain ⟨w17, hV⟩ : ∃ V, w16.alloc (.cells #[.slice a7 7 c7, .slice t7 0 d7, .int .i64 7] 25) = V := ⟨_, rfl⟩
  obtain ⟨G7, hG⟩ : ∃ V, w16.heap.size = V := ⟨_, rfl⟩
  rw [hV] at R1 S1 U1 X1 X2 R2 S2 U2 R5 S5 X5 R6 R7 S7 HB q_7 ⊢
  rw [hG] at q_7 ⊢
  have X7 := mkHid q_7
  clear hV hG q_7 hw17
  generalize hA : Act.mk _ _ = A0
  refine Code.wp_mono (Q := fun ev A' W' => ev = .normal ∧ ∃ (e85 e86 e87 e88 : Value) (B : Nat) (b2 : Option Addr) (x2 : Nat) (m2 : Option Addr) (y2 : Nat), A' = (((((A0.put (some 85) e85).put (some 86) e86).put (some 87) e87).put (some 88) e88).put (some 23) (.pointer (some ⟨B, 0, none⟩))) ∧ HBx W' B b2 6 x2 m2 0 y2 7 ∧ Row W' b2 x2 hdH ∧ Row W' m2 y2 ([] : List Int) ∧ Below w17.heap.size w17 W') ?_ ?_
  rotate_left
  · subst hA
    have HS : Hid (∀ X, Below w17.heap.size w17 X → (fun X => HBx X G5 a5 7 c5 t5 1 d5 7 ∧ HBx X G1 a1 6 c1 t1 0 d1 7) X) := fun X h => ⟨X5.out.below h, X1.out.below h⟩
    have hd0 : Below w17.heap.size w17 w17.drew := (Below.refl _ _).drew
    refine wp_region_noPanic ?_
    refine wp_region_held_drew (S := fun X => HBx X G5 a5 7 c5 t5 1 d5 7 ∧ HBx X G1 a1 6 c1 t1 0 d1 7) (by kernel_rfl) (HS.out _ hd0) (fun hSd => ?_)
    obtain ⟨v0, hx0⟩ : ∃ X, w17.drew = X := ⟨_, rfl⟩
    rw [hx0] at hd0 hSd ⊢
    clear hx0
    refine wpAnyH_take (i := 0) (oi := _) (v := ?_) rfl (by kernel_rfl) (by kernel_rfl) (by kernel_rfl) (fun _ _ _ h => h) (Or.inl ⟨by rfl, ?_⟩) (by assumption) ?_
    rotate_left
    · (intro w' hSw; obtain ⟨⟨q0, q1, q2⟩, ⟨q3, q4, q5⟩⟩ := hSw; go_simp; try with_reducible rfl)
    (try simp only [List.getElem_toArray, List.getElem_cons_succ, List.getElem_cons_zero, Act.put, List.setIfInBounds_toArray, List.set_cons_zero, List.set_cons_succ])
    refine wpAnyH_take (i := 1) (oi := _) (v := ?_) rfl (by kernel_rfl) (by kernel_rfl) (by kernel_rfl) (fun _ _ _ h => h) (Or.inl ⟨by rfl, ?_⟩) (by assumption) ?_
    rotate_left
    · (intro w' hSw; obtain ⟨⟨q0, q1, q2⟩, ⟨q3, q4, q5⟩⟩ := hSw; go_simp; try with_reducible rfl)
    (try simp only [List.getElem_toArray, List.getElem_cons_succ, List.getElem_cons_zero, Act.put, List.setIfInBounds_toArray, List.set_cons_zero, List.set_cons_succ])
    refine wpAnyH_ready (rs := [2, 4]) (by kernel_rfl) (by simp) ?_
    refine AllReadyH.cons (o := _) rfl (fun K hK => ?_) ?_
    · skip
      go_simp
      refine (markK (x := 6) (y := 0) _ rfl rfl).mono ?_
      rintro e v1 ⟨ma, mc, rfl, hbv1⟩
      have hd1 := hd0.then hbv1
      try dsimp only
      clear hbv1
      refine hK.out _ _ (HS.out _ hd1) (fun hSv1 => ?_)
      clear hK K
      (try simp only [List.getElem_toArray, List.getElem_cons_succ, List.getElem_cons_zero, Act.put, List.setIfInBounds_toArray, List.set_cons_zero, List.set_cons_succ])
      refine wpAnyH_ready (rs := [3, 4]) (by kernel_rfl) (by simp) ?_
      refine AllReadyH.cons (o := _) rfl (fun K hK => ?_) ?_
      · skip
        go_simp
        refine (undoK (n2 := 6) (m2 := 0) (R5.out.below hd1) (S5.out.below hd1) (by decide) (by decide) (by decide) (by decide) (by decide) (by decide) undo_u (by decide +kernel : List.take _ _ = []) rfl rfl rfl (by decide +kernel)).mono ?_
        rintro e v2 ⟨bb, xx, mm, yy, rfl, r2, s2, hbv2⟩
        have hd2 := hd1.then hbv2
        try dsimp only
        clear hbv2
        have Hr2 := mkHid r2
        clear r2
        have Hs2 := mkHid s2
        clear s2
        refine hK.out _ _ (HS.out _ hd2) (fun hSv2 => ?_)
        clear hK K
        (try simp only [List.getElem_toArray, List.getElem_cons_succ, List.getElem_cons_zero, Act.put, List.setIfInBounds_toArray, List.set_cons_zero, List.set_cons_succ])
        refine wpAnyH_ready (rs := [4]) (by kernel_rfl) (by simp) ?_
        refine AllReadyH.cons (o := _) rfl (fun K hK => ?_) AllReadyH.nil
        go_simp
        try dsimp only
        have q0 : ZB (v2.alloc (.cells #[.slice none 0 0, .slice none 0 0, .int .i64 0] 25)) v2.heap.size := ZB.new v2
        have hge := hd2.size
        have hbv3 := (Below.refl v2.heap.size v2).new (.cells #[.slice none 0 0, .slice none 0 0, .int .i64 0] 25)
        replace Hr2 := mkHid (Hr2.out.below hbv3)
        replace Hs2 := mkHid (Hs2.out.below hbv3)
        have hd3 := hd2.then hbv3
        clear hbv3
        refine hK.out _ _ (HS.out _ hd3) (fun hSv3 => ?_)
        clear hK K
        (try simp only [List.getElem_toArray, List.getElem_cons_succ, List.getElem_cons_zero, Act.put, List.setIfInBounds_toArray, List.set_cons_zero, List.set_cons_succ])
        obtain ⟨v3, hV⟩ : ∃ V, v2.alloc (.cells #[.slice none 0 0, .slice none 0 0, .int .i64 0] 25) = V := ⟨_, rfl⟩
        obtain ⟨B, hG⟩ : ∃ V, v2.heap.size = V := ⟨_, rfl⟩
        rw [hV] at q0 hd3 hSv3 Hr2 Hs2 ⊢
        rw [hG] at q0 hge ⊢
        have RZ := mkHid q0
        clear hV hG q0
        have HGE := mkHid hge
        clear hge
        refine wpAnyH_ready (rs := [5]) (by kernel_rfl) (by simp) ?_
        refine AllReadyH.cons (o := _) rfl (fun K hK => ?_) AllReadyH.nil
        have z0 := RZ.out.cell 0
        have z1 := RZ.out.cell 1
        have z2 := RZ.out.cell 2
        have y0 := RZ.out.froz 0
        have y1 := RZ.out.froz 1
        have y2' := RZ.out.froz 2
        simp only [List.getElem?_toArray, List.getElem?_cons_zero, List.getElem?_cons_succ] at z0 z1 z2
        go_simp
        try dsimp only
        have hbx : HBx (((v3.setCell ⟨B, 0, none⟩ (.slice bb 6 xx)).setCell ⟨B, 1, none⟩ (.slice mm 0 yy)).setCell ⟨B, 2, none⟩ (.int .i64 7)) B bb 6 xx mm 0 yy 7 := HBx.set3 RZ.out
        have ho := Oth.set3 v3 B (.slice bb 6 xx) (.slice mm 0 yy) (.int .i64 7)
        have r2 := ho.cels RZ.out Hr2.out
        have s2 := ho.ints RZ.out Hs2.out (by simp)
        have hd4 : Below w17.heap.size w17 (((v3.setCell ⟨B, 0, none⟩ (.slice bb 6 xx)).setCell ⟨B, 1, none⟩ (.slice mm 0 yy)).setCell ⟨B, 2, none⟩ (.int .i64 7)) := hd3.trans ((set3 B v3 _ _ _).mono HGE.out)
        clear z0 z1 z2 y0 y1 y2'
        refine hK.out _ _ (HS.out _ hd4) (fun hSv4 => ?_)
        clear hK K
        (try simp only [List.getElem_toArray, List.getElem_cons_succ, List.getElem_cons_zero, Act.put, List.setIfInBounds_toArray, List.set_cons_zero, List.set_cons_succ])
        refine wpAnyH_done (by kernel_rfl) (NoPanic.normal ?_) _
        refine ⟨rfl, ?_⟩
        (repeat apply Exists.intro)
        exact ⟨rfl, hbx, r2, s2, hd4⟩
      refine AllReadyH.cons (o := _) rfl (fun K hK => ?_) AllReadyH.nil
      go_simp
      try dsimp only
      have q0 : ZB (v1.alloc (.cells #[.slice none 0 0, .slice none 0 0, .int .i64 0] 25)) v1.heap.size := ZB.new v1
      have hge := hd1.size
      have hbv5 := (Below.refl v1.heap.size v1).new (.cells #[.slice none 0 0, .slice none 0 0, .int .i64 0] 25)
      have hd5 := hd1.then hbv5
      clear hbv5
      refine hK.out _ _ (HS.out _ hd5) (fun hSv5 => ?_)
      clear hK K
      (try simp only [List.getElem_toArray, List.getElem_cons_succ, List.getElem_cons_zero, Act.put, List.setIfInBounds_toArray, List.set_cons_zero, List.set_cons_succ])
      obtain ⟨v5, hV⟩ : ∃ V, v1.alloc (.cells #[.slice none 0 0, .slice none 0 0, .int .i64 0] 25) = V := ⟨_, rfl⟩
      obtain ⟨B, hG⟩ : ∃ V, v1.heap.size = V := ⟨_, rfl⟩
      rw [hV] at q0 hd5 hSv5  ⊢
      rw [hG] at q0 hge ⊢
      have RZ := mkHid q0
      clear hV hG q0
      have HGE := mkHid hge
      clear hge
      refine wpAnyH_ready (rs := [3]) (by kernel_rfl) (by simp) ?_
      refine AllReadyH.cons (o := _) rfl (fun K hK => ?_) AllReadyH.nil
      go_simp
      refine (undoK (n2 := 6) (m2 := 0) (R5.out.below hd5) (S5.out.below hd5) (by decide) (by decide) (by decide) (by decide) (by decide) (by decide) undo_u (by decide +kernel : List.take _ _ = []) rfl rfl rfl (by decide +kernel)).mono ?_
      rintro e v6 ⟨bb, xx, mm, yy, rfl, r2, s2, hbv6⟩
      replace RZ := mkHid (RZ.out.below hbv6)
      have hd6 := hd5.then hbv6
      try dsimp only
      clear hbv6
      have Hr2 := mkHid r2
      clear r2
      have Hs2 := mkHid s2
      clear s2
      refine hK.out _ _ (HS.out _ hd6) (fun hSv6 => ?_)
      clear hK K
      (try simp only [List.getElem_toArray, List.getElem_cons_succ, List.getElem_cons_zero, Act.put, List.setIfInBounds_toArray, List.set_cons_zero, List.set_cons_succ])
      refine wpAnyH_ready (rs := [5]) (by kernel_rfl) (by simp) ?_
      refine AllReadyH.cons (o := _) rfl (fun K hK => ?_) AllReadyH.nil
      have z0 := RZ.out.cell 0
      have z1 := RZ.out.cell 1
      have z2 := RZ.out.cell 2
      have y0 := RZ.out.froz 0
      have y1 := RZ.out.froz 1
      have y2' := RZ.out.froz 2
      simp only [List.getElem?_toArray, List.getElem?_cons_zero, List.getElem?_cons_succ] at z0 z1 z2
      go_simp
      try dsimp only
      have hbx : HBx (((v6.setCell ⟨B, 0, none⟩ (.slice bb 6 xx)).setCell ⟨B, 1, none⟩ (.slice mm 0 yy)).setCell ⟨B, 2, none⟩ (.int .i64 7)) B bb 6 xx mm 0 yy 7 := HBx.set3 RZ.out
      have ho := Oth.set3 v6 B (.slice bb 6 xx) (.slice mm 0 yy) (.int .i64 7)
      have r2 := ho.cels RZ.out Hr2.out
      have s2 := ho.ints RZ.out Hs2.out (by simp)
      have hd7 : Below w17.heap.size w17 (((v6.setCell ⟨B, 0, none⟩ (.slice bb 6 xx)).setCell ⟨B, 1, none⟩ (.slice mm 0 yy)).setCell ⟨B, 2, none⟩ (.int .i64 7)) := hd6.trans ((set3 B v6 _ _ _).mono HGE.out)
      clear z0 z1 z2 y0 y1 y2'
      refine hK.out _ _ (HS.out _ hd7) (fun hSv7 => ?_)
      clear hK K
      (try simp only [List.getElem_toArray, List.getElem_cons_succ, List.getElem_cons_zero, Act.put, List.setIfInBounds_toArray, List.set_cons_zero, List.set_cons_succ])
      refine wpAnyH_done (by kernel_rfl) (NoPanic.normal ?_) _
      refine ⟨rfl, ?_⟩
      (repeat apply Exists.intro)
      exact ⟨rfl, hbx, r2, s2, hd7⟩
    refine AllReadyH.cons (o := _) rfl (fun K hK => ?_) AllReadyH.nil
    go_simp
    try dsimp only
    have q0 : ZB (v0.alloc (.cells #[.slice none 0 0, .slice none 0 0, .int .i64 0] 25)) v0.heap.size := ZB.new v0
    have hge := hd0.size
    have hbv8 := (Below.refl v0.heap.size v0).new (.cells #[.slice none 0 0, .slice none 0 0, .int .i64 0] 25)
    have hd8 := hd0.then hbv8
    clear hbv8
    refine hK.out _ _ (HS.out _ hd8) (fun hSv8 => ?_)
    clear hK K
    (try simp only [List.getElem_toArray, List.getElem_cons_succ, List.getElem_cons_zero, Act.put, List.setIfInBounds_toArray, List.set_cons_zero, List.set_cons_succ])
    obtain ⟨v8, hV⟩ : ∃ V, v0.alloc (.cells #[.slice none 0 0, .slice none 0 0, .int .i64 0] 25) = V := ⟨_, rfl⟩
    obtain ⟨B, hG⟩ : ∃ V, v0.heap.size = V := ⟨_, rfl⟩
    rw [hV] at q0 hd8 hSv8  ⊢
    rw [hG] at q0 hge ⊢
    have RZ := mkHid q0
    clear hV hG q0
    have HGE := mkHid hge
    clear hge
    refine wpAnyH_ready (rs := [2]) (by kernel_rfl) (by simp) ?_
    refine AllReadyH.cons (o := _) rfl (fun K hK => ?_) AllReadyH.nil
    go_simp
    refine (markK (x := 6) (y := 0) _ rfl rfl).mono ?_
    rintro e v9 ⟨ma, mc, rfl, hbv9⟩
    replace RZ := mkHid (RZ.out.below hbv9)
    have hd9 := hd8.then hbv9
    try dsimp only
    clear hbv9
    refine hK.out _ _ (HS.out _ hd9) (fun hSv9 => ?_)
    clear hK K
    (try simp only [List.getElem_toArray, List.getElem_cons_succ, List.getElem_cons_zero, Act.put, List.setIfInBounds_toArray, List.set_cons_zero, List.set_cons_succ])
    refine wpAnyH_ready (rs := [3]) (by kernel_rfl) (by simp) ?_
    refine AllReadyH.cons (o := _) rfl (fun K hK => ?_) AllReadyH.nil
    go_simp
    refine (undoK (n2 := 6) (m2 := 0) (R5.out.below hd9) (S5.out.below hd9) (by decide) (by decide) (by decide) (by decide) (by decide) (by decide) undo_u (by decide +kernel : List.take _ _ = []) rfl rfl rfl (by decide +kernel)).mono ?_
    rintro e v10 ⟨bb, xx, mm, yy, rfl, r2, s2, hbv10⟩
    replace RZ := mkHid (RZ.out.below hbv10)
    have hd10 := hd9.then hbv10
    try dsimp only
    clear hbv10
    have Hr2 := mkHid r2
    clear r2
    have Hs2 := mkHid s2
    clear s2
    refine hK.out _ _ (HS.out _ hd10) (fun hSv10 => ?_)
    clear hK K
    (try simp only [List.getElem_toArray, List.getElem_cons_succ, List.getElem_cons_zero, Act.put, List.setIfInBounds_toArray, List.set_cons_zero, List.set_cons_succ])
    refine wpAnyH_ready (rs := [5]) (by kernel_rfl) (by simp) ?_
    refine AllReadyH.cons (o := _) rfl (fun K hK => ?_) AllReadyH.nil
    have z0 := RZ.out.cell 0
    have z1 := RZ.out.cell 1
    have z2 := RZ.out.cell 2
    have y0 := RZ.out.froz 0
    have y1 := RZ.out.froz 1
    have y2' := RZ.out.froz 2
    simp only [List.getElem?_toArray, List.getElem?_cons_zero, List.getElem?_cons_succ] at z0 z1 z2
    go_simp
    try dsimp only
    have hbx : HBx (((v10.setCell ⟨B, 0, none⟩ (.slice bb 6 xx)).setCell ⟨B, 1, none⟩ (.slice mm 0 yy)).setCell ⟨B, 2, none⟩ (.int .i64 7)) B bb 6 xx mm 0 yy 7 := HBx.set3 RZ.out
    have ho := Oth.set3 v10 B (.slice bb 6 xx) (.slice mm 0 yy) (.int .i64 7)
    have r2 := ho.cels RZ.out Hr2.out
    have s2 := ho.ints RZ.out Hs2.out (by simp)
    have hd11 : Below w17.heap.size w17 (((v10.setCell ⟨B, 0, none⟩ (.slice bb 6 xx)).setCell ⟨B, 1, none⟩ (.slice mm 0 yy)).setCell ⟨B, 2, none⟩ (.int .i64 7)) := hd10.trans ((set3 B v10 _ _ _).mono HGE.out)
    clear z0 z1 z2 y0 y1 y2'
    refine hK.out _ _ (HS.out _ hd11) (fun hSv11 => ?_)
    clear hK K
    (try simp only [List.getElem_toArray, List.getElem_cons_succ, List.getElem_cons_zero, Act.put, List.setIfInBounds_toArray, List.set_cons_zero, List.set_cons_succ])
    refine wpAnyH_done (by kernel_rfl) (NoPanic.normal ?_) _
    refine ⟨rfl, ?_⟩
    (repeat apply Exists.intro)
    exact ⟨rfl, hbx, r2, s2, hd11⟩
  rintro ev A' w18 ⟨rfl, e85, e86, e87, e88, B8, b8, x8, m8, y8, rfl, hbx, r2, s2, hw18⟩
  subst hA
  simp only [Act.put, List.setIfInBounds_toArray, List.set_cons_zero, List.set_cons_succ]
  replace R1 := mkHid (R1.out.below hw18)
  replace S1 := mkHid (S1.out.below hw18)
  replace U1 := mkHid (U1.out.below hw18)
  replace X1 := mkHid (X1.out.below hw18)
  replace X2 := mkHid (X2.out.below hw18)
  replace R2 := mkHid (R2.out.below hw18)
  replace S2 := mkHid (S2.out.below hw18)
  replace U2 := mkHid (U2.out.below hw18)
  replace R5 := mkHid (R5.out.below hw18)
  replace S5 := mkHid (S5.out.below hw18)
  replace X5 := mkHid (X5.out.below hw18)
  replace R6 := mkHid (R6.out.below hw18)
  replace R7 := mkHid (R7.out.below hw18)
  replace S7 := mkHid (S7.out.below hw18)
  replace X7 := mkHid (X7.out.below hw18)
  replace HB := mkHid (HB.out.then hw18)
  clear hw18
  have X8 := mkHid (hbx)
  have R8 := mkHid (r2)
  have S8 := mkHid (s2)
  clear hbx r2 s2
  obtain ⟨j20, j21, j22⟩ := X2.out
  go_wp2_with fail
  clear j20 j21 j22
  refine (getK (n2 := 2) R2.out (by decide) (by decide) (by decide) get_g rfl rfl).mono ?_
  rintro e w19 ⟨a9, c9, rfl, r9, hw19⟩
  replace R1 := mkHid (R1.out.below hw19)
  replace S1 := mkHid (S1.out.below hw19)
  replace U1 := mkHid (U1.out.below hw19)
  replace X1 := mkHid (X1.out.below hw19)
  replace X2 := mkHid (X2.out.below hw19)
  replace R2 := mkHid (R2.out.below hw19)
  replace S2 := mkHid (S2.out.below hw19)
  replace U2 := mkHid (U2.out.below hw19)
  replace R5 := mkHid (R5.out.below hw19)
  replace S5 := mkHid (S5.out.below hw19)
  replace X5 := mkHid (X5.out.below hw19)
  replace R6 := mkHid (R6.out.below hw19)
  replace R7 := mkHid (R7.out.below hw19)
  replace S7 := mkHid (S7.out.below hw19)
  replace X7 := mkHid (X7.out.below hw19)
  replace X8 := mkHid (X8.out.below hw19)
  replace R8 := mkHid (R8.out.below hw19)
  replace S8 := mkHid (S8.out.below hw19)
  replace HB := mkHid (HB.out.then hw19)
  clear hw19
  have R9 := mkHid (r9)
  clear r9
  obtain ⟨j10, j11, j12⟩ := X1.out
  obtain ⟨j20, j21, j22⟩ := X2.out
  obtain ⟨j50, j51, j52⟩ := X5.out
  obtain ⟨j70, j71, j72⟩ := X7.out
  obtain ⟨j80, j81, j82⟩ := X8.out
  go_wp2_with fail
  clear j10 j11 j12 j20 j21 j22 j50 j51 j52 j70 j71 j72 j80 j81 j82
  have q_N : Row (w19.alloc (.cells #[.int .i64 4, .string ⟨#[102]⟩, .int .i64 3, .int .i64 1, .string ⟨#[]⟩, .int .i64 1, .int .i64 3, .string ⟨#[]⟩, .int .i64 4, .int .i64 2, .string ⟨#[]⟩, .int .i64 7, .int .i64 4, .string ⟨#[103]⟩, .int .i64 1, .int .i64 1, .string ⟨#[]⟩, .int .i64 1] 80)) (some ⟨w19.heap.size, 0, none⟩) 6 hdH := cellsH w19 hdH 6 _ rfl rfl (by decide +kernel) (by decide) _
  have hw20 := (Below.refl w19.heap.size w19).new (.cells #[.int .i64 4, .string ⟨#[102]⟩, .int .i64 3, .int .i64 1, .string ⟨#[]⟩, .int .i64 1, .int .i64 3, .string ⟨#[]⟩, .int .i64 4, .int .i64 2, .string ⟨#[]⟩, .int .i64 7, .int .i64 4, .string ⟨#[103]⟩, .int .i64 1, .int .i64 1, .string ⟨#[]⟩, .int .i64 1] 80)
  replace R1 := mkHid (R1.out.below hw20)
  replace S1 := mkHid (S1.out.below hw20)
  replace U1 := mkHid (U1.out.below hw20)
  replace X1 := mkHid (X1.out.below hw20)
  replace X2 := mkHid (X2.out.below hw20)
  replace R2 := mkHid (R2.out.below hw20)
  replace S2 := mkHid (S2.out.below hw20)
  replace U2 := mkHid (U2.out.below hw20)
  replace R5 := mkHid (R5.out.below hw20)
  replace S5 := mkHid (S5.out.below hw20)
  replace X5 := mkHid (X5.out.below hw20)
  replace R6 := mkHid (R6.out.below hw20)
  replace R7 := mkHid (R7.out.below hw20)
  replace S7 := mkHid (S7.out.below hw20)
  replace X7 := mkHid (X7.out.below hw20)
  replace X8 := mkHid (X8.out.below hw20)
  replace R8 := mkHid (R8.out.below hw20)
  replace S8 := mkHid (S8.out.below hw20)
  replace R9 := mkHid (R9.out.below hw20)
  replace HB := mkHid (HB.out.then hw20)
  have hz : (w19.alloc (.cells #[.int .i64 4, .string ⟨#[102]⟩, .int .i64 3, .int .i64 1, .string ⟨#[]⟩, .int .i64 1, .int .i64 3, .string ⟨#[]⟩, .int .i64 4, .int .i64 2, .string ⟨#[]⟩, .int .i64 7, .int .i64 4, .string ⟨#[103]⟩, .int .i64 1, .int .i64 1, .string ⟨#[]⟩, .int .i64 1] 80)).heap.size = w19.heap.size + 1 := World.size_alloc _ _
  obtain ⟨w20, hV⟩ : ∃ V, w19.alloc (.cells #[.int .i64 4, .string ⟨#[102]⟩, .int .i64 3, .int .i64 1, .string ⟨#[]⟩, .int .i64 1, .int .i64 3, .string ⟨#[]⟩, .int .i64 4, .int .i64 2, .string ⟨#[]⟩, .int .i64 7, .int .i64 4, .string ⟨#[103]⟩, .int .i64 1, .int .i64 1, .string ⟨#[]⟩, .int .i64 1] 80) = V := ⟨_, rfl⟩
  obtain ⟨GN, hG⟩ : ∃ V, w19.heap.size = V := ⟨_, rfl⟩
  rw [hV] at R1 S1 U1 X1 X2 R2 S2 U2 R5 S5 X5 R6 R7 S7 X7 X8 R8 S8 R9 HB q_N hz ⊢
  rw [hG] at q_N hz ⊢
  have RN := mkHid q_N
  have HZ := mkHid hz
  clear hV hG q_N hz hw20
  have q_I1 : Row (w20.alloc (.cells #[.int .i64 1] 3)) (some ⟨w20.heap.size, 0, none⟩) 1 ([1] : List Int) := intH w20 _
  rw [HZ.out] at q_I1
  have hw21 := (Below.refl w20.heap.size w20).new (.cells #[.int .i64 1] 3)
  replace R1 := mkHid (R1.out.below hw21)
  replace S1 := mkHid (S1.out.below hw21)
  replace U1 := mkHid (U1.out.below hw21)
  replace X1 := mkHid (X1.out.below hw21)
  replace X2 := mkHid (X2.out.below hw21)
  replace R2 := mkHid (R2.out.below hw21)
  replace S2 := mkHid (S2.out.below hw21)
  replace U2 := mkHid (U2.out.below hw21)
  replace R5 := mkHid (R5.out.below hw21)
  replace S5 := mkHid (S5.out.below hw21)
  replace X5 := mkHid (X5.out.below hw21)
  replace R6 := mkHid (R6.out.below hw21)
  replace R7 := mkHid (R7.out.below hw21)
  replace S7 := mkHid (S7.out.below hw21)
  replace X7 := mkHid (X7.out.below hw21)
  replace X8 := mkHid (X8.out.below hw21)
  replace R8 := mkHid (R8.out.below hw21)
  replace S8 := mkHid (S8.out.below hw21)
  replace R9 := mkHid (R9.out.below hw21)
  replace RN := mkHid (RN.out.below hw21)
  replace HB := mkHid (HB.out.then hw21)
  obtain ⟨w21, hV⟩ : ∃ V, w20.alloc (.cells #[.int .i64 1] 3) = V := ⟨_, rfl⟩
  rw [hV] at R1 S1 U1 X1 X2 R2 S2 U2 R5 S5 X5 R6 R7 S7 X7 X8 R8 S8 R9 RN HB q_I1 ⊢
  have RI1 := mkHid q_I1
  clear hV q_I1 hw21
  clear HZ
  refine (intsK U1.out RI1.out rfl).mono ?_
  rintro e w22 ⟨rfl, hw22⟩
  replace R1 := mkHid (R1.out.below hw22)
  replace S1 := mkHid (S1.out.below hw22)
  replace U1 := mkHid (U1.out.below hw22)
  replace X1 := mkHid (X1.out.below hw22)
  replace X2 := mkHid (X2.out.below hw22)
  replace R2 := mkHid (R2.out.below hw22)
  replace S2 := mkHid (S2.out.below hw22)
  replace U2 := mkHid (U2.out.below hw22)
  replace R5 := mkHid (R5.out.below hw22)
  replace S5 := mkHid (S5.out.below hw22)
  replace X5 := mkHid (X5.out.below hw22)
  replace R6 := mkHid (R6.out.below hw22)
  replace R7 := mkHid (R7.out.below hw22)
  replace S7 := mkHid (S7.out.below hw22)
  replace X7 := mkHid (X7.out.below hw22)
  replace X8 := mkHid (X8.out.below hw22)
  replace R8 := mkHid (R8.out.below hw22)
  replace S8 := mkHid (S8.out.below hw22)
  replace R9 := mkHid (R9.out.below hw22)
  replace RN := mkHid (RN.out.below hw22)
  replace RI1 := mkHid (RI1.out.below hw22)
  replace HB := mkHid (HB.out.then hw22)
  clear hw22
  clear RI1
  obtain ⟨j10, j11, j12⟩ := X1.out
  obtain ⟨j20, j21, j22⟩ := X2.out
  obtain ⟨j50, j51, j52⟩ := X5.out
  obtain ⟨j70, j71, j72⟩ := X7.out
  obtain ⟨j80, j81, j82⟩ := X8.out
  go_wp2_with fail
  clear j10 j11 j12 j20 j21 j22 j50 j51 j52 j70 j71 j72 j80 j81 j82
  refine (sameK R1.out RN.out S1.out (nil_row _) rfl rfl).mono ?_
  rintro e w23 ⟨rfl, hw23⟩
  replace R1 := mkHid (R1.out.below hw23)
  replace S1 := mkHid (S1.out.below hw23)
  replace U1 := mkHid (U1.out.below hw23)
  replace X1 := mkHid (X1.out.below hw23)
  replace X2 := mkHid (X2.out.below hw23)
  replace R2 := mkHid (R2.out.below hw23)
  replace S2 := mkHid (S2.out.below hw23)
  replace U2 := mkHid (U2.out.below hw23)
  replace R5 := mkHid (R5.out.below hw23)
  replace S5 := mkHid (S5.out.below hw23)
  replace X5 := mkHid (X5.out.below hw23)
  replace R6 := mkHid (R6.out.below hw23)
  replace R7 := mkHid (R7.out.below hw23)
  replace S7 := mkHid (S7.out.below hw23)
  replace X7 := mkHid (X7.out.below hw23)
  replace X8 := mkHid (X8.out.below hw23)
  replace R8 := mkHid (R8.out.below hw23)
  replace S8 := mkHid (S8.out.below hw23)
  replace R9 := mkHid (R9.out.below hw23)
  replace RN := mkHid (RN.out.below hw23)
  replace HB := mkHid (HB.out.then hw23)
  clear hw23
  clear RN
  obtain ⟨j10, j11, j12⟩ := X1.out
  obtain ⟨j20, j21, j22⟩ := X2.out
  obtain ⟨j50, j51, j52⟩ := X5.out
  obtain ⟨j70, j71, j72⟩ := X7.out
  obtain ⟨j80, j81, j82⟩ := X8.out
  go_wp2_with fail
  clear j10 j11 j12 j20 j21 j22 j50 j51 j52 j70 j71 j72 j80 j81 j82
  have q_I2 : Row (w23.alloc (.cells #[.int .i64 1] 3)) (some ⟨w23.heap.size, 0, none⟩) 1 ([1] : List Int) := intH w23 _
  have hw24 := (Below.refl w23.heap.size w23).new (.cells #[.int .i64 1] 3)
  replace R1 := mkHid (R1.out.below hw24)
  replace S1 := mkHid (S1.out.below hw24)
  replace U1 := mkHid (U1.out.below hw24)
  replace X1 := mkHid (X1.out.below hw24)
  replace X2 := mkHid (X2.out.below hw24)
  replace R2 := mkHid (R2.out.below hw24)
  replace S2 := mkHid (S2.out.below hw24)
  replace U2 := mkHid (U2.out.below hw24)
  replace R5 := mkHid (R5.out.below hw24)
  replace S5 := mkHid (S5.out.below hw24)
  replace X5 := mkHid (X5.out.below hw24)
  replace R6 := mkHid (R6.out.below hw24)
  replace R7 := mkHid (R7.out.below hw24)
  replace S7 := mkHid (S7.out.below hw24)
  replace X7 := mkHid (X7.out.below hw24)
  replace X8 := mkHid (X8.out.below hw24)
  replace R8 := mkHid (R8.out.below hw24)
  replace S8 := mkHid (S8.out.below hw24)
  replace R9 := mkHid (R9.out.below hw24)
  replace HB := mkHid (HB.out.then hw24)
  obtain ⟨w24, hV⟩ : ∃ V, w23.alloc (.cells #[.int .i64 1] 3) = V := ⟨_, rfl⟩
  rw [hV] at R1 S1 U1 X1 X2 R2 S2 U2 R5 S5 X5 R6 R7 S7 X7 X8 R8 S8 R9 HB q_I2 ⊢
  obtain ⟨GI2, hG⟩ : ∃ V, w23.heap.size = V := ⟨_, rfl⟩
  rw [hG] at q_I2 ⊢
  clear hG
  have RI2 := mkHid q_I2
  clear hV q_I2 hw24
  refine (intsK U2.out RI2.out rfl).mono ?_
  rintro e w25 ⟨rfl, hw25⟩
  replace R1 := mkHid (R1.out.below hw25)
  replace S1 := mkHid (S1.out.below hw25)
  replace U1 := mkHid (U1.out.below hw25)
  replace X1 := mkHid (X1.out.below hw25)
  replace X2 := mkHid (X2.out.below hw25)
  replace R2 := mkHid (R2.out.below hw25)
  replace S2 := mkHid (S2.out.below hw25)
  replace U2 := mkHid (U2.out.below hw25)
  replace R5 := mkHid (R5.out.below hw25)
  replace S5 := mkHid (S5.out.below hw25)
  replace X5 := mkHid (X5.out.below hw25)
  replace R6 := mkHid (R6.out.below hw25)
  replace R7 := mkHid (R7.out.below hw25)
  replace S7 := mkHid (S7.out.below hw25)
  replace X7 := mkHid (X7.out.below hw25)
  replace X8 := mkHid (X8.out.below hw25)
  replace R8 := mkHid (R8.out.below hw25)
  replace S8 := mkHid (S8.out.below hw25)
  replace R9 := mkHid (R9.out.below hw25)
  replace RI2 := mkHid (RI2.out.below hw25)
  replace HB := mkHid (HB.out.then hw25)
  clear hw25
  clear RI2
  obtain ⟨j10, j11, j12⟩ := X1.out
  obtain ⟨j20, j21, j22⟩ := X2.out
  obtain ⟨j50, j51, j52⟩ := X5.out
  obtain ⟨j70, j71, j72⟩ := X7.out
  obtain ⟨j80, j81, j82⟩ := X8.out
  go_wp2_with fail
  clear j10 j11 j12 j20 j21 j22 j50 j51 j52 j70 j71 j72 j80 j81 j82
  have q_I3 : Row (w25.alloc (.cells #[.int .i64 1] 3)) (some ⟨w25.heap.size, 0, none⟩) 1 ([1] : List Int) := intH w25 _
  have hw26 := (Below.refl w25.heap.size w25).new (.cells #[.int .i64 1] 3)
  replace R1 := mkHid (R1.out.below hw26)
  replace S1 := mkHid (S1.out.below hw26)
  replace U1 := mkHid (U1.out.below hw26)
  replace X1 := mkHid (X1.out.below hw26)
  replace X2 := mkHid (X2.out.below hw26)
  replace R2 := mkHid (R2.out.below hw26)
  replace S2 := mkHid (S2.out.below hw26)
  replace U2 := mkHid (U2.out.below hw26)
  replace R5 := mkHid (R5.out.below hw26)
  replace S5 := mkHid (S5.out.below hw26)
  replace X5 := mkHid (X5.out.below hw26)
  replace R6 := mkHid (R6.out.below hw26)
  replace R7 := mkHid (R7.out.below hw26)
  replace S7 := mkHid (S7.out.below hw26)
  replace X7 := mkHid (X7.out.below hw26)
  replace X8 := mkHid (X8.out.below hw26)
  replace R8 := mkHid (R8.out.below hw26)
  replace S8 := mkHid (S8.out.below hw26)
  replace R9 := mkHid (R9.out.below hw26)
  replace HB := mkHid (HB.out.then hw26)
  obtain ⟨w26, hV⟩ : ∃ V, w25.alloc (.cells #[.int .i64 1] 3) = V := ⟨_, rfl⟩
  rw [hV] at R1 S1 U1 X1 X2 R2 S2 U2 R5 S5 X5 R6 R7 S7 X7 X8 R8 S8 R9 HB q_I3 ⊢
  obtain ⟨GI3, hG⟩ : ∃ V, w25.heap.size = V := ⟨_, rfl⟩
  rw [hG] at q_I3 ⊢
  clear hG
  have RI3 := mkHid q_I3
  clear hV q_I3 hw26
  refine (intsK S5.out RI3.out rfl).mono ?_
  rintro e w27 ⟨rfl, hw27⟩
  replace R1 := mkHid (R1.out.below hw27)
  replace S1 := mkHid (S1.out.below hw27)
  replace U1 := mkHid (U1.out.below hw27)
  replace X1 := mkHid (X1.out.below hw27)
  replace X2 := mkHid (X2.out.below hw27)
  replace R2 := mkHid (R2.out.below hw27)
  replace S2 := mkHid (S2.out.below hw27)
  replace U2 := mkHid (U2.out.below hw27)
  replace R5 := mkHid (R5.out.below hw27)
  replace S5 := mkHid (S5.out.below hw27)
  replace X5 := mkHid (X5.out.below hw27)
  replace R6 := mkHid (R6.out.below hw27)
  replace R7 := mkHid (R7.out.below hw27)
  replace S7 := mkHid (S7.out.below hw27)
  replace X7 := mkHid (X7.out.below hw27)
  replace X8 := mkHid (X8.out.below hw27)
  replace R8 := mkHid (R8.out.below hw27)
  replace S8 := mkHid (S8.out.below hw27)
  replace R9 := mkHid (R9.out.below hw27)
  replace RI3 := mkHid (RI3.out.below hw27)
  replace HB := mkHid (HB.out.then hw27)
  clear hw27
  clear RI3
  obtain ⟨b5, o5, rfl, hb5, hat5⟩ := R5.out.cases.resolve_left (fun e => by simp [hdU] at e)
  obtain ⟨m0, m1, m2, _⟩ := cel_at hat5 (Below.refl _ _) (show 1 < hdU.length by decide)
  clear hat5
  have n0 : w27.cell? ⟨b5, o5 + 3, none⟩ = some (.int .i64 1) := m0
  have n1 : w27.cell? ⟨b5, o5 + 3 + 1, none⟩ = some (.string ⟨#[]⟩) := m1
  have n2 : w27.cell? ⟨b5, o5 + 3 + 2, none⟩ = some (.int .i64 6) := m2
  clear m0 m1 m2
  obtain ⟨j10, j11, j12⟩ := X1.out
  obtain ⟨j20, j21, j22⟩ := X2.out
  obtain ⟨j50, j51, j52⟩ := X5.out
  obtain ⟨j70, j71, j72⟩ := X7.out
  obtain ⟨j80, j81, j82⟩ := X8.out
  go_wp2_with fail
  clear j10 j11 j12 j20 j21 j22 j50 j51 j52 j70 j71 j72 j80 j81 j82
  clear n0 n1 n2 hb5
  refine (f8_any _ _ _).mono ?_
  rintro e w28 ⟨rfl, hw28⟩
  replace R1 := mkHid (R1.out.below hw28)
  replace S1 := mkHid (S1.out.below hw28)
  replace U1 := mkHid (U1.out.below hw28)
  replace X1 := mkHid (X1.out.below hw28)
  replace X2 := mkHid (X2.out.below hw28)
  replace R2 := mkHid (R2.out.below hw28)
  replace S2 := mkHid (S2.out.below hw28)
  replace U2 := mkHid (U2.out.below hw28)
  replace R5 := mkHid (R5.out.below hw28)
  replace S5 := mkHid (S5.out.below hw28)
  replace X5 := mkHid (X5.out.below hw28)
  replace R6 := mkHid (R6.out.below hw28)
  replace R7 := mkHid (R7.out.below hw28)
  replace S7 := mkHid (S7.out.below hw28)
  replace X7 := mkHid (X7.out.below hw28)
  replace X8 := mkHid (X8.out.below hw28)
  replace R8 := mkHid (R8.out.below hw28)
  replace S8 := mkHid (S8.out.below hw28)
  replace R9 := mkHid (R9.out.below hw28)
  replace HB := mkHid (HB.out.then hw28)
  clear hw28
  obtain ⟨j10, j11, j12⟩ := X1.out
  obtain ⟨j20, j21, j22⟩ := X2.out
  obtain ⟨j50, j51, j52⟩ := X5.out
  obtain ⟨j70, j71, j72⟩ := X7.out
  obtain ⟨j80, j81, j82⟩ := X8.out
  go_wp2_with fail
  clear j10 j11 j12 j20 j21 j22 j50 j51 j52 j70 j71 j72 j80 j81 j82
  refine (n8_any _ _).mono ?_
  rintro e w29 ⟨rfl, hw29⟩
  replace R1 := mkHid (R1.out.below hw29)
  replace S1 := mkHid (S1.out.below hw29)
  replace U1 := mkHid (U1.out.below hw29)
  replace X1 := mkHid (X1.out.below hw29)
  replace X2 := mkHid (X2.out.below hw29)
  replace R2 := mkHid (R2.out.below hw29)
  replace S2 := mkHid (S2.out.below hw29)
  replace U2 := mkHid (U2.out.below hw29)
  replace R5 := mkHid (R5.out.below hw29)
  replace S5 := mkHid (S5.out.below hw29)
  replace X5 := mkHid (X5.out.below hw29)
  replace R6 := mkHid (R6.out.below hw29)
  replace R7 := mkHid (R7.out.below hw29)
  replace S7 := mkHid (S7.out.below hw29)
  replace X7 := mkHid (X7.out.below hw29)
  replace X8 := mkHid (X8.out.below hw29)
  replace R8 := mkHid (R8.out.below hw29)
  replace S8 := mkHid (S8.out.below hw29)
  replace R9 := mkHid (R9.out.below hw29)
  replace HB := mkHid (HB.out.then hw29)
  clear hw29
  obtain ⟨j10, j11, j12⟩ := X1.out
  obtain ⟨j20, j21, j22⟩ := X2.out
  obtain ⟨j50, j51, j52⟩ := X5.out
  obtain ⟨j70, j71, j72⟩ := X7.out
  obtain ⟨j80, j81, j82⟩ := X8.out
  go_wp2_with fail
  clear j10 j11 j12 j20 j21 j22 j50 j51 j52 j70 j71 j72 j80 j81 j82
  refine (f8_any _ _ _).mono ?_
  rintro e w30 ⟨rfl, hw30⟩
  replace R1 := mkHid (R1.out.below hw30)
  replace S1 := mkHid (S1.out.below hw30)
  replace U1 := mkHid (U1.out.below hw30)
  replace X1 := mkHid (X1.out.below hw30)
  replace X2 := mkHid (X2.out.below hw30)
  replace R2 := mkHid (R2.out.below hw30)
  replace S2 := mkHid (S2.out.below hw30)
  replace U2 := mkHid (U2.out.below hw30)
  replace R5 := mkHid (R5.out.below hw30)
  replace S5 := mkHid (S5.out.below hw30)
  replace X5 := mkHid (X5.out.below hw30)
  replace R6 := mkHid (R6.out.below hw30)
  replace R7 := mkHid (R7.out.below hw30)
  replace S7 := mkHid (S7.out.below hw30)
  replace X7 := mkHid (X7.out.below hw30)
  replace X8 := mkHid (X8.out.below hw30)
  replace R8 := mkHid (R8.out.below hw30)
  replace S8 := mkHid (S8.out.below hw30)
  replace R9 := mkHid (R9.out.below hw30)
  replace HB := mkHid (HB.out.then hw30)
  clear hw30
  obtain ⟨j10, j11, j12⟩ := X1.out
  obtain ⟨j20, j21, j22⟩ := X2.out
  obtain ⟨j50, j51, j52⟩ := X5.out
  obtain ⟨j70, j71, j72⟩ := X7.out
  obtain ⟨j80, j81, j82⟩ := X8.out
  go_wp2_with fail
  clear j10 j11 j12 j20 j21 j22 j50 j51 j52 j70 j71 j72 j80 j81 j82
  refine (n8_any _ _).mono ?_
  rintro e w31 ⟨rfl, hw31⟩
  replace R1 := mkHid (R1.out.below hw31)
  replace S1 := mkHid (S1.out.below hw31)
  replace U1 := mkHid (U1.out.below hw31)
  replace X1 := mkHid (X1.out.below hw31)
  replace X2 := mkHid (X2.out.below hw31)
  replace R2 := mkHid (R2.out.below hw31)
  replace S2 := mkHid (S2.out.below hw31)
  replace U2 := mkHid (U2.out.below hw31)
  replace R5 := mkHid (R5.out.below hw31)
  replace S5 := mkHid (S5.out.below hw31)
  replace X5 := mkHid (X5.out.below hw31)
  replace R6 := mkHid (R6.out.below hw31)
  replace R7 := mkHid (R7.out.below hw31)
  replace S7 := mkHid (S7.out.below hw31)
  replace X7 := mkHid (X7.out.below hw31)
  replace X8 := mkHid (X8.out.below hw31)
  replace R8 := mkHid (R8.out.below hw31)
  replace S8 := mkHid (S8.out.below hw31)
  replace R9 := mkHid (R9.out.below hw31)
  replace HB := mkHid (HB.out.then hw31)
  clear hw31
  obtain ⟨j10, j11, j12⟩ := X1.out
  obtain ⟨j20, j21, j22⟩ := X2.out
  obtain ⟨j50, j51, j52⟩ := X5.out
  obtain ⟨j70, j71, j72⟩ := X7.out
  obtain ⟨j80, j81, j82⟩ := X8.out
  go_wp2_with fail
  clear j10 j11 j12 j20 j21 j22 j50 j51 j52 j70 j71 j72 j80 j81 j82
  refine (n8_any _ _).mono ?_
  rintro e w32 ⟨rfl, hw32⟩
  replace R1 := mkHid (R1.out.below hw32)
  replace S1 := mkHid (S1.out.below hw32)
  replace U1 := mkHid (U1.out.below hw32)
  replace X1 := mkHid (X1.out.below hw32)
  replace X2 := mkHid (X2.out.below hw32)
  replace R2 := mkHid (R2.out.below hw32)
  replace S2 := mkHid (S2.out.below hw32)
  replace U2 := mkHid (U2.out.below hw32)
  replace R5 := mkHid (R5.out.below hw32)
  replace S5 := mkHid (S5.out.below hw32)
  replace X5 := mkHid (X5.out.below hw32)
  replace R6 := mkHid (R6.out.below hw32)
  replace R7 := mkHid (R7.out.below hw32)
  replace S7 := mkHid (S7.out.below hw32)
  replace X7 := mkHid (X7.out.below hw32)
  replace X8 := mkHid (X8.out.below hw32)
  replace R8 := mkHid (R8.out.below hw32)
  replace S8 := mkHid (S8.out.below hw32)
  replace R9 := mkHid (R9.out.below hw32)
  replace HB := mkHid (HB.out.then hw32)
  clear hw32
  obtain ⟨j10, j11, j12⟩ := X1.out
  obtain ⟨j20, j21, j22⟩ := X2.out
  obtain ⟨j50, j51, j52⟩ := X5.out
  obtain ⟨j70, j71, j72⟩ := X7.out
  obtain ⟨j80, j81, j82⟩ := X8.out
  go_wp2_with fail
  clear j10 j11 j12 j20 j21 j22 j50 j51 j52 j70 j71 j72 j80 j81 j82
  have q_M : Row (w32.alloc (.cells #[.int .i64 3, .string ⟨#[102]⟩, .int .i64 3, .int .i64 2, .string ⟨#[]⟩, .int .i64 7, .int .i64 3, .string ⟨#[103]⟩, .int .i64 1, .int .i64 2, .string ⟨#[]⟩, .int .i64 7, .int .i64 2, .string ⟨#[]⟩, .int .i64 7] 54)) (some ⟨w32.heap.size, 0, none⟩) 5 [hF3, hN 7, hG1, hN 7, hN 7] := cellsH w32 [hF3, hN 7, hG1, hN 7, hN 7] 5 _ rfl rfl (by decide +kernel) (by decide) _
  have hw33 := (Below.refl w32.heap.size w32).new (.cells #[.int .i64 3, .string ⟨#[102]⟩, .int .i64 3, .int .i64 2, .string ⟨#[]⟩, .int .i64 7, .int .i64 3, .string ⟨#[103]⟩, .int .i64 1, .int .i64 2, .string ⟨#[]⟩, .int .i64 7, .int .i64 2, .string ⟨#[]⟩, .int .i64 7] 54)
  replace R1 := mkHid (R1.out.below hw33)
  replace S1 := mkHid (S1.out.below hw33)
  replace U1 := mkHid (U1.out.below hw33)
  replace X1 := mkHid (X1.out.below hw33)
  replace X2 := mkHid (X2.out.below hw33)
  replace R2 := mkHid (R2.out.below hw33)
  replace S2 := mkHid (S2.out.below hw33)
  replace U2 := mkHid (U2.out.below hw33)
  replace R5 := mkHid (R5.out.below hw33)
  replace S5 := mkHid (S5.out.below hw33)
  replace X5 := mkHid (X5.out.below hw33)
  replace R6 := mkHid (R6.out.below hw33)
  replace R7 := mkHid (R7.out.below hw33)
  replace S7 := mkHid (S7.out.below hw33)
  replace X7 := mkHid (X7.out.below hw33)
  replace X8 := mkHid (X8.out.below hw33)
  replace R8 := mkHid (R8.out.below hw33)
  replace S8 := mkHid (S8.out.below hw33)
  replace R9 := mkHid (R9.out.below hw33)
  replace HB := mkHid (HB.out.then hw33)
  obtain ⟨w33, hV⟩ : ∃ V, w32.alloc (.cells #[.int .i64 3, .string ⟨#[102]⟩, .int .i64 3, .int .i64 2, .string ⟨#[]⟩, .int .i64 7, .int .i64 3, .string ⟨#[103]⟩, .int .i64 1, .int .i64 2, .string ⟨#[]⟩, .int .i64 7, .int .i64 2, .string ⟨#[]⟩, .int .i64 7] 54) = V := ⟨_, rfl⟩
  obtain ⟨GM, hG⟩ : ∃ V, w32.heap.size = V := ⟨_, rfl⟩
  rw [hV] at R1 S1 U1 X1 X2 R2 S2 U2 R5 S5 X5 R6 R7 S7 X7 X8 R8 S8 R9 HB q_M ⊢
  rw [hG] at q_M ⊢
  have RM := mkHid q_M
  clear hV hG q_M hw33
  refine (sameTK R6.out RM.out rfl).mono ?_
  rintro e w34 ⟨rfl, hw34⟩
  replace R1 := mkHid (R1.out.below hw34)
  replace S1 := mkHid (S1.out.below hw34)
  replace U1 := mkHid (U1.out.below hw34)
  replace X1 := mkHid (X1.out.below hw34)
  replace X2 := mkHid (X2.out.below hw34)
  replace R2 := mkHid (R2.out.below hw34)
  replace S2 := mkHid (S2.out.below hw34)
  replace U2 := mkHid (U2.out.below hw34)
  replace R5 := mkHid (R5.out.below hw34)
  replace S5 := mkHid (S5.out.below hw34)
  replace X5 := mkHid (X5.out.below hw34)
  replace R6 := mkHid (R6.out.below hw34)
  replace R7 := mkHid (R7.out.below hw34)
  replace S7 := mkHid (S7.out.below hw34)
  replace X7 := mkHid (X7.out.below hw34)
  replace X8 := mkHid (X8.out.below hw34)
  replace R8 := mkHid (R8.out.below hw34)
  replace S8 := mkHid (S8.out.below hw34)
  replace R9 := mkHid (R9.out.below hw34)
  replace RM := mkHid (RM.out.below hw34)
  replace HB := mkHid (HB.out.then hw34)
  clear hw34
  clear RM
  obtain ⟨j10, j11, j12⟩ := X1.out
  obtain ⟨j20, j21, j22⟩ := X2.out
  obtain ⟨j50, j51, j52⟩ := X5.out
  obtain ⟨j70, j71, j72⟩ := X7.out
  obtain ⟨j80, j81, j82⟩ := X8.out
  go_wp2_with fail
  clear j10 j11 j12 j20 j21 j22 j50 j51 j52 j70 j71 j72 j80 j81 j82
  refine (sameK R7.out R2.out S7.out S2.out rfl rfl).mono ?_
  rintro e w35 ⟨rfl, hw35⟩
  replace R1 := mkHid (R1.out.below hw35)
  replace S1 := mkHid (S1.out.below hw35)
  replace U1 := mkHid (U1.out.below hw35)
  replace X1 := mkHid (X1.out.below hw35)
  replace X2 := mkHid (X2.out.below hw35)
  replace R2 := mkHid (R2.out.below hw35)
  replace S2 := mkHid (S2.out.below hw35)
  replace U2 := mkHid (U2.out.below hw35)
  replace R5 := mkHid (R5.out.below hw35)
  replace S5 := mkHid (S5.out.below hw35)
  replace X5 := mkHid (X5.out.below hw35)
  replace R6 := mkHid (R6.out.below hw35)
  replace R7 := mkHid (R7.out.below hw35)
  replace S7 := mkHid (S7.out.below hw35)
  replace X7 := mkHid (X7.out.below hw35)
  replace X8 := mkHid (X8.out.below hw35)
  replace R8 := mkHid (R8.out.below hw35)
  replace S8 := mkHid (S8.out.below hw35)
  replace R9 := mkHid (R9.out.below hw35)
  replace HB := mkHid (HB.out.then hw35)
  clear hw35
  obtain ⟨j10, j11, j12⟩ := X1.out
  obtain ⟨j20, j21, j22⟩ := X2.out
  obtain ⟨j50, j51, j52⟩ := X5.out
  obtain ⟨j70, j71, j72⟩ := X7.out
  obtain ⟨j80, j81, j82⟩ := X8.out
  go_wp2_with fail
  clear j10 j11 j12 j20 j21 j22 j50 j51 j52 j70 j71 j72 j80 j81 j82
  refine (sameK R8.out R1.out S8.out S1.out rfl rfl).mono ?_
  rintro e w36 ⟨rfl, hw36⟩
  replace R1 := mkHid (R1.out.below hw36)
  replace S1 := mkHid (S1.out.below hw36)
  replace U1 := mkHid (U1.out.below hw36)
  replace X1 := mkHid (X1.out.below hw36)
  replace X2 := mkHid (X2.out.below hw36)
  replace R2 := mkHid (R2.out.below hw36)
  replace S2 := mkHid (S2.out.below hw36)
  replace U2 := mkHid (U2.out.below hw36)
  replace R5 := mkHid (R5.out.below hw36)
  replace S5 := mkHid (S5.out.below hw36)
  replace X5 := mkHid (X5.out.below hw36)
  replace R6 := mkHid (R6.out.below hw36)
  replace R7 := mkHid (R7.out.below hw36)
  replace S7 := mkHid (S7.out.below hw36)
  replace X7 := mkHid (X7.out.below hw36)
  replace X8 := mkHid (X8.out.below hw36)
  replace R8 := mkHid (R8.out.below hw36)
  replace S8 := mkHid (S8.out.below hw36)
  replace R9 := mkHid (R9.out.below hw36)
  replace HB := mkHid (HB.out.then hw36)
  clear hw36
  obtain ⟨j10, j11, j12⟩ := X1.out
  obtain ⟨j20, j21, j22⟩ := X2.out
  obtain ⟨j50, j51, j52⟩ := X5.out
  obtain ⟨j70, j71, j72⟩ := X7.out
  obtain ⟨j80, j81, j82⟩ := X8.out
  go_wp2_with fail
  clear j10 j11 j12 j20 j21 j22 j50 j51 j52 j70 j71 j72 j80 j81 j82
  refine (f8_any _ _ _).mono ?_
  rintro e w37 ⟨rfl, hw37⟩
  replace R1 := mkHid (R1.out.below hw37)
  replace S1 := mkHid (S1.out.below hw37)
  replace U1 := mkHid (U1.out.below hw37)
  replace X1 := mkHid (X1.out.below hw37)
  replace X2 := mkHid (X2.out.below hw37)
  replace R2 := mkHid (R2.out.below hw37)
  replace S2 := mkHid (S2.out.below hw37)
  replace U2 := mkHid (U2.out.below hw37)
  replace R5 := mkHid (R5.out.below hw37)
  replace S5 := mkHid (S5.out.below hw37)
  replace X5 := mkHid (X5.out.below hw37)
  replace R6 := mkHid (R6.out.below hw37)
  replace R7 := mkHid (R7.out.below hw37)
  replace S7 := mkHid (S7.out.below hw37)
  replace X7 := mkHid (X7.out.below hw37)
  replace X8 := mkHid (X8.out.below hw37)
  replace R8 := mkHid (R8.out.below hw37)
  replace S8 := mkHid (S8.out.below hw37)
  replace R9 := mkHid (R9.out.below hw37)
  replace HB := mkHid (HB.out.then hw37)
  clear hw37
  obtain ⟨j10, j11, j12⟩ := X1.out
  obtain ⟨j20, j21, j22⟩ := X2.out
  obtain ⟨j50, j51, j52⟩ := X5.out
  obtain ⟨j70, j71, j72⟩ := X7.out
  obtain ⟨j80, j81, j82⟩ := X8.out
  go_wp2_with fail
  clear j10 j11 j12 j20 j21 j22 j50 j51 j52 j70 j71 j72 j80 j81 j82
  refine (v8_any _ _).mono ?_
  rintro e w38 ⟨rfl, hw38⟩
  replace R1 := mkHid (R1.out.below hw38)
  replace S1 := mkHid (S1.out.below hw38)
  replace U1 := mkHid (U1.out.below hw38)
  replace X1 := mkHid (X1.out.below hw38)
  replace X2 := mkHid (X2.out.below hw38)
  replace R2 := mkHid (R2.out.below hw38)
  replace S2 := mkHid (S2.out.below hw38)
  replace U2 := mkHid (U2.out.below hw38)
  replace R5 := mkHid (R5.out.below hw38)
  replace S5 := mkHid (S5.out.below hw38)
  replace X5 := mkHid (X5.out.below hw38)
  replace R6 := mkHid (R6.out.below hw38)
  replace R7 := mkHid (R7.out.below hw38)
  replace S7 := mkHid (S7.out.below hw38)
  replace X7 := mkHid (X7.out.below hw38)
  replace X8 := mkHid (X8.out.below hw38)
  replace R8 := mkHid (R8.out.below hw38)
  replace S8 := mkHid (S8.out.below hw38)
  replace R9 := mkHid (R9.out.below hw38)
  replace HB := mkHid (HB.out.then hw38)
  clear hw38
  obtain ⟨j10, j11, j12⟩ := X1.out
  obtain ⟨j20, j21, j22⟩ := X2.out
  obtain ⟨j50, j51, j52⟩ := X5.out
  obtain ⟨j70, j71, j72⟩ := X7.out
  obtain ⟨j80, j81, j82⟩ := X8.out
  go_wp2_with fail
  clear j10 j11 j12 j20 j21 j22 j50 j51 j52 j70 j71 j72 j80 j81 j82
  have q_M : Row (w38.alloc (.cells #[.int .i64 3, .string ⟨#[103]⟩, .int .i64 1, .int .i64 1, .string ⟨#[]⟩, .int .i64 1] 54)) (some ⟨w38.heap.size, 0, none⟩) 2 [hG1, hV 1] := cellsH w38 [hG1, hV 1] 2 _ rfl rfl (by decide +kernel) (by decide) _
  have hw39 := (Below.refl w38.heap.size w38).new (.cells #[.int .i64 3, .string ⟨#[103]⟩, .int .i64 1, .int .i64 1, .string ⟨#[]⟩, .int .i64 1] 54)
  replace R1 := mkHid (R1.out.below hw39)
  replace S1 := mkHid (S1.out.below hw39)
  replace U1 := mkHid (U1.out.below hw39)
  replace X1 := mkHid (X1.out.below hw39)
  replace X2 := mkHid (X2.out.below hw39)
  replace R2 := mkHid (R2.out.below hw39)
  replace S2 := mkHid (S2.out.below hw39)
  replace U2 := mkHid (U2.out.below hw39)
  replace R5 := mkHid (R5.out.below hw39)
  replace S5 := mkHid (S5.out.below hw39)
  replace X5 := mkHid (X5.out.below hw39)
  replace R6 := mkHid (R6.out.below hw39)
  replace R7 := mkHid (R7.out.below hw39)
  replace S7 := mkHid (S7.out.below hw39)
  replace X7 := mkHid (X7.out.below hw39)
  replace X8 := mkHid (X8.out.below hw39)
  replace R8 := mkHid (R8.out.below hw39)
  replace S8 := mkHid (S8.out.below hw39)
  replace R9 := mkHid (R9.out.below hw39)
  replace HB := mkHid (HB.out.then hw39)
  obtain ⟨w39, hV⟩ : ∃ V, w38.alloc (.cells #[.int .i64 3, .string ⟨#[103]⟩, .int .i64 1, .int .i64 1, .string ⟨#[]⟩, .int .i64 1] 54) = V := ⟨_, rfl⟩
  obtain ⟨GM, hG⟩ : ∃ V, w38.heap.size = V := ⟨_, rfl⟩
  rw [hV] at R1 S1 U1 X1 X2 R2 S2 U2 R5 S5 X5 R6 R7 S7 X7 X8 R8 S8 R9 HB q_M ⊢
  rw [hG] at q_M ⊢
  have RM := mkHid q_M
  clear hV hG q_M hw39
  refine (sameTK R9.out RM.out rfl).mono ?_
  rintro e w40 ⟨rfl, hw40⟩
  replace R1 := mkHid (R1.out.below hw40)
  replace S1 := mkHid (S1.out.below hw40)
  replace U1 := mkHid (U1.out.below hw40)
  replace X1 := mkHid (X1.out.below hw40)
  replace X2 := mkHid (X2.out.below hw40)
  replace R2 := mkHid (R2.out.below hw40)
  replace S2 := mkHid (S2.out.below hw40)
  replace U2 := mkHid (U2.out.below hw40)
  replace R5 := mkHid (R5.out.below hw40)
  replace S5 := mkHid (S5.out.below hw40)
  replace X5 := mkHid (X5.out.below hw40)
  replace R6 := mkHid (R6.out.below hw40)
  replace R7 := mkHid (R7.out.below hw40)
  replace S7 := mkHid (S7.out.below hw40)
  replace X7 := mkHid (X7.out.below hw40)
  replace X8 := mkHid (X8.out.below hw40)
  replace R8 := mkHid (R8.out.below hw40)
  replace S8 := mkHid (S8.out.below hw40)
  replace R9 := mkHid (R9.out.below hw40)
  replace RM := mkHid (RM.out.below hw40)
  replace HB := mkHid (HB.out.then hw40)
  clear hw40
  clear RM
  obtain ⟨j10, j11, j12⟩ := X1.out
  obtain ⟨j20, j21, j22⟩ := X2.out
  obtain ⟨j50, j51, j52⟩ := X5.out
  obtain ⟨j70, j71, j72⟩ := X7.out
  obtain ⟨j80, j81, j82⟩ := X8.out
  go_wp2_with fail
  clear j10 j11 j12 j20 j21 j22 j50 j51 j52 j70 j71 j72 j80 j81 j82
  refine (rightK (b := true) R5.out S5.out (by decide) ⟨fun _ => hd_right, fun _ => rfl⟩ rfl rfl).mono ?_
  rintro e w41 ⟨rfl, hw41⟩
  replace R1 := mkHid (R1.out.below hw41)
  replace S1 := mkHid (S1.out.below hw41)
  replace U1 := mkHid (U1.out.below hw41)
  replace X1 := mkHid (X1.out.below hw41)
  replace X2 := mkHid (X2.out.below hw41)
  replace R2 := mkHid (R2.out.below hw41)
  replace S2 := mkHid (S2.out.below hw41)
  replace U2 := mkHid (U2.out.below hw41)
  replace R5 := mkHid (R5.out.below hw41)
  replace S5 := mkHid (S5.out.below hw41)
  replace X5 := mkHid (X5.out.below hw41)
  replace R6 := mkHid (R6.out.below hw41)
  replace R7 := mkHid (R7.out.below hw41)
  replace S7 := mkHid (S7.out.below hw41)
  replace X7 := mkHid (X7.out.below hw41)
  replace X8 := mkHid (X8.out.below hw41)
  replace R8 := mkHid (R8.out.below hw41)
  replace S8 := mkHid (S8.out.below hw41)
  replace R9 := mkHid (R9.out.below hw41)
  replace HB := mkHid (HB.out.then hw41)
  clear hw41
  obtain ⟨j10, j11, j12⟩ := X1.out
  obtain ⟨j20, j21, j22⟩ := X2.out
  obtain ⟨j50, j51, j52⟩ := X5.out
  obtain ⟨j70, j71, j72⟩ := X7.out
  obtain ⟨j80, j81, j82⟩ := X8.out
  go_wp2_with fail
  clear j10 j11 j12 j20 j21 j22 j50 j51 j52 j70 j71 j72 j80 j81 j82
  refine (new_any 0 _).mono ?_
  rintro e w42 ⟨rfl, hw42⟩
  replace R1 := mkHid (R1.out.below hw42)
  replace S1 := mkHid (S1.out.below hw42)
  replace U1 := mkHid (U1.out.below hw42)
  replace X1 := mkHid (X1.out.below hw42)
  replace X2 := mkHid (X2.out.below hw42)
  replace R2 := mkHid (R2.out.below hw42)
  replace S2 := mkHid (S2.out.below hw42)
  replace U2 := mkHid (U2.out.below hw42)
  replace R5 := mkHid (R5.out.below hw42)
  replace S5 := mkHid (S5.out.below hw42)
  replace X5 := mkHid (X5.out.below hw42)
  replace R6 := mkHid (R6.out.below hw42)
  replace R7 := mkHid (R7.out.below hw42)
  replace S7 := mkHid (S7.out.below hw42)
  replace X7 := mkHid (X7.out.below hw42)
  replace X8 := mkHid (X8.out.below hw42)
  replace R8 := mkHid (R8.out.below hw42)
  replace S8 := mkHid (S8.out.below hw42)
  replace R9 := mkHid (R9.out.below hw42)
  replace HB := mkHid (HB.out.then hw42)
  clear hw42
  rw [show roomI 0 = 0 from rfl]
  obtain ⟨j10, j11, j12⟩ := X1.out
  obtain ⟨j20, j21, j22⟩ := X2.out
  obtain ⟨j50, j51, j52⟩ := X5.out
  obtain ⟨j70, j71, j72⟩ := X7.out
  obtain ⟨j80, j81, j82⟩ := X8.out
  go_wp2_with fail
  clear j10 j11 j12 j20 j21 j22 j50 j51 j52 j70 j71 j72 j80 j81 j82
  refine (rightK (b := false) (l := []) (ts := []) (nil_row _) (nil_row _) (by decide) ⟨fun h => (by cases h), fun h => absurd h hd_wrong⟩ rfl rfl).mono ?_
  rintro e w43 ⟨rfl, hw43⟩
  replace R1 := mkHid (R1.out.below hw43)
  replace S1 := mkHid (S1.out.below hw43)
  replace U1 := mkHid (U1.out.below hw43)
  replace X1 := mkHid (X1.out.below hw43)
  replace X2 := mkHid (X2.out.below hw43)
  replace R2 := mkHid (R2.out.below hw43)
  replace S2 := mkHid (S2.out.below hw43)
  replace U2 := mkHid (U2.out.below hw43)
  replace R5 := mkHid (R5.out.below hw43)
  replace S5 := mkHid (S5.out.below hw43)
  replace X5 := mkHid (X5.out.below hw43)
  replace R6 := mkHid (R6.out.below hw43)
  replace R7 := mkHid (R7.out.below hw43)
  replace S7 := mkHid (S7.out.below hw43)
  replace X7 := mkHid (X7.out.below hw43)
  replace X8 := mkHid (X8.out.below hw43)
  replace R8 := mkHid (R8.out.below hw43)
  replace S8 := mkHid (S8.out.below hw43)
  replace R9 := mkHid (R9.out.below hw43)
  replace HB := mkHid (HB.out.then hw43)
  clear hw43
  obtain ⟨j10, j11, j12⟩ := X1.out
  obtain ⟨j20, j21, j22⟩ := X2.out
  obtain ⟨j50, j51, j52⟩ := X5.out
  obtain ⟨j70, j71, j72⟩ := X7.out
  obtain ⟨j80, j81, j82⟩ := X8.out
  go_wp2_with fail
  clear j10 j11 j12 j20 j21 j22 j50 j51 j52 j70 j71 j72 j80 j81 j82
  refine (new8_any 4097 _).mono ?_
  rintro e w44 ⟨rfl, hw44⟩
  replace R1 := mkHid (R1.out.below hw44)
  replace S1 := mkHid (S1.out.below hw44)
  replace U1 := mkHid (U1.out.below hw44)
  replace X1 := mkHid (X1.out.below hw44)
  replace X2 := mkHid (X2.out.below hw44)
  replace R2 := mkHid (R2.out.below hw44)
  replace S2 := mkHid (S2.out.below hw44)
  replace U2 := mkHid (U2.out.below hw44)
  replace R5 := mkHid (R5.out.below hw44)
  replace S5 := mkHid (S5.out.below hw44)
  replace X5 := mkHid (X5.out.below hw44)
  replace R6 := mkHid (R6.out.below hw44)
  replace R7 := mkHid (R7.out.below hw44)
  replace S7 := mkHid (S7.out.below hw44)
  replace X7 := mkHid (X7.out.below hw44)
  replace X8 := mkHid (X8.out.below hw44)
  replace R8 := mkHid (R8.out.below hw44)
  replace S8 := mkHid (S8.out.below hw44)
  replace R9 := mkHid (R9.out.below hw44)
  replace HB := mkHid (HB.out.then hw44)
  clear hw44
  rw [show roomI 4097 = 0 from rfl]
  have hfd : ∀ W : World, (Instr.field 25 (.agg #[.slice none 0 0, .slice none 0 0, .int .i64 0]) 2).run Try.prog W = .ok (.int .i64 0) W := fun _ => by kernel_rfl
  obtain ⟨j10, j11, j12⟩ := X1.out
  obtain ⟨j20, j21, j22⟩ := X2.out
  obtain ⟨j50, j51, j52⟩ := X5.out
  obtain ⟨j70, j71, j72⟩ := X7.out
  obtain ⟨j80, j81, j82⟩ := X8.out
  go_wp2_with fail
  clear j10 j11 j12 j20 j21 j22 j50 j51 j52 j70 j71 j72 j80 j81 j82
  clear hfd
  go_ret
  exact ⟨ret_bool rfl, HB.out⟩
end Go.Proofs.Ytefnmjoapmnkbaa
