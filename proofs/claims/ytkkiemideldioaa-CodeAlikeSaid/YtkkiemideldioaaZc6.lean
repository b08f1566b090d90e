/-
  Of layer 10 of sorrel: whatever arguments come in, the law CodeAlike returns true, and what was handed in reads as it did: two clauses have the same code just if they are the same, but for their variables' names. No condition.
-/
import Derived.Test.YtkkiemideldioaaZr8
import Derived.OrdersHeld
import Derived.Deep.RegionHeld3
set_option linter.unusedVariables false
namespace Go.Proofs.Ytkkiemideldioaa
open Go.RowKit

theorem lits400 {x : Cl} {h : Tm} {bl : List (Bool × Tm)} (hT : ClT x h bl) : x.h.length ≤ 200 ∧ x.b.length ≤ 8 ∧ ∀ y ∈ x.b, y.t.length ≤ 400 := by
  refine ⟨by rw [hT.eh]; exact hT.h200, by rw [hT.eb, List.length_map]; exact hT.few, ?_⟩
  rw [hT.eb]
  intro y hy
  obtain ⟨p, hp, rfl⟩ := List.mem_map.1 hy
  have := (hT.lits p hp).2.2
  show p.2.flat.length ≤ 400
  omega
set_option maxRecDepth 100000 in
set_option maxHeartbeats 12800000 in
theorem lawAlike_any (W : World) (x : Cl) (a : Option Addr) (b : Nat) (e : Option Addr) (c : Nat) (hu : Row W a b x.h) (hv : Row W e c x.b) (y : Cl) (a' : Option Addr) (b' : Nat) (e' : Option Addr) (c' : Nat) (hu' : Row W a' b' y.h) (hv' : Row W e' c' y.b) :
    Calls Try.prog 6 #[.agg #[.slice a x.h.length b, .slice e x.b.length c], .agg #[.slice a' y.h.length b', .slice e' y.b.length c']] W fun r W' => r = .returned (.bool true) ∧ Below W.heap.size W W' := by
  have hm1 := hu.max
  have hm2 := hu.le
  have hm3 := hv.max
  have hm4 := hv.le
  have hm5 := hu'.max
  have hm6 := hu'.le
  have hm7 := hv'.max
  have hm8 := hv'.le
  obtain ⟨W0, hW⟩ : ∃ W0, (W.alloc (.cells #[.slice a x.h.length b, .slice e x.b.length c] 25)).alloc (.cells #[.slice a' y.h.length b', .slice e' y.b.length c'] 25) = W0 := ⟨_, rfl⟩
  have hb0 : Below W.heap.size W W0 := by rw [← hW]; exact ((Below.refl _ _).new _).new _
  have p0 : W0.cell? ⟨W.heap.size, 0, none⟩ = some (.slice a x.h.length b) := by
    rw [← hW]; exact keep (World.cell?_alloc_at _ _ W.heap.size 0 rfl) ((Below.refl _ _).new _)
  have p1 : W0.cell? ⟨W.heap.size, 1, none⟩ = some (.slice e x.b.length c) := by
    rw [← hW]; exact keep (World.cell?_alloc_at _ _ W.heap.size 1 rfl) ((Below.refl _ _).new _)
  have p2 : W0.cell? ⟨W.heap.size + 1, 0, none⟩ = some (.slice a' y.h.length b') := by
    rw [← hW]; exact World.cell?_alloc_at _ _ (W.heap.size + 1) 0 (by simp)
  have p3 : W0.cell? ⟨W.heap.size + 1, 1, none⟩ = some (.slice e' y.b.length c') := by
    rw [← hW]; exact World.cell?_alloc_at _ _ (W.heap.size + 1) 1 (by simp)
  have HX := mkHid (hu.below hb0)
  have HX1 := mkHid (hv.below hb0)
  have HY := mkHid (hu'.below hb0)
  have HY1 := mkHid (hv'.below hb0)
  have HB0 := mkHid hb0
  clear hu hv hu' hv' hb0
  cases hG : greatB [x, y]
  · cases hM : mayB x
    · go_enter Try.func6, Try.ntmps6
      go_wp2_with fail
      first | rw [hW] | skip
      clear hW
      have p00 := p0
      have p01 := p1
      have p02 := p2
      have p03 := p3
      have HU0 := HX1
      have HV0 := HY1
      have HX0 := HX
      have HY0 := HY
      clear p0 p1 p2 p3 HX HX1 HY HY1
      refine (head10_any _).mono ?_
      rintro r w1 ⟨rfl, hb1⟩
      have HB1 := mkHid (HB0.out.then hb1)
      have p10 := keep p00 hb1
      have p11 := keep p01 hb1
      have p12 := keep p02 hb1
      have p13 := keep p03 hb1
      have HX1 := mkHid (HX0.out.below hb1)
      have HU1 := mkHid (HU0.out.below hb1)
      have HY1 := mkHid (HY0.out.below hb1)
      have HV1 := mkHid (HV0.out.below hb1)
      clear p00 p01 p02 p03 HX0 HU0 HY0 HV0 HB0
      clear hb1
      go_wp2_with fail
      have HT1 := mkHid (great7K _ _ _ [x, y] 2 _ (row_cl2 x y HX1.out HU1.out HY1.out HV1.out) rfl hG)
      have hn1 := (Below.refl w1.heap.size w1).new (.cells #[.slice a x.h.length b, .slice e x.b.length c, .slice a' y.h.length b', .slice e' y.b.length c'] 25)
      refine HT1.out.mono ?_
      clear HT1
      rintro r w2 ⟨rfl, hb2⟩
      have hb2' := hn1.then hb2
      have HB2 := mkHid (HB1.out.then hb2')
      have p20 := keep p10 hb2'
      have p21 := keep p11 hb2'
      have p22 := keep p12 hb2'
      have p23 := keep p13 hb2'
      have HX2 := mkHid (HX1.out.below hb2')
      have HU2 := mkHid (HU1.out.below hb2')
      have HY2 := mkHid (HY1.out.below hb2')
      have HV2 := mkHid (HV1.out.below hb2')
      clear p10 p11 p12 p13 HX1 HU1 HY1 HV1 HB1
      clear hb2 hn1 hb2'
      go_wp2_with fail
      refine (mayK a b e c _ x _ _ _ HX2.out HU2.out rfl rfl hM).mono ?_
      rintro r w3 ⟨rfl, hb3⟩
      have HB3 := mkHid (HB2.out.then hb3)
      have p30 := keep p20 hb3
      have p31 := keep p21 hb3
      have p32 := keep p22 hb3
      have p33 := keep p23 hb3
      have HX3 := mkHid (HX2.out.below hb3)
      have HU3 := mkHid (HU2.out.below hb3)
      have HY3 := mkHid (HY2.out.below hb3)
      have HV3 := mkHid (HV2.out.below hb3)
      clear p20 p21 p22 p23 HX2 HU2 HY2 HV2 HB2
      clear hb3
      go_wp2_with fail
      go_ret
      exact ⟨rfl, HB3.out⟩
    · cases hN : mayB y
      · go_enter Try.func6, Try.ntmps6
        go_wp2_with fail
        first | rw [hW] | skip
        clear hW
        have p00 := p0
        have p01 := p1
        have p02 := p2
        have p03 := p3
        have HU0 := HX1
        have HV0 := HY1
        have HX0 := HX
        have HY0 := HY
        clear p0 p1 p2 p3 HX HX1 HY HY1
        refine (head10_any _).mono ?_
        rintro r w1 ⟨rfl, hb1⟩
        have HB1 := mkHid (HB0.out.then hb1)
        have p10 := keep p00 hb1
        have p11 := keep p01 hb1
        have p12 := keep p02 hb1
        have p13 := keep p03 hb1
        have HX1 := mkHid (HX0.out.below hb1)
        have HU1 := mkHid (HU0.out.below hb1)
        have HY1 := mkHid (HY0.out.below hb1)
        have HV1 := mkHid (HV0.out.below hb1)
        clear p00 p01 p02 p03 HX0 HU0 HY0 HV0 HB0
        clear hb1
        go_wp2_with fail
        have HT1 := mkHid (great7K _ _ _ [x, y] 2 _ (row_cl2 x y HX1.out HU1.out HY1.out HV1.out) rfl hG)
        have hn1 := (Below.refl w1.heap.size w1).new (.cells #[.slice a x.h.length b, .slice e x.b.length c, .slice a' y.h.length b', .slice e' y.b.length c'] 25)
        refine HT1.out.mono ?_
        clear HT1
        rintro r w2 ⟨rfl, hb2⟩
        have hb2' := hn1.then hb2
        have HB2 := mkHid (HB1.out.then hb2')
        have p20 := keep p10 hb2'
        have p21 := keep p11 hb2'
        have p22 := keep p12 hb2'
        have p23 := keep p13 hb2'
        have HX2 := mkHid (HX1.out.below hb2')
        have HU2 := mkHid (HU1.out.below hb2')
        have HY2 := mkHid (HY1.out.below hb2')
        have HV2 := mkHid (HV1.out.below hb2')
        clear p10 p11 p12 p13 HX1 HU1 HY1 HV1 HB1
        clear hb2 hn1 hb2'
        go_wp2_with fail
        refine (mayK a b e c _ x _ _ _ HX2.out HU2.out rfl rfl hM).mono ?_
        rintro r w3 ⟨rfl, hb3⟩
        have HB3 := mkHid (HB2.out.then hb3)
        have p30 := keep p20 hb3
        have p31 := keep p21 hb3
        have p32 := keep p22 hb3
        have p33 := keep p23 hb3
        have HX3 := mkHid (HX2.out.below hb3)
        have HU3 := mkHid (HU2.out.below hb3)
        have HY3 := mkHid (HY2.out.below hb3)
        have HV3 := mkHid (HV2.out.below hb3)
        clear p20 p21 p22 p23 HX2 HU2 HY2 HV2 HB2
        clear hb3
        go_wp2_with fail
        refine (mayK a' b' e' c' _ y _ _ _ HY3.out HV3.out rfl rfl hN).mono ?_
        rintro r w4 ⟨rfl, hb4⟩
        have HB4 := mkHid (HB3.out.then hb4)
        have p40 := keep p30 hb4
        have p41 := keep p31 hb4
        have p42 := keep p32 hb4
        have p43 := keep p33 hb4
        have HX4 := mkHid (HX3.out.below hb4)
        have HU4 := mkHid (HU3.out.below hb4)
        have HY4 := mkHid (HY3.out.below hb4)
        have HV4 := mkHid (HV3.out.below hb4)
        clear p30 p31 p32 p33 HX3 HU3 HY3 HV3 HB3
        clear hb4
        go_wp2_with fail
        go_ret
        exact ⟨rfl, HB4.out⟩
      · obtain ⟨h, bl, hT⟩ := may_trees hM
        obtain ⟨k, kl, hT'⟩ := may_trees hN
        go_enter Try.func6, Try.ntmps6
        go_wp2_with fail
        first | rw [hW] | skip
        clear hW
        have p00 := p0
        have p01 := p1
        have p02 := p2
        have p03 := p3
        have HU0 := HX1
        have HV0 := HY1
        have HX0 := HX
        have HY0 := HY
        clear p0 p1 p2 p3 HX HX1 HY HY1
        refine (head10_any _).mono ?_
        rintro r w1 ⟨rfl, hb1⟩
        have HB1 := mkHid (HB0.out.then hb1)
        have p10 := keep p00 hb1
        have p11 := keep p01 hb1
        have p12 := keep p02 hb1
        have p13 := keep p03 hb1
        have HX1 := mkHid (HX0.out.below hb1)
        have HU1 := mkHid (HU0.out.below hb1)
        have HY1 := mkHid (HY0.out.below hb1)
        have HV1 := mkHid (HV0.out.below hb1)
        clear p00 p01 p02 p03 HX0 HU0 HY0 HV0 HB0
        clear hb1
        go_wp2_with fail
        have HT1 := mkHid (great7K _ _ _ [x, y] 2 _ (row_cl2 x y HX1.out HU1.out HY1.out HV1.out) rfl hG)
        have hn1 := (Below.refl w1.heap.size w1).new (.cells #[.slice a x.h.length b, .slice e x.b.length c, .slice a' y.h.length b', .slice e' y.b.length c'] 25)
        refine HT1.out.mono ?_
        clear HT1
        rintro r w2 ⟨rfl, hb2⟩
        have hb2' := hn1.then hb2
        have HB2 := mkHid (HB1.out.then hb2')
        have p20 := keep p10 hb2'
        have p21 := keep p11 hb2'
        have p22 := keep p12 hb2'
        have p23 := keep p13 hb2'
        have HX2 := mkHid (HX1.out.below hb2')
        have HU2 := mkHid (HU1.out.below hb2')
        have HY2 := mkHid (HY1.out.below hb2')
        have HV2 := mkHid (HV1.out.below hb2')
        clear p10 p11 p12 p13 HX1 HU1 HY1 HV1 HB1
        clear hb2 hn1 hb2'
        go_wp2_with fail
        refine (mayK a b e c _ x _ _ _ HX2.out HU2.out rfl rfl hM).mono ?_
        rintro r w3 ⟨rfl, hb3⟩
        have HB3 := mkHid (HB2.out.then hb3)
        have p30 := keep p20 hb3
        have p31 := keep p21 hb3
        have p32 := keep p22 hb3
        have p33 := keep p23 hb3
        have HX3 := mkHid (HX2.out.below hb3)
        have HU3 := mkHid (HU2.out.below hb3)
        have HY3 := mkHid (HY2.out.below hb3)
        have HV3 := mkHid (HV2.out.below hb3)
        clear p20 p21 p22 p23 HX2 HU2 HY2 HV2 HB2
        clear hb3
        go_wp2_with fail
        refine (mayK a' b' e' c' _ y _ _ _ HY3.out HV3.out rfl rfl hN).mono ?_
        rintro r w4 ⟨rfl, hb4⟩
        have HB4 := mkHid (HB3.out.then hb4)
        have p40 := keep p30 hb4
        have p41 := keep p31 hb4
        have p42 := keep p32 hb4
        have p43 := keep p33 hb4
        have HX4 := mkHid (HX3.out.below hb4)
        have HU4 := mkHid (HU3.out.below hb4)
        have HY4 := mkHid (HY3.out.below hb4)
        have HV4 := mkHid (HV3.out.below hb4)
        clear p30 p31 p32 p33 HX3 HU3 HY3 HV3 HB3
        clear hb4
        go_wp2_with fail
        refine (compQ a b e c _ x h bl hT HX4.out HU4.out).mono ?_
        rintro r w5 ⟨a2, c2, L, rfl, hrl, hL, hb5⟩
        have HL := mkHid hrl
        have HLE := mkHid hL
        have HB5 := mkHid (HB4.out.then hb5)
        have p50 := keep p40 hb5
        have p51 := keep p41 hb5
        have p52 := keep p42 hb5
        have p53 := keep p43 hb5
        have HX5 := mkHid (HX4.out.below hb5)
        have HU5 := mkHid (HU4.out.below hb5)
        have HY5 := mkHid (HY4.out.below hb5)
        have HV5 := mkHid (HV4.out.below hb5)
        clear p40 p41 p42 p43 HX4 HU4 HY4 HV4 HB4
        clear hb5 hrl hL
        go_wp2_with fail
        refine (compQ a' b' e' c' _ y k kl hT' HY5.out HV5.out).mono ?_
        rintro r w6 ⟨a3, c3, M, rfl, hrm, hM2, hb6⟩
        have HM := mkHid hrm
        have HME := mkHid hM2
        have HL6 := mkHid (HL.out.below hb6)
        have HB6 := mkHid (HB5.out.then hb6)
        have p60 := keep p50 hb6
        have p61 := keep p51 hb6
        have p62 := keep p52 hb6
        have p63 := keep p53 hb6
        have HX6 := mkHid (HX5.out.below hb6)
        have HU6 := mkHid (HU5.out.below hb6)
        have HY6 := mkHid (HY5.out.below hb6)
        have HV6 := mkHid (HV5.out.below hb6)
        clear p50 p51 p52 p53 HX5 HU5 HY5 HV5 HB5
        clear hb6 hrm hM2 HL
        obtain ⟨x5, x6, x7⟩ := lits400 hT
        obtain ⟨y5, y6, y7⟩ := lits400 hT'
        have HX7' := mkHid x7
        have HY7' := mkHid y7
        clear x7 y7
        go_wp2_with fail
        refine (number10_any a b e c w6 x HX6.out HU6.out (by omega) HX7'.out (by omega)).mono ?_
        rintro r w7 ⟨a7, c7, a8, c8, rfl, hr7, hr8, hb7⟩
        have HL7 := mkHid (HL6.out.below hb7)
        have HM7 := mkHid (HM.out.below hb7)
        have HR7 := mkHid hr7
        have HR8 := mkHid hr8
        have HB7 := mkHid (HB6.out.then hb7)
        have p70 := keep p60 hb7
        have p71 := keep p61 hb7
        have p72 := keep p62 hb7
        have p73 := keep p63 hb7
        have HX7 := mkHid (HX6.out.below hb7)
        have HU7 := mkHid (HU6.out.below hb7)
        have HY7 := mkHid (HY6.out.below hb7)
        have HV7 := mkHid (HV6.out.below hb7)
        clear p60 p61 p62 p63 HX6 HU6 HY6 HV6 HB6
        clear hb7 hr7 hr8 HL6 HM
        obtain ⟨G, hG1, hG2⟩ := num_clT hT
        rw [← numCl_L hT] at hG1
        have HG1 := mkHid hG1
        have HG2 : Hid (compS (renT G h) (bl.map (renL G)) = L) := by rw [Hid, hG2, HLE.out]
        clear hG1 hG2
        go_wp2_with fail
        refine (compK a7 c7 a8 c8 w7 (numClL x) (renT G h) (bl.map (renL G)) x.h.length x.b.length L.length L HG1.out (numClL_h x) (numClL_b x) HG2.out rfl HR7.out HR8.out).mono ?_
        rintro r w8 ⟨a9, c9, rfl, hr9, hb8⟩
        have HL8 := mkHid (HL7.out.below hb8)
        have HM8 := mkHid (HM7.out.below hb8)
        have HR9 := mkHid hr9
        have HB8 := mkHid (HB7.out.then hb8)
        have p80 := keep p70 hb8
        have p81 := keep p71 hb8
        have p82 := keep p72 hb8
        have p83 := keep p73 hb8
        have HX8 := mkHid (HX7.out.below hb8)
        have HU8 := mkHid (HU7.out.below hb8)
        have HY8 := mkHid (HY7.out.below hb8)
        have HV8 := mkHid (HV7.out.below hb8)
        clear p70 p71 p72 p73 HX7 HU7 HY7 HV7 HB7
        clear hb8 hr9 HL7 HM7 HR7 HR8
        obtain ⟨D, hD⟩ : ∃ D, decide (L = M) = D := ⟨_, rfl⟩
        have HD := mkHid hD
        have HD2 : Hid (decide (numClL x = numClL y) = D) := by
          rw [Hid, ← hD, ← code_iff hT hT', HLE.out, HME.out]
        clear hD
        have HS : Hid (∀ X, Below w8.heap.size w8 X → (fun X : World => X.cell? ⟨W.heap.size, 0, none⟩ = some (.slice a x.h.length b) ∧ X.cell? ⟨W.heap.size, 1, none⟩ = some (.slice e x.b.length c) ∧ X.cell? ⟨W.heap.size + 1, 0, none⟩ = some (.slice a' y.h.length b') ∧ X.cell? ⟨W.heap.size + 1, 1, none⟩ = some (.slice e' y.b.length c')) X) := fun X h => ⟨keep p80 h, keep p81 h, keep p82 h, keep p83 h⟩
        go_wp2_with fail
        refine wp_region_noPanic ?_
        have hbd : Below w8.heap.size w8 w8.drew := (Below.refl _ _).drew
        refine wp_region_held_drew (S := fun X : World => X.cell? ⟨W.heap.size, 0, none⟩ = some (.slice a x.h.length b) ∧ X.cell? ⟨W.heap.size, 1, none⟩ = some (.slice e x.b.length c) ∧ X.cell? ⟨W.heap.size + 1, 0, none⟩ = some (.slice a' y.h.length b') ∧ X.cell? ⟨W.heap.size + 1, 1, none⟩ = some (.slice e' y.b.length c')) (by kernel_rfl) (HS.out _ hbd) (fun hSd => ?_)
        have HBD := mkHid hbd
        clear p80 p81 p82 p83 hbd
        obtain ⟨y0, hv0⟩ : ∃ X, w8.drew = X := ⟨_, rfl⟩
        rw [hv0] at HBD hSd ⊢
        clear hv0
        refine wpAnyH_take (i := 0) (oi := _) (v := ?_) rfl (by kernel_rfl) (by kernel_rfl) (by kernel_rfl) (fun _ _ _ h => h) (Or.inl ⟨by rfl, ?_⟩) (by assumption) ?_
        rotate_left
        · (intro w' hSw; obtain ⟨z0, z1, z2, z3⟩ := hSw; go_simp; try with_reducible rfl)
        (try simp only [List.getElem_toArray, List.getElem_cons_succ, List.getElem_cons_zero, Act.put, List.setIfInBounds_toArray, List.set_cons_zero, List.set_cons_succ])
        refine wpAnyH_take (i := 1) (oi := _) (v := ?_) rfl (by kernel_rfl) (by kernel_rfl) (by kernel_rfl) (fun _ _ _ h => h) (Or.inl ⟨by rfl, ?_⟩) (by assumption) ?_
        rotate_left
        · (intro w' hSw; obtain ⟨z0, z1, z2, z3⟩ := hSw; go_simp; try with_reducible rfl)
        (try simp only [List.getElem_toArray, List.getElem_cons_succ, List.getElem_cons_zero, Act.put, List.setIfInBounds_toArray, List.set_cons_zero, List.set_cons_succ])
        refine wpAnyH_take (i := 2) (oi := _) (v := ?_) rfl (by kernel_rfl) (by kernel_rfl) (by kernel_rfl) (fun _ _ _ h => h) (Or.inl ⟨by rfl, ?_⟩) (by assumption) ?_
        rotate_left
        · (intro w' hSw; obtain ⟨z0, z1, z2, z3⟩ := hSw; go_simp; try with_reducible rfl)
        (try simp only [List.getElem_toArray, List.getElem_cons_succ, List.getElem_cons_zero, Act.put, List.setIfInBounds_toArray, List.set_cons_zero, List.set_cons_succ])
        refine wpAnyH_take (i := 3) (oi := _) (v := ?_) rfl (by kernel_rfl) (by kernel_rfl) (by kernel_rfl) (fun _ _ _ h => h) (Or.inl ⟨by rfl, ?_⟩) (by assumption) ?_
        rotate_left
        · (intro w' hSw; obtain ⟨z0, z1, z2, z3⟩ := hSw; go_simp; try with_reducible rfl)
        (try simp only [List.getElem_toArray, List.getElem_cons_succ, List.getElem_cons_zero, Act.put, List.setIfInBounds_toArray, List.set_cons_zero, List.set_cons_succ])
        refine wpAnyH_take (i := 5) (oi := _) (v := ?_) rfl (by kernel_rfl) (by kernel_rfl) (by kernel_rfl) (fun _ _ _ h => h) (Or.inl ⟨by rfl, ?_⟩) (by assumption) ?_
        rotate_left
        · (intro w' hSw; obtain ⟨z0, z1, z2, z3⟩ := hSw; go_simp; try with_reducible rfl)
        (try simp only [List.getElem_toArray, List.getElem_cons_succ, List.getElem_cons_zero, Act.put, List.setIfInBounds_toArray, List.set_cons_zero, List.set_cons_succ])
        refine wpAnyH_take (i := 7) (oi := _) (v := ?_) rfl (by kernel_rfl) (by kernel_rfl) (by kernel_rfl) (fun _ _ _ h => h) (Or.inl ⟨by rfl, ?_⟩) (by assumption) ?_
        rotate_left
        · (intro w' hSw; obtain ⟨z0, z1, z2, z3⟩ := hSw; go_simp; try with_reducible rfl)
        (try simp only [List.getElem_toArray, List.getElem_cons_succ, List.getElem_cons_zero, Act.put, List.setIfInBounds_toArray, List.set_cons_zero, List.set_cons_succ])
        refine wpAnyH_ready (rs := [4]) (by kernel_rfl) (by simp) ?_
        refine AllReadyH.cons (o := _) rfl (fun K hK => ?_) AllReadyH.nil
        go_simp
        refine (sameIK _ _ _ _ _ L M _ _ D rfl rfl HD.out (HL8.out.below HBD.out) (HM8.out.below HBD.out)).mono ?_
        rintro r y1 ⟨rfl, hb1⟩
        have HBD1 := mkHid (HBD.out.then hb1)
        try dsimp only
        refine hK.out _ _ (HS.out _ HBD1.out) (fun hS1 => ?_)
        clear hK K hb1
        (try simp only [List.getElem_toArray, List.getElem_cons_succ, List.getElem_cons_zero, Act.put, List.setIfInBounds_toArray, List.set_cons_zero, List.set_cons_succ])
        refine wpAnyH_ready (rs := [6]) (by kernel_rfl) (by simp) ?_
        refine AllReadyH.cons (o := _) rfl (fun K hK => ?_) AllReadyH.nil
        go_simp
        refine (number10_any a b e c y1 x (HX8.out.below HBD1.out) (HU8.out.below HBD1.out) (by omega) HX7'.out (by omega)).mono ?_
        rintro r y2 ⟨d1, f1, d2, f2, rfl, hq1, hq2, hb2⟩
        have HBD2 := mkHid (HBD1.out.then hb2)
        have HQ1 := mkHid hq1
        have HQ2 := mkHid hq2
        clear hq1 hq2
        try dsimp only
        refine hK.out _ _ (HS.out _ HBD2.out) (fun hS2 => ?_)
        clear hK K hb2
        (try simp only [List.getElem_toArray, List.getElem_cons_succ, List.getElem_cons_zero, Act.put, List.setIfInBounds_toArray, List.set_cons_zero, List.set_cons_succ])
        refine wpAnyH_ready (rs := [8]) (by kernel_rfl) (by simp) ?_
        refine AllReadyH.cons (o := _) rfl (fun K hK => ?_) AllReadyH.nil
        go_simp
        refine (number10_any a' b' e' c' y2 y (HY8.out.below HBD2.out) (HV8.out.below HBD2.out) (by omega) HY7'.out (by omega)).mono ?_
        rintro r y3 ⟨d3, f3, d4, f4, rfl, hq3, hq4, hb3⟩
        have HBD3 := mkHid (HBD2.out.then hb3)
        have HQ3 := mkHid hq3
        have HQ4 := mkHid hq4
        have HQ5 := mkHid (HQ1.out.below hb3)
        have HQ6 := mkHid (HQ2.out.below hb3)
        clear hq3 hq4 HQ1 HQ2
        try dsimp only
        refine hK.out _ _ (HS.out _ HBD3.out) (fun hS3 => ?_)
        clear hK K hb3
        (try simp only [List.getElem_toArray, List.getElem_cons_succ, List.getElem_cons_zero, Act.put, List.setIfInBounds_toArray, List.set_cons_zero, List.set_cons_succ])
        refine wpAnyH_ready (rs := [9]) (by kernel_rfl) (by simp) ?_
        refine AllReadyH.cons (o := _) rfl (fun K hK => ?_) AllReadyH.nil
        go_simp
        have HT1 := mkHid (sameclause_any d1 f1 d2 f2 d3 f3 d4 f4 y3 (numClL x) (numClL y) HQ5.out HQ6.out HQ3.out HQ4.out)
        rw [numClL_h, numClL_b, numClL_h, numClL_b, HD2.out] at HT1
        refine HT1.out.mono ?_
        clear HT1
        rintro r y4 ⟨rfl, hb4⟩
        have HBD4 := mkHid (HBD3.out.then hb4)
        try dsimp only
        refine hK.out _ _ (HS.out _ HBD4.out) (fun hS4 => ?_)
        clear hK K hb4
        (try simp only [List.getElem_toArray, List.getElem_cons_succ, List.getElem_cons_zero, Act.put, List.setIfInBounds_toArray, List.set_cons_zero, List.set_cons_succ])
        refine wpAnyH_take (i := 10) (oi := _) (v := ?_) rfl (by kernel_rfl) (by kernel_rfl) (by kernel_rfl) (fun _ _ _ h => h) (Or.inl ⟨by rfl, ?_⟩) (by assumption) ?_
        rotate_left
        · (intro w' hSw; obtain ⟨z0, z1, z2, z3⟩ := hSw; go_simp; try with_reducible rfl)
        (try simp only [List.getElem_toArray, List.getElem_cons_succ, List.getElem_cons_zero, Act.put, List.setIfInBounds_toArray, List.set_cons_zero, List.set_cons_succ])
        refine wpAnyH_take (i := 11) (oi := _) (v := ?_) rfl (by kernel_rfl) (by kernel_rfl) (by kernel_rfl) (fun _ _ _ h => h) (Or.inl ⟨by rfl, ?_⟩) (by assumption) ?_
        rotate_left
        · (intro w' hSw; obtain ⟨z0, z1, z2, z3⟩ := hSw; go_simp; try with_reducible rfl)
        (try simp only [List.getElem_toArray, List.getElem_cons_succ, List.getElem_cons_zero, Act.put, List.setIfInBounds_toArray, List.set_cons_zero, List.set_cons_succ])
        refine wpAnyH_take (i := 12) (oi := _) (v := ?_) rfl (by kernel_rfl) (by kernel_rfl) (by kernel_rfl) (fun _ _ _ h => h) (Or.inl ⟨by rfl, ?_⟩) (by assumption) ?_
        rotate_left
        · (intro w' hSw; obtain ⟨z0, z1, z2, z3⟩ := hSw; go_simp; try with_reducible rfl)
        (try simp only [List.getElem_toArray, List.getElem_cons_succ, List.getElem_cons_zero, Act.put, List.setIfInBounds_toArray, List.set_cons_zero, List.set_cons_succ])
        refine wpAnyH_take (i := 13) (oi := _) (v := ?_) rfl (by kernel_rfl) (by kernel_rfl) (by kernel_rfl) (fun _ _ _ h => h) (Or.inl ⟨by rfl, ?_⟩) (by assumption) ?_
        rotate_left
        · (intro w' hSw; obtain ⟨z0, z1, z2, z3⟩ := hSw; go_simp; try with_reducible rfl)
        (try simp only [List.getElem_toArray, List.getElem_cons_succ, List.getElem_cons_zero, Act.put, List.setIfInBounds_toArray, List.set_cons_zero, List.set_cons_succ])
        refine wpAnyH_take (i := 14) (oi := _) (v := ?_) rfl (by kernel_rfl) (by kernel_rfl) (by kernel_rfl) (fun _ _ _ h => h) (Or.inl ⟨by rfl, ?_⟩) (by assumption) ?_
        rotate_left
        · (intro w' hSw; obtain ⟨z0, z1, z2, z3⟩ := hSw; go_simp; try with_reducible rfl)
        (try simp only [List.getElem_toArray, List.getElem_cons_succ, List.getElem_cons_zero, Act.put, List.setIfInBounds_toArray, List.set_cons_zero, List.set_cons_succ])
        refine wpAnyH_ready (rs := [15]) (by kernel_rfl) (by simp) ?_
        refine AllReadyH.cons (o := _) rfl (fun K hK => ?_) AllReadyH.nil
        go_simp
        refine (sameIK _ _ _ _ _ L L _ _ true rfl rfl (by simp) (HL8.out.below HBD4.out) (HR9.out.below HBD4.out)).mono ?_
        rintro r y5 ⟨rfl, hb5⟩
        have HBD5 := mkHid (HBD4.out.then hb5)
        try dsimp only
        refine hK.out _ _ (HS.out _ HBD5.out) (fun hS5 => ?_)
        clear hK K hb5
        (try simp only [List.getElem_toArray, List.getElem_cons_succ, List.getElem_cons_zero, Act.put, List.setIfInBounds_toArray, List.set_cons_zero, List.set_cons_succ])
        refine wpAnyH_take (i := 16) (oi := _) (v := ?_) rfl (by kernel_rfl) (by kernel_rfl) (by kernel_rfl) (fun _ _ _ h => h) (Or.inl ⟨by rfl, ?_⟩) (by assumption) ?_
        rotate_left
        · (intro w' hSw; obtain ⟨z0, z1, z2, z3⟩ := hSw; go_simp; try with_reducible rfl)
        (try simp only [List.getElem_toArray, List.getElem_cons_succ, List.getElem_cons_zero, Act.put, List.setIfInBounds_toArray, List.set_cons_zero, List.set_cons_succ])
        refine wpAnyH_take (i := 17) (oi := _) (v := ?_) rfl (by kernel_rfl) (by kernel_rfl) (by kernel_rfl) (fun _ _ _ h => h) (Or.inl ⟨by rfl, ?_⟩) (by assumption) ?_
        rotate_left
        · (intro w' hSw; obtain ⟨z0, z1, z2, z3⟩ := hSw; go_simp; try with_reducible rfl)
        (try simp only [List.getElem_toArray, List.getElem_cons_succ, List.getElem_cons_zero, Act.put, List.setIfInBounds_toArray, List.set_cons_zero, List.set_cons_succ])
        refine wpAnyH_done (by kernel_rfl) (NoPanic.normal ?_) _
        go_wp2_with fail
        go_ret
        exact ⟨rfl, HB8.out.then HBD5.out⟩
  · go_enter Try.func6, Try.ntmps6
    go_wp2_with fail
    first | rw [hW] | skip
    clear hW
    have p00 := p0
    have p01 := p1
    have p02 := p2
    have p03 := p3
    have HU0 := HX1
    have HV0 := HY1
    have HX0 := HX
    have HY0 := HY
    clear p0 p1 p2 p3 HX HX1 HY HY1
    refine (head10_any _).mono ?_
    rintro r w1 ⟨rfl, hb1⟩
    have HB1 := mkHid (HB0.out.then hb1)
    have p10 := keep p00 hb1
    have p11 := keep p01 hb1
    have p12 := keep p02 hb1
    have p13 := keep p03 hb1
    have HX1 := mkHid (HX0.out.below hb1)
    have HU1 := mkHid (HU0.out.below hb1)
    have HY1 := mkHid (HY0.out.below hb1)
    have HV1 := mkHid (HV0.out.below hb1)
    clear p00 p01 p02 p03 HX0 HU0 HY0 HV0 HB0
    clear hb1
    go_wp2_with fail
    have HT1 := mkHid (great7K _ _ _ [x, y] 2 _ (row_cl2 x y HX1.out HU1.out HY1.out HV1.out) rfl hG)
    have hn1 := (Below.refl w1.heap.size w1).new (.cells #[.slice a x.h.length b, .slice e x.b.length c, .slice a' y.h.length b', .slice e' y.b.length c'] 25)
    refine HT1.out.mono ?_
    clear HT1
    rintro r w2 ⟨rfl, hb2⟩
    have hb2' := hn1.then hb2
    have HB2 := mkHid (HB1.out.then hb2')
    have p20 := keep p10 hb2'
    have p21 := keep p11 hb2'
    have p22 := keep p12 hb2'
    have p23 := keep p13 hb2'
    have HX2 := mkHid (HX1.out.below hb2')
    have HU2 := mkHid (HU1.out.below hb2')
    have HY2 := mkHid (HY1.out.below hb2')
    have HV2 := mkHid (HV1.out.below hb2')
    clear p10 p11 p12 p13 HX1 HU1 HY1 HV1 HB1
    clear hb2 hn1 hb2'
    go_wp2_with fail
    go_ret
    exact ⟨rfl, HB2.out⟩
end Go.Proofs.Ytkkiemideldioaa
namespace Go.Proofs.Ytkkiemideldioaa
open Go.RowKit Go.ChangeShapes Go.WideShapes Go.ChangeAt
open Go.ChangeMaps (open_string)

set_option maxRecDepth 100000 in
set_option maxHeartbeats 1000000 in
theorem CodeAlike_lifted (os : Os) (started : os.Started) (H : Type) (enc : TypeId × Value → H) :
    ReturnsInHanded {} Try.checked os 6 .any (Rows.codeAlikeSpec.pre6 enc Try.prog Try.f6 Rows.codeAlikeRow.domain false) (Rows.codeAlikeSpec.post enc Try.prog Try.f6 false true false false) := by
  refine returnsInHanded_of_change (C := Try.checked) Try.own started (by kernel_rfl) Try.func6
    (ChangeSpec.witness6 (enc := enc) (C := Try.checked) false ⟨#[], #[.agg #[.slice none 0 0, .slice none 0 0], .agg #[.slice none 0 0, .slice none 0 0]], []⟩ 8 (by kernel_rfl) (by kernel_rfl) (by kernel_rfl) (by kernel_rfl)) ?_
  intro W base args ds gs before hval0 hW hcnd _
  have hval : ∀ (j : Nat) t v, Try.f6.params[j]? = some t → args[j]? = some v → Value.okWide Try.prog W .any base t v := hval0
  have hW' := hW
  obtain ⟨p, q, hA0, hV, rfl, hfz, hnd⟩ := hW
  have hA : DataW.TrodAll enc Try.prog W 0 (fun _ => true) true Try.f6.params.toList args.toList ds p := hA0
  rw [Try.params6] at hA hval
  obtain ⟨v0, vs0, d0, ds0, p0, q0, hargs, rfl, rfl, h0, r0⟩ := trodAll_cons hA
  obtain ⟨v1, vs1, d1, ds1, p1, q1, rfl, rfl, rfl, h1, r1⟩ := trodAll_cons r0
  obtain ⟨rfl, rfl, rfl⟩ := trodAll_nil r1
  obtain rfl : args = #[v0, v1] := by cases args; simp_all
  obtain ⟨rfl, rfl⟩ := trodVars_none hV
  have k0 := h0
  have lt0 : ∀ x ∈ p0, x.block < W.heap.size := by obtain ⟨m, hm⟩ := k0; exact DataW.trod_lt m _ _ _ hm
  obtain ⟨x0, a0, b0, e0, c0, rfl, hu0, hv0⟩ : ∃ (x : Cl) (a : Option Addr) (b : Nat) (e : Option Addr) (c : Nat), v0 = .agg #[.slice a x.h.length b, .slice e x.b.length c] ∧ Row W a b x.h ∧ Row W e c x.b := by
    obtain ⟨⟨l⟩, rfl⟩ := agg_clause (hval 0 25 v0 rfl rfl)
    obtain ⟨fuel, hf⟩ := h0
    obtain ⟨x, a, b, e, c, hc, g0, g1⟩ := open_clause7 hf
    have hc' : l = [.slice a x.h.length b, .slice e x.b.length c] := hc
    exact ⟨x, a, b, e, c, by rw [hc'], g0, g1⟩
  have k1 := h1
  have lt1 : ∀ x ∈ p1, x.block < W.heap.size := by obtain ⟨m, hm⟩ := k1; exact DataW.trod_lt m _ _ _ hm
  obtain ⟨x1, a1, b1, e1, c1, rfl, hu1, hv1⟩ : ∃ (x : Cl) (a : Option Addr) (b : Nat) (e : Option Addr) (c : Nat), v1 = .agg #[.slice a x.h.length b, .slice e x.b.length c] ∧ Row W a b x.h ∧ Row W e c x.b := by
    obtain ⟨⟨l⟩, rfl⟩ := agg_clause (hval 1 25 v1 rfl rfl)
    obtain ⟨fuel, hf⟩ := h1
    obtain ⟨x, a, b, e, c, hc, g0, g1⟩ := open_clause7 hf
    have hc' : l = [.slice a x.h.length b, .slice e x.b.length c] := hc
    exact ⟨x, a, b, e, c, by rw [hc'], g0, g1⟩
  clear hA0 hval0
  refine (lawAlike_any W x0 a0 b0 e0 c0 hu0 hv0 x1 a1 b1 e1 c1 hu1 hv1).mono fun e W' ⟨he, bel⟩ => ?_
  subst he
  exact ⟨_, rfl, _, _, _, [], _, [], hW', trodAll_mk1 (shut_bool Try.underlying4 _), (trodAll_cons_mk (Below.trod Try.laidOut (by kernel_rfl) (of_decide_eq_true (by kernel_rfl)) k0 bel lt0) (trodAll_cons_mk (Below.trod Try.laidOut (by kernel_rfl) (of_decide_eq_true (by kernel_rfl)) k1 bel lt1) trodAll_mk0)), rfl, bel.frame _, fun h => by cases h⟩

theorem CodeAlike_over : Rows.codeAlikeRow.holds Try.pinned (OpenSpec.ofChange Rows.codeAlikeSpec) :=
  OpenClaim.holds_of_wide 6 Try.f6 rfl rfl rfl rfl rfl rfl rfl ⟨rfl, rfl, rfl, rfl, rfl⟩ rfl rfl rfl rfl rfl (by kernel_rfl) Try.func6 (by kernel_rfl)
    (of_decide_eq_true (by kernel_rfl)) (by unfold Func.isWrapper; first | (rw [if_pos (by decide +kernel)]; kernel_rfl) | (rw [if_neg (by decide +kernel)]; exact ⟨rfl, rfl⟩))
    (fun os started H enc _ => CodeAlike_lifted os started H enc)

theorem CodeAlike_holds : Rows.CodeAlikeSaid := CodeAlike_over
end Go.Proofs.Ytkkiemideldioaa
