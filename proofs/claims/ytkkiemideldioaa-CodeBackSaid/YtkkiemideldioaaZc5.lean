/-
  Of layer 10 of sorrel: whatever arguments come in, the law CodeBack returns true, and what was handed in reads as it did: a clause's code is the code of that clause, whose variables are numbered as they first stand there; and of it alone. No condition.
-/
import Derived.Test.YtkkiemideldioaaZr8
import Derived.OrdersHeld
import Derived.Deep.RegionHeld3
set_option linter.unusedVariables false
namespace Go.Proofs.Ytkkiemideldioaa
open Go.RowKit


set_option maxRecDepth 100000 in
set_option maxHeartbeats 12800000 in
theorem lawBack_any (W : World) (x : Cl) (a : Option Addr) (b : Nat) (e : Option Addr) (c : Nat) (hu : Row W a b x.h) (hv : Row W e c x.b) :
    Calls Try.prog 5 #[.agg #[.slice a x.h.length b, .slice e x.b.length c]] W fun r W' => r = .returned (.bool true) ∧ Below W.heap.size W W' := by
  have hb0 := (Below.refl W.heap.size W).new (.cells #[.slice a x.h.length b, .slice e x.b.length c] 25)
  have hm3 := hv.max
  have hm4 := hv.le
  have hm1 := hu.max
  have hm2 := hu.le
  have p0 : (W.alloc (.cells #[.slice a x.h.length b, .slice e x.b.length c] 25)).cell? ⟨W.heap.size, 0, none⟩ = some (.slice a x.h.length b) := World.cell?_alloc_at _ _ W.heap.size 0 rfl
  have p1 : (W.alloc (.cells #[.slice a x.h.length b, .slice e x.b.length c] 25)).cell? ⟨W.heap.size, 1, none⟩ = some (.slice e x.b.length c) := World.cell?_alloc_at _ _ W.heap.size 1 rfl
  have HX := mkHid (hu.below hb0)
  have HX1 := mkHid (hv.below hb0)
  have HB0 := mkHid hb0
  obtain ⟨W0, hW⟩ : ∃ W0, W.alloc (.cells #[.slice a x.h.length b, .slice e x.b.length c] 25) = W0 := ⟨_, rfl⟩
  rw [hW] at p0 p1 HX HX1 HB0
  have HSZ : Hid (W.heap.size < W0.heap.size) := by rw [Hid, ← hW]; simp
  clear hu hv hb0
  cases hG : greatB [x]
  · cases hM : mayB x
    · go_enter Try.func5, Try.ntmps5
      go_wp2_with fail
      first | rw [hW] | skip
      clear hW
      refine (head10_any _).mono ?_
      rintro r w1 ⟨rfl, hb1⟩
      have HB1 := mkHid (HB0.out.then hb1)
      have q0 := keep p0 hb1
      have q1 := keep p1 hb1
      have HX2 := mkHid (HX.out.below hb1)
      have HX3 := mkHid (HX1.out.below hb1)
      have HZ2 : Hid (W.heap.size < w1.heap.size) := by have h1 := HSZ.out; have h2 := hb1.size; rw [Hid]; omega
      clear hb1 HB0 p0 p1 HX HX1 HSZ
      go_wp2_with fail
      have HT1 := mkHid (great7K _ _ _ [x] 1 _ (row_cl x HX2.out HX3.out) rfl hG)
      have hn1 := (Below.refl w1.heap.size w1).new (.cells #[.slice a x.h.length b, .slice e x.b.length c] 25)
      refine HT1.out.mono ?_
      clear HT1
      rintro r w2 ⟨rfl, hb2⟩
      have hb2' := hn1.then hb2
      have HB2 := mkHid (HB1.out.then hb2')
      have r0 := keep q0 hb2'
      have r1 := keep q1 hb2'
      have HX4 := mkHid (HX2.out.below hb2')
      have HX5 := mkHid (HX3.out.below hb2')
      have HZ3 : Hid (W.heap.size < w2.heap.size) := by have h1 := HZ2.out; have h2 := hb2'.size; rw [Hid]; omega
      clear hb2 hn1 hb2' HB1 q0 q1 HX2 HX3 HZ2
      go_wp2_with fail
      have HT1 := mkHid (compileN a b e c w2 x _ _ hM rfl rfl HX4.out HX5.out)
      refine HT1.out.mono ?_
      clear HT1
      rintro r w3 ⟨rfl, hb3⟩
      have HB3 := mkHid (HB2.out.then hb3)
      have s0 := keep r0 hb3
      have s1 := keep r1 hb3
      have HX6 := mkHid (HX4.out.below hb3)
      have HX7 := mkHid (HX5.out.below hb3)
      clear hb3 HB2 r0 r1 HX4 HX5
      go_wp2_with fail
      have HT1 := mkHid (mayK a b e c _ x _ _ _ HX6.out HX7.out rfl rfl hM)
      refine HT1.out.mono ?_
      clear HT1
      rintro r w4 ⟨rfl, hb4⟩
      have HB4 := mkHid (HB3.out.then hb4)
      clear hb4 HB3 s0 s1
      go_wp2_with fail
      go_ret
      exact ⟨rfl, HB4.out⟩
    · obtain ⟨h, bl, hT⟩ := may_trees hM
      go_enter Try.func5, Try.ntmps5
      go_wp2_with fail
      first | rw [hW] | skip
      clear hW
      refine (head10_any _).mono ?_
      rintro r w1 ⟨rfl, hb1⟩
      have HB1 := mkHid (HB0.out.then hb1)
      have q0 := keep p0 hb1
      have q1 := keep p1 hb1
      have HX2 := mkHid (HX.out.below hb1)
      have HX3 := mkHid (HX1.out.below hb1)
      have HZ2 : Hid (W.heap.size < w1.heap.size) := by have h1 := HSZ.out; have h2 := hb1.size; rw [Hid]; omega
      clear hb1 HB0 p0 p1 HX HX1 HSZ
      go_wp2_with fail
      have HT1 := mkHid (great7K _ _ _ [x] 1 _ (row_cl x HX2.out HX3.out) rfl hG)
      have hn1 := (Below.refl w1.heap.size w1).new (.cells #[.slice a x.h.length b, .slice e x.b.length c] 25)
      refine HT1.out.mono ?_
      clear HT1
      rintro r w2 ⟨rfl, hb2⟩
      have hb2' := hn1.then hb2
      have HB2 := mkHid (HB1.out.then hb2')
      have r0 := keep q0 hb2'
      have r1 := keep q1 hb2'
      have HX4 := mkHid (HX2.out.below hb2')
      have HX5 := mkHid (HX3.out.below hb2')
      have HZ3 : Hid (W.heap.size < w2.heap.size) := by have h1 := HZ2.out; have h2 := hb2'.size; rw [Hid]; omega
      clear hb2 hn1 hb2' HB1 q0 q1 HX2 HX3 HZ2
      go_wp2_with fail
      have HT1 := mkHid (compQ a b e c _ x h bl hT HX4.out HX5.out)
      refine HT1.out.mono ?_
      clear HT1
      rintro r w4 ⟨a2, c2, L, rfl, hrl, hL, hb4⟩
      have HL := mkHid hrl
      have HLE := mkHid hL
      have HB4 := mkHid (HB2.out.then hb4)
      have t0 := keep r0 hb4
      have t1 := keep r1 hb4
      have HX8 := mkHid (HX4.out.below hb4)
      have HX9 := mkHid (HX5.out.below hb4)
      have HZ5 : Hid (W.heap.size < w4.heap.size) := by have h1 := HZ3.out; have h2 := hb4.size; rw [Hid]; omega
      clear hb4 HB2 r0 r1 HX4 HX5 HZ3 hrl hL
      go_wp2_with fail
      refine (source_any w4 a2 c2 L HL.out).mono ?_
      rintro r w5 ⟨hb5, hs⟩
      rcases hs with ⟨rfl, hno⟩ | ⟨y, h1, bl1, a5, c5, a6, c6, rfl, hy1, hy2, _, _, _, huq⟩
      · exact absurd HLE.out.symm (hno x h bl hT)
      have hye : numClL x = y := by rw [numCl_L hT]; exact huq x h bl hT HLE.out.symm
      subst hye
      have HY1 := mkHid hy1
      have HY2 := mkHid hy2
      have HB5 := mkHid (HB4.out.then hb5)
      have u0 := keep t0 hb5
      have u1 := keep t1 hb5
      have HX10 := mkHid (HX8.out.below hb5)
      have HX11 := mkHid (HX9.out.below hb5)
      have HZ6 : Hid (W.heap.size < w5.heap.size) := by have h1 := HZ5.out; have h2 := hb5.size; rw [Hid]; omega
      clear hb5 HB4 t0 t1 HX8 HX9 HZ5 hy1 hy2 huq HL HLE
      rw [numClL_h, numClL_b]
      go_wp2_with fail
      have hn6 := (Below.refl w5.heap.size w5).new (.cells #[.slice a5 x.h.length c5, .slice a6 x.b.length c6] 25)
      have v0 : (w5.alloc (.cells #[.slice a5 x.h.length c5, .slice a6 x.b.length c6] 25)).cell? ⟨w5.heap.size, 0, none⟩ = some (.slice a5 x.h.length c5) := World.cell?_alloc_at _ _ w5.heap.size 0 rfl
      have v1 : (w5.alloc (.cells #[.slice a5 x.h.length c5, .slice a6 x.b.length c6] 25)).cell? ⟨w5.heap.size, 1, none⟩ = some (.slice a6 x.b.length c6) := World.cell?_alloc_at _ _ w5.heap.size 1 rfl
      have u2 := keep u0 hn6
      have u3 := keep u1 hn6
      have HY3 := mkHid (HY1.out.below hn6)
      have HY4 := mkHid (HY2.out.below hn6)
      have HX12 := mkHid (HX10.out.below hn6)
      have HX13 := mkHid (HX11.out.below hn6)
      have HB6 := mkHid (HB5.out.then hn6)
      obtain ⟨w6, hw6⟩ : ∃ w6, w5.alloc (.cells #[.slice a5 x.h.length c5, .slice a6 x.b.length c6] 25) = w6 := ⟨_, rfl⟩
      rw [hw6] at u2 u3 v0 v1 HY3 HY4 HX12 HX13 HB6 ⊢
      clear hw6 hn6 u0 u1 HY1 HY2 HX10 HX11 HB5
      generalize w5.heap.size = g5 at *
      have HS : Hid (∀ X, Below w6.heap.size w6 X → (fun X : World => X.cell? ⟨W.heap.size, 0, none⟩ = some (.slice a x.h.length b) ∧ X.cell? ⟨W.heap.size, 1, none⟩ = some (.slice e x.b.length c) ∧ X.cell? ⟨g5, 0, none⟩ = some (.slice a5 x.h.length c5) ∧ X.cell? ⟨g5, 1, none⟩ = some (.slice a6 x.b.length c6)) X) := fun X h => ⟨keep u2 h, keep u3 h, keep v0 h, keep v1 h⟩
      have hx5 : x.h.length ≤ 200 := by rw [hT.eh]; exact hT.h200
      have hx6 : x.b.length ≤ 8 := by rw [hT.eb, List.length_map]; exact hT.few
      have HX5 : Hid (∀ y ∈ x.b, y.t.length ≤ 400) := by
        rw [Hid, hT.eb]
        intro y hy
        obtain ⟨p, hp, rfl⟩ := List.mem_map.1 hy
        have := (hT.lits p hp).2.2
        show p.2.flat.length ≤ 400
        omega
      refine wp_region_noPanic ?_
      have hbd : Below w6.heap.size w6 w6.drew := (Below.refl _ _).drew
      refine wp_region_held_drew (S := fun X : World => X.cell? ⟨W.heap.size, 0, none⟩ = some (.slice a x.h.length b) ∧ X.cell? ⟨W.heap.size, 1, none⟩ = some (.slice e x.b.length c) ∧ X.cell? ⟨g5, 0, none⟩ = some (.slice a5 x.h.length c5) ∧ X.cell? ⟨g5, 1, none⟩ = some (.slice a6 x.b.length c6)) (by kernel_rfl) (HS.out _ hbd) (fun hSd => ?_)
      have HBD := mkHid hbd
      clear u2 u3 v0 v1 hbd
      obtain ⟨y0, hv0⟩ : ∃ X, w6.drew = X := ⟨_, rfl⟩
      rw [hv0] at HBD hSd ⊢
      clear hv0
      refine wpAnyH_take (i := 0) (oi := _) (v := ?_) rfl (by kernel_rfl) (by kernel_rfl) (by kernel_rfl) (fun _ _ _ h => h) (Or.inl ⟨by rfl, ?_⟩) (by assumption) ?_
      rotate_left
      · (intro w' hSw; obtain ⟨z0, z1, z2, z3⟩ := hSw; go_simp; try with_reducible rfl)
      (try simp only [List.getElem_toArray, List.getElem_cons_succ, List.getElem_cons_zero, Act.put, List.setIfInBounds_toArray, List.set_cons_zero, List.set_cons_succ])
      refine wpAnyH_take (i := 1) (oi := _) (v := ?_) rfl (by kernel_rfl) (by kernel_rfl) (by kernel_rfl) (fun _ _ _ h => h) (Or.inl ⟨by rfl, ?_⟩) (by assumption) ?_
      rotate_left
      · (intro w' hSw; obtain ⟨z0, z1, z2, z3⟩ := hSw; go_simp; try with_reducible rfl)
      (try simp only [List.getElem_toArray, List.getElem_cons_succ, List.getElem_cons_zero, Act.put, List.setIfInBounds_toArray, List.set_cons_zero, List.set_cons_succ])
      refine wpAnyH_take (i := 2) (oi := _) (v := ?_) rfl (by kernel_rfl) (by kernel_rfl) (by kernel_rfl) (fun _ _ _ h => h) (Or.inl ⟨by rfl, ?_⟩) (by assumption) ?_
      rotate_left
      · (intro w' hSw; obtain ⟨z0, z1, z2, z3⟩ := hSw; go_simp; try with_reducible rfl)
      (try simp only [List.getElem_toArray, List.getElem_cons_succ, List.getElem_cons_zero, Act.put, List.setIfInBounds_toArray, List.set_cons_zero, List.set_cons_succ])
      refine wpAnyH_take (i := 3) (oi := _) (v := ?_) rfl (by kernel_rfl) (by kernel_rfl) (by kernel_rfl) (fun _ _ _ h => h) (Or.inl ⟨by rfl, ?_⟩) (by assumption) ?_
      rotate_left
      · (intro w' hSw; obtain ⟨z0, z1, z2, z3⟩ := hSw; go_simp; try with_reducible rfl)
      (try simp only [List.getElem_toArray, List.getElem_cons_succ, List.getElem_cons_zero, Act.put, List.setIfInBounds_toArray, List.set_cons_zero, List.set_cons_succ])
      refine wpAnyH_take (i := 4) (oi := _) (v := ?_) rfl (by kernel_rfl) (by kernel_rfl) (by kernel_rfl) (fun _ _ _ h => h) (Or.inl ⟨by rfl, ?_⟩) (by assumption) ?_
      rotate_left
      · (intro w' hSw; obtain ⟨z0, z1, z2, z3⟩ := hSw; go_simp; try with_reducible rfl)
      (try simp only [List.getElem_toArray, List.getElem_cons_succ, List.getElem_cons_zero, Act.put, List.setIfInBounds_toArray, List.set_cons_zero, List.set_cons_succ])
      refine wpAnyH_take (i := 5) (oi := _) (v := ?_) rfl (by kernel_rfl) (by kernel_rfl) (by kernel_rfl) (fun _ _ _ h => h) (Or.inl ⟨by rfl, ?_⟩) (by assumption) ?_
      rotate_left
      · (intro w' hSw; obtain ⟨z0, z1, z2, z3⟩ := hSw; go_simp; try with_reducible rfl)
      (try simp only [List.getElem_toArray, List.getElem_cons_succ, List.getElem_cons_zero, Act.put, List.setIfInBounds_toArray, List.set_cons_zero, List.set_cons_succ])
      refine wpAnyH_ready (rs := [6]) (by kernel_rfl) (by simp) ?_
      refine AllReadyH.cons (o := _) rfl (fun K hK => ?_) AllReadyH.nil
      go_simp
      refine (mayK a b e c y0 x _ _ _ (HX12.out.below HBD.out) (HX13.out.below HBD.out) rfl rfl hM).mono ?_
      rintro r y1 ⟨rfl, hb1⟩
      have HBE := mkHid (HBD.out.then hb1)
      clear hb1
      try dsimp only
      refine hK.out _ _ (HS.out _ HBE.out) (fun hSe => ?_)
      clear hK K hSd HBD
      (try simp only [List.getElem_toArray, List.getElem_cons_succ, List.getElem_cons_zero, Act.put, List.setIfInBounds_toArray, List.set_cons_zero, List.set_cons_succ])
      refine wpAnyH_take (i := 7) (oi := _) (v := ?_) rfl (by kernel_rfl) (by kernel_rfl) (by kernel_rfl) (fun _ _ _ h => h) (Or.inl ⟨by rfl, ?_⟩) (by assumption) ?_
      rotate_left
      · (intro w' hSw; obtain ⟨z0, z1, z2, z3⟩ := hSw; go_simp; try with_reducible rfl)
      (try simp only [List.getElem_toArray, List.getElem_cons_succ, List.getElem_cons_zero, Act.put, List.setIfInBounds_toArray, List.set_cons_zero, List.set_cons_succ])
      refine wpAnyH_take (i := 8) (oi := _) (v := ?_) rfl (by kernel_rfl) (by kernel_rfl) (by kernel_rfl) (fun _ _ _ h => h) (Or.inl ⟨by rfl, ?_⟩) (by assumption) ?_
      rotate_left
      · (intro w' hSw; obtain ⟨z0, z1, z2, z3⟩ := hSw; go_simp; try with_reducible rfl)
      (try simp only [List.getElem_toArray, List.getElem_cons_succ, List.getElem_cons_zero, Act.put, List.setIfInBounds_toArray, List.set_cons_zero, List.set_cons_succ])
      refine wpAnyH_take (i := 9) (oi := _) (v := ?_) rfl (by kernel_rfl) (by kernel_rfl) (by kernel_rfl) (fun _ _ _ h => h) (Or.inl ⟨by rfl, ?_⟩) (by assumption) ?_
      rotate_left
      · (intro w' hSw; obtain ⟨z0, z1, z2, z3⟩ := hSw; go_simp; try with_reducible rfl)
      (try simp only [List.getElem_toArray, List.getElem_cons_succ, List.getElem_cons_zero, Act.put, List.setIfInBounds_toArray, List.set_cons_zero, List.set_cons_succ])
      refine wpAnyH_take (i := 10) (oi := _) (v := ?_) rfl (by kernel_rfl) (by kernel_rfl) (by kernel_rfl) (fun _ _ _ h => h) (Or.inl ⟨by rfl, ?_⟩) (by assumption) ?_
      rotate_left
      · (intro w' hSw; obtain ⟨z0, z1, z2, z3⟩ := hSw; go_simp; try with_reducible rfl)
      (try simp only [List.getElem_toArray, List.getElem_cons_succ, List.getElem_cons_zero, Act.put, List.setIfInBounds_toArray, List.set_cons_zero, List.set_cons_succ])
      refine wpAnyH_ready (rs := [11]) (by kernel_rfl) (by simp) ?_
      refine AllReadyH.cons (o := _) rfl (fun K hK => ?_) AllReadyH.nil
      go_simp
      refine (number10_any a b e c y1 x (HX12.out.below HBE.out) (HX13.out.below HBE.out) (by omega) HX5.out (by omega)).mono ?_
      rintro r y2 ⟨a7, c7, a8, c8, rfl, hr7, hr8, hb2⟩
      have HBF := mkHid (HBE.out.then hb2)
      have HR7 := mkHid hr7
      have HR8 := mkHid hr8
      clear hb2 hr7 hr8
      try dsimp only
      refine hK.out _ _ (HS.out _ HBF.out) (fun hSf => ?_)
      clear hK K hSe HBE
      (try simp only [List.getElem_toArray, List.getElem_cons_succ, List.getElem_cons_zero, Act.put, List.setIfInBounds_toArray, List.set_cons_zero, List.set_cons_succ])
      refine wpAnyH_ready (rs := [12]) (by kernel_rfl) (by simp) ?_
      refine AllReadyH.cons (o := _) rfl (fun K hK => ?_) AllReadyH.nil
      go_simp
      have HT1 := mkHid (sameclause_any a5 c5 a6 c6 a7 c7 a8 c8 y2 (numClL x) (numClL x) (HY3.out.below HBF.out) (HY4.out.below HBF.out) HR7.out HR8.out)
      rw [numClL_h, numClL_b] at HT1
      refine HT1.out.mono ?_
      clear HT1
      rintro r y3 ⟨rfl, hb3⟩
      rw [decide_eq_true rfl]
      have HBG := mkHid (HBF.out.then hb3)
      clear hb3
      try dsimp only
      refine hK.out _ _ (HS.out _ HBG.out) (fun hSg => ?_)
      clear hK K hSf HBF
      (try simp only [List.getElem_toArray, List.getElem_cons_succ, List.getElem_cons_zero, Act.put, List.setIfInBounds_toArray, List.set_cons_zero, List.set_cons_succ])
      refine wpAnyH_take (i := 13) (oi := _) (v := ?_) rfl (by kernel_rfl) (by kernel_rfl) (by kernel_rfl) (fun _ _ _ h => h) (Or.inl ⟨by rfl, ?_⟩) (by assumption) ?_
      rotate_left
      · (intro w' hSw; obtain ⟨z0, z1, z2, z3⟩ := hSw; go_simp; try with_reducible rfl)
      (try simp only [List.getElem_toArray, List.getElem_cons_succ, List.getElem_cons_zero, Act.put, List.setIfInBounds_toArray, List.set_cons_zero, List.set_cons_succ])
      refine wpAnyH_take (i := 14) (oi := _) (v := ?_) rfl (by kernel_rfl) (by kernel_rfl) (by kernel_rfl) (fun _ _ _ h => h) (Or.inl ⟨by rfl, ?_⟩) (by assumption) ?_
      rotate_left
      · (intro w' hSw; obtain ⟨z0, z1, z2, z3⟩ := hSw; go_simp; try with_reducible rfl)
      (try simp only [List.getElem_toArray, List.getElem_cons_succ, List.getElem_cons_zero, Act.put, List.setIfInBounds_toArray, List.set_cons_zero, List.set_cons_succ])
      refine wpAnyH_done (by kernel_rfl) (NoPanic.normal ?_) _
      go_wp2_with fail
      go_ret
      exact ⟨rfl, HB6.out.then HBG.out⟩
  · go_enter Try.func5, Try.ntmps5
    go_wp2_with fail
    first | rw [hW] | skip
    clear hW
    refine (head10_any _).mono ?_
    rintro r w1 ⟨rfl, hb1⟩
    have HB1 := mkHid (HB0.out.then hb1)
    have q0 := keep p0 hb1
    have q1 := keep p1 hb1
    have HX2 := mkHid (HX.out.below hb1)
    have HX3 := mkHid (HX1.out.below hb1)
    have HZ2 : Hid (W.heap.size < w1.heap.size) := by have h1 := HSZ.out; have h2 := hb1.size; rw [Hid]; omega
    clear hb1 HB0 p0 p1 HX HX1 HSZ
    go_wp2_with fail
    have HT1 := mkHid (great7K _ _ _ [x] 1 _ (row_cl x HX2.out HX3.out) rfl hG)
    have hn1 := (Below.refl w1.heap.size w1).new (.cells #[.slice a x.h.length b, .slice e x.b.length c] 25)
    refine HT1.out.mono ?_
    clear HT1
    rintro r w2 ⟨rfl, hb2⟩
    have hb2' := hn1.then hb2
    have HB2 := mkHid (HB1.out.then hb2')
    have r0 := keep q0 hb2'
    have r1 := keep q1 hb2'
    have HX4 := mkHid (HX2.out.below hb2')
    have HX5 := mkHid (HX3.out.below hb2')
    have HZ3 : Hid (W.heap.size < w2.heap.size) := by have h1 := HZ2.out; have h2 := hb2'.size; rw [Hid]; omega
    clear hb2 hn1 hb2' HB1 q0 q1 HX2 HX3 HZ2
    go_wp2_with fail
    go_ret
    exact ⟨rfl, HB2.out⟩
end Go.Proofs.Ytkkiemideldioaa
namespace Go.Proofs.Ytkkiemideldioaa
open Go.RowKit Go.ChangeShapes Go.WideShapes Go.ChangeAt
open Go.ChangeMaps (open_string)

set_option maxRecDepth 100000 in
set_option maxHeartbeats 1000000 in
theorem CodeBack_lifted (os : Os) (started : os.Started) (H : Type) (enc : TypeId × Value → H) :
    ReturnsInHanded {} Try.checked os 5 .any (Rows.codeBackSpec.pre6 enc Try.prog Try.f5 Rows.codeBackRow.domain false) (Rows.codeBackSpec.post enc Try.prog Try.f5 false true false false) := by
  refine returnsInHanded_of_change (C := Try.checked) Try.own started (by kernel_rfl) Try.func5
    (ChangeSpec.witness6 (enc := enc) (C := Try.checked) false ⟨#[], #[.agg #[.slice none 0 0, .slice none 0 0]], []⟩ 8 (by kernel_rfl) (by kernel_rfl) (by kernel_rfl) (by kernel_rfl)) ?_
  intro W base args ds gs before hval0 hW hcnd _
  have hval : ∀ (j : Nat) t v, Try.f5.params[j]? = some t → args[j]? = some v → Value.okWide Try.prog W .any base t v := hval0
  have hW' := hW
  obtain ⟨p, q, hA0, hV, rfl, hfz, hnd⟩ := hW
  have hA : DataW.TrodAll enc Try.prog W 0 (fun _ => true) true Try.f5.params.toList args.toList ds p := hA0
  rw [Try.params5] at hA hval
  obtain ⟨v0, vs0, d0, ds0, p0, q0, hargs, rfl, rfl, h0, r0⟩ := trodAll_cons hA
  obtain ⟨rfl, rfl, rfl⟩ := trodAll_nil r0
  obtain rfl : args = #[v0] := by cases args; simp_all
  obtain ⟨rfl, rfl⟩ := trodVars_none hV
  have k0 := h0
  have lt0 : ∀ x ∈ p0, x.block < W.heap.size := by obtain ⟨m, hm⟩ := k0; exact DataW.trod_lt m _ _ _ hm
  obtain ⟨x0, a0, b0, e0, c0, rfl, hu0, hv0⟩ : ∃ (x : Cl) (a : Option Addr) (b : Nat) (e : Option Addr) (c : Nat), v0 = .agg #[.slice a x.h.length b, .slice e x.b.length c] ∧ Row W a b x.h ∧ Row W e c x.b := by
    obtain ⟨⟨l⟩, rfl⟩ := agg_clause (hval 0 25 v0 rfl rfl)
    obtain ⟨fuel, hf⟩ := h0
    obtain ⟨x, a, b, e, c, hc, g0, g1⟩ := open_clause7 hf
    have hc' : l = [.slice a x.h.length b, .slice e x.b.length c] := hc
    exact ⟨x, a, b, e, c, by rw [hc'], g0, g1⟩
  clear hA0 hval0
  refine (lawBack_any W x0 a0 b0 e0 c0 hu0 hv0).mono fun e W' ⟨he, bel⟩ => ?_
  subst he
  exact ⟨_, rfl, _, _, _, [], _, [], hW', trodAll_mk1 (shut_bool Try.underlying4 _), (trodAll_cons_mk (Below.trod Try.laidOut (by kernel_rfl) (of_decide_eq_true (by kernel_rfl)) k0 bel lt0) trodAll_mk0), rfl, bel.frame _, fun h => by cases h⟩

theorem CodeBack_over : Rows.codeBackRow.holds Try.pinned (OpenSpec.ofChange Rows.codeBackSpec) :=
  OpenClaim.holds_of_wide 5 Try.f5 rfl rfl rfl rfl rfl rfl rfl ⟨rfl, rfl, rfl, rfl, rfl⟩ rfl rfl rfl rfl rfl (by kernel_rfl) Try.func5 (by kernel_rfl)
    (of_decide_eq_true (by kernel_rfl)) (by unfold Func.isWrapper; first | (rw [if_pos (by decide +kernel)]; kernel_rfl) | (rw [if_neg (by decide +kernel)]; exact ⟨rfl, rfl⟩))
    (fun os started H enc _ => CodeBack_lifted os started H enc)

theorem CodeBack_holds : Rows.CodeBackSaid := CodeBack_over
end Go.Proofs.Ytkkiemideldioaa
