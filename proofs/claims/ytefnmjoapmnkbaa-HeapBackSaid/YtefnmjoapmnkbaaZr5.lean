import Derived.Test.YtefnmjoapmnkbaaZr4
import Derived.Deep.RegionHeld3
set_option linter.unusedVariables false
namespace Go.Proofs.Ytefnmjoapmnkbaa
open Go.RowKit

set_option maxRecDepth 100000 in
set_option maxHeartbeats 6400000 in
theorem slot_var (w : World) (B L : Nat) (vc va : Value) (xs : List Cel) (ps : List Int) (c : Cel) (hM : LM w B L vc va xs ps) (hf : c.fit) (hl : xs.length ≤ 1000000) (h1 : c.k = 1) (hv : 0 ≤ c.n ∧ c.n < (ps.length : Int)) :
    Calls Try.prog 141 #[.pointer (some ⟨L, 0, none⟩), c.v] w (SlotPost w B L vc va xs ps c) := by
  obtain ⟨ck, cs, cn⟩ := c
  dsimp only at h1 hv
  subst h1
  obtain ⟨k, rfl⟩ : ∃ k : Nat, cn = k := ⟨cn.toNat, by omega⟩
  have hk : k < ps.length := by omega
  obtain ⟨ca, cc, rfl, hcr⟩ := hM.cells.row
  have hcm := hcr.max
  have hcl := hcr.le
  obtain ⟨ga, pa, rfl, hfz, hcell⟩ := hM.at_.atI (by omega)
  obtain ⟨_, _, e9, hpr⟩ := hM.at_.row
  cases e9
  have hpm := hpr.max
  have hpl := hpr.le
  have hpb := hM.at_.fitI _ (List.getElem_mem hk)
  have hgl := hM.at_.lt ga rfl
  have hLl := hM.lt
  have hgL : ga ≠ L := fun e => hM.aL (by rw [← e]; rfl)
  have hbn := ((Below.refl w.heap.size w).new (.cells #[.int .i64 1, .string cs, .int .i64 k] 54)).new (.cells #[.int .i64 0, .string ⟨#[]⟩, .int .i64 0] 80)
  have e2 : ((w.alloc (.cells #[.int .i64 1, .string cs, .int .i64 k] 54)).alloc (.cells #[.int .i64 0, .string ⟨#[]⟩, .int .i64 0] 80)).cell? ⟨w.heap.size, 2, none⟩ = some (.int .i64 k) := keep (World.cell?_alloc_at _ _ w.heap.size 2 rfl) ((Below.refl _ _).new _)
  have f0 : ((w.alloc (.cells #[.int .i64 1, .string cs, .int .i64 k] 54)).alloc (.cells #[.int .i64 0, .string ⟨#[]⟩, .int .i64 0] 80)).cell? ⟨w.heap.size + 1, 0, none⟩ = some (.int .i64 0) := World.cell?_alloc_at _ _ _ 0 (by simp)
  have f1 : ((w.alloc (.cells #[.int .i64 1, .string cs, .int .i64 k] 54)).alloc (.cells #[.int .i64 0, .string ⟨#[]⟩, .int .i64 0] 80)).cell? ⟨w.heap.size + 1, 1, none⟩ = some (.string ⟨#[]⟩) := World.cell?_alloc_at _ _ _ 1 (by simp)
  have f2 : ((w.alloc (.cells #[.int .i64 1, .string cs, .int .i64 k] 54)).alloc (.cells #[.int .i64 0, .string ⟨#[]⟩, .int .i64 0] 80)).cell? ⟨w.heap.size + 1, 2, none⟩ = some (.int .i64 0) := World.cell?_alloc_at _ _ _ 2 (by simp)
  have z0 : ((w.alloc (.cells #[.int .i64 1, .string cs, .int .i64 k] 54)).alloc (.cells #[.int .i64 0, .string ⟨#[]⟩, .int .i64 0] 80)).frozen? ⟨w.heap.size + 1, 0, none⟩ = false := by simp [go_sem]
  have z1 : ((w.alloc (.cells #[.int .i64 1, .string cs, .int .i64 k] 54)).alloc (.cells #[.int .i64 0, .string ⟨#[]⟩, .int .i64 0] 80)).frozen? ⟨w.heap.size + 1, 1, none⟩ = false := by simp [go_sem]
  have z2 : ((w.alloc (.cells #[.int .i64 1, .string cs, .int .i64 k] 54)).alloc (.cells #[.int .i64 0, .string ⟨#[]⟩, .int .i64 0] 80)).frozen? ⟨w.heap.size + 1, 2, none⟩ = false := by simp [go_sem]
  have hM1 := hM.below hbn
  have HM1 := mkHid hM1
  have HBN : Hid (Fr (lB L (.slice ca xs.length cc) (.slice (some ⟨ga, 0, none⟩) ps.length pa)) w _) := Fr.of hbn
  have HBw : Hid (B ≤ w.heap.size + 1) := by have := hM.BW; rw [Hid]; omega
  have HALL := mkHid hM.allB
  have HGB : Hid (B ≤ ga) := (hM.at_.lt ga rfl).1
  have HBw : Hid (B ≤ w.heap.size + 1) := by have := hM.BW; rw [Hid]; omega
  have HALL := mkHid hM.allB
  have HGB : Hid (B ≤ ga) := (hM.at_.lt ga rfl).1
  have HBw : Hid (B ≤ w.heap.size + 1) := by have := hM.BW; rw [Hid]; omega
  have HALL := mkHid hM.allB
  have HGB : Hid (B ≤ ga) := (hM.at_.lt ga rfl).1
  have c1 := hM1.c1
  have c0 := hM1.c0
  have r0 := keep (hcell k hk) hbn
  have HSL : Hid (slotM xs.length ps ⟨1, cs, (k : Int)⟩ = if ps[k] = -1 then (⟨1, ⟨#[]⟩, (xs.length : Int)⟩, ps.set k (xs.length : Int)) else (⟨1, ⟨#[]⟩, ps[k]⟩, ps)) := by
    rw [Hid, slotM]
    simp [List.getElem?_eq_getElem hk]
  have hki : (0 : Int) ≤ (k : Int) := by omega
  have hki2 : (k : Int) < (ps.length : Int) := by omega
  have HPK : Hid (∀ v, (ps.set k v)[k]'(by rw [List.length_set]; exact hk) = v) := fun v => List.getElem_set_self _
  clear hM hM1 hcr hcell hbn hpr hfz
  go_enter Try.func141, Try.ntmps141
  dsimp only [Cel.v]
  go_wp2_with fail
  obtain ⟨W, hW⟩ : ∃ W, (w.alloc (.cells #[.int .i64 1, .string cs, .int .i64 k] 54)).alloc (.cells #[.int .i64 0, .string ⟨#[]⟩, .int .i64 0] 80) = W := ⟨_, rfl⟩
  have hsz : W.heap.size = w.heap.size + 2 := by rw [← hW]; simp
  have HSZ := mkHid hsz
  rw [hW] at e2 f0 f1 f2 z0 z1 z2 HM1 HBN c1 c0 r0 ⊢
  clear hW hsz
  generalize hpk : ps[k] = p at *
  have HPP := mkHid hpk
  clear hpk
  have HN : Hid (∀ b ∈ lB L (.slice ca xs.length cc) (.slice (some ⟨ga, 0, none⟩) ps.length pa), b ∉ [w.heap.size + 1]) := fun b hb e => by
    simp at e
    subst e
    have := HALL.out _ hb
    omega
  have HN : Hid (∀ b ∈ lB L (.slice ca xs.length cc) (.slice (some ⟨ga, 0, none⟩) ps.length pa), b ∉ [w.heap.size + 1]) := fun b hb e => by
    simp at e
    subst e
    have := HALL.out _ hb
    omega
  have HN : Hid (∀ b ∈ lB L (.slice ca xs.length cc) (.slice (some ⟨ga, 0, none⟩) ps.length pa), b ∉ [w.heap.size + 1]) := fun b hb e => by
    simp at e
    subst e
    have := HALL.out _ hb
    omega
  have HN : Hid (∀ b ∈ lB L (.slice ca xs.length cc) (.slice (some ⟨ga, 0, none⟩) ps.length pa), b ∉ [w.heap.size + 1]) := fun b hb e => by
    simp at e
    subst e
    have := HALL.out _ hb
    omega
  by_cases hp : p = -1
  · subst hp
    rw [if_pos rfl] at HSL
    go_quiet (fail)
    go_wp2_with fail
    have HM2 : Hid (LM (W.drewN nq) B L (.slice ca xs.length cc) (.slice (some ⟨ga, 0, none⟩) ps.length pa) xs ps) := HM1.out.below (below_drewN (Below.refl _ _) _)
    have HB2 : Hid (Fr (lB L (.slice ca xs.length cc) (.slice (some ⟨ga, 0, none⟩) ps.length pa)) w (W.drewN nq)) := HBN.out.trans (Fr.of (below_drewN (Below.refl _ _) _))
    have e2' : (W.drewN nq).cell? ⟨w.heap.size, 2, none⟩ = some (.int .i64 k) := keep e2 (below_drewN (Below.refl _ _) _)
    have f0' := keep f0 (below_drewN (Below.refl W.heap.size W) nq)
    have f1' := keep f1 (below_drewN (Below.refl W.heap.size W) nq)
    have f2' := keep f2 (below_drewN (Below.refl W.heap.size W) nq)
    have zz : ∀ k', (W.drewN nq).frozen? ⟨w.heap.size + 1, k', none⟩ = W.frozen? ⟨w.heap.size + 1, k', none⟩ := fun k' => (below_drewN (Below.refl W.heap.size W) nq).frozen (p := ⟨w.heap.size + 1, k', none⟩) (by have := HSZ.out; simp; omega)
    have z0' := (zz 0).trans z0
    have z1' := (zz 1).trans z1
    have z2' := (zz 2).trans z2
    have hs2 : (W.drewN nq).heap.size = W.heap.size := Nat.le_antisymm (by simp) (below_drewN (Below.refl W.heap.size W) nq).size
    have HS2 := mkHid hs2
    clear e2 f0 f1 f2 z0 z1 z2 c0 c1 r0 zz hs2
    generalize W.drewN nq = V at *
    have c0 := HM2.out.c0
    have c1 := HM2.out.c1
    obtain ⟨_, _, e9, hfz, hcell⟩ := HM2.out.at_.atI (by omega)
    cases e9
    have r0 := hcell k hk
    rw [HPP.out] at r0
    have zg := hfz k
    clear hfz hcell
    have HKG : Hid (∀ (x : Value) (b o : Nat) (v : Value), b ≠ ga → V.cell? ⟨b, o, none⟩ = some v → (V.drew.setCell ⟨ga, k, none⟩ x).cell? ⟨b, o, none⟩ = some v) := fun x b o v hn h =>
      (World.cell?_of_block (a := ⟨b, o, none⟩) (Below.heap_setCell V.drew ⟨ga, k, none⟩ x b hn)).trans h
    go_region_held3 (fun w' => w'.cell? ⟨L, 1, none⟩ = some (.slice (some ⟨ga, 0, none⟩) ps.length pa) ∧ w'.cell? ⟨w.heap.size, 2, none⟩ = some (.int .i64 k) ∧ w'.cell? ⟨L, 0, none⟩ = some (.slice ca xs.length cc))
      (first
        | exact ⟨c1, e2', c0⟩
        | exact ⟨HKG.out _ _ _ _ (by omega) c1, HKG.out _ _ _ _ (by omega) e2', HKG.out _ _ _ _ (by omega) c0⟩)
      (fail)
    go_wp2_with fail
    have hM4 : LM ((V.setCell ⟨ga, k, none⟩ (.int .i64 xs.length)).drew) B L (.slice ca xs.length cc) (.slice (some ⟨ga, 0, none⟩) ps.length pa) xs (ps.set k (xs.length : Int)) := (HM2.out.below (W' := V.drew) (Below.refl _ _).drew).setP hk (by omega) (by omega)
    have HM9 := mkHid hM4
    have k1 : ((V.setCell ⟨ga, k, none⟩ (.int .i64 xs.length)).drew).cell? ⟨L, 1, none⟩ = _ := HKG.out (.int .i64 xs.length) L 1 _ (by omega) c1
    have k2 : ((V.setCell ⟨ga, k, none⟩ (.int .i64 xs.length)).drew).cell? ⟨w.heap.size, 2, none⟩ = _ := HKG.out (.int .i64 xs.length) w.heap.size 2 _ (by omega) e2'
    have k4 : ((V.setCell ⟨ga, k, none⟩ (.int .i64 xs.length)).drew).cell? ⟨w.heap.size + 1, 0, none⟩ = _ := HKG.out (.int .i64 xs.length) (w.heap.size + 1) 0 _ (by omega) f0'
    have k5 : ((V.setCell ⟨ga, k, none⟩ (.int .i64 xs.length)).drew).cell? ⟨w.heap.size + 1, 1, none⟩ = _ := HKG.out (.int .i64 xs.length) (w.heap.size + 1) 1 _ (by omega) f1'
    have k6 : ((V.setCell ⟨ga, k, none⟩ (.int .i64 xs.length)).drew).cell? ⟨w.heap.size + 1, 2, none⟩ = _ := HKG.out (.int .i64 xs.length) (w.heap.size + 1) 2 _ (by omega) f2'
    have k3 : ((V.setCell ⟨ga, k, none⟩ (.int .i64 xs.length)).drew).cell? ⟨ga, k, none⟩ = some (.int .i64 xs.length) := World.cell?_setCell_same V.drew _ _ r0
    have y0 : ((V.setCell ⟨ga, k, none⟩ (.int .i64 xs.length)).drew).frozen? ⟨w.heap.size + 1, 0, none⟩ = false := (World.frozen?_of_block (a := ⟨w.heap.size + 1, 0, none⟩) (Below.heap_setCell V.drew ⟨ga, k, none⟩ _ (w.heap.size + 1) (show w.heap.size + 1 ≠ ga by omega))).trans z0'
    have y1 : ((V.setCell ⟨ga, k, none⟩ (.int .i64 xs.length)).drew).frozen? ⟨w.heap.size + 1, 1, none⟩ = false := (World.frozen?_of_block (a := ⟨w.heap.size + 1, 1, none⟩) (Below.heap_setCell V.drew ⟨ga, k, none⟩ _ (w.heap.size + 1) (show w.heap.size + 1 ≠ ga by omega))).trans z1'
    have y2 : ((V.setCell ⟨ga, k, none⟩ (.int .i64 xs.length)).drew).frozen? ⟨w.heap.size + 1, 2, none⟩ = false := (World.frozen?_of_block (a := ⟨w.heap.size + 1, 2, none⟩) (Below.heap_setCell V.drew ⟨ga, k, none⟩ _ (w.heap.size + 1) (show w.heap.size + 1 ≠ ga by omega))).trans z2'
    have HB9 : Hid (Fr (lB L (.slice ca xs.length cc) (.slice (some ⟨ga, 0, none⟩) ps.length pa)) w ((V.setCell ⟨ga, k, none⟩ (.int .i64 xs.length)).drew)) := (HB2.out.trans (Fr.of (Below.refl V.heap.size V).drew)).set (by simp [lB, Value.ownBlock]) _
    clear hM4 c0 c1 r0 e2' f0' f1' f2' z0' z1' z2' zg HKG HM2 HB2
    generalize ((V.setCell ⟨ga, k, none⟩ (.int .i64 xs.length)).drew) = W9 at *
    have HMf := mkHid (HM9.out.below (W' := W9.drew) (Below.refl _ _).drew)
    have HN1 : Hid (∀ b ∈ lB L (.slice ca xs.length cc) (.slice (some ⟨ga, 0, none⟩) ps.length pa), b ∉ [w.heap.size + 1]) := HN.out
    have HKL : Hid (∀ (x y z : Value) (b o : Nat) (v : Value), b ≠ w.heap.size + 1 → W9.cell? ⟨b, o, none⟩ = some v → (((W9.drew.setCell ⟨w.heap.size + 1, 0, none⟩ x).setCell ⟨w.heap.size + 1, 1, none⟩ y).setCell ⟨w.heap.size + 1, 2, none⟩ z).cell? ⟨b, o, none⟩ = some v) := fun x y z b o v hn h => by
      have h3 := set3_grown (w.heap.size + 1) W9.drew x y z
      exact (World.cell?_of_block (a := ⟨b, o, none⟩) (h3.block b (cell_lt (w := W9.drew) h) (fun e => hn (by injection e)))).trans h
    go_region_held3 (fun w' => w'.cell? ⟨L, 1, none⟩ = some (.slice (some ⟨ga, 0, none⟩) ps.length pa) ∧ w'.cell? ⟨w.heap.size, 2, none⟩ = some (.int .i64 k) ∧ w'.cell? ⟨ga, k, none⟩ = some (.int .i64 (xs.length : Int)))
      (first
        | exact ⟨k1, k2, k3⟩
        | exact ⟨HKL.out _ _ _ _ _ _ (by omega) k1, HKL.out _ _ _ _ _ _ (by omega) k2, HKL.out _ _ _ _ _ _ (by omega) k3⟩)
      (fail)
    go_wp2_with fail
    refine bodyPost_ret (v := .agg #[.int .i64 1, .string ⟨#[]⟩, .int .i64 (xs.length : Int)]) (by simp [results, Try.results141, go_sem, k4, k5, k6]) rfl ⟨by rw [HSL.out], ?_, ?_⟩
    · rw [HSL.out]
      refine HMf.out.fr (us := [w.heap.size + 1]) ?_ HN1.out
      exact (((Fr.refl [w.heap.size + 1] _).set (by simp) _).set (by simp) _).set (by simp) _
    · refine Fr.fresh (vs := [w.heap.size + 1]) ?_ (by simp)
      have h0 : Fr ([w.heap.size + 1] ++ (lB L (.slice ca xs.length cc) (.slice (some ⟨ga, 0, none⟩) ps.length pa))) w W9.drew := (HB9.out.trans (Fr.of (Below.refl W9.heap.size W9).drew)).sub (fun k hk => List.mem_append_right _ hk)
      exact ((h0.set (by simp) _).set (by simp) _).set (by simp) _
  · have t1 : (p == -1) = false := by simp [hp]
    rw [if_neg hp] at HSL
    clear hp
    go_quiet (fail)
    go_wp2_with fail
    have HM9 : Hid (LM (W.drewN nq) B L (.slice ca xs.length cc) (.slice (some ⟨ga, 0, none⟩) ps.length pa) xs ps) := HM1.out.below (below_drewN (Below.refl _ _) _)
    have HB9 : Hid (Fr (lB L (.slice ca xs.length cc) (.slice (some ⟨ga, 0, none⟩) ps.length pa)) w (W.drewN nq)) := HBN.out.trans (Fr.of (below_drewN (Below.refl _ _) _))
    have k1 := keep c1 (below_drewN (Below.refl W.heap.size W) nq)
    have k2 := keep e2 (below_drewN (Below.refl W.heap.size W) nq)
    have k3 := keep r0 (below_drewN (Below.refl W.heap.size W) nq)
    have k4 := keep f0 (below_drewN (Below.refl W.heap.size W) nq)
    have k5 := keep f1 (below_drewN (Below.refl W.heap.size W) nq)
    have k6 := keep f2 (below_drewN (Below.refl W.heap.size W) nq)
    have zz : ∀ k', (W.drewN nq).frozen? ⟨w.heap.size + 1, k', none⟩ = W.frozen? ⟨w.heap.size + 1, k', none⟩ := fun k' => (below_drewN (Below.refl W.heap.size W) nq).frozen (p := ⟨w.heap.size + 1, k', none⟩) (by have := HSZ.out; simp; omega)
    have y0 := (zz 0).trans z0
    have y1 := (zz 1).trans z1
    have y2 := (zz 2).trans z2
    clear e2 f0 f1 f2 z0 z1 z2 c0 c1 r0 zz
    generalize W.drewN nq = W9 at *
    have HMf := mkHid (HM9.out.below (W' := W9.drew) (Below.refl _ _).drew)
    have HN1 : Hid (∀ b ∈ lB L (.slice ca xs.length cc) (.slice (some ⟨ga, 0, none⟩) ps.length pa), b ∉ [w.heap.size + 1]) := HN.out
    have HKL : Hid (∀ (x y z : Value) (b o : Nat) (v : Value), b ≠ w.heap.size + 1 → W9.cell? ⟨b, o, none⟩ = some v → (((W9.drew.setCell ⟨w.heap.size + 1, 0, none⟩ x).setCell ⟨w.heap.size + 1, 1, none⟩ y).setCell ⟨w.heap.size + 1, 2, none⟩ z).cell? ⟨b, o, none⟩ = some v) := fun x y z b o v hn h => by
      have h3 := set3_grown (w.heap.size + 1) W9.drew x y z
      exact (World.cell?_of_block (a := ⟨b, o, none⟩) (h3.block b (cell_lt (w := W9.drew) h) (fun e => hn (by injection e)))).trans h
    go_region_held3 (fun w' => w'.cell? ⟨L, 1, none⟩ = some (.slice (some ⟨ga, 0, none⟩) ps.length pa) ∧ w'.cell? ⟨w.heap.size, 2, none⟩ = some (.int .i64 k) ∧ w'.cell? ⟨ga, k, none⟩ = some (.int .i64 p))
      (first
        | exact ⟨k1, k2, k3⟩
        | exact ⟨HKL.out _ _ _ _ _ _ (by omega) k1, HKL.out _ _ _ _ _ _ (by omega) k2, HKL.out _ _ _ _ _ _ (by omega) k3⟩)
      (fail)
    go_wp2_with fail
    refine bodyPost_ret (v := .agg #[.int .i64 1, .string ⟨#[]⟩, .int .i64 p]) (by simp [results, Try.results141, go_sem, k4, k5, k6]) rfl ⟨by rw [HSL.out], ?_, ?_⟩
    · rw [HSL.out]
      refine HMf.out.fr (us := [w.heap.size + 1]) ?_ HN1.out
      exact (((Fr.refl [w.heap.size + 1] _).set (by simp) _).set (by simp) _).set (by simp) _
    · refine Fr.fresh (vs := [w.heap.size + 1]) ?_ (by simp)
      have h0 : Fr ([w.heap.size + 1] ++ (lB L (.slice ca xs.length cc) (.slice (some ⟨ga, 0, none⟩) ps.length pa))) w W9.drew := (HB9.out.trans (Fr.of (Below.refl W9.heap.size W9).drew)).sub (fun k hk => List.mem_append_right _ hk)
      exact ((h0.set (by simp) _).set (by simp) _).set (by simp) _
end Go.Proofs.Ytefnmjoapmnkbaa
set_option linter.unusedVariables false
namespace Go.Proofs.Ytefnmjoapmnkbaa
open Go.RowKit

set_option maxHeartbeats 3200000 in
theorem slot_rest (w : World) (B L : Nat) (vc va : Value) (xs : List Cel) (ps : List Int) (c : Cel) (hM : LM w B L vc va xs ps) (hf : c.fit) (h1 : ¬ c.k = 1) :
    Calls Try.prog 141 #[.pointer (some ⟨L, 0, none⟩), c.v] w (SlotPost w B L vc va xs ps c) := by
  obtain ⟨ck, cs, cn⟩ := c
  dsimp only at h1
  have hbn := ((Below.refl w.heap.size w).new (.cells #[.int .i64 ck, .string cs, .int .i64 cn] 54))
  have hbz := mkHid (hM.BW)
  have HMM := mkHid hM
  clear hM
  by_cases h2 : ck = 2
  · have hb2 := hbn.new (.cells #[.int .i64 2, .string ⟨#[]⟩, .int .i64 cn] 80)
    have HSL : Hid (slotM xs.length ps ⟨ck, cs, cn⟩ = (⟨2, ⟨#[]⟩, cn⟩, ps)) := by rw [Hid, slotM, if_neg h1, if_pos h2]
    have HB2 := mkHid hb2
    subst h2
    clear hb2 hbn
    go_enter Try.func141, Try.ntmps141
    dsimp only [Cel.v]
    go_wp2_with fail
    refine bodyPost_ret (v := .agg #[.int .i64 2, .string ⟨#[]⟩, .int .i64 cn]) (by simp [results, Try.results141, go_sem]) rfl ⟨by rw [HSL.out], ?_, Fr.of HB2.out⟩
    rw [HSL.out]
    exact HMM.out.below HB2.out
  · have hb2 := hbn.new (.cells #[.int .i64 3, .string ⟨#[]⟩, .int .i64 0] 80)
    have HSL : Hid (slotM xs.length ps ⟨ck, cs, cn⟩ = (⟨3, ⟨#[]⟩, 0⟩, ps)) := by rw [Hid, slotM, if_neg h1, if_neg h2]
    have t1 : (ck == 1) = false := by simp [h1]
    have t2 : (ck == 2) = false := by simp [h2]
    have HB2 := mkHid hb2
    clear hb2 hbn h1 h2
    go_enter Try.func141, Try.ntmps141
    dsimp only [Cel.v]
    go_wp2_with fail
    refine bodyPost_ret (v := .agg #[.int .i64 3, .string ⟨#[]⟩, .int .i64 0]) (by simp [results, Try.results141, go_sem]) rfl ⟨by rw [HSL.out], ?_, Fr.of HB2.out⟩
    rw [HSL.out]
    exact HMM.out.below HB2.out
theorem slot_any (w : World) (B L : Nat) (vc va : Value) (xs : List Cel) (ps : List Int) (c : Cel) (hM : LM w B L vc va xs ps) (hf : c.fit) (hl : xs.length ≤ 1000000) (hv : c.k = 1 → 0 ≤ c.n ∧ c.n < (ps.length : Int)) :
    Calls Try.prog 141 #[.pointer (some ⟨L, 0, none⟩), c.v] w (SlotPost w B L vc va xs ps c) := by
  by_cases h1 : c.k = 1
  · exact slot_var w B L vc va xs ps c hM hf hl h1 (hv h1)
  · exact slot_rest w B L vc va xs ps c hM hf h1
theorem slotM_length (n : Nat) (ps : List Int) (c : Cel) : (slotM n ps c).2.length = ps.length := by
  unfold slotM
  split
  · split <;> simp
  · split <;> rfl
/-! ### a term's slots -/
def setNs (xs : List Cel) (k : Nat) (v : Int) : List Cel := match xs[k]? with
  | none => xs
  | some c => xs.set k ⟨c.k, c.s, v⟩
theorem setNs_at {xs : List Cel} {k : Nat} (h : k < xs.length) (v : Int) : setNs xs k v = xs.set k ⟨xs[k].k, xs[k].s, v⟩ := by
  unfold setNs; rw [List.getElem?_eq_getElem h]
theorem setNs_length (xs : List Cel) (k : Nat) (v : Int) : (setNs xs k v).length = xs.length := by
  unfold setNs; split <;> simp
/-- the slots of arguments, one for each -/
def slotsT (s : List Cel × List Int) (ts : List Tm) : List Cel × List Int := ts.foldl (fun s t => (s.1 ++ [(slotM s.1.length s.2 t.hd).1], (slotM s.1.length s.2 t.hd).2)) s
mutual
/-- a Fun's slots, behind those that are there -/
def layT : Tm → List Cel × List Int → List Cel × List Int
  | .mk c ts, s => layTs ts (s.1.length + 1) (slotsT (s.1 ++ [⟨4, c.s, c.n⟩], s.2) ts)
/-- those of arguments that are Funs; the first argument's slot stands at p -/
def layTs : List Tm → Nat → List Cel × List Int → List Cel × List Int
  | [], _, s => s
  | t :: ts, p, s => layTs ts (p + 1) (if t.hd.k = 3 then (setNs (layT t s).1 p (s.1.length : Int), (layT t s).2) else s)
end
theorem slotsT_length (ts : List Tm) : ∀ s : List Cel × List Int, (slotsT s ts).1.length = s.1.length + ts.length ∧ (slotsT s ts).2.length = s.2.length := by
  induction ts with
  | nil => intro s; exact ⟨rfl, rfl⟩
  | cons t ts ih =>
    intro s
    unfold slotsT at ih ⊢
    rw [List.foldl_cons]
    obtain ⟨h1, h2⟩ := ih (s.1 ++ [(slotM s.1.length s.2 t.hd).1], (slotM s.1.length s.2 t.hd).2)
    refine ⟨by rw [h1]; simp; omega, by rw [h2]; exact slotM_length _ _ _⟩
mutual
/-- how many slots a Fun takes: one for each name, one for each argument -/
def slotsN : Tm → Nat
  | .mk _ ts => 1 + ts.length + slotsNs ts
def slotsNs : List Tm → Nat
  | [] => 0
  | t :: ts => (if t.hd.k = 3 then slotsN t else 0) + slotsNs ts
end
mutual
theorem layT_length : ∀ (t : Tm) (s : List Cel × List Int), (layT t s).1.length = s.1.length + slotsN t ∧ (layT t s).2.length = s.2.length
  | .mk c ts, s => by
    unfold layT slotsN
    obtain ⟨h1, h2⟩ := layTs_length ts (s.1.length + 1) (slotsT (s.1 ++ [⟨4, c.s, c.n⟩], s.2) ts)
    obtain ⟨h3, h4⟩ := slotsT_length ts (s.1 ++ [⟨4, c.s, c.n⟩], s.2)
    rw [h1, h2, h3, h4]
    simp
    omega
theorem layTs_length : ∀ (ts : List Tm) (p : Nat) (s : List Cel × List Int), (layTs ts p s).1.length = s.1.length + slotsNs ts ∧ (layTs ts p s).2.length = s.2.length
  | [], _, s => by unfold layTs slotsNs; exact ⟨rfl, rfl⟩
  | t :: ts, p, s => by
    unfold layTs slotsNs
    obtain ⟨h1, h2⟩ := layTs_length ts (p + 1) (if t.hd.k = 3 then (setNs (layT t s).1 p (s.1.length : Int), (layT t s).2) else s)
    rw [h1, h2]
    by_cases h : t.hd.k = 3
    · rw [if_pos h, if_pos h]
      obtain ⟨h3, h4⟩ := layT_length t s
      rw [setNs_length, h3, h4]
      omega
    · rw [if_neg h, if_neg h]
      omega
end
mutual
theorem slotsN_le : ∀ t : Tm, slotsN t + 1 ≤ 2 * t.flat.length
  | .mk c ts => by
    have := slotsNs_le ts
    simp only [slotsN, Tm.flat, List.length_cons]
    omega
theorem slotsNs_le : ∀ ts : List Tm, ts.length + slotsNs ts ≤ 2 * (flats ts).length
  | [] => by simp [slotsNs]
  | t :: ts => by
    have h1 := slotsNs_le ts
    have h2 := slotsN_le t
    have h3 := flat_pos t
    simp only [slotsNs, flats, List.length_append, List.length_cons]
    split <;> omega
end
end Go.Proofs.Ytefnmjoapmnkbaa
set_option linter.unusedVariables false
namespace Go.Proofs.Ytefnmjoapmnkbaa
open Go.RowKit

theorem own_baseH {w : World} {B B' e size : Nat} {v : Value} {n : Nat} {xs : List Value} (h : w.ownsRow B' e size v n xs) (hB : B ≤ B') : w.ownsRow B e size v n xs :=
  ⟨h.1, h.2.imp id (fun ⟨g, cap, cur, e1, hb, rest⟩ => ⟨g, cap, cur, e1, Nat.le_trans hB hb, rest⟩)⟩
theorem under_keepsH {B : Nat} {w w' : World} (h : Keeps w w') : Keeps (under B w) (under B w') := fun b o v hc => let ⟨h1, h2⟩ := under_cell hc; under_of h1 (h _ _ _ h2)
set_option maxHeartbeats 1600000 in
theorem parts_newH (a : Option Addr) (cap : Nat) (w : World) (xs : List Cel) (hr : Row w a cap xs) (hR : rightB xs = true) :
    Calls Try.prog 127 #[.slice a xs.length cap] w fun e w' => ∃ a' cap', e = .returned (.slice a' (partsL xs).length cap') ∧ NewRow w.heap.size w' a' cap' (partsL xs) ∧ Below w.heap.size w w' := by
  have hm := hr.max
  have hle := hr.le
  have h6 := ar_le6 hR
  obtain ⟨c, l, e0, hc, _, h200⟩ := right_sk hR
  have h0 : 0 < xs.length := by rw [e0]; simp
  have hc0 : xs[0] = c := by simp [e0]
  have har : ar0 xs = ar xs[0] := by rw [hc0, e0]; rfl
  have HA : Hid (arI xs[0] = ar0 xs) := by rw [Hid, har, hc0]; exact arI_ar hc
  have HR := mkHid hR
  clear hR e0 hc hc0 har
  obtain ⟨b, off, rfl, hb, hat⟩ := hr.cases.resolve_left (fun e => by simp [e] at h0)
  go_enter Try.func127, Try.ntmps127
  go_wp2_with (first
    | (go_at_call 58; refine (right_any _ cap _ xs hr).mono ?_; rintro e w1 ⟨rfl, hb1⟩; rw [HR.out]; obtain ⟨c0, c1, c2, hf⟩ := cel_at hat hb1 h0; simp only [Nat.zero_mul, Nat.add_zero] at c0 c1 c2)
    | (go_at_call 139; refine (arguments_any xs[0] _).mono ?_; rintro e w2 ⟨rfl, hb2⟩; rw [HA.out]))
  have hb12 := hb1.then hb2
  clear c0 c1 c2
  go_loopw [3, 4, 13] (fun v i j wr => ∃ (k : Nat) (vs : List Value), k ≤ ar0 xs ∧ j = .int .i64 k ∧ i = .int .i64 (aN xs k) ∧ wr.ownsRow w.heap.size 26 1 v k vs ∧ Below w.heap.size w wr ∧ Hid (SlRows (under w.heap.size (hide v.ownBlock wr)) vs ((List.range k).map (partJ xs)))) (fun v i j wr => ar0 xs - (intOf j).toNat)
  case atStart => exact ⟨0, [], Nat.zero_le _, rfl, by unfold aN; rw [afterI_zero (by omega)]; rfl, World.ownsRow_nil _ _ _ _, hb12, SlRows.nil _⟩
  case round =>
    obtain ⟨k, vs, hk, rfl, rfl, hown, hbl, HS⟩ := hrel
    by_cases hlt : k < ar0 xs
    · have hra := (right_after HR.out hk).2
      have hrb := (right_after HR.out (show k + 1 ≤ ar0 xs from hlt)).2
      have hrn := (right_next HR.out hlt).1
      have HP := mkHid (passI_at HR.out hlt)
      obtain ⟨q1, q2, _⟩ := hra
      obtain ⟨q3, q4, _⟩ := hrb
      have hr1 := hr.below hbl
      go_wp2_with (go_at_call 109; refine (behind_any _ cap (aN xs k) _ xs hr1 (by omega) (by omega) (by omega)).mono ?_; rintro e w3 ⟨rfl, hb3⟩; rw [HP.out])
      have hrow3 := (hr1.below hb3).slice (i := aN xs k) (j := aN xs (k + 1)) (by omega) q4
      have hfit : ∀ c ∈ partJ xs k, c.fit := hrow3.fit
      refine (clone_any' _ _ _ _ (partJ xs k) (take_drop_len HR.out hlt) hrow3 (by have := partJ_length HR.out hlt; omega)).mono ?_
      rintro e w4 ⟨v1, rfl, hown4, hb4⟩
      have hown1 := own_below (own_below hown hb3) hb4
      have hlt4 := hown4.lt
      have hsz3 := (hbl.then hb3).size
      obtain ⟨a1, cap1, rfl, hrow4⟩ := own_row (under_own (own_baseH (own_hide (r := u3.ownBlock) hown4 (fun g hg => (own_below hown hb3).lt g hg |>.2)) hsz3)) hfit
      have hbl4 := (hbl.then hb3).then hb4
      have HS4 := mkHid (((HS.out.keeps (under_keepsH (below_hide hb3 _))).keeps (under_keepsH (below_hide hb4 _))).snoc hrow4)
      go_wp2_with (at_builtin; refine wpList_app2 rfl _ _ 142 rfl w.heap.size 26 1 24 _ Try.underlying142 Try.infoSl rfl (by decide) (by decide) _ k _ rfl (hown1.alloc _) ⟨_, 0, none⟩ 1 1 [.slice a1 (partJ xs k).length cap1] rfl (src_new _ #[.slice a1 (partJ xs k).length cap1] _ 1 rfl (by simp [Value.oneCell'])) (by omega) (Nat.le_trans hbl4.size (by simp)) ?_; intro v' w5 hown5 _ hb5 hk5)
      go_round
      case rel => exact ⟨k + 1, vs ++ [.slice a1 (partJ xs k).length cap1], by omega, by go_num, rfl, hown5, (hbl4.new _).trans hb5, by rw [parts_succ]; exact (HS4.out.keeps (under_keepsH (alloc_hide _ _ _))).keeps (under_keepsH hk5)⟩
      case measure => simp [intOf]; omega
    · obtain rfl : k = ar0 xs := by omega
      have hS := HS.out.keeps (under_keepsH (hide_keeps _ _))
      have hl : (partsL xs).length = ar0 xs := by simp [partsL]
      obtain ⟨a', cap', rfl, hrow'⟩ := own_rowL (e := 26) (B := w.heap.size) (v := u3) (ps := partsL xs) (by rw [hl]; exact under_own hown) hS
      have HL := mkHid hl
      clear hl
      go_wp2
      go_ret
      exact ⟨a', cap', rfl, hrow', hbl⟩
end Go.Proofs.Ytefnmjoapmnkbaa
set_option linter.unusedVariables false
namespace Go.Proofs.Ytefnmjoapmnkbaa
open Go.RowKit

/-! ### structure: a Fun's slots -/
theorem under_veil {B : Nat} {us : List Nat} (w : World) (h : ∀ b ∈ us, b < B) : Keeps (under B w) (veil us w) := fun b o v hc => by
  obtain ⟨h1, h2⟩ := under_cell hc
  exact veil_of (fun e => by have := h b e; omega) h2
def VarsIn (n : Nat) (t : Tm) : Prop := ∀ c ∈ t.flat, c.k = 1 → 0 ≤ c.n ∧ c.n < (n : Int)
theorem VarsIn.arg {n : Nat} {t u : Tm} (h : VarsIn n t) (hu : u ∈ t.args) : VarsIn n u := by
  intro c hc
  refine h c ?_
  rw [flat_cons]
  refine List.mem_cons_of_mem _ ?_
  have key : ∀ ts : List Tm, u ∈ ts → c ∈ flats ts := by
    intro ts
    induction ts with
    | nil => intro h; cases h
    | cons v ts ih =>
      intro h
      simp only [flats, List.mem_append]
      rcases List.mem_cons.1 h with rfl | h
      · exact .inl hc
      · exact .inr (ih h)
  exact key _ hu
theorem VarsIn.hd {n : Nat} {t : Tm} (h : VarsIn n t) : t.hd.k = 1 → 0 ≤ t.hd.n ∧ t.hd.n < (n : Int) := h t.hd (by rw [flat_cons]; exact List.mem_cons_self)
theorem arg_short {t u : Tm} (hu : u ∈ t.args) : u.flat.length < t.flat.length := by
  rw [flat_cons t, List.length_cons]
  have key : ∀ ts : List Tm, u ∈ ts → u.flat.length ≤ (flats ts).length := by
    intro ts
    induction ts with
    | nil => intro h; cases h
    | cons v ts ih =>
      intro h
      simp only [flats, List.length_append]
      rcases List.mem_cons.1 h with rfl | h
      · omega
      · have := ih h; omega
  have := key _ hu
  omega
def StrPost (w : World) (B L : Nat) (vc va : Value) (xs : List Cel) (ps : List Int) (t : Tm) (e : Ending) (W' : World) : Prop :=
  e = .returned (.int .i64 (xs.length : Int)) ∧ ∃ vc', LM W' B L vc' va (layT t (xs, ps)).1 (layT t (xs, ps)).2 ∧ Fr (lB L vc va) w W' ∧ NewAt w vc vc'
/-- one after the other -/
theorem frB_trans {w w1 w2 : World} {L : Nat} {vc vc1 va : Value} (h1 : Fr (lB L vc va) w w1) (hn : NewAt w vc vc1) (h2 : Fr (lB L vc1 va) w1 w2) : Fr (lB L vc va) w w2 := by
  have h3 : Fr (vc1.ownBlock.toList.filter (fun b => decide (w.heap.size ≤ b)) ++ lB L vc va) w w2 := by
    refine (h1.sub (fun k hk => List.mem_append_right _ hk)).trans (h2.sub fun k hk => ?_)
    simp [lB] at hk ⊢
    rcases hk with e | e | e
    · exact .inr (.inl e)
    · rcases hn with e2 | ⟨b, e2, hb⟩
      · exact .inr (.inr (.inl (by rw [← e2]; exact e)))
      · left
        refine ⟨e, ?_⟩
        rw [e] at e2; injection e2 with e2; omega
    · exact .inr (.inr (.inr e))
  exact h3.fresh fun k hk => by simp at hk; exact hk.2
theorem newAt_trans {w w1 : World} {v v1 v2 : Value} (h1 : NewAt w v v1) (hs : w.heap.size ≤ w1.heap.size) (h2 : NewAt w1 v1 v2) : NewAt w v v2 := by
  rcases h2 with e | ⟨b, e, hb⟩
  · rcases h1 with e1 | ⟨b, e1, hb⟩
    · exact .inl (e.trans e1)
    · exact .inr ⟨b, e.trans e1, hb⟩
  · exact .inr ⟨b, e, by omega⟩
theorem slotsT_next (s : List Cel × List Int) {ts : List Tm} {k : Nat} (hk : k < ts.length) : slotsT s (ts.take (k + 1)) = ((slotsT s (ts.take k)).1 ++ [(slotM (slotsT s (ts.take k)).1.length (slotsT s (ts.take k)).2 ts[k].hd).1], (slotM (slotsT s (ts.take k)).1.length (slotsT s (ts.take k)).2 ts[k].hd).2) := by
  unfold slotsT
  rw [List.take_succ_eq_append_getElem hk, List.foldl_append]
  rfl
theorem layTs_append (a b : List Tm) : ∀ (p : Nat) (s : List Cel × List Int), layTs (a ++ b) p s = layTs b (p + a.length) (layTs a p s) := by
  induction a with
  | nil => intro p s; simp [layTs]
  | cons t a ih =>
    intro p s
    rw [List.cons_append]
    conv => lhs; unfold layTs
    conv => rhs; rw [show layTs (t :: a) p s = layTs a (p + 1) (if t.hd.k = 3 then (setNs (layT t s).1 p (s.1.length : Int), (layT t s).2) else s) by conv => lhs; unfold layTs]
    rw [ih]
    rw [List.length_cons]; congr 1; omega
theorem layTs_next {ts : List Tm} {k : Nat} (hk : k < ts.length) (p : Nat) (s : List Cel × List Int) : layTs (ts.take (k + 1)) p s = (if ts[k].hd.k = 3 then (setNs (layT ts[k] (layTs (ts.take k) p s)).1 (p + k) ((layTs (ts.take k) p s).1.length : Int), (layT ts[k] (layTs (ts.take k) p s)).2) else layTs (ts.take k) p s) := by
  rw [List.take_succ_eq_append_getElem hk, layTs_append]
  rw [show (ts.take k).length = k by rw [List.length_take]; omega]
  conv => lhs; unfold layTs
  conv => lhs; unfold layTs
theorem slotM_fit {n : Nat} {ps : List Int} {c : Cel} (hn : n ≤ 1000000) (hp : ∀ x ∈ ps, -9223372036854775808 ≤ x ∧ x ≤ 9223372036854775807) (hc : c.fit) : (slotM n ps c).1.fit := by
  have h1 : -9223372036854775808 ≤ ps.getD c.n.toNat 0 ∧ ps.getD c.n.toNat 0 ≤ 9223372036854775807 := by
    rw [List.getD_eq_getElem?_getD]
    cases h : ps[c.n.toNat]? with
    | none => simp
    | some x => simpa using hp x (List.mem_of_getElem? h)
  have hz : (⟨#[]⟩ : ByteArray).size ≤ 9223372036854775807 := by decide
  unfold slotM
  split
  · split
    · exact ⟨by simp, by simp, by (show (-9223372036854775808 : Int) ≤ (n : Int); omega), by (show (n : Int) ≤ 9223372036854775807; omega), hz⟩
    · exact ⟨by simp, by simp, h1.1, h1.2, hz⟩
  · split
    · exact ⟨by simp, by simp, hc.n1, hc.n2, hz⟩
    · exact ⟨by simp, by simp, by simp, by simp, hz⟩
end Go.Proofs.Ytefnmjoapmnkbaa
set_option linter.unusedVariables false
namespace Go.Proofs.Ytefnmjoapmnkbaa
open Go.RowKit

theorem row_part {w : World} {a : Option Addr} {cap : Nat} {ps : List (List Cel)} (h : Row w a cap ps) {k : Nat} (hk : k < ps.length) : ∃ b off a2 c2, a = some ⟨b, off, none⟩ ∧ w.cell? ⟨b, off + k, none⟩ = some (.slice a2 ps[k].length c2) ∧ Row w a2 c2 ps[k] := by
  obtain ⟨b, off, e, a2, c2, hc, hr⟩ := h.at_ k _ (List.getElem?_eq_getElem hk)
  refine ⟨b, off, a2, c2, e, ?_, hr⟩
  rw [show Rep.sz (List Cel) = 1 from rfl, Nat.mul_one] at hc
  exact hc
theorem row_hd {w : World} {a : Option Addr} {cap : Nat} {t : Tm} (h : Row w a cap t.flat) : ∃ b off, a = some ⟨b, off, none⟩ ∧ w.cell? ⟨b, off, none⟩ = some (.int .i64 t.hd.k) ∧ w.cell? ⟨b, off + 1, none⟩ = some (.string t.hd.s) ∧ w.cell? ⟨b, off + 2, none⟩ = some (.int .i64 t.hd.n) ∧ t.hd.fit := by
  obtain ⟨b, off, e, c0, c1, c2, hf⟩ := h.at_ 0 t.hd (by rw [flat_cons]; rfl)
  rw [Nat.zero_mul, Nat.add_zero] at c0 c1 c2
  exact ⟨b, off, e, c0, c1, c2, hf⟩
/-- between two arguments -/
structure StrGo (w : World) (B L : Nat) (vc va : Value) (a3 : Option Addr) (c3 : Nat) (ts : List Tm) (s : List Cel × List Int) (vk : Value) (W : World) : Prop where
  lm : LM W B L vk va s.1 s.2
  row : Row (veil (lB L vk va) W) a3 c3 (ts.map Tm.flat)
  fr : Fr (lB L vc va) w W
  new : NewAt w vc vk
theorem StrGo.next {w W W' : World} {B L c3 : Nat} {vc va vk vk' : Value} {a3 : Option Addr} {ts : List Tm} {s s' : List Cel × List Int} (h : StrGo w B L vc va a3 c3 ts s vk W) (hM : LM W' B L vk' va s'.1 s'.2) (hf : Fr (lB L vk va) W W') (hn : NewAt W vk vk') : StrGo w B L vc va a3 c3 ts s' vk' W' :=
  ⟨hM, h.row.keeps (lB_keeps h.lm hf hn), frB_trans h.fr h.new hf, newAt_trans h.new h.fr.size hn⟩
theorem StrGo.part {w W : World} {B L c3 : Nat} {vc va vk : Value} {a3 : Option Addr} {ts : List Tm} {s : List Cel × List Int} (h : StrGo w B L vc va a3 c3 ts s vk W) {k : Nat} (hk : k < ts.length) : ∃ b off a2 c2, a3 = some ⟨b, off, none⟩ ∧ W.cell? ⟨b, off + k, none⟩ = some (.slice a2 ts[k].flat.length c2) ∧ Row (veil (lB L vk va) W) a2 c2 ts[k].flat := by
  obtain ⟨b, off, a2, c2, e, hc, hr⟩ := row_part h.row (k := k) (by simpa using hk)
  simp only [List.getElem_map] at hc hr
  exact ⟨b, off, a2, c2, e, (veil_cell hc).2, hr⟩
set_option maxRecDepth 100000 in
set_option maxHeartbeats 16000000 in
theorem structure_any (B L : Nat) (va : Value) : ∀ (n : Nat) (t : Tm) (w : World) (vc : Value) (xs : List Cel) (ps : List Int) (a : Option Addr) (cap : Nat), t.flat.length ≤ n → t.ok → t.flat.length ≤ 200 → VarsIn ps.length t → LM w B L vc va xs ps → xs.length + 8 * t.flat.length ≤ 100000 → Row (veil (lB L vc va) w) a cap t.flat →
    Calls Try.prog 111 #[.pointer (some ⟨L, 0, none⟩), .slice a t.flat.length cap] w (StrPost w B L vc va xs ps t) := by
  intro n
  induction n with
  | zero => intro t w vc xs ps a cap h; have := flat_pos t; omega
  | succ n ih =>
    intro t w vc xs ps a cap hn hok h200 hv hM hl hT
    have hRt := hT.keeps (veil_keeps _ _)
    obtain ⟨b, off, rfl, v0, v1, v2, hfit⟩ := row_hd hT
    have hcap := hT.le
    have hcap2 := hT.max
    have hpos := flat_pos t
    have HRF := mkHid (right_flat hok h200)
    have HPF := mkHid (parts_flat hok)
    have IH := mkHid ih
    have HM := mkHid hM
    have HV := mkHid hv
    have HT := mkHid hT
    have HOK := mkHid hok
    have e1 := (veil_cell v1).2
    have e2 := (veil_cell v2).2
    have HV12 : Hid (∀ W', Keeps (veil (lB L vc va) w) W' → W'.cell? ⟨b, off + 1, none⟩ = some (.string t.hd.s) ∧ W'.cell? ⟨b, off + 2, none⟩ = some (.int .i64 t.hd.n)) := fun W' h => ⟨h _ _ _ v1, h _ _ _ v2⟩
    have HFT := mkHid hfit
    have HMd : Hid (LM w.drew B L vc va xs ps) := hM.below (Below.refl _ _).drew
    have hf4 : (⟨4, t.hd.s, t.hd.n⟩ : Cel).fit := ⟨by simp, by simp, hfit.n1, hfit.n2, hfit.s⟩
    have HF4 := mkHid hf4
    clear ih hM hv hT hok v0 v1 v2 hfit hRt hf4
    go_enter Try.func111, Try.ntmps111
    go_wp2_with fail
    go_region_held3 (fun w' => w'.cell? ⟨b, off + 1, none⟩ = some (.string t.hd.s) ∧ w'.cell? ⟨b, off + 2, none⟩ = some (.int .i64 t.hd.n))
      (first
        | exact ⟨e1, e2⟩
        | exact HE2.out)
      (first
        | (go_at_call 140; refine (add_any _ B L vc va xs ps ⟨4, t.hd.s, t.hd.n⟩ HMd.out HF4.out (by omega)).mono ?_; rintro e w2 ⟨rfl, vc1, hM1, hF1, hN1⟩; have HE2 := mkHid (HV12.out w2 ((lB_keeps HMd.out hF1 hN1).trans (veil_keeps _ _))); have HM1 := mkHid hM1; have HF1 := mkHid hF1; have HN1 := mkHid hN1; clear hM1 hF1 hN1))
    have HK2 : Hid (Keeps (veil (lB L vc va) w) (veil (lB L vc1 va) w2)) := lB_keeps HM.out ((Fr.of (Below.refl w.heap.size w).drew).trans HF1.out) HN1.out
    have HR2 := mkHid ((HT.out.keeps HK2.out).keeps (veil_keeps _ _))
    clear HE2 e1 e2
    go_wp2_with fail
    refine (parts_newH (some ⟨b, off, none⟩) cap w2 t.flat HR2.out HRF.out).mono ?_
    rintro e w3 ⟨a3, c3, rfl, hnew, hb3⟩
    rw [HPF.out] at hnew ⊢
    have hG0 : StrGo w B L vc va a3 c3 t.args (xs ++ [⟨4, t.hd.s, t.hd.n⟩], ps) vc1 w3 := by
      refine ⟨HM1.out.below hb3, Row.keeps hnew (under_veil _ fun b hb => (HM1.out.allB b hb).2), (Fr.of (Below.refl w.heap.size w).drew).trans (HF1.out.trans (Fr.of hb3)), ?_⟩
      exact HN1.out
    have HG0 := mkHid hG0
    have hlen3 := hG0.row.le
    have hlen4 := hG0.row.max
    rw [List.length_map] at hlen3
    have hargs : (t.args.map Tm.flat).length = t.args.length := List.length_map _
    rw [hargs]
    have hal : t.args.length ≤ 6 := by
      have h1 := ar_le _ ((ok_iff t).1 HOK.out).1
      rw [((ok_iff t).1 HOK.out).2.1]
      exact h1
    have hsn := mkHid (slotsN_le t)
    clear hnew hb3 hG0 hargs HK2 HR2 HM1 HF1 HN1
    go_wp2_with fail
    go_loopw [8, 27] (fun v i wr => ∃ (k : Nat) (vk : Value), i = .int .i64 k ∧ k ≤ t.args.length ∧ Hid (StrGo w B L vc va a3 c3 t.args (slotsT (xs ++ [⟨4, t.hd.s, t.hd.n⟩], ps) (t.args.take k)) vk wr)) (fun v i wr => t.args.length - (intOf i).toNat)
    case atStart => exact ⟨0, vc1, rfl, Nat.zero_le _, HG0⟩
    case round =>
      obtain ⟨k, vk, rfl, hk, HG⟩ := hrel
      by_cases hlt : k < t.args.length
      · obtain ⟨b4, off4, a5, c5, rfl, p0, hrp⟩ := HG.out.part hlt
        obtain ⟨b6, off6, rfl, q0, q1, q2, hfp⟩ := row_hd hrp
        have hpl := hrp.le
        have hpm := hrp.max
        have hpp := flat_pos t.args[k]
        have r0 := (veil_cell q0).2
        have r1 := (veil_cell q1).2
        have r2 := (veil_cell q2).2
        obtain ⟨hs1, hs2⟩ := slotsT_length (t.args.take k) (xs ++ [⟨4, t.hd.s, t.hd.n⟩], ps)
        have HSV : Hid (t.args[k].hd.k = 1 → 0 ≤ t.args[k].hd.n ∧ t.args[k].hd.n < ((slotsT (xs ++ [⟨4, t.hd.s, t.hd.n⟩], ps) (t.args.take k)).2.length : Int)) := by
          rw [Hid, hs2]
          exact (HV.out.arg (List.getElem_mem hlt)).hd
        have HSL : Hid ((slotsT (xs ++ [⟨4, t.hd.s, t.hd.n⟩], ps) (t.args.take k)).1.length ≤ 1000000) := by
          rw [Hid, hs1]
          simp
          omega
        have HNX := mkHid (slotsT_next (xs ++ [⟨4, t.hd.s, t.hd.n⟩], ps) hlt)
        have HFP := mkHid hfp
        have hpb := HG.out.lm.at_.fitI
        have HSF := mkHid (slotM_fit (n := (slotsT (xs ++ [⟨4, t.hd.s, t.hd.n⟩], ps) (t.args.take k)).1.length) HSL.out hpb hfp)
        clear q0 q1 q2 hrp hfp hs1 hs2 hpb
        generalize slotsT (xs ++ [⟨4, t.hd.s, t.hd.n⟩], ps) (t.args.take k) = s at *
        generalize t.args[k] = u at *
        go_wp2_with fail
        refine (slot_any wr B L vk va s.1 s.2 u.hd HG.out.lm HFP.out HSL.out HSV.out).mono ?_
        rintro e w5 ⟨rfl, hM5, hF5⟩
        have HG5 : Hid (StrGo w B L vc va (some ⟨b4, off4, none⟩) c3 t.args (s.1, (slotM s.1.length s.2 u.hd).2) vk w5) := HG.out.next (s' := (s.1, (slotM s.1.length s.2 u.hd).2)) hM5 hF5 (.inl rfl)
        clear hM5 hF5 r0 r1 r2 p0
        generalize (slotM s.1.length s.2 u.hd).1 = sl at *
        go_wp2_with fail
        refine (add_any w5 B L vk va s.1 _ sl HG5.out.lm HSF.out HSL.out).mono ?_
        rintro e w6 ⟨rfl, vk6, hM6, hF6, hN6⟩
        have HG6 := mkHid (HG5.out.next (s' := (s.1 ++ [sl], (slotM s.1.length s.2 u.hd).2)) hM6 hF6 hN6)
        clear hM6 hF6 hN6
        go_wp2_with fail
        go_round
        case rel => exact ⟨k + 1, vk6, by go_num, by omega, by rw [HNX.out]; exact HG6⟩
        case measure => simp [intOf]; omega
      · obtain rfl : k = t.args.length := by omega
        rw [List.take_length] at HG
        clear HG0
        obtain ⟨hs1, hs2⟩ := slotsT_length t.args (xs ++ [⟨4, t.hd.s, t.hd.n⟩], ps)
        have HS1 : Hid ((slotsT (xs ++ [⟨4, t.hd.s, t.hd.n⟩], ps) t.args).1.length = xs.length + 1 + t.args.length) := by rw [Hid, hs1]; simp
        have HS2 : Hid ((slotsT (xs ++ [⟨4, t.hd.s, t.hd.n⟩], ps) t.args).2.length = ps.length) := hs2
        have HLT : Hid (layT t (xs, ps) = layTs t.args (xs.length + 1) (slotsT (xs ++ [⟨4, t.hd.s, t.hd.n⟩], ps) t.args)) := by
          obtain ⟨c, us⟩ := t
          rw [Hid]
          conv => lhs; unfold layT
          rfl
        clear hs1 hs2
        generalize slotsT (xs ++ [⟨4, t.hd.s, t.hd.n⟩], ps) t.args = s1 at *
        go_wp2_with fail
        go_loopw [9, 10, 11, 41] (fun v9 v10 v11 i wz => ∃ (k : Nat) (vk : Value), i = .int .i64 k ∧ k ≤ t.args.length ∧ Hid (StrGo w B L vc va a3 c3 t.args (layTs (t.args.take k) (xs.length + 1) s1) vk wz)) (fun v9 v10 v11 i wz => t.args.length - (intOf i).toNat)
        case atStart => exact ⟨0, vk, rfl, Nat.zero_le _, by rw [Hid]; simpa [layTs] using HG.out⟩
        case round =>
          clear HG
          obtain ⟨k, vk, rfl, hk, HG⟩ := hrel
          by_cases hlt : k < t.args.length
          · obtain ⟨b4, off4, a5, c5, rfl, p0, hrp⟩ := HG.out.part hlt
            obtain ⟨b6, off6, rfl, q0, q1, q2, hfp⟩ := row_hd hrp
            have hpl := hrp.le
            have hpm := hrp.max
            have hpp := flat_pos t.args[k]
            have r0 := (veil_cell q0).2
            have HRP := mkHid hrp
            obtain ⟨hz1, hz2⟩ := layTs_length (t.args.take k) (xs.length + 1) s1
            have hsk := slotsNs_le (t.args.take k)
            have hflk : (flats (t.args.take k)).length ≤ t.flat.length := by
              rw [flat_cons t, List.length_cons]
              have := congrArg List.length (flats_append (t.args.take k) (t.args.drop k))
              rw [List.take_append_drop, List.length_append] at this
              omega
            have hush := arg_short (List.getElem_mem hlt)
            have HZ2 : Hid ((layTs (t.args.take k) (xs.length + 1) s1).2.length = ps.length) := hz2.trans HS2.out
            have HZ1 : Hid (xs.length + 1 + t.args.length ≤ (layTs (t.args.take k) (xs.length + 1) s1).1.length) := by rw [Hid, hz1]; have := HS1.out; omega
            have HZ3 : Hid ((layTs (t.args.take k) (xs.length + 1) s1).1.length + 8 * t.args[k].flat.length ≤ 100000) := by
              rw [Hid, hz1]
              have h1 := HS1.out
              have h2 : (flats (t.args.take k)).length + t.args[k].flat.length + 1 ≤ t.flat.length := by
                rw [flat_cons t, List.length_cons]
                have h3 := congrArg List.length (flats_append (t.args.take (k + 1)) (t.args.drop (k + 1)))
                rw [List.take_append_drop, List.length_append, List.take_succ_eq_append_getElem hlt, flats_append, List.length_append] at h3
                have h4 : (flats [t.args[k]]).length = t.args[k].flat.length := by simp [flats]
                omega
              have h5 : (t.args.take k).length = k := by rw [List.length_take]; omega
              omega
            have HNX := mkHid (layTs_next hlt (xs.length + 1) s1)
            have HUV := mkHid (HV.out.arg (List.getElem_mem hlt))
            have HUO := mkHid (oks_mem ((ok_iff t).1 HOK.out).2.2 t.args[k] (List.getElem_mem hlt))
            clear q0 q1 q2 hrp hfp hz1 hz2 hsk hflk
            generalize layTs (t.args.take k) (xs.length + 1) s1 = s at *
            generalize t.args[k] = u at *
            by_cases h3 : u.hd.k = 3
            · have t3 : (u.hd.k != 3) = false := by simp [h3]
              rw [if_pos h3] at HNX
              clear h3
              go_wp2_with fail
              refine (IH.out u _ vk s.1 s.2 (some ⟨b6, off6, none⟩) c5 (by omega) HUO.out (by omega) (by rw [HZ2.out]; exact HUV.out) HG.out.lm HZ3.out HRP.out).mono ?_
              rintro e w5 ⟨rfl, vk5, hM5, hF5, hN5⟩
              have HG5 := mkHid (HG.out.next (s' := layT u s) hM5 hF5 hN5)
              obtain ⟨hl5, hl6⟩ := layT_length u s
              have HL5 : Hid (xs.length + 1 + k < (layT u s).1.length) := by rw [Hid, hl5]; have := HZ1.out; omega
              have hin : xs.length + 1 + k < (layT u s).1.length := HL5.out
              have hsl : s.1.length ≤ 100000 := by have := HZ3.out; omega
              clear hM5 hF5 hN5 p0 r0 hl5 hl6 HRP
              obtain ⟨g, cg, rfl, hfz, hcs⟩ := HG5.out.lm.cells.atC (by omega)
              have hM6 := HG5.out.lm.setS hin (v := (s.1.length : Int)) (by omega) (by omega)
              rw [← setNs_at hin] at hM6
              have hF6 : Fr (lB L (.slice (some ⟨g, 0, none⟩) (layT u s).1.length cg) va) w5 (w5.setCell ⟨g, (xs.length + 1 + k) * 3 + 2, none⟩ (.int .i64 s.1.length)) := (Fr.refl _ _).set (by simp [lB, Value.ownBlock]) _
              have c0 := HG5.out.lm.c0
              obtain ⟨_, _, x2⟩ := hcs _ hin
              have zz := hfz ((xs.length + 1 + k) * 3 + 2)
              obtain ⟨_, _, e9, hrow9⟩ := HG5.out.lm.cells.row
              cases e9
              have hc9 := hrow9.le
              have hc10 := hrow9.max
              have HG6 := mkHid (HG5.out.next (s' := (setNs (layT u s).1 (xs.length + 1 + k) (s.1.length : Int), (layT u s).2)) hM6 hF6 (.inl rfl))
              clear hM6 hF6 hfz hcs hrow9
              go_wp2_with fail
              go_round
              case rel => exact ⟨k + 1, _, by go_num, by omega, by rw [HNX.out]; exact HG6⟩
              case measure => simp [intOf]; omega
            · have t3 : (u.hd.k != 3) = true := by simp [h3]
              rw [if_neg h3] at HNX
              clear h3
              go_wp2_with fail
              go_round
              case rel => exact ⟨k + 1, vk, by go_num, by omega, by rw [HNX.out]; exact HG⟩
              case measure => simp [intOf]; omega
          · obtain rfl : k = t.args.length := by omega
            rw [List.take_length] at HG
            go_wp2_with fail
            go_ret
            refine ⟨rfl, vk, ?_, HG.out.fr, HG.out.new⟩
            rw [HLT.out]
            exact HG.out.lm
end Go.Proofs.Ytefnmjoapmnkbaa
set_option linter.unusedVariables false
namespace Go.Proofs.Ytefnmjoapmnkbaa
open Go.RowKit

set_option maxHeartbeats 3200000 in
theorem standing_any (w : World) (B L : Nat) (vc va : Value) (xs : List Cel) (ps : List Int) (t : Tm) (a : Option Addr) (cap : Nat) (hM : LM w B L vc va xs ps) (hT : Row w a cap t.flat) (k : Nat) (hk : k < ps.length) (hn : t.hd.n = k) :
    Calls Try.prog 112 #[.pointer (some ⟨L, 0, none⟩), .slice a t.flat.length cap] w fun e W' => e = .returned (.int .i64 ps[k]) ∧ Below w.heap.size w W' := by
  obtain ⟨b, off, rfl, c0, c1, c2, hf⟩ := row_hd hT
  have hcap := hT.le
  have hcap2 := hT.max
  have hpos := flat_pos t
  obtain ⟨ga, pa, rfl, hfz, hcell⟩ := hM.at_.atI (by omega)
  obtain ⟨_, _, e9, hpr⟩ := hM.at_.row
  cases e9
  have hpm := hpr.max
  have hpl := hpr.le
  have d1 := hM.c1
  have r0 := hcell k hk
  rw [hn] at c2
  have hki : (0 : Int) ≤ (k : Int) := by omega
  have hki2 : (k : Int) < (ps.length : Int) := by omega
  generalize ps[k] = p at *
  clear hM hfz hcell hpr hn
  go_enter Try.func112, Try.ntmps112
  go_wp2_with fail
  go_quiet (fail)
  go_wp2_with fail
  go_ret
  exact ⟨rfl, below_drewN (Below.refl _ _) _⟩
def OnePost (w : World) (B L : Nat) (vc va : Value) (xs : List Cel) (ps : List Int) (c : Cel) (e : Ending) (W' : World) : Prop :=
  e = .returned (.int .i64 (xs.length : Int)) ∧ ∃ vc', LM W' B L vc' va (xs ++ [(slotM xs.length ps c).1]) (slotM xs.length ps c).2 ∧ Fr (lB L vc va) w W' ∧ NewAt w vc vc'
set_option maxHeartbeats 3200000 in
theorem single_any (w : World) (B L : Nat) (vc va : Value) (xs : List Cel) (ps : List Int) (t : Tm) (a : Option Addr) (cap : Nat) (hM : LM w B L vc va xs ps) (hT : Row w a cap t.flat) (hl : xs.length ≤ 100000) (hv : VarsIn ps.length t) :
    Calls Try.prog 113 #[.pointer (some ⟨L, 0, none⟩), .slice a t.flat.length cap] w (OnePost w B L vc va xs ps t.hd) := by
  obtain ⟨b, off, rfl, c0, c1, c2, hf⟩ := row_hd hT
  have hcap := hT.le
  have hcap2 := hT.max
  have hpos := flat_pos t
  have HM := mkHid hM
  have HV := mkHid hv.hd
  have HF := mkHid hf
  have HSF := mkHid (slotM_fit (n := xs.length) (by omega) hM.at_.fitI hf)
  clear hM hv hf hT
  go_enter Try.func113, Try.ntmps113
  go_wp2_with fail
  refine (slot_any w B L vc va xs ps t.hd HM.out HF.out (by omega) HV.out).mono ?_
  rintro e w5 ⟨rfl, hM5, hF5⟩
  have HM5 := mkHid hM5
  have HF5 := mkHid hF5
  clear hM5 hF5 c0 c1 c2
  generalize hsl : (slotM xs.length ps t.hd).1 = sl at *
  have HS := mkHid hsl
  clear hsl
  go_wp2_with fail
  refine (add_any w5 B L vc va xs _ sl HM5.out HSF.out (by omega)).mono ?_
  rintro e w6 ⟨rfl, vk6, hM6, hF6, hN6⟩
  have HM6 := mkHid hM6
  have HF6 := mkHid hF6
  have HN6 := mkHid hN6
  clear hM6 hF6 hN6
  go_wp2_with fail
  go_ret
  refine ⟨rfl, vk6, ?_, HF5.out.trans HF6.out, newAt_trans (.inl rfl) HF5.out.size HN6.out⟩
  rw [HS.out]
  exact HM6.out

/-! ### places for all variables -/
def widenL (ps vs : List Int) : List Int := vs.foldl (fun p v => p ++ List.replicate ((v + 1).toNat - p.length) (-1)) ps
theorem widen_next (ps : List Int) {vs : List Int} {k : Nat} (hk : k < vs.length) : widenL ps (vs.take (k + 1)) = widenL ps (vs.take k) ++ List.replicate ((vs[k] + 1).toNat - (widenL ps (vs.take k)).length) (-1) := by
  unfold widenL
  rw [List.take_succ_eq_append_getElem hk, List.foldl_append]
  rfl
theorem widen_short {n : Nat} (vs : List Int) : ∀ (ps : List Int), ps.length ≤ n → (∀ v ∈ vs, v + 1 ≤ (n : Int)) → (widenL ps vs).length ≤ n := by
  induction vs with
  | nil => intro ps h _; exact h
  | cons v vs ih =>
    intro ps h hv
    unfold widenL at ih ⊢
    rw [List.foldl_cons]
    refine ih _ ?_ fun u hu => hv u (List.mem_cons_of_mem _ hu)
    have := hv v List.mem_cons_self
    simp
    omega
set_option maxHeartbeats 6400000 in
theorem widened_any (a : Option Addr) (cap : Nat) (b : Option Addr) (cab : Nat) (w : World) (ps : List Int) (xs : List Cel) (hp : Row w a cap ps) (hx : Row w b cab xs) (hri : rightB xs = true) (hl : ps.length ≤ 1000) (hl2 : xs.length ≤ 1000000) :
    Calls Try.prog 62 #[.slice a ps.length cap, .slice b xs.length cab] w fun e W' => (∃ v, e = .returned v ∧ AccInv w.heap.size 3 (widenL ps (varsL xs)) v W') ∧ Below w.heap.size w W' := by
  have hpm := hp.max
  have HV : Hid (∀ n ∈ varsL xs, 0 ≤ n ∧ n ≤ 999) := vars_range hri
  have HPI := mkHid hp.srcI.2
  have HP := mkHid hp
  have HX := mkHid hx
  clear hri hp hx
  go_enter Try.func62, Try.ntmps62
  go_wp2_with fail
  refine (cloneI_own a cap _ w ps rfl HP.out (by omega)).mono ?_
  rintro e w1 ⟨v, rfl, hown, hb1⟩
  have hA0 : AccInv w.heap.size 3 ps v w1 := ⟨_, hown, crows_ints _ HPI.out⟩
  obtain ⟨a1, c1, rfl, _⟩ := hA0.row
  have HA0 := mkHid hA0
  have HVA := mkHid (vars_own b cab w1 xs (HX.out.below hb1) hl2)
  have HB1 := mkHid hb1
  have HL1 := mkHid hA0.lt
  clear hown hA0 hb1
  obtain ⟨V, hV⟩ : ∃ V, V = varsL xs := ⟨_, rfl⟩
  rw [← hV] at HV HVA
  have HVE := mkHid hV
  clear hV
  go_wp2_with fail
  refine HVA.out.mono ?_
  rintro e w2 ⟨va, vc, rfl, hov, hv, hb2⟩
  have hvm := hv.max
  have hvm2 := hv.le
  have HA2 := mkHid (HA0.out.below hb2)
  have HB2 := mkHid (HB1.out.then hb2)
  have HV2 : Hid (Row (hide (Value.slice a1 ps.length c1).ownBlock w2) va vc V) := by
    obtain ⟨a7, c7, e7, hr7⟩ := own_rowG (α := Int) (own_hide (r := (Value.slice a1 ps.length c1).ownBlock) hov (fun g hg => by have := (HL1.out g hg).2; omega)) (crows_ints _ hv.srcI.2)
    cases e7
    exact hr7
  clear HA0 HB1 HVA hb2 hv hov
  go_wp2_with fail
  go_loopw [5, 7, 13] (fun v x i wr => ∃ (k : Nat) (av : Option Addr) (cv n : Nat), i = .int .i64 k ∧ k ≤ V.length ∧ v = .slice av n cv ∧ Hid (n = (widenL ps (V.take k)).length) ∧ Hid (AccInv w.heap.size 3 (widenL ps (V.take k)) v wr) ∧ Hid (Below w.heap.size w wr) ∧ Hid (Row (hide (Value.slice av n cv).ownBlock wr) va vc V)) (fun v x i wr => V.length - (intOf i).toNat)
  case atStart => exact ⟨0, a1, c1, _, rfl, Nat.zero_le _, rfl, rfl, HA2, HB2, HV2⟩
  case round =>
    obtain ⟨k, av, cv, n, rfl, hk, rfl, HN, HA, HB, HR⟩ := hrel
    have hsz := HB.out.size
    by_cases hlt : k < V.length
    · obtain ⟨b5, off5, rfl, hb5, hat⟩ := (HR.out.keeps (hide_keeps _ _)).cases.resolve_left (fun e => by simp [e] at hlt)
      obtain ⟨c0, i1, i2⟩ := int_at hat (Below.refl _ _) hlt
      obtain ⟨v1, v2⟩ := HV.out V[k] (List.getElem_mem hlt)
      have HNX := mkHid (widen_next ps hlt)
      have HSH : Hid ((widenL ps (V.take k)).length ≤ 1000) := widen_short _ _ hl (fun u hu => by have := HV.out u (List.mem_of_mem_take hu); omega)
      clear hat
      generalize widenL ps (V.take k) = cur at *
      generalize V[k] = x at *
      go_wp2_with fail
      go_loopw [5] (fun v wz => ∃ (j : Nat) (av : Option Addr) (cv n : Nat), v = .slice av n cv ∧ j ≤ (x + 1).toNat - cur.length ∧ Hid (n = cur.length + j) ∧ Hid (AccInv w.heap.size 3 (cur ++ List.replicate j (-1)) v wz) ∧ Hid (Below w.heap.size w wz) ∧ Hid (Row (hide (Value.slice av n cv).ownBlock wz) (some ⟨b5, off5, none⟩) vc V)) (fun v wz => match v with | .slice _ n _ => ((x + 1).toNat - n) | _ => 0)
      case atStart => exact ⟨0, av, cv, n, rfl, Nat.zero_le _, HN, by rw [Hid]; simpa using HA.out, HB, HR⟩
      case round =>
        obtain ⟨j, av, cv, n, rfl, hj, HN2, HA2, HB2, HR2⟩ := hrel
        have hsz2 := HB2.out.size
        have hn2 : (n : Int) = cur.length + j := by have := HN2.out; omega
        have hle : n ≤ 2000 := by have := HN2.out; have := HSH.out; omega
        by_cases hlt2 : (n : Int) ≤ x
        · have HLE : Hid ((cur ++ List.replicate j (-1 : Int)).length + 1 ≤ 1000000000) := by rw [Hid]; simp; have := HSH.out; omega
          have HN3 := mkHid hn2
          clear hn2
          go_wp2_with (at_builtin; refine wpList_acck (α := Int) rfl _ _ 23 rfl w.heap.size 3 8 _ Try.underlying23 Try.infoInt rfl (by decide) _ (cur ++ List.replicate j (-1)) HA2.out (by rfl) _ #[.int .i64 (-1)] (-1) ⟨rfl, by omega, by omega⟩ (by rfl) HLE.out hsz2 ?_; intro v' w3 hacc3 hb3 hk3)
          go_round
          case rel =>
            obtain ⟨a4, c4, e4, _⟩ := hacc3.row
            subst e4
            rw [show (cur ++ List.replicate j (-1 : Int) ++ [(-1 : Int)]).length = cur.length + (j + 1) by simp [Nat.add_assoc]] at hacc3 hk3 ⊢
            refine ⟨j + 1, a4, c4, _, rfl, by have := HN3.out; omega, rfl, ?_, HB2.out.trans hb3, HR2.out.keeps hk3⟩
            rw [List.append_assoc, show List.replicate j (-1 : Int) ++ [-1] = List.replicate (j + 1) (-1) from List.replicate_succ'.symm] at hacc3
            exact hacc3
          case measure =>
            obtain ⟨a4, c4, e4, _⟩ := hacc3.row
            subst e4
            have := HN3.out
            simp
            omega
        · have HJ : Hid (j = (x + 1).toNat - cur.length) := by rw [Hid]; omega
          clear hn2
          go_wp2_with fail
          go_round
          case rel =>
            refine ⟨k + 1, av, cv, n, by go_num, by omega, rfl, ?_, ?_, HB2, HR2⟩
            · rw [HNX.out, Hid, List.length_append, List.length_replicate, ← HJ.out]; exact HN2.out
            · rw [HNX.out, ← HJ.out]; exact HA2
          case measure => simp [intOf]; omega
    · go_wp2_with fail
      go_ret
      refine ⟨⟨_, rfl, ?_⟩, HB.out⟩
      have := HA.out
      rw [List.take_of_length_le (by omega)] at this
      rw [← HVE.out]
      exact this
end Go.Proofs.Ytefnmjoapmnkbaa
set_option linter.unusedVariables false
namespace Go.Proofs.Ytefnmjoapmnkbaa
open Go.RowKit

theorem way_fun (w : World) (L : Nat) (c : Cel) (h : c.k = 3) :
    Calls Try.prog 63 #[.pointer (some ⟨L, 0, none⟩), c.v] w fun e W' => e = .returned (.func (.func 111) #[.pointer (some ⟨L, 0, none⟩)] #[]) ∧ Below w.heap.size w W' := by
  obtain ⟨ck, cs, cn⟩ := c
  dsimp only at h
  subst h
  have hb := (Below.refl w.heap.size w).new (.cells #[.int .i64 3, .string cs, .int .i64 cn] 54)
  go_enter Try.func63, Try.ntmps63
  dsimp only [Cel.v]
  go_wp2_with fail
  go_ret
  exact ⟨rfl, hb⟩
set_option maxHeartbeats 1600000 in
theorem way_int (w : World) (L : Nat) (c : Cel) (h : c.k ≠ 3) (h1 : c.k ≠ 1) :
    Calls Try.prog 63 #[.pointer (some ⟨L, 0, none⟩), c.v] w fun e W' => e = .returned (.func (.func 113) #[.pointer (some ⟨L, 0, none⟩)] #[]) ∧ Below w.heap.size w W' := by
  obtain ⟨ck, cs, cn⟩ := c
  dsimp only at h h1
  have hb := (Below.refl w.heap.size w).new (.cells #[.int .i64 ck, .string cs, .int .i64 cn] 54)
  have e0 : (w.alloc (.cells #[.int .i64 ck, .string cs, .int .i64 cn] 54)).cell? ⟨w.heap.size, 0, none⟩ = some (.int .i64 ck) := World.cell?_alloc_at _ _ _ 0 rfl
  have t3 : (ck == 3) = false := by simp [h]
  have t1 : (ck == 1) = false := by simp [h1]
  go_enter Try.func63, Try.ntmps63
  dsimp only [Cel.v]
  go_wp2_with fail
  go_quiet (fail)
  go_wp2_with fail
  go_ret
  exact ⟨rfl, below_drewN hb _⟩
set_option maxHeartbeats 3200000 in
theorem way_var (w : World) (B L : Nat) (vc va : Value) (xs : List Cel) (ps : List Int) (c : Cel) (hM : LM w B L vc va xs ps) (h1 : c.k = 1) (k : Nat) (hk : k < ps.length) (hn : c.n = k) (F : Nat) (hF : F = if ps[k] = -1 then 113 else 112) :
    Calls Try.prog 63 #[.pointer (some ⟨L, 0, none⟩), c.v] w fun e W' => e = .returned (.func (.func F) #[.pointer (some ⟨L, 0, none⟩)] #[]) ∧ Below w.heap.size w W' := by
  obtain ⟨ck, cs, cn⟩ := c
  dsimp only at h1 hn
  subst h1
  subst hn
  have hb := (Below.refl w.heap.size w).new (.cells #[.int .i64 1, .string cs, .int .i64 k] 54)
  have e0 : (w.alloc (.cells #[.int .i64 1, .string cs, .int .i64 k] 54)).cell? ⟨w.heap.size, 0, none⟩ = some (.int .i64 1) := World.cell?_alloc_at _ _ _ 0 rfl
  have e2 : (w.alloc (.cells #[.int .i64 1, .string cs, .int .i64 k] 54)).cell? ⟨w.heap.size, 2, none⟩ = some (.int .i64 k) := World.cell?_alloc_at _ _ _ 2 rfl
  have hM1 := hM.below hb
  obtain ⟨ga, pa, rfl, hfz, hcell⟩ := hM1.at_.atI (by omega)
  obtain ⟨_, _, e9, hpr⟩ := hM1.at_.row
  cases e9
  have hpm := hpr.max
  have hpl := hpr.le
  have d1 := hM1.c1
  have r0 := hcell k hk
  have hki : (0 : Int) ≤ (k : Int) := by omega
  have hki2 : (k : Int) < (ps.length : Int) := by omega
  generalize ps[k] = p at *
  have HF := mkHid hF
  clear hM hM1 hfz hcell hpr hF
  by_cases hp : p = -1
  · have tp : (p != -1) = false := by simp [hp]
    have HE : Hid (F = 113) := by rw [Hid, HF.out, if_pos hp]
    clear hp
    go_enter Try.func63, Try.ntmps63
    dsimp only [Cel.v]
    go_wp2_with fail
    go_quiet (fail)
    go_wp2_with fail
    go_ret
    rw [HE.out]
    exact ⟨rfl, below_drewN hb _⟩
  · have tp : (p != -1) = true := by simp [hp]
    have HE : Hid (F = 112) := by rw [Hid, HF.out, if_neg hp]
    clear hp
    go_enter Try.func63, Try.ntmps63
    dsimp only [Cel.v]
    go_wp2_with fail
    go_quiet (fail)
    go_wp2_with fail
    go_ret
    rw [HE.out]
    exact ⟨rfl, below_drewN hb _⟩
end Go.Proofs.Ytefnmjoapmnkbaa
set_option linter.unusedVariables false
namespace Go.Proofs.Ytefnmjoapmnkbaa
open Go.RowKit

/-! ### Put, whole -/
/-- the slots and places behind a Put that has room, and the term's place -/
def putS (xs : List Cel) (ps : List Int) (t : Tm) : (List Cel × List Int) × Int :=
  if t.hd.k = 3 then (layT t (xs, ps), (xs.length : Int))
  else if t.hd.k = 1 ∧ ps.getD t.hd.n.toNat 0 ≠ -1 then ((xs, ps), ps.getD t.hd.n.toNat 0)
  else ((xs ++ [(slotM xs.length ps t.hd).1], (slotM xs.length ps t.hd).2), (xs.length : Int))
def POut (xs : List Cel) (ps : List Int) (r : Int) (S : (List Cel × List Int) × Int) (xs' : List Cel) (pl : Int) (at' : List Int) (er : Int) : Prop :=
  (r < (S.1.1.length : Int) ∧ xs' = xs ∧ pl = 0 ∧ at' = [] ∧ er = 80) ∨ ((S.1.1.length : Int) ≤ r ∧ xs' = S.1.1 ∧ pl = S.2 ∧ at' = S.1.2 ∧ er = 0)
theorem AccInv.newI8 {B e : Nat} {acc : List Int} {v : Value} {w : World} (h : AccInv B e acc v w) : ∃ a cap, v = .slice a acc.length cap ∧ NewRow B w a cap acc := by
  obtain ⟨vs, ho, hc⟩ := h.ex
  obtain ⟨rfl, hf⟩ := crows_int hc
  exact own_newG (α := Int) ho (crows_ints _ hf)
theorem AccInv.newC8 {B e : Nat} {acc : List Cel} {v : Value} {w : World} (h : AccInv B e acc v w) : ∃ a cap, v = .slice a acc.length cap ∧ NewRow B w a cap acc := by
  obtain ⟨vs, ho, hc⟩ := h.ex
  obtain ⟨rfl, hf⟩ := crows_celH hc
  exact own_newG (α := Cel) ho (crows_flat _ hf)
def HPPost (w : World) (xs : List Cel) (ts ps : List Int) (r : Int) (S : (List Cel × List Int) × Int) (e : Ending) (w' : World) : Prop :=
  ∃ xs' pl at' er a2 c2 a3 c3 a4 c4, e = .returned (.tuple #[hv a2 xs'.length c2 a3 ts.length c3 r, .int .i64 pl, .slice a4 at'.length c4, .int .i64 er]) ∧ POut xs ps r S xs' pl at' er ∧ NewRow w.heap.size w' a2 c2 xs' ∧ NewRow w.heap.size w' a3 c3 ts ∧ NewRow w.heap.size w' a4 c4 at' ∧ Below w.heap.size w w'
theorem AccInv.okC (w : World) {B : Nat} {v : Value} {xs : List Cel} (h : w.ownsRow B 80 3 v xs.length (flat xs)) (hf : ∀ c ∈ xs, c.fit) : AccInv B 80 xs v w := ⟨_, h, crows_flat _ hf⟩
theorem setK3 {B : Nat} {w : World} (x y z : Value) (b o : Nat) (v : Value) (hn : b ≠ B) (h : w.cell? ⟨b, o, none⟩ = some v) : (((w.setCell ⟨B, 0, none⟩ x).setCell ⟨B, 1, none⟩ y).setCell ⟨B, 2, none⟩ z).cell? ⟨b, o, none⟩ = some v :=
  (World.cell?_of_block (a := ⟨b, o, none⟩) ((set3_grown B w x y z).block b (cell_lt h) (fun e => hn (by injection e)))).trans h
set_option maxRecDepth 100000 in
set_option maxHeartbeats 16000000 in
theorem put_fun (a : Option Addr) (cap : Nat) (a' : Option Addr) (cap' : Nat) (r : Int) (b : Option Addr) (cab : Nat) (c : Option Addr) (cac : Nat) (w : World) (xs : List Cel) (ts ps : List Int) (t : Tm) (hx : Row w a cap xs) (ht : Row w a' cap' ts) (hT : Row w b cab t.flat) (hp : Row w c cac ps)
    (hok : t.ok) (h200 : t.flat.length ≤ 200) (hl : xs.length ≤ 5000) (hl2 : ts.length ≤ 800000) (hl3 : ps.length ≤ 1000) (hkn : (varsL t.flat).all (knownV xs.length ps) = true) (hvi : VarsIn (widenL ps (varsL t.flat)).length t)
    (S : (List Cel × List Int) × Int) (hS : S = putS xs (widenL ps (varsL t.flat)) t) (h3 : t.hd.k = 3) :
    Calls Try.prog 20 #[hv a xs.length cap a' ts.length cap' r, .slice b t.flat.length cab, .slice c ps.length cac] w (HPPost w xs ts ps r S) := by
  have hb1 := ((Below.refl w.heap.size w).new (.cells #[.slice a xs.length cap, .slice a' ts.length cap', .int .i64 r] 25)).new (.cells #[.slice none 0 0, .slice none 0 0, .int .i64 0] 25)
  have e0 : ((w.alloc (.cells #[.slice a xs.length cap, .slice a' ts.length cap', .int .i64 r] 25)).alloc (.cells #[.slice none 0 0, .slice none 0 0, .int .i64 0] 25)).cell? ⟨w.heap.size, 0, none⟩ = some (.slice a xs.length cap) := keep (World.cell?_alloc_at _ _ w.heap.size 0 rfl) ((Below.refl _ _).new _)
  have e1 : ((w.alloc (.cells #[.slice a xs.length cap, .slice a' ts.length cap', .int .i64 r] 25)).alloc (.cells #[.slice none 0 0, .slice none 0 0, .int .i64 0] 25)).cell? ⟨w.heap.size, 1, none⟩ = some (.slice a' ts.length cap') := keep (World.cell?_alloc_at _ _ w.heap.size 1 rfl) ((Below.refl _ _).new _)
  have e2 : ((w.alloc (.cells #[.slice a xs.length cap, .slice a' ts.length cap', .int .i64 r] 25)).alloc (.cells #[.slice none 0 0, .slice none 0 0, .int .i64 0] 25)).cell? ⟨w.heap.size, 2, none⟩ = some (.int .i64 r) := keep (World.cell?_alloc_at _ _ w.heap.size 2 rfl) ((Below.refl _ _).new _)
  have f2 : ((w.alloc (.cells #[.slice a xs.length cap, .slice a' ts.length cap', .int .i64 r] 25)).alloc (.cells #[.slice none 0 0, .slice none 0 0, .int .i64 0] 25)).cell? ⟨w.heap.size + 1, 0, none⟩ = some (.slice none 0 0) := World.cell?_alloc_at _ _ _ 0 (by simp)
  have f3 : ((w.alloc (.cells #[.slice a xs.length cap, .slice a' ts.length cap', .int .i64 r] 25)).alloc (.cells #[.slice none 0 0, .slice none 0 0, .int .i64 0] 25)).cell? ⟨w.heap.size + 1, 1, none⟩ = some (.slice none 0 0) := World.cell?_alloc_at _ _ _ 1 (by simp)
  have f4 : ((w.alloc (.cells #[.slice a xs.length cap, .slice a' ts.length cap', .int .i64 r] 25)).alloc (.cells #[.slice none 0 0, .slice none 0 0, .int .i64 0] 25)).cell? ⟨w.heap.size + 1, 2, none⟩ = some (.int .i64 0) := World.cell?_alloc_at _ _ _ 2 (by simp)
  have z2 : ((w.alloc (.cells #[.slice a xs.length cap, .slice a' ts.length cap', .int .i64 r] 25)).alloc (.cells #[.slice none 0 0, .slice none 0 0, .int .i64 0] 25)).frozen? ⟨w.heap.size + 1, 0, none⟩ = false := by simp [go_sem]
  have z3 : ((w.alloc (.cells #[.slice a xs.length cap, .slice a' ts.length cap', .int .i64 r] 25)).alloc (.cells #[.slice none 0 0, .slice none 0 0, .int .i64 0] 25)).frozen? ⟨w.heap.size + 1, 1, none⟩ = false := by simp [go_sem]
  have z4 : ((w.alloc (.cells #[.slice a xs.length cap, .slice a' ts.length cap', .int .i64 r] 25)).alloc (.cells #[.slice none 0 0, .slice none 0 0, .int .i64 0] 25)).frozen? ⟨w.heap.size + 1, 2, none⟩ = false := by simp [go_sem]
  have HRF := mkHid (right_flat hok h200)
  have HKN := mkHid hkn
  have HVI := mkHid hvi
  have HOK := mkHid hok
  have HX := mkHid hx
  have HT := mkHid ht
  have HTT := mkHid hT
  have HPP := mkHid hp
  obtain ⟨tb, toff, rfl, t0, t1, t2, tf⟩ := row_hd hT
  have hcab := hT.le
  have hcab2 := hT.max
  have hpos := flat_pos t
  have hxm := hx.max
  have hxl := hx.le
  clear hok hkn hvi hx ht hT hp
  go_enter Try.func20, Try.ntmps20
  go_wp2_with fail
  obtain ⟨W, hW⟩ : ∃ W, ((w.alloc (.cells #[.slice a xs.length cap, .slice a' ts.length cap', .int .i64 r] 25)).alloc (.cells #[.slice none 0 0, .slice none 0 0, .int .i64 0] 25)) = W := ⟨_, rfl⟩
  have hsz : W.heap.size = w.heap.size + 2 := by rw [← hW]; simp
  rw [hW] at e0 e1 e2 f2 f3 f4 z2 z3 z4 hb1 ⊢
  have HSZ := mkHid hsz
  clear hW hsz
  refine (right_any (some ⟨tb, toff, none⟩) cab W t.flat (HTT.out.below hb1)).mono ?_
  rintro e w1 ⟨rfl, hb2⟩
  rw [HRF.out]
  have y0 := keep e0 hb2
  go_wp2_with fail
  refine (known_any a xs.length cap (some ⟨tb, toff, none⟩) cab c cac w1 t.flat ps ((HTT.out.below hb1).below hb2) ((HPP.out.below hb1).below hb2) HRF.out (by omega)).mono ?_
  rintro e w2 ⟨rfl, hb3⟩
  rw [HKN.out]
  have hb23 := hb2.then hb3
  clear y0
  have y0 := keep e0 hb23
  go_wp2_with fail
  have hbw2 := hb1.then hb23
  refine (cloneS_own a cap _ w2 xs rfl (HX.out.below hbw2) (by omega)).mono ?_
  rintro e w3 ⟨v1, rfl, hown1, hb4⟩
  have hA1 := AccInv.okC w3 hown1 HX.out.fit
  obtain ⟨a1, c1, rfl, _⟩ := hA1.row
  have HA1 := mkHid hA1
  have hbw3 := hbw2.then hb4
  clear hown1 hA1 y0
  go_wp2_with fail
  refine (widened_any c cac (some ⟨tb, toff, none⟩) cab w3 ps t.flat (HPP.out.below hbw3) (HTT.out.below hbw3) HRF.out hl3 (by omega)).mono ?_
  rintro e w4 ⟨⟨v2, rfl, hA2⟩, hb5⟩
  obtain ⟨a2, c2, rfl, _⟩ := hA2.row
  have HA2 := mkHid hA2
  have hbw4 := hbw3.then hb5
  have hb25 := (hb23.then hb4).then hb5
  clear hA2
  obtain ⟨wps, hwps⟩ : ∃ q, q = widenL ps (varsL t.flat) := ⟨_, rfl⟩
  rw [← hwps] at HA2 HVI ⊢
  rw [← hwps] at hS
  have HS := mkHid hS
  have HHYP := mkHid h3
  clear hS hwps h3
  have hM4 : LM (w4.alloc (.cells #[.slice a1 xs.length c1, .slice a2 wps.length c2] 91)) (w.heap.size + 2) w4.heap.size (.slice a1 xs.length c1) (.slice a2 wps.length c2) xs wps := by
    have hbn := (Below.refl w4.heap.size w4).new (.cells #[.slice a1 xs.length c1, .slice a2 wps.length c2] 91)
    have hz2 : w.heap.size + 2 ≤ w2.heap.size := by have := HSZ.out; have := hb23.size; omega
    have hz3 := hb4.size
    have hz4 := hb5.size
    refine ⟨heap_alloc_new w4 _, ((HA1.out.below hb5).below hbn).monoB hz2, (HA2.out.below hbn).monoB (by omega), fun e => ?_, fun e => ?_, fun q e e2 => ?_, by omega⟩
    · have := (HA1.out.lt _ e).2; omega
    · have := (HA2.out.lt _ e).2; omega
    · have := (HA1.out.lt _ e).2; have := (HA2.out.lt _ e2).1; omega
  have HM4 := mkHid hM4
  have hb45 : Below W.heap.size W (w4.alloc (.cells #[.slice a1 xs.length c1, .slice a2 wps.length c2] 91)) := hb25.new _
  have hbw5 := hb1.then hb45
  have E0 := keep e0 hb45
  have E1 := keep e1 hb45
  have E2 := keep e2 hb45
  have F2 := keep f2 hb45
  have F3 := keep f3 hb45
  have F4 := keep f4 hb45
  have hfr : ∀ k, (w4.alloc (.cells #[.slice a1 xs.length c1, .slice a2 wps.length c2] 91)).frozen? ⟨w.heap.size + 1, k, none⟩ = W.frozen? ⟨w.heap.size + 1, k, none⟩ := fun k => hb45.frozen (p := ⟨w.heap.size + 1, k, none⟩) (by have := HSZ.out; simp; omega)
  have Z2 := (hfr 0).trans z2
  have Z3 := (hfr 1).trans z3
  have Z4 := (hfr 2).trans z4
  have hLs : w.heap.size + 2 ≤ w4.heap.size := hM4.hB
  have HLS := mkHid hLs
  have T0 := keep t0 hbw5
  have T1 := keep t1 hbw5
  have T2 := keep t2 hbw5
  have HTV : Hid (Row (veil (lB w4.heap.size (.slice a1 xs.length c1) (.slice a2 wps.length c2)) (w4.alloc (.cells #[.slice a1 xs.length c1, .slice a2 wps.length c2] 91))) (some ⟨tb, toff, none⟩) cab t.flat) :=
    HTT.out.keeps (veil_fresh (Keeps.of hbw5) fun k hk => by have := (hM4.allB k hk).1; omega)
  clear hM4 e0 e1 e2 f2 f3 f4 z2 z3 z4 hfr hb25 hbw4 hb5 hbw3 hb4 hbw2 hb23 hb3 hb2 HA1 HA2 t0 t1 t2
  go_wp2_with fail
  generalize (w4.alloc (.cells #[.slice a1 xs.length c1, .slice a2 wps.length c2] 91)) = W4 at *
  generalize hLL : w4.heap.size = L at *
  clear hLL
  refine (way_fun W4 L t.hd HHYP.out).mono ?_
  rintro e W5 ⟨rfl, hbW⟩
  have HM5 := mkHid (HM4.out.below hbW)
  have HTV5 := mkHid (HTV.out.keeps (lB_keeps HM4.out (Fr.of hbW) (.inl rfl)))
  have HB5 : Hid (Below (w.heap.size + 2) W4 W5) := HM4.out.frB (Fr.of hbW)
  clear T0 T1 T2
  go_wp2_with fail
  refine (structure_any (w.heap.size + 2) L _ _ t W5 _ xs wps (some ⟨tb, toff, none⟩) cab (Nat.le_refl _) HOK.out h200 HVI.out HM5.out (by omega) HTV5.out).mono ?_
  rintro e W6 ⟨rfl, vc6, hM6, hF6, hN6⟩
  have HM6 : Hid (LM W6 (w.heap.size + 2) L vc6 (.slice a2 wps.length c2) S.1.1 S.1.2) := by rw [HS.out, putS, if_pos HHYP.out]; exact hM6
  have HPL : Hid (S.2 = (xs.length : Int)) := by rw [Hid, HS.out, putS, if_pos HHYP.out]
  have HB6 : Hid (Below (w.heap.size + 2) W4 W6) := HB5.out.trans (HM5.out.frB hF6)
  clear hM6 hF6 hN6
  obtain ⟨a6, c6, e6, _⟩ := HM6.out.cells.row
  subst e6
  obtain ⟨a7, c7, e7, _⟩ := HM6.out.at_.row
  have HV2 := mkHid e7
  rw [e7] at HM6
  clear e7
  have X0 := (HB6.out.cell (p := ⟨w.heap.size, 0, none⟩) (by simp)).trans E0
  have X1 := (HB6.out.cell (p := ⟨w.heap.size, 1, none⟩) (by simp)).trans E1
  have X2 := (HB6.out.cell (p := ⟨w.heap.size, 2, none⟩) (by simp)).trans E2
  have G2 := (HB6.out.cell (p := ⟨w.heap.size + 1, 0, none⟩) (by simp)).trans F2
  have G3 := (HB6.out.cell (p := ⟨w.heap.size + 1, 1, none⟩) (by simp)).trans F3
  have G4 := (HB6.out.cell (p := ⟨w.heap.size + 1, 2, none⟩) (by simp)).trans F4
  have Y2 := (HB6.out.frozen (p := ⟨w.heap.size + 1, 0, none⟩) (by simp)).trans Z2
  have Y3 := (HB6.out.frozen (p := ⟨w.heap.size + 1, 1, none⟩) (by simp)).trans Z3
  have Y4 := (HB6.out.frozen (p := ⟨w.heap.size + 1, 2, none⟩) (by simp)).trans Z4
  have C0 := HM6.out.c0
  have HBW : Hid (Below w.heap.size w W6) := hbw5.trans (HB6.out.mono (by omega))
  clear E0 E1 E2 F2 F3 F4 Z2 Z3 Z4
  go_wp2_with fail
  go_quiet (fail)
  have hdr : Below W6.heap.size W6 (W6.drewN nq) := below_drewN (Below.refl _ _) _
  have HM7 := mkHid (HM6.out.below hdr)
  have x0 := keep X0 hdr
  have x1 := keep X1 hdr
  have x2 := keep X2 hdr
  have g2 := keep G2 hdr
  have g3 := keep G3 hdr
  have g4 := keep G4 hdr
  have hsz6 : w.heap.size + 2 ≤ W6.heap.size := by have := HM6.out.hB; have := HM6.out.lt; omega
  have hfr : ∀ k, (W6.drewN nq).frozen? ⟨w.heap.size + 1, k, none⟩ = W6.frozen? ⟨w.heap.size + 1, k, none⟩ := fun k => hdr.frozen (p := ⟨w.heap.size + 1, k, none⟩) (by simp; omega)
  have y2 := (hfr 0).trans Y2
  have y3 := (hfr 1).trans Y3
  have y4 := (hfr 2).trans Y4
  have HB7 : Hid (Below w.heap.size w (W6.drewN nq)) := HBW.out.then hdr
  have hs7 : w.heap.size + 2 ≤ (W6.drewN nq).heap.size := Nat.le_trans hsz6 hdr.size
  have HS7 := mkHid hs7
  clear X0 X1 X2 G2 G3 G4 Y2 Y3 Y4 C0 hdr hfr hsz6 hs7
  by_cases hgt : (S.1.1.length : Int) > r
  · have HGT := mkHid hgt
    go_wp2_with fail
    generalize W6.drewN nq = W7 at *
    refine (hcopied_any a cap a' cap' r W7 xs ts (HX.out.below HB7.out) (HT.out.below HB7.out) (by omega) (by omega)).mono ?_
    rintro e w8 ⟨a8, c8, a9, c9, rfl, hn8, hn9, hb8⟩
    have k2 := keep g2 hb8
    have k3 := keep g3 hb8
    have k4 := keep g4 hb8
    have q2 := (hb8.frozen (p := ⟨w.heap.size + 1, 0, none⟩) (by have := HS7.out; simp; omega)).trans y2
    have q3 := (hb8.frozen (p := ⟨w.heap.size + 1, 1, none⟩) (by have := HS7.out; simp; omega)).trans y3
    have q4 := (hb8.frozen (p := ⟨w.heap.size + 1, 2, none⟩) (by have := HS7.out; simp; omega)).trans y4
    go_wp2_with fail
    refine bodyPost_ret (v := .tuple #[hv a8 xs.length c8 a9 ts.length c9 r, .int .i64 0, .slice none 0 0, .int .i64 80]) (by simp [results, Try.results20, go_sem, k2, k3, k4]) rfl ⟨xs, 0, [], 80, a8, c8, a9, c9, none, 0, rfl, .inl ⟨HGT.out, rfl, rfl, rfl, rfl⟩, ?_, ?_, ?_, ?_⟩
    · exact (hn8.grown (set3_grown (w.heap.size + 1) _ _ _ _) (fun g e => by cases e; have := HS7.out; omega)).mono (by have := HS7.out; omega)
    · exact (hn9.grown (set3_grown (w.heap.size + 1) _ _ _ _) (fun g e => by cases e; have := HS7.out; omega)).mono (by have := HS7.out; omega)
    · exact NewRow.empty _ _ _ _ (by omega) (fun _ => rfl)
    · exact (HB7.out.then hb8).trans ((set3 (w.heap.size + 1) _ _ _ _).mono (by omega))
  · have HGT := mkHid hgt
    go_wp2_with fail
    generalize W6.drewN nq = W7 at *
    have c0 := HM7.out.c0
    have c1 := HM7.out.c1
    have HLN : Hid (L ≠ w.heap.size + 1) := by have := HLS.out; rw [Hid]; omega
    have hT7 : Row W7.drew a' cap' ts := (HT.out.below HB7.out).below (Below.refl _ _).drew
    have HT7 := mkHid hT7
    clear hT7
    go_region_held3 (fun w' => w'.cell? ⟨L, 0, none⟩ = some (.slice a6 S.1.1.length c6) ∧ w'.cell? ⟨L, 1, none⟩ = some (.slice a7 S.1.2.length c7) ∧ w'.cell? ⟨w.heap.size, 1, none⟩ = some (.slice a' ts.length cap') ∧ w'.cell? ⟨w.heap.size, 2, none⟩ = some (.int .i64 r))
      (first
        | exact ⟨c0, c1, x1, x2⟩
        | exact ⟨keep (w := W7.drew) c0 hb8, keep (w := W7.drew) c1 hb8, keep (w := W7.drew) x1 hb8, keep (w := W7.drew) x2 hb8⟩
        | exact ⟨setK3 _ _ _ _ _ _ HLN.out (keep (w := W7.drew) c0 hb8), setK3 _ _ _ _ _ _ HLN.out (keep (w := W7.drew) c1 hb8), setK3 _ _ _ _ _ _ (by omega) (keep (w := W7.drew) x1 hb8), setK3 _ _ _ _ _ _ (by omega) (keep (w := W7.drew) x2 hb8)⟩)
      ((go_at_call 64; refine (cloneI_new _ a' cap' W7.drew ts rfl HT7.out (by omega)).mono ?_; rintro e w8 ⟨a9, c9, rfl, hn9, hb8⟩; have k2 := keep (w := W7.drew) g2 hb8; have k3 := keep (w := W7.drew) g3 hb8; have k4 := keep (w := W7.drew) g4 hb8; have q2 := (hb8.frozen (p := ⟨w.heap.size + 1, 0, none⟩) (show w.heap.size + 1 < W7.heap.size by have := HS7.out; omega)).trans y2; have q3 := (hb8.frozen (p := ⟨w.heap.size + 1, 1, none⟩) (show w.heap.size + 1 < W7.heap.size by have := HS7.out; omega)).trans y3; have q4 := (hb8.frozen (p := ⟨w.heap.size + 1, 2, none⟩) (show w.heap.size + 1 < W7.heap.size by have := HS7.out; omega)).trans y4))
    go_wp2_with fail
    have hb78 : Below W7.heap.size W7 w8 := (Below.refl W7.heap.size W7).drew.trans hb8
    have HM8 := mkHid (HM7.out.below hb78)
    refine bodyPost_ret (v := .tuple #[hv a6 S.1.1.length c6 a9 ts.length c9 r, .int .i64 (xs.length : Int), .slice a7 S.1.2.length c7, .int .i64 0]) (by simp [results, Try.results20, go_sem, k2, k3, k4]) rfl ⟨S.1.1, S.2, S.1.2, 0, a6, c6, a9, c9, a7, c7, by rw [HPL.out], .inr ⟨by have := HGT.out; omega, rfl, rfl, rfl, rfl⟩, ?_, ?_, ?_, ?_⟩
    · have h8 := HM8.out.cells.blockC (w' := ((w8.setCell ⟨w.heap.size + 1, 0, none⟩ (.slice a6 S.1.1.length c6)).setCell ⟨w.heap.size + 1, 1, none⟩ (.slice a9 ts.length c9)).setCell ⟨w.heap.size + 1, 2, none⟩ (.int .i64 r)) (fun b hb => (set3_grown (w.heap.size + 1) w8 _ _ _).block b (HM8.out.cells.lt b hb).2 (fun e => by injection e with e; have := (HM8.out.cells.lt b hb).1; omega))
      obtain ⟨_, _, e8, h9⟩ := h8.newC8
      cases e8
      exact h9.mono (by omega)
    · exact (hn9.grown (set3_grown (w.heap.size + 1) _ _ _ _) (fun g e => by cases e; show w.heap.size + 1 < W7.heap.size; have := HS7.out; omega)).mono (show w.heap.size ≤ W7.heap.size by have := HS7.out; omega)
    · have h8 := HM8.out.at_.blockI (w' := ((w8.setCell ⟨w.heap.size + 1, 0, none⟩ (.slice a6 S.1.1.length c6)).setCell ⟨w.heap.size + 1, 1, none⟩ (.slice a9 ts.length c9)).setCell ⟨w.heap.size + 1, 2, none⟩ (.int .i64 r)) (fun b hb => (set3_grown (w.heap.size + 1) w8 _ _ _).block b (HM8.out.at_.lt b hb).2 (fun e => by injection e with e; have := (HM8.out.at_.lt b hb).1; omega))
      obtain ⟨_, _, e8, h9⟩ := h8.newI8
      cases e8
      exact h9.mono (by omega)
    · exact (HB7.out.trans (hb78.mono (by have := HS7.out; omega))).trans ((set3 (w.heap.size + 1) w8 _ _ _).mono (by omega))
end Go.Proofs.Ytefnmjoapmnkbaa
set_option linter.unusedVariables false
namespace Go.Proofs.Ytefnmjoapmnkbaa
open Go.RowKit

set_option maxRecDepth 100000 in
set_option maxHeartbeats 16000000 in
theorem put_sta (a : Option Addr) (cap : Nat) (a' : Option Addr) (cap' : Nat) (r : Int) (b : Option Addr) (cab : Nat) (c : Option Addr) (cac : Nat) (w : World) (xs : List Cel) (ts ps : List Int) (t : Tm) (hx : Row w a cap xs) (ht : Row w a' cap' ts) (hT : Row w b cab t.flat) (hp : Row w c cac ps)
    (hok : t.ok) (h200 : t.flat.length ≤ 200) (hl : xs.length ≤ 5000) (hl2 : ts.length ≤ 800000) (hl3 : ps.length ≤ 1000) (hkn : (varsL t.flat).all (knownV xs.length ps) = true) (hvi : VarsIn (widenL ps (varsL t.flat)).length t)
    (S : (List Cel × List Int) × Int) (hS : S = putS xs (widenL ps (varsL t.flat)) t) (h3 : t.hd.k = 1 ∧ ∃ (k : Nat) (hk : k < (widenL ps (varsL t.flat)).length), t.hd.n = k ∧ ¬ (widenL ps (varsL t.flat))[k] = -1) :
    Calls Try.prog 20 #[hv a xs.length cap a' ts.length cap' r, .slice b t.flat.length cab, .slice c ps.length cac] w (HPPost w xs ts ps r S) := by
  have hb1 := ((Below.refl w.heap.size w).new (.cells #[.slice a xs.length cap, .slice a' ts.length cap', .int .i64 r] 25)).new (.cells #[.slice none 0 0, .slice none 0 0, .int .i64 0] 25)
  have e0 : ((w.alloc (.cells #[.slice a xs.length cap, .slice a' ts.length cap', .int .i64 r] 25)).alloc (.cells #[.slice none 0 0, .slice none 0 0, .int .i64 0] 25)).cell? ⟨w.heap.size, 0, none⟩ = some (.slice a xs.length cap) := keep (World.cell?_alloc_at _ _ w.heap.size 0 rfl) ((Below.refl _ _).new _)
  have e1 : ((w.alloc (.cells #[.slice a xs.length cap, .slice a' ts.length cap', .int .i64 r] 25)).alloc (.cells #[.slice none 0 0, .slice none 0 0, .int .i64 0] 25)).cell? ⟨w.heap.size, 1, none⟩ = some (.slice a' ts.length cap') := keep (World.cell?_alloc_at _ _ w.heap.size 1 rfl) ((Below.refl _ _).new _)
  have e2 : ((w.alloc (.cells #[.slice a xs.length cap, .slice a' ts.length cap', .int .i64 r] 25)).alloc (.cells #[.slice none 0 0, .slice none 0 0, .int .i64 0] 25)).cell? ⟨w.heap.size, 2, none⟩ = some (.int .i64 r) := keep (World.cell?_alloc_at _ _ w.heap.size 2 rfl) ((Below.refl _ _).new _)
  have f2 : ((w.alloc (.cells #[.slice a xs.length cap, .slice a' ts.length cap', .int .i64 r] 25)).alloc (.cells #[.slice none 0 0, .slice none 0 0, .int .i64 0] 25)).cell? ⟨w.heap.size + 1, 0, none⟩ = some (.slice none 0 0) := World.cell?_alloc_at _ _ _ 0 (by simp)
  have f3 : ((w.alloc (.cells #[.slice a xs.length cap, .slice a' ts.length cap', .int .i64 r] 25)).alloc (.cells #[.slice none 0 0, .slice none 0 0, .int .i64 0] 25)).cell? ⟨w.heap.size + 1, 1, none⟩ = some (.slice none 0 0) := World.cell?_alloc_at _ _ _ 1 (by simp)
  have f4 : ((w.alloc (.cells #[.slice a xs.length cap, .slice a' ts.length cap', .int .i64 r] 25)).alloc (.cells #[.slice none 0 0, .slice none 0 0, .int .i64 0] 25)).cell? ⟨w.heap.size + 1, 2, none⟩ = some (.int .i64 0) := World.cell?_alloc_at _ _ _ 2 (by simp)
  have z2 : ((w.alloc (.cells #[.slice a xs.length cap, .slice a' ts.length cap', .int .i64 r] 25)).alloc (.cells #[.slice none 0 0, .slice none 0 0, .int .i64 0] 25)).frozen? ⟨w.heap.size + 1, 0, none⟩ = false := by simp [go_sem]
  have z3 : ((w.alloc (.cells #[.slice a xs.length cap, .slice a' ts.length cap', .int .i64 r] 25)).alloc (.cells #[.slice none 0 0, .slice none 0 0, .int .i64 0] 25)).frozen? ⟨w.heap.size + 1, 1, none⟩ = false := by simp [go_sem]
  have z4 : ((w.alloc (.cells #[.slice a xs.length cap, .slice a' ts.length cap', .int .i64 r] 25)).alloc (.cells #[.slice none 0 0, .slice none 0 0, .int .i64 0] 25)).frozen? ⟨w.heap.size + 1, 2, none⟩ = false := by simp [go_sem]
  have HRF := mkHid (right_flat hok h200)
  have HKN := mkHid hkn
  have HVI := mkHid hvi
  have HOK := mkHid hok
  have HX := mkHid hx
  have HT := mkHid ht
  have HTT := mkHid hT
  have HPP := mkHid hp
  obtain ⟨tb, toff, rfl, t0, t1, t2, tf⟩ := row_hd hT
  have hcab := hT.le
  have hcab2 := hT.max
  have hpos := flat_pos t
  have hxm := hx.max
  have hxl := hx.le
  clear hok hkn hvi hx ht hT hp
  go_enter Try.func20, Try.ntmps20
  go_wp2_with fail
  obtain ⟨W, hW⟩ : ∃ W, ((w.alloc (.cells #[.slice a xs.length cap, .slice a' ts.length cap', .int .i64 r] 25)).alloc (.cells #[.slice none 0 0, .slice none 0 0, .int .i64 0] 25)) = W := ⟨_, rfl⟩
  have hsz : W.heap.size = w.heap.size + 2 := by rw [← hW]; simp
  rw [hW] at e0 e1 e2 f2 f3 f4 z2 z3 z4 hb1 ⊢
  have HSZ := mkHid hsz
  clear hW hsz
  refine (right_any (some ⟨tb, toff, none⟩) cab W t.flat (HTT.out.below hb1)).mono ?_
  rintro e w1 ⟨rfl, hb2⟩
  rw [HRF.out]
  have y0 := keep e0 hb2
  go_wp2_with fail
  refine (known_any a xs.length cap (some ⟨tb, toff, none⟩) cab c cac w1 t.flat ps ((HTT.out.below hb1).below hb2) ((HPP.out.below hb1).below hb2) HRF.out (by omega)).mono ?_
  rintro e w2 ⟨rfl, hb3⟩
  rw [HKN.out]
  have hb23 := hb2.then hb3
  clear y0
  have y0 := keep e0 hb23
  go_wp2_with fail
  have hbw2 := hb1.then hb23
  refine (cloneS_own a cap _ w2 xs rfl (HX.out.below hbw2) (by omega)).mono ?_
  rintro e w3 ⟨v1, rfl, hown1, hb4⟩
  have hA1 := AccInv.okC w3 hown1 HX.out.fit
  obtain ⟨a1, c1, rfl, _⟩ := hA1.row
  have HA1 := mkHid hA1
  have hbw3 := hbw2.then hb4
  clear hown1 hA1 y0
  go_wp2_with fail
  refine (widened_any c cac (some ⟨tb, toff, none⟩) cab w3 ps t.flat (HPP.out.below hbw3) (HTT.out.below hbw3) HRF.out hl3 (by omega)).mono ?_
  rintro e w4 ⟨⟨v2, rfl, hA2⟩, hb5⟩
  obtain ⟨a2, c2, rfl, _⟩ := hA2.row
  have HA2 := mkHid hA2
  have hbw4 := hbw3.then hb5
  have hb25 := (hb23.then hb4).then hb5
  clear hA2
  obtain ⟨wps, hwps⟩ : ∃ q, q = widenL ps (varsL t.flat) := ⟨_, rfl⟩
  rw [← hwps] at HA2 HVI ⊢
  rw [← hwps] at hS h3
  have HS := mkHid hS
  have HHYP := mkHid h3
  clear hS hwps h3
  have hM4 : LM (w4.alloc (.cells #[.slice a1 xs.length c1, .slice a2 wps.length c2] 91)) (w.heap.size + 2) w4.heap.size (.slice a1 xs.length c1) (.slice a2 wps.length c2) xs wps := by
    have hbn := (Below.refl w4.heap.size w4).new (.cells #[.slice a1 xs.length c1, .slice a2 wps.length c2] 91)
    have hz2 : w.heap.size + 2 ≤ w2.heap.size := by have := HSZ.out; have := hb23.size; omega
    have hz3 := hb4.size
    have hz4 := hb5.size
    refine ⟨heap_alloc_new w4 _, ((HA1.out.below hb5).below hbn).monoB hz2, (HA2.out.below hbn).monoB (by omega), fun e => ?_, fun e => ?_, fun q e e2 => ?_, by omega⟩
    · have := (HA1.out.lt _ e).2; omega
    · have := (HA2.out.lt _ e).2; omega
    · have := (HA1.out.lt _ e).2; have := (HA2.out.lt _ e2).1; omega
  have HM4 := mkHid hM4
  have hb45 : Below W.heap.size W (w4.alloc (.cells #[.slice a1 xs.length c1, .slice a2 wps.length c2] 91)) := hb25.new _
  have hbw5 := hb1.then hb45
  have E0 := keep e0 hb45
  have E1 := keep e1 hb45
  have E2 := keep e2 hb45
  have F2 := keep f2 hb45
  have F3 := keep f3 hb45
  have F4 := keep f4 hb45
  have hfr : ∀ k, (w4.alloc (.cells #[.slice a1 xs.length c1, .slice a2 wps.length c2] 91)).frozen? ⟨w.heap.size + 1, k, none⟩ = W.frozen? ⟨w.heap.size + 1, k, none⟩ := fun k => hb45.frozen (p := ⟨w.heap.size + 1, k, none⟩) (by have := HSZ.out; simp; omega)
  have Z2 := (hfr 0).trans z2
  have Z3 := (hfr 1).trans z3
  have Z4 := (hfr 2).trans z4
  have hLs : w.heap.size + 2 ≤ w4.heap.size := hM4.hB
  have HLS := mkHid hLs
  have T0 := keep t0 hbw5
  have T1 := keep t1 hbw5
  have T2 := keep t2 hbw5
  have HTV : Hid (Row (veil (lB w4.heap.size (.slice a1 xs.length c1) (.slice a2 wps.length c2)) (w4.alloc (.cells #[.slice a1 xs.length c1, .slice a2 wps.length c2] 91))) (some ⟨tb, toff, none⟩) cab t.flat) :=
    HTT.out.keeps (veil_fresh (Keeps.of hbw5) fun k hk => by have := (hM4.allB k hk).1; omega)
  clear hM4 e0 e1 e2 f2 f3 f4 z2 z3 z4 hfr hb25 hbw4 hb5 hbw3 hb4 hbw2 hb23 hb3 hb2 HA1 HA2 t0 t1 t2
  go_wp2_with fail
  generalize (w4.alloc (.cells #[.slice a1 xs.length c1, .slice a2 wps.length c2] 91)) = W4 at *
  generalize hLL : w4.heap.size = L at *
  clear hLL
  obtain ⟨k, hk, hn, hpk⟩ := HHYP.out.2
  refine (way_var W4 (w.heap.size + 2) L _ _ xs wps t.hd HM4.out HHYP.out.1 k hk hn 112 (by rw [if_neg hpk])).mono ?_
  rintro e W5 ⟨rfl, hbW⟩
  have HM5 := mkHid (HM4.out.below hbW)
  have HTV5 := mkHid (HTV.out.keeps (lB_keeps HM4.out (Fr.of hbW) (.inl rfl)))
  have HB5 : Hid (Below (w.heap.size + 2) W4 W5) := HM4.out.frB (Fr.of hbW)
  clear T0 T1 T2
  go_wp2_with fail
  refine (standing_any W5 (w.heap.size + 2) L _ _ xs wps t (some ⟨tb, toff, none⟩) cab HM5.out (HTV5.out.keeps (veil_keeps _ _)) k hk hn).mono ?_
  rintro e W6 ⟨rfl, hF6⟩
  have hSS : S = ((xs, wps), wps[k]) := by
    rw [HS.out, putS, if_neg (by have := HHYP.out.1; omega)]
    have h1 : wps.getD t.hd.n.toNat 0 = wps[k] := by rw [hn, Int.toNat_natCast, List.getD_eq_getElem?_getD, List.getElem?_eq_getElem hk]; rfl
    rw [if_pos ⟨HHYP.out.1, by rw [h1]; exact hpk⟩, h1]
  have HM6 : Hid (LM W6 (w.heap.size + 2) L (.slice a1 xs.length c1) (.slice a2 wps.length c2) S.1.1 S.1.2) := by rw [hSS]; exact HM5.out.below hF6
  have HPL : Hid (S.2 = wps[k]) := by rw [Hid, hSS]
  have HB6 : Hid (Below (w.heap.size + 2) W4 W6) := HB5.out.trans (HM5.out.frB (Fr.of hF6))
  have hpb := HM6.out.at_.fitI
  clear hF6 hSS hpk hn
  generalize hvc6 : Value.slice a1 xs.length c1 = vc6 at HM6
  clear hvc6
  generalize wps[k] = pk at *
  clear hpb
  obtain ⟨a6, c6, e6, _⟩ := HM6.out.cells.row
  subst e6
  obtain ⟨a7, c7, e7, _⟩ := HM6.out.at_.row
  have HV2 := mkHid e7
  rw [e7] at HM6
  clear e7
  have X0 := (HB6.out.cell (p := ⟨w.heap.size, 0, none⟩) (by simp)).trans E0
  have X1 := (HB6.out.cell (p := ⟨w.heap.size, 1, none⟩) (by simp)).trans E1
  have X2 := (HB6.out.cell (p := ⟨w.heap.size, 2, none⟩) (by simp)).trans E2
  have G2 := (HB6.out.cell (p := ⟨w.heap.size + 1, 0, none⟩) (by simp)).trans F2
  have G3 := (HB6.out.cell (p := ⟨w.heap.size + 1, 1, none⟩) (by simp)).trans F3
  have G4 := (HB6.out.cell (p := ⟨w.heap.size + 1, 2, none⟩) (by simp)).trans F4
  have Y2 := (HB6.out.frozen (p := ⟨w.heap.size + 1, 0, none⟩) (by simp)).trans Z2
  have Y3 := (HB6.out.frozen (p := ⟨w.heap.size + 1, 1, none⟩) (by simp)).trans Z3
  have Y4 := (HB6.out.frozen (p := ⟨w.heap.size + 1, 2, none⟩) (by simp)).trans Z4
  have C0 := HM6.out.c0
  have HBW : Hid (Below w.heap.size w W6) := hbw5.trans (HB6.out.mono (by omega))
  clear E0 E1 E2 F2 F3 F4 Z2 Z3 Z4
  go_wp2_with fail
  go_quiet (fail)
  have hdr : Below W6.heap.size W6 (W6.drewN nq) := below_drewN (Below.refl _ _) _
  have HM7 := mkHid (HM6.out.below hdr)
  have x0 := keep X0 hdr
  have x1 := keep X1 hdr
  have x2 := keep X2 hdr
  have g2 := keep G2 hdr
  have g3 := keep G3 hdr
  have g4 := keep G4 hdr
  have hsz6 : w.heap.size + 2 ≤ W6.heap.size := by have := HM6.out.hB; have := HM6.out.lt; omega
  have hfr : ∀ k, (W6.drewN nq).frozen? ⟨w.heap.size + 1, k, none⟩ = W6.frozen? ⟨w.heap.size + 1, k, none⟩ := fun k => hdr.frozen (p := ⟨w.heap.size + 1, k, none⟩) (by simp; omega)
  have y2 := (hfr 0).trans Y2
  have y3 := (hfr 1).trans Y3
  have y4 := (hfr 2).trans Y4
  have HB7 : Hid (Below w.heap.size w (W6.drewN nq)) := HBW.out.then hdr
  have hs7 : w.heap.size + 2 ≤ (W6.drewN nq).heap.size := Nat.le_trans hsz6 hdr.size
  have HS7 := mkHid hs7
  clear X0 X1 X2 G2 G3 G4 Y2 Y3 Y4 C0 hdr hfr hsz6 hs7
  by_cases hgt : (S.1.1.length : Int) > r
  · have HGT := mkHid hgt
    go_wp2_with fail
    generalize W6.drewN nq = W7 at *
    refine (hcopied_any a cap a' cap' r W7 xs ts (HX.out.below HB7.out) (HT.out.below HB7.out) (by omega) (by omega)).mono ?_
    rintro e w8 ⟨a8, c8, a9, c9, rfl, hn8, hn9, hb8⟩
    have k2 := keep g2 hb8
    have k3 := keep g3 hb8
    have k4 := keep g4 hb8
    have q2 := (hb8.frozen (p := ⟨w.heap.size + 1, 0, none⟩) (by have := HS7.out; simp; omega)).trans y2
    have q3 := (hb8.frozen (p := ⟨w.heap.size + 1, 1, none⟩) (by have := HS7.out; simp; omega)).trans y3
    have q4 := (hb8.frozen (p := ⟨w.heap.size + 1, 2, none⟩) (by have := HS7.out; simp; omega)).trans y4
    go_wp2_with fail
    refine bodyPost_ret (v := .tuple #[hv a8 xs.length c8 a9 ts.length c9 r, .int .i64 0, .slice none 0 0, .int .i64 80]) (by simp [results, Try.results20, go_sem, k2, k3, k4]) rfl ⟨xs, 0, [], 80, a8, c8, a9, c9, none, 0, rfl, .inl ⟨HGT.out, rfl, rfl, rfl, rfl⟩, ?_, ?_, ?_, ?_⟩
    · exact (hn8.grown (set3_grown (w.heap.size + 1) _ _ _ _) (fun g e => by cases e; have := HS7.out; omega)).mono (by have := HS7.out; omega)
    · exact (hn9.grown (set3_grown (w.heap.size + 1) _ _ _ _) (fun g e => by cases e; have := HS7.out; omega)).mono (by have := HS7.out; omega)
    · exact NewRow.empty _ _ _ _ (by omega) (fun _ => rfl)
    · exact (HB7.out.then hb8).trans ((set3 (w.heap.size + 1) _ _ _ _).mono (by omega))
  · have HGT := mkHid hgt
    go_wp2_with fail
    generalize W6.drewN nq = W7 at *
    have c0 := HM7.out.c0
    have c1 := HM7.out.c1
    have HLN : Hid (L ≠ w.heap.size + 1) := by have := HLS.out; rw [Hid]; omega
    have hT7 : Row W7.drew a' cap' ts := (HT.out.below HB7.out).below (Below.refl _ _).drew
    have HT7 := mkHid hT7
    clear hT7
    go_region_held3 (fun w' => w'.cell? ⟨L, 0, none⟩ = some (.slice a6 S.1.1.length c6) ∧ w'.cell? ⟨L, 1, none⟩ = some (.slice a7 S.1.2.length c7) ∧ w'.cell? ⟨w.heap.size, 1, none⟩ = some (.slice a' ts.length cap') ∧ w'.cell? ⟨w.heap.size, 2, none⟩ = some (.int .i64 r))
      (first
        | exact ⟨c0, c1, x1, x2⟩
        | exact ⟨keep (w := W7.drew) c0 hb8, keep (w := W7.drew) c1 hb8, keep (w := W7.drew) x1 hb8, keep (w := W7.drew) x2 hb8⟩
        | exact ⟨setK3 _ _ _ _ _ _ HLN.out (keep (w := W7.drew) c0 hb8), setK3 _ _ _ _ _ _ HLN.out (keep (w := W7.drew) c1 hb8), setK3 _ _ _ _ _ _ (by omega) (keep (w := W7.drew) x1 hb8), setK3 _ _ _ _ _ _ (by omega) (keep (w := W7.drew) x2 hb8)⟩)
      ((go_at_call 64; refine (cloneI_new _ a' cap' W7.drew ts rfl HT7.out (by omega)).mono ?_; rintro e w8 ⟨a9, c9, rfl, hn9, hb8⟩; have k2 := keep (w := W7.drew) g2 hb8; have k3 := keep (w := W7.drew) g3 hb8; have k4 := keep (w := W7.drew) g4 hb8; have q2 := (hb8.frozen (p := ⟨w.heap.size + 1, 0, none⟩) (show w.heap.size + 1 < W7.heap.size by have := HS7.out; omega)).trans y2; have q3 := (hb8.frozen (p := ⟨w.heap.size + 1, 1, none⟩) (show w.heap.size + 1 < W7.heap.size by have := HS7.out; omega)).trans y3; have q4 := (hb8.frozen (p := ⟨w.heap.size + 1, 2, none⟩) (show w.heap.size + 1 < W7.heap.size by have := HS7.out; omega)).trans y4))
    go_wp2_with fail
    have hb78 : Below W7.heap.size W7 w8 := (Below.refl W7.heap.size W7).drew.trans hb8
    have HM8 := mkHid (HM7.out.below hb78)
    refine bodyPost_ret (v := .tuple #[hv a6 S.1.1.length c6 a9 ts.length c9 r, .int .i64 pk, .slice a7 S.1.2.length c7, .int .i64 0]) (by simp [results, Try.results20, go_sem, k2, k3, k4]) rfl ⟨S.1.1, S.2, S.1.2, 0, a6, c6, a9, c9, a7, c7, by rw [HPL.out], .inr ⟨by have := HGT.out; omega, rfl, rfl, rfl, rfl⟩, ?_, ?_, ?_, ?_⟩
    · have h8 := HM8.out.cells.blockC (w' := ((w8.setCell ⟨w.heap.size + 1, 0, none⟩ (.slice a6 S.1.1.length c6)).setCell ⟨w.heap.size + 1, 1, none⟩ (.slice a9 ts.length c9)).setCell ⟨w.heap.size + 1, 2, none⟩ (.int .i64 r)) (fun b hb => (set3_grown (w.heap.size + 1) w8 _ _ _).block b (HM8.out.cells.lt b hb).2 (fun e => by injection e with e; have := (HM8.out.cells.lt b hb).1; omega))
      obtain ⟨_, _, e8, h9⟩ := h8.newC8
      cases e8
      exact h9.mono (by omega)
    · exact (hn9.grown (set3_grown (w.heap.size + 1) _ _ _ _) (fun g e => by cases e; show w.heap.size + 1 < W7.heap.size; have := HS7.out; omega)).mono (show w.heap.size ≤ W7.heap.size by have := HS7.out; omega)
    · have h8 := HM8.out.at_.blockI (w' := ((w8.setCell ⟨w.heap.size + 1, 0, none⟩ (.slice a6 S.1.1.length c6)).setCell ⟨w.heap.size + 1, 1, none⟩ (.slice a9 ts.length c9)).setCell ⟨w.heap.size + 1, 2, none⟩ (.int .i64 r)) (fun b hb => (set3_grown (w.heap.size + 1) w8 _ _ _).block b (HM8.out.at_.lt b hb).2 (fun e => by injection e with e; have := (HM8.out.at_.lt b hb).1; omega))
      obtain ⟨_, _, e8, h9⟩ := h8.newI8
      cases e8
      exact h9.mono (by omega)
    · exact (HB7.out.trans (hb78.mono (by have := HS7.out; omega))).trans ((set3 (w.heap.size + 1) w8 _ _ _).mono (by omega))
end Go.Proofs.Ytefnmjoapmnkbaa
set_option linter.unusedVariables false
namespace Go.Proofs.Ytefnmjoapmnkbaa
open Go.RowKit

set_option maxRecDepth 100000 in
set_option maxHeartbeats 16000000 in
theorem put_one (a : Option Addr) (cap : Nat) (a' : Option Addr) (cap' : Nat) (r : Int) (b : Option Addr) (cab : Nat) (c : Option Addr) (cac : Nat) (w : World) (xs : List Cel) (ts ps : List Int) (t : Tm) (hx : Row w a cap xs) (ht : Row w a' cap' ts) (hT : Row w b cab t.flat) (hp : Row w c cac ps)
    (hok : t.ok) (h200 : t.flat.length ≤ 200) (hl : xs.length ≤ 5000) (hl2 : ts.length ≤ 800000) (hl3 : ps.length ≤ 1000) (hkn : (varsL t.flat).all (knownV xs.length ps) = true) (hvi : VarsIn (widenL ps (varsL t.flat)).length t)
    (S : (List Cel × List Int) × Int) (hS : S = putS xs (widenL ps (varsL t.flat)) t) (h3 : (t.hd.k ≠ 3 ∧ t.hd.k ≠ 1) ∨ t.hd.k = 1 ∧ ∃ (k : Nat) (hk : k < (widenL ps (varsL t.flat)).length), t.hd.n = k ∧ (widenL ps (varsL t.flat))[k] = -1) :
    Calls Try.prog 20 #[hv a xs.length cap a' ts.length cap' r, .slice b t.flat.length cab, .slice c ps.length cac] w (HPPost w xs ts ps r S) := by
  have hb1 := ((Below.refl w.heap.size w).new (.cells #[.slice a xs.length cap, .slice a' ts.length cap', .int .i64 r] 25)).new (.cells #[.slice none 0 0, .slice none 0 0, .int .i64 0] 25)
  have e0 : ((w.alloc (.cells #[.slice a xs.length cap, .slice a' ts.length cap', .int .i64 r] 25)).alloc (.cells #[.slice none 0 0, .slice none 0 0, .int .i64 0] 25)).cell? ⟨w.heap.size, 0, none⟩ = some (.slice a xs.length cap) := keep (World.cell?_alloc_at _ _ w.heap.size 0 rfl) ((Below.refl _ _).new _)
  have e1 : ((w.alloc (.cells #[.slice a xs.length cap, .slice a' ts.length cap', .int .i64 r] 25)).alloc (.cells #[.slice none 0 0, .slice none 0 0, .int .i64 0] 25)).cell? ⟨w.heap.size, 1, none⟩ = some (.slice a' ts.length cap') := keep (World.cell?_alloc_at _ _ w.heap.size 1 rfl) ((Below.refl _ _).new _)
  have e2 : ((w.alloc (.cells #[.slice a xs.length cap, .slice a' ts.length cap', .int .i64 r] 25)).alloc (.cells #[.slice none 0 0, .slice none 0 0, .int .i64 0] 25)).cell? ⟨w.heap.size, 2, none⟩ = some (.int .i64 r) := keep (World.cell?_alloc_at _ _ w.heap.size 2 rfl) ((Below.refl _ _).new _)
  have f2 : ((w.alloc (.cells #[.slice a xs.length cap, .slice a' ts.length cap', .int .i64 r] 25)).alloc (.cells #[.slice none 0 0, .slice none 0 0, .int .i64 0] 25)).cell? ⟨w.heap.size + 1, 0, none⟩ = some (.slice none 0 0) := World.cell?_alloc_at _ _ _ 0 (by simp)
  have f3 : ((w.alloc (.cells #[.slice a xs.length cap, .slice a' ts.length cap', .int .i64 r] 25)).alloc (.cells #[.slice none 0 0, .slice none 0 0, .int .i64 0] 25)).cell? ⟨w.heap.size + 1, 1, none⟩ = some (.slice none 0 0) := World.cell?_alloc_at _ _ _ 1 (by simp)
  have f4 : ((w.alloc (.cells #[.slice a xs.length cap, .slice a' ts.length cap', .int .i64 r] 25)).alloc (.cells #[.slice none 0 0, .slice none 0 0, .int .i64 0] 25)).cell? ⟨w.heap.size + 1, 2, none⟩ = some (.int .i64 0) := World.cell?_alloc_at _ _ _ 2 (by simp)
  have z2 : ((w.alloc (.cells #[.slice a xs.length cap, .slice a' ts.length cap', .int .i64 r] 25)).alloc (.cells #[.slice none 0 0, .slice none 0 0, .int .i64 0] 25)).frozen? ⟨w.heap.size + 1, 0, none⟩ = false := by simp [go_sem]
  have z3 : ((w.alloc (.cells #[.slice a xs.length cap, .slice a' ts.length cap', .int .i64 r] 25)).alloc (.cells #[.slice none 0 0, .slice none 0 0, .int .i64 0] 25)).frozen? ⟨w.heap.size + 1, 1, none⟩ = false := by simp [go_sem]
  have z4 : ((w.alloc (.cells #[.slice a xs.length cap, .slice a' ts.length cap', .int .i64 r] 25)).alloc (.cells #[.slice none 0 0, .slice none 0 0, .int .i64 0] 25)).frozen? ⟨w.heap.size + 1, 2, none⟩ = false := by simp [go_sem]
  have HRF := mkHid (right_flat hok h200)
  have HKN := mkHid hkn
  have HVI := mkHid hvi
  have HOK := mkHid hok
  have HX := mkHid hx
  have HT := mkHid ht
  have HTT := mkHid hT
  have HPP := mkHid hp
  obtain ⟨tb, toff, rfl, t0, t1, t2, tf⟩ := row_hd hT
  have hcab := hT.le
  have hcab2 := hT.max
  have hpos := flat_pos t
  have hxm := hx.max
  have hxl := hx.le
  clear hok hkn hvi hx ht hT hp
  go_enter Try.func20, Try.ntmps20
  go_wp2_with fail
  obtain ⟨W, hW⟩ : ∃ W, ((w.alloc (.cells #[.slice a xs.length cap, .slice a' ts.length cap', .int .i64 r] 25)).alloc (.cells #[.slice none 0 0, .slice none 0 0, .int .i64 0] 25)) = W := ⟨_, rfl⟩
  have hsz : W.heap.size = w.heap.size + 2 := by rw [← hW]; simp
  rw [hW] at e0 e1 e2 f2 f3 f4 z2 z3 z4 hb1 ⊢
  have HSZ := mkHid hsz
  clear hW hsz
  refine (right_any (some ⟨tb, toff, none⟩) cab W t.flat (HTT.out.below hb1)).mono ?_
  rintro e w1 ⟨rfl, hb2⟩
  rw [HRF.out]
  have y0 := keep e0 hb2
  go_wp2_with fail
  refine (known_any a xs.length cap (some ⟨tb, toff, none⟩) cab c cac w1 t.flat ps ((HTT.out.below hb1).below hb2) ((HPP.out.below hb1).below hb2) HRF.out (by omega)).mono ?_
  rintro e w2 ⟨rfl, hb3⟩
  rw [HKN.out]
  have hb23 := hb2.then hb3
  clear y0
  have y0 := keep e0 hb23
  go_wp2_with fail
  have hbw2 := hb1.then hb23
  refine (cloneS_own a cap _ w2 xs rfl (HX.out.below hbw2) (by omega)).mono ?_
  rintro e w3 ⟨v1, rfl, hown1, hb4⟩
  have hA1 := AccInv.okC w3 hown1 HX.out.fit
  obtain ⟨a1, c1, rfl, _⟩ := hA1.row
  have HA1 := mkHid hA1
  have hbw3 := hbw2.then hb4
  clear hown1 hA1 y0
  go_wp2_with fail
  refine (widened_any c cac (some ⟨tb, toff, none⟩) cab w3 ps t.flat (HPP.out.below hbw3) (HTT.out.below hbw3) HRF.out hl3 (by omega)).mono ?_
  rintro e w4 ⟨⟨v2, rfl, hA2⟩, hb5⟩
  obtain ⟨a2, c2, rfl, _⟩ := hA2.row
  have HA2 := mkHid hA2
  have hbw4 := hbw3.then hb5
  have hb25 := (hb23.then hb4).then hb5
  clear hA2
  obtain ⟨wps, hwps⟩ : ∃ q, q = widenL ps (varsL t.flat) := ⟨_, rfl⟩
  rw [← hwps] at HA2 HVI ⊢
  rw [← hwps] at hS h3
  have HS := mkHid hS
  have HHYP := mkHid h3
  clear hS hwps h3
  have hM4 : LM (w4.alloc (.cells #[.slice a1 xs.length c1, .slice a2 wps.length c2] 91)) (w.heap.size + 2) w4.heap.size (.slice a1 xs.length c1) (.slice a2 wps.length c2) xs wps := by
    have hbn := (Below.refl w4.heap.size w4).new (.cells #[.slice a1 xs.length c1, .slice a2 wps.length c2] 91)
    have hz2 : w.heap.size + 2 ≤ w2.heap.size := by have := HSZ.out; have := hb23.size; omega
    have hz3 := hb4.size
    have hz4 := hb5.size
    refine ⟨heap_alloc_new w4 _, ((HA1.out.below hb5).below hbn).monoB hz2, (HA2.out.below hbn).monoB (by omega), fun e => ?_, fun e => ?_, fun q e e2 => ?_, by omega⟩
    · have := (HA1.out.lt _ e).2; omega
    · have := (HA2.out.lt _ e).2; omega
    · have := (HA1.out.lt _ e).2; have := (HA2.out.lt _ e2).1; omega
  have HM4 := mkHid hM4
  have hb45 : Below W.heap.size W (w4.alloc (.cells #[.slice a1 xs.length c1, .slice a2 wps.length c2] 91)) := hb25.new _
  have hbw5 := hb1.then hb45
  have E0 := keep e0 hb45
  have E1 := keep e1 hb45
  have E2 := keep e2 hb45
  have F2 := keep f2 hb45
  have F3 := keep f3 hb45
  have F4 := keep f4 hb45
  have hfr : ∀ k, (w4.alloc (.cells #[.slice a1 xs.length c1, .slice a2 wps.length c2] 91)).frozen? ⟨w.heap.size + 1, k, none⟩ = W.frozen? ⟨w.heap.size + 1, k, none⟩ := fun k => hb45.frozen (p := ⟨w.heap.size + 1, k, none⟩) (by have := HSZ.out; simp; omega)
  have Z2 := (hfr 0).trans z2
  have Z3 := (hfr 1).trans z3
  have Z4 := (hfr 2).trans z4
  have hLs : w.heap.size + 2 ≤ w4.heap.size := hM4.hB
  have HLS := mkHid hLs
  have T0 := keep t0 hbw5
  have T1 := keep t1 hbw5
  have T2 := keep t2 hbw5
  have HTV : Hid (Row (veil (lB w4.heap.size (.slice a1 xs.length c1) (.slice a2 wps.length c2)) (w4.alloc (.cells #[.slice a1 xs.length c1, .slice a2 wps.length c2] 91))) (some ⟨tb, toff, none⟩) cab t.flat) :=
    HTT.out.keeps (veil_fresh (Keeps.of hbw5) fun k hk => by have := (hM4.allB k hk).1; omega)
  clear hM4 e0 e1 e2 f2 f3 f4 z2 z3 z4 hfr hb25 hbw4 hb5 hbw3 hb4 hbw2 hb23 hb3 hb2 HA1 HA2 t0 t1 t2
  go_wp2_with fail
  generalize (w4.alloc (.cells #[.slice a1 xs.length c1, .slice a2 wps.length c2] 91)) = W4 at *
  generalize hLL : w4.heap.size = L at *
  clear hLL
  have hway : Calls Try.prog 63 #[.pointer (some ⟨L, 0, none⟩), t.hd.v] W4 fun e W' => e = .returned (.func (.func 113) #[.pointer (some ⟨L, 0, none⟩)] #[]) ∧ Below W4.heap.size W4 W' := by
    rcases HHYP.out with ⟨h1, h2⟩ | ⟨h1, k, hk, hn, hpk⟩
    · exact way_int W4 L t.hd h1 h2
    · exact way_var W4 (w.heap.size + 2) L _ _ xs wps t.hd HM4.out h1 k hk hn _ (by rw [if_pos hpk])
  refine hway.mono ?_
  rintro e W5 ⟨rfl, hbW⟩
  have HM5 := mkHid (HM4.out.below hbW)
  have HTV5 := mkHid (HTV.out.keeps (lB_keeps HM4.out (Fr.of hbW) (.inl rfl)))
  have HB5 : Hid (Below (w.heap.size + 2) W4 W5) := HM4.out.frB (Fr.of hbW)
  clear T0 T1 T2
  go_wp2_with fail
  refine (single_any W5 (w.heap.size + 2) L _ _ xs wps t (some ⟨tb, toff, none⟩) cab HM5.out (HTV5.out.keeps (veil_keeps _ _)) (by omega) HVI.out).mono ?_
  rintro e W6 ⟨rfl, vc6, hM6, hF6, hN6⟩
  have hSS : S = ((xs ++ [(slotM xs.length wps t.hd).1], (slotM xs.length wps t.hd).2), (xs.length : Int)) := by
    rw [HS.out, putS]
    rcases HHYP.out with ⟨h1, h2⟩ | ⟨h1, k, hk, hn, hpk⟩
    · rw [if_neg h1, if_neg (fun h => h2 h.1)]
    · rw [if_neg (by omega), if_neg]
      rintro ⟨_, h3⟩
      apply h3
      rw [hn, Int.toNat_natCast, List.getD_eq_getElem?_getD, List.getElem?_eq_getElem hk]
      exact hpk
  have HM6 : Hid (LM W6 (w.heap.size + 2) L vc6 (.slice a2 wps.length c2) S.1.1 S.1.2) := by rw [hSS]; exact hM6
  have HPL : Hid (S.2 = (xs.length : Int)) := by rw [Hid, hSS]
  have HB6 : Hid (Below (w.heap.size + 2) W4 W6) := HB5.out.trans (HM5.out.frB hF6)
  clear hM6 hF6 hN6 hSS
  obtain ⟨a6, c6, e6, _⟩ := HM6.out.cells.row
  subst e6
  obtain ⟨a7, c7, e7, _⟩ := HM6.out.at_.row
  have HV2 := mkHid e7
  rw [e7] at HM6
  clear e7
  have X0 := (HB6.out.cell (p := ⟨w.heap.size, 0, none⟩) (by simp)).trans E0
  have X1 := (HB6.out.cell (p := ⟨w.heap.size, 1, none⟩) (by simp)).trans E1
  have X2 := (HB6.out.cell (p := ⟨w.heap.size, 2, none⟩) (by simp)).trans E2
  have G2 := (HB6.out.cell (p := ⟨w.heap.size + 1, 0, none⟩) (by simp)).trans F2
  have G3 := (HB6.out.cell (p := ⟨w.heap.size + 1, 1, none⟩) (by simp)).trans F3
  have G4 := (HB6.out.cell (p := ⟨w.heap.size + 1, 2, none⟩) (by simp)).trans F4
  have Y2 := (HB6.out.frozen (p := ⟨w.heap.size + 1, 0, none⟩) (by simp)).trans Z2
  have Y3 := (HB6.out.frozen (p := ⟨w.heap.size + 1, 1, none⟩) (by simp)).trans Z3
  have Y4 := (HB6.out.frozen (p := ⟨w.heap.size + 1, 2, none⟩) (by simp)).trans Z4
  have C0 := HM6.out.c0
  have HBW : Hid (Below w.heap.size w W6) := hbw5.trans (HB6.out.mono (by omega))
  clear E0 E1 E2 F2 F3 F4 Z2 Z3 Z4
  go_wp2_with fail
  go_quiet (fail)
  have hdr : Below W6.heap.size W6 (W6.drewN nq) := below_drewN (Below.refl _ _) _
  have HM7 := mkHid (HM6.out.below hdr)
  have x0 := keep X0 hdr
  have x1 := keep X1 hdr
  have x2 := keep X2 hdr
  have g2 := keep G2 hdr
  have g3 := keep G3 hdr
  have g4 := keep G4 hdr
  have hsz6 : w.heap.size + 2 ≤ W6.heap.size := by have := HM6.out.hB; have := HM6.out.lt; omega
  have hfr : ∀ k, (W6.drewN nq).frozen? ⟨w.heap.size + 1, k, none⟩ = W6.frozen? ⟨w.heap.size + 1, k, none⟩ := fun k => hdr.frozen (p := ⟨w.heap.size + 1, k, none⟩) (by simp; omega)
  have y2 := (hfr 0).trans Y2
  have y3 := (hfr 1).trans Y3
  have y4 := (hfr 2).trans Y4
  have HB7 : Hid (Below w.heap.size w (W6.drewN nq)) := HBW.out.then hdr
  have hs7 : w.heap.size + 2 ≤ (W6.drewN nq).heap.size := Nat.le_trans hsz6 hdr.size
  have HS7 := mkHid hs7
  clear X0 X1 X2 G2 G3 G4 Y2 Y3 Y4 C0 hdr hfr hsz6 hs7
  by_cases hgt : (S.1.1.length : Int) > r
  · have HGT := mkHid hgt
    go_wp2_with fail
    generalize W6.drewN nq = W7 at *
    refine (hcopied_any a cap a' cap' r W7 xs ts (HX.out.below HB7.out) (HT.out.below HB7.out) (by omega) (by omega)).mono ?_
    rintro e w8 ⟨a8, c8, a9, c9, rfl, hn8, hn9, hb8⟩
    have k2 := keep g2 hb8
    have k3 := keep g3 hb8
    have k4 := keep g4 hb8
    have q2 := (hb8.frozen (p := ⟨w.heap.size + 1, 0, none⟩) (by have := HS7.out; simp; omega)).trans y2
    have q3 := (hb8.frozen (p := ⟨w.heap.size + 1, 1, none⟩) (by have := HS7.out; simp; omega)).trans y3
    have q4 := (hb8.frozen (p := ⟨w.heap.size + 1, 2, none⟩) (by have := HS7.out; simp; omega)).trans y4
    go_wp2_with fail
    refine bodyPost_ret (v := .tuple #[hv a8 xs.length c8 a9 ts.length c9 r, .int .i64 0, .slice none 0 0, .int .i64 80]) (by simp [results, Try.results20, go_sem, k2, k3, k4]) rfl ⟨xs, 0, [], 80, a8, c8, a9, c9, none, 0, rfl, .inl ⟨HGT.out, rfl, rfl, rfl, rfl⟩, ?_, ?_, ?_, ?_⟩
    · exact (hn8.grown (set3_grown (w.heap.size + 1) _ _ _ _) (fun g e => by cases e; have := HS7.out; omega)).mono (by have := HS7.out; omega)
    · exact (hn9.grown (set3_grown (w.heap.size + 1) _ _ _ _) (fun g e => by cases e; have := HS7.out; omega)).mono (by have := HS7.out; omega)
    · exact NewRow.empty _ _ _ _ (by omega) (fun _ => rfl)
    · exact (HB7.out.then hb8).trans ((set3 (w.heap.size + 1) _ _ _ _).mono (by omega))
  · have HGT := mkHid hgt
    go_wp2_with fail
    generalize W6.drewN nq = W7 at *
    have c0 := HM7.out.c0
    have c1 := HM7.out.c1
    have HLN : Hid (L ≠ w.heap.size + 1) := by have := HLS.out; rw [Hid]; omega
    have hT7 : Row W7.drew a' cap' ts := (HT.out.below HB7.out).below (Below.refl _ _).drew
    have HT7 := mkHid hT7
    clear hT7
    go_region_held3 (fun w' => w'.cell? ⟨L, 0, none⟩ = some (.slice a6 S.1.1.length c6) ∧ w'.cell? ⟨L, 1, none⟩ = some (.slice a7 S.1.2.length c7) ∧ w'.cell? ⟨w.heap.size, 1, none⟩ = some (.slice a' ts.length cap') ∧ w'.cell? ⟨w.heap.size, 2, none⟩ = some (.int .i64 r))
      (first
        | exact ⟨c0, c1, x1, x2⟩
        | exact ⟨keep (w := W7.drew) c0 hb8, keep (w := W7.drew) c1 hb8, keep (w := W7.drew) x1 hb8, keep (w := W7.drew) x2 hb8⟩
        | exact ⟨setK3 _ _ _ _ _ _ HLN.out (keep (w := W7.drew) c0 hb8), setK3 _ _ _ _ _ _ HLN.out (keep (w := W7.drew) c1 hb8), setK3 _ _ _ _ _ _ (by omega) (keep (w := W7.drew) x1 hb8), setK3 _ _ _ _ _ _ (by omega) (keep (w := W7.drew) x2 hb8)⟩)
      ((go_at_call 64; refine (cloneI_new _ a' cap' W7.drew ts rfl HT7.out (by omega)).mono ?_; rintro e w8 ⟨a9, c9, rfl, hn9, hb8⟩; have k2 := keep (w := W7.drew) g2 hb8; have k3 := keep (w := W7.drew) g3 hb8; have k4 := keep (w := W7.drew) g4 hb8; have q2 := (hb8.frozen (p := ⟨w.heap.size + 1, 0, none⟩) (show w.heap.size + 1 < W7.heap.size by have := HS7.out; omega)).trans y2; have q3 := (hb8.frozen (p := ⟨w.heap.size + 1, 1, none⟩) (show w.heap.size + 1 < W7.heap.size by have := HS7.out; omega)).trans y3; have q4 := (hb8.frozen (p := ⟨w.heap.size + 1, 2, none⟩) (show w.heap.size + 1 < W7.heap.size by have := HS7.out; omega)).trans y4))
    go_wp2_with fail
    have hb78 : Below W7.heap.size W7 w8 := (Below.refl W7.heap.size W7).drew.trans hb8
    have HM8 := mkHid (HM7.out.below hb78)
    refine bodyPost_ret (v := .tuple #[hv a6 S.1.1.length c6 a9 ts.length c9 r, .int .i64 (xs.length : Int), .slice a7 S.1.2.length c7, .int .i64 0]) (by simp [results, Try.results20, go_sem, k2, k3, k4]) rfl ⟨S.1.1, S.2, S.1.2, 0, a6, c6, a9, c9, a7, c7, by rw [HPL.out], .inr ⟨by have := HGT.out; omega, rfl, rfl, rfl, rfl⟩, ?_, ?_, ?_, ?_⟩
    · have h8 := HM8.out.cells.blockC (w' := ((w8.setCell ⟨w.heap.size + 1, 0, none⟩ (.slice a6 S.1.1.length c6)).setCell ⟨w.heap.size + 1, 1, none⟩ (.slice a9 ts.length c9)).setCell ⟨w.heap.size + 1, 2, none⟩ (.int .i64 r)) (fun b hb => (set3_grown (w.heap.size + 1) w8 _ _ _).block b (HM8.out.cells.lt b hb).2 (fun e => by injection e with e; have := (HM8.out.cells.lt b hb).1; omega))
      obtain ⟨_, _, e8, h9⟩ := h8.newC8
      cases e8
      exact h9.mono (by omega)
    · exact (hn9.grown (set3_grown (w.heap.size + 1) _ _ _ _) (fun g e => by cases e; show w.heap.size + 1 < W7.heap.size; have := HS7.out; omega)).mono (show w.heap.size ≤ W7.heap.size by have := HS7.out; omega)
    · have h8 := HM8.out.at_.blockI (w' := ((w8.setCell ⟨w.heap.size + 1, 0, none⟩ (.slice a6 S.1.1.length c6)).setCell ⟨w.heap.size + 1, 1, none⟩ (.slice a9 ts.length c9)).setCell ⟨w.heap.size + 1, 2, none⟩ (.int .i64 r)) (fun b hb => (set3_grown (w.heap.size + 1) w8 _ _ _).block b (HM8.out.at_.lt b hb).2 (fun e => by injection e with e; have := (HM8.out.at_.lt b hb).1; omega))
      obtain ⟨_, _, e8, h9⟩ := h8.newI8
      cases e8
      exact h9.mono (by omega)
    · exact (HB7.out.trans (hb78.mono (by have := HS7.out; omega))).trans ((set3 (w.heap.size + 1) w8 _ _ _).mono (by omega))
end Go.Proofs.Ytefnmjoapmnkbaa
set_option linter.unusedVariables false
namespace Go.Proofs.Ytefnmjoapmnkbaa
open Go.RowKit

theorem widen_grow (vs : List Int) : ∀ ps : List Int, ps.length ≤ (widenL ps vs).length := by
  induction vs with
  | nil => intro ps; exact Nat.le_refl _
  | cons v vs ih =>
    intro ps
    unfold widenL at ih ⊢
    rw [List.foldl_cons]
    exact Nat.le_trans (by simp) (ih _)
theorem widen_covers (vs : List Int) : ∀ ps : List Int, ∀ v ∈ vs, v < ((widenL ps vs).length : Int) := by
  induction vs with
  | nil => intro ps v hv; cases hv
  | cons u vs ih =>
    intro ps v hv
    have hg := widen_grow vs (ps ++ List.replicate ((u + 1).toNat - ps.length) (-1))
    unfold widenL at ih hg ⊢
    rw [List.foldl_cons]
    rcases List.mem_cons.1 hv with rfl | hv
    · simp at hg
      omega
    · exact ih _ v hv
theorem widen_vars {t : Tm} (hok : t.ok) (ps : List Int) : VarsIn (widenL ps (varsL t.flat)).length t := by
  intro c hc h1
  exact ⟨(var_range (ok_cells t hok c hc) h1).1, widen_covers _ _ _ (mem_varsL hc h1)⟩
/-- heap.Put at a right term whose variables stand at slots, or nowhere -/
theorem hput_any (a : Option Addr) (cap : Nat) (a' : Option Addr) (cap' : Nat) (r : Int) (b : Option Addr) (cab : Nat) (c : Option Addr) (cac : Nat) (w : World) (xs : List Cel) (ts ps : List Int) (t : Tm) (hx : Row w a cap xs) (ht : Row w a' cap' ts) (hT : Row w b cab t.flat) (hp : Row w c cac ps)
    (hok : t.ok) (h200 : t.flat.length ≤ 200) (hl : xs.length ≤ 5000) (hl2 : ts.length ≤ 800000) (hl3 : ps.length ≤ 1000) (hkn : (varsL t.flat).all (knownV xs.length ps) = true) :
    Calls Try.prog 20 #[hv a xs.length cap a' ts.length cap' r, .slice b t.flat.length cab, .slice c ps.length cac] w (HPPost w xs ts ps r (putS xs (widenL ps (varsL t.flat)) t)) := by
  have hvi := widen_vars hok ps
  by_cases h3 : t.hd.k = 3
  · exact put_fun a cap a' cap' r b cab c cac w xs ts ps t hx ht hT hp hok h200 hl hl2 hl3 hkn hvi _ rfl h3
  by_cases h1 : t.hd.k = 1
  · obtain ⟨h5, h6⟩ := hvi.hd h1
    have hk : t.hd.n.toNat < (widenL ps (varsL t.flat)).length := by omega
    by_cases hq : (widenL ps (varsL t.flat))[t.hd.n.toNat] = -1
    · exact put_one a cap a' cap' r b cab c cac w xs ts ps t hx ht hT hp hok h200 hl hl2 hl3 hkn hvi _ rfl (.inr ⟨h1, t.hd.n.toNat, hk, by omega, hq⟩)
    · exact put_sta a cap a' cap' r b cab c cac w xs ts ps t hx ht hT hp hok h200 hl hl2 hl3 hkn hvi _ rfl ⟨h1, t.hd.n.toNat, hk, by omega, hq⟩
  · exact put_one a cap a' cap' r b cab c cac w xs ts ps t hx ht hT hp hok h200 hl hl2 hl3 hkn hvi _ rfl (.inl ⟨h3, h1⟩)
end Go.Proofs.Ytefnmjoapmnkbaa
set_option linter.unusedVariables false
namespace Go.Proofs.Ytefnmjoapmnkbaa
open Go.RowKit

/-! ### the document's own: right slots -/
theorem right_one (c : Cel) (h : c.k = 2) : rightB [c] = (decide (c.s.toList = []) && decide (-2147483647 ≤ c.n) && decide (c.n ≤ 2147483647)) := by
  cases h1 : (decide (c.s.toList = []) && decide (-2147483647 ≤ c.n) && decide (c.n ≤ 2147483647)) with
  | true =>
    refine right_of_sk ?_ ?_ (by simp)
    · unfold cellOk
      simp at h1
      simp [h, h1]
    · rw [show ar c = 0 by unfold ar; rw [if_neg (by omega)]]; rfl
  | false =>
    cases h2 : rightB [c] with
    | false => rfl
    | true =>
      obtain ⟨d, l, e, hc, _, _⟩ := right_sk h2
      cases e
      unfold cellOk at hc
      simp [h] at hc
      simp [hc] at h1
theorem right_fun (s : ByteArray) : rightB [⟨3, s, 0⟩] = nameOk s := by
  cases h1 : nameOk s with
  | true =>
    refine right_of_sk (by unfold cellOk; simp [h1]) ?_ (by simp)
    rw [show ar ⟨3, s, 0⟩ = 0 by unfold ar; simp]; rfl
  | false =>
    cases h2 : rightB [⟨3, s, 0⟩] with
    | false => rfl
    | true =>
      obtain ⟨d, l, e, hc, _, _⟩ := right_sk h2
      cases e
      unfold cellOk at hc
      simp [h1] at hc
section
variable (a : Option Addr) (cap : Nat) (a' : Option Addr) (n' cap' : Nat) (r : Int) (k : Nat) (w : World) (l : List Cel) (hr : Row w a cap l) (hk : k < l.length)
include hr hk
set_option maxHeartbeats 1600000 in
theorem refslot_one (hkk : l[k].k = 1) :
    Calls Try.prog 54 #[hv a l.length cap a' n' cap' r, .int .i64 k] w fun e w' => e = .returned (.bool (slotB l k l[k])) ∧ Below w.heap.size w w' := by
  have hm := hr.max
  have hm2 := hr.le
  obtain ⟨b, off, rfl, hb, hat⟩ := hr.cases.resolve_left (fun e => by simp [e] at hk)
  obtain ⟨c0, c1, c2, hf⟩ := cel_at hat (Below.refl _ _) hk
  have n1 := hf.n1
  have n2 := hf.n2
  have HA : Hid (slotB l k l[k] = (decide (l[k].s.toList = []) && (decide (0 ≤ l[k].n) && decide (l[k].n < (l.length : Int))))) := by rw [Hid, slotB, if_pos hkk]; rfl
  generalize slotB l k l[k] = ans at *
  generalize l[k] = c at *
  obtain ⟨ck, cs, cn⟩ := c
  dsimp only at *
  subst hkk
  have hb0 := ((Below.refl w.heap.size w).new (.cells #[.slice (some ⟨b, off, none⟩) l.length cap, .slice a' n' cap', .int .i64 r] 25)).new (.cells #[.int .i64 1, .string cs, .int .i64 cn] 80)
  have x0 := keep c0 ((Below.refl w.heap.size w).new (.cells #[.slice (some ⟨b, off, none⟩) l.length cap, .slice a' n' cap', .int .i64 r] 25))
  have x1 := keep c1 ((Below.refl w.heap.size w).new (.cells #[.slice (some ⟨b, off, none⟩) l.length cap, .slice a' n' cap', .int .i64 r] 25))
  have x2 := keep c2 ((Below.refl w.heap.size w).new (.cells #[.slice (some ⟨b, off, none⟩) l.length cap, .slice a' n' cap', .int .i64 r] 25))
  cases hs : decide (cs.toList = []) with
  | false =>
    have HE : Hid (false = ans) := by rw [Hid, HA.out, hs, Bool.false_and]
    have hne : ¬ cs.toList = [] := by simpa using hs
    have hq : (cs.toList == []) = false := by simpa using hne
    clear HA hs
    go_enter Try.func54, Try.ntmps54
    go_wp2_with fail
    go_ret
    exact ⟨ret_bool HE.out, hb0⟩
  | true =>
    have hq0 : cs.toList = [] := by simpa using hs
    have HE : Hid ((decide (0 ≤ cn) && decide (cn < (l.length : Int))) = ans) := by rw [Hid, HA.out, hs, Bool.true_and]
    clear HA hs
    generalize hqq : (decide (0 ≤ cn) && decide (cn < (l.length : Int))) = q at HE
    have HQ := mkHid hqq
    clear hqq
    go_enter Try.func54, Try.ntmps54
    go_wp2_with fail
    refine (refis_any _ _ _ _ _ _ _ _ _).mono ?_
    rintro e w1 ⟨rfl, hb1⟩
    rw [HQ.out]
    go_wp2_with fail
    go_ret
    exact ⟨ret_bool HE.out, hb0.then hb1⟩
set_option maxHeartbeats 1600000 in
theorem refslot_num (hkk : l[k].k = 2) :
    Calls Try.prog 54 #[hv a l.length cap a' n' cap' r, .int .i64 k] w fun e w' => e = .returned (.bool (slotB l k l[k])) ∧ Below w.heap.size w w' := by
  have hm := hr.max
  have hm2 := hr.le
  obtain ⟨b, off, rfl, hb, hat⟩ := hr.cases.resolve_left (fun e => by simp [e] at hk)
  obtain ⟨c0, c1, c2, hf⟩ := cel_at hat (Below.refl _ _) hk
  have n1 := hf.n1
  have n2 := hf.n2
  have HA : Hid (slotB l k l[k] = (decide (l[k].s.toList = []) && decide (-2147483647 ≤ l[k].n) && decide (l[k].n ≤ 2147483647))) := by rw [Hid, slotB, if_neg (by omega), if_pos hkk]; exact right_one ⟨2, l[k].s, l[k].n⟩ rfl
  generalize slotB l k l[k] = ans at *
  generalize l[k] = c at *
  obtain ⟨ck, cs, cn⟩ := c
  dsimp only at *
  subst hkk
  have hb0 := ((Below.refl w.heap.size w).new (.cells #[.slice (some ⟨b, off, none⟩) l.length cap, .slice a' n' cap', .int .i64 r] 25)).new (.cells #[.int .i64 2, .string cs, .int .i64 cn] 80)
  have x0 := keep c0 ((Below.refl w.heap.size w).new (.cells #[.slice (some ⟨b, off, none⟩) l.length cap, .slice a' n' cap', .int .i64 r] 25))
  have x1 := keep c1 ((Below.refl w.heap.size w).new (.cells #[.slice (some ⟨b, off, none⟩) l.length cap, .slice a' n' cap', .int .i64 r] 25))
  have x2 := keep c2 ((Below.refl w.heap.size w).new (.cells #[.slice (some ⟨b, off, none⟩) l.length cap, .slice a' n' cap', .int .i64 r] 25))
  cases hs : decide (cs.toList = []) with
  | false =>
    have HE : Hid (false = ans) := by rw [Hid, HA.out, hs]; rfl
    have hne : ¬ cs.toList = [] := by simpa using hs
    have hq : (cs.toList == []) = false := by simpa using hne
    clear HA hs
    go_enter Try.func54, Try.ntmps54
    go_wp2_with fail
    go_ret
    exact ⟨ret_bool HE.out, hb0⟩
  | true =>
    have hq0 : cs.toList = [] := by simpa using hs
    have HE : Hid ((decide (-2147483647 ≤ cn) && decide (cn ≤ 2147483647)) = ans) := by rw [Hid, HA.out, hs, Bool.true_and]
    clear HA hs
    by_cases h1 : -2147483647 ≤ cn
    · by_cases h2 : cn ≤ 2147483647
      · have HT : Hid (true = ans) := by rw [Hid, ← HE.out, decide_eq_true h1, decide_eq_true h2]; rfl
        clear HE
        go_enter Try.func54, Try.ntmps54
        go_wp2_with fail
        go_ret
        exact ⟨ret_bool HT.out, hb0⟩
      · have HT : Hid (false = ans) := by rw [Hid, ← HE.out, decide_eq_true h1, decide_eq_false h2]; rfl
        clear HE
        go_enter Try.func54, Try.ntmps54
        go_wp2_with fail
        go_ret
        exact ⟨ret_bool HT.out, hb0⟩
    · have HT : Hid (false = ans) := by rw [Hid, ← HE.out, decide_eq_false h1]; rfl
      clear HE
      go_enter Try.func54, Try.ntmps54
      go_wp2_with fail
      go_ret
      exact ⟨ret_bool HT.out, hb0⟩
set_option maxHeartbeats 1600000 in
theorem refslot_ptr (hkk : l[k].k = 3) :
    Calls Try.prog 54 #[hv a l.length cap a' n' cap' r, .int .i64 k] w fun e w' => e = .returned (.bool (slotB l k l[k])) ∧ Below w.heap.size w w' := by
  have hm := hr.max
  have hm2 := hr.le
  obtain ⟨b, off, rfl, hb, hat⟩ := hr.cases.resolve_left (fun e => by simp [e] at hk)
  obtain ⟨c0, c1, c2, hf⟩ := cel_at hat (Below.refl _ _) hk
  have n1 := hf.n1
  have n2 := hf.n2
  have HA : Hid (slotB l k l[k] = (decide (l[k].s.toList = []) && ptrB l l[k].n)) := by rw [Hid, slotB, if_neg (by omega), if_neg (by omega), if_pos hkk]
  generalize slotB l k l[k] = ans at *
  generalize l[k] = c at *
  obtain ⟨ck, cs, cn⟩ := c
  dsimp only at *
  subst hkk
  have hb0 := ((Below.refl w.heap.size w).new (.cells #[.slice (some ⟨b, off, none⟩) l.length cap, .slice a' n' cap', .int .i64 r] 25)).new (.cells #[.int .i64 3, .string cs, .int .i64 cn] 80)
  have x0 := keep c0 ((Below.refl w.heap.size w).new (.cells #[.slice (some ⟨b, off, none⟩) l.length cap, .slice a' n' cap', .int .i64 r] 25))
  have x1 := keep c1 ((Below.refl w.heap.size w).new (.cells #[.slice (some ⟨b, off, none⟩) l.length cap, .slice a' n' cap', .int .i64 r] 25))
  have x2 := keep c2 ((Below.refl w.heap.size w).new (.cells #[.slice (some ⟨b, off, none⟩) l.length cap, .slice a' n' cap', .int .i64 r] 25))
  cases hs : decide (cs.toList = []) with
  | false =>
    have HE : Hid (false = ans) := by rw [Hid, HA.out, hs, Bool.false_and]
    have hne : ¬ cs.toList = [] := by simpa using hs
    have hq : (cs.toList == []) = false := by simpa using hne
    clear HA hs
    go_enter Try.func54, Try.ntmps54
    go_wp2_with fail
    go_ret
    exact ⟨ret_bool HE.out, hb0⟩
  | true =>
    have hq0 : cs.toList = [] := by simpa using hs
    by_cases hin : 0 ≤ cn ∧ cn < (l.length : Int)
    · obtain ⟨j, rfl⟩ : ∃ j : Nat, cn = j := ⟨cn.toNat, by omega⟩
      have hj : j < l.length := by omega
      have hn : (decide (0 ≤ (j : Int)) && decide ((j : Int) < (l.length : Int))) = true := by rw [← Bool.decide_and]; exact decide_eq_true hin
      have HE : Hid ((l[j].k == 4) = ans) := by rw [Hid, HA.out, hs, Bool.true_and, ptrB, dif_pos hin]; simp only [Int.toNat_natCast]
      obtain ⟨d0, d1, d2, hf3⟩ := cel_at hat hb0 hj
      generalize l[j] = c at *
      obtain ⟨dk, ds, dn⟩ := c
      dsimp only at *
      clear HA hs hin
      have e0 : ((w.alloc (.cells #[.slice (some ⟨b, off, none⟩) l.length cap, .slice a' n' cap', .int .i64 r] 25)).alloc (.cells #[.int .i64 3, .string cs, .int .i64 j] 80)).cell? ⟨w.heap.size, 0, none⟩ = some (.slice (some ⟨b, off, none⟩) l.length cap) := keep (World.cell?_alloc_at _ _ w.heap.size 0 rfl) ((Below.refl _ _).new _)
      have e2 : ((w.alloc (.cells #[.slice (some ⟨b, off, none⟩) l.length cap, .slice a' n' cap', .int .i64 r] 25)).alloc (.cells #[.int .i64 3, .string cs, .int .i64 j] 80)).cell? ⟨w.heap.size + 1, 2, none⟩ = some (.int .i64 j) := World.cell?_alloc_at _ _ _ 2 (by simp)
      go_enter Try.func54, Try.ntmps54
      go_wp2_with fail
      refine (refis_any _ _ _ _ _ _ _ _ _).mono ?_
      rintro e w1 ⟨rfl, hb1⟩
      rw [hn]
      have y0 := keep e0 hb1
      have y2 := keep e2 hb1
      have y5 := keep d0 hb1
      go_wp2_with fail
      all_goals
        go_ret
        exact ⟨ret_bool HE.out, hb0.then hb1⟩
    · have hn : (decide (0 ≤ cn) && decide (cn < (l.length : Int))) = false := by rw [← Bool.decide_and]; exact decide_eq_false hin
      have HE : Hid (false = ans) := by rw [Hid, HA.out, hs, Bool.true_and, ptrB, dif_neg hin]
      clear HA hs hin
      go_enter Try.func54, Try.ntmps54
      go_wp2_with fail
      refine (refis_any _ _ _ _ _ _ _ _ _).mono ?_
      rintro e w1 ⟨rfl, hb1⟩
      rw [hn]
      go_wp2_with fail
      go_ret
      exact ⟨ret_bool HE.out, hb0.then hb1⟩
set_option maxHeartbeats 1600000 in
theorem refslot_none (h1 : ¬ l[k].k = 1) (h2 : ¬ l[k].k = 2) (h3 : ¬ l[k].k = 3) (h4 : ¬ l[k].k = 4) :
    Calls Try.prog 54 #[hv a l.length cap a' n' cap' r, .int .i64 k] w fun e w' => e = .returned (.bool (slotB l k l[k])) ∧ Below w.heap.size w w' := by
  have hm := hr.max
  have hm2 := hr.le
  obtain ⟨b, off, rfl, hb, hat⟩ := hr.cases.resolve_left (fun e => by simp [e] at hk)
  obtain ⟨c0, c1, c2, hf⟩ := cel_at hat (Below.refl _ _) hk
  have n1 := hf.n1
  have n2 := hf.n2
  have HA : Hid (slotB l k l[k] = false) := by unfold slotB; rw [Hid, if_neg h1, if_neg h2, if_neg h3, if_neg h4]
  generalize slotB l k l[k] = ans at *
  generalize l[k] = c at *
  obtain ⟨ck, cs, cn⟩ := c
  dsimp only at *
  have hb0 := ((Below.refl w.heap.size w).new (.cells #[.slice (some ⟨b, off, none⟩) l.length cap, .slice a' n' cap', .int .i64 r] 25)).new (.cells #[.int .i64 ck, .string cs, .int .i64 cn] 80)
  have x0 := keep c0 ((Below.refl w.heap.size w).new (.cells #[.slice (some ⟨b, off, none⟩) l.length cap, .slice a' n' cap', .int .i64 r] 25))
  have x1 := keep c1 ((Below.refl w.heap.size w).new (.cells #[.slice (some ⟨b, off, none⟩) l.length cap, .slice a' n' cap', .int .i64 r] 25))
  have x2 := keep c2 ((Below.refl w.heap.size w).new (.cells #[.slice (some ⟨b, off, none⟩) l.length cap, .slice a' n' cap', .int .i64 r] 25))
  go_enter Try.func54, Try.ntmps54
  go_wp2_with fail
  go_ret
  exact ⟨ret_bool HA.out.symm, hb0⟩
end
end Go.Proofs.Ytefnmjoapmnkbaa
set_option linter.unusedVariables false
namespace Go.Proofs.Ytefnmjoapmnkbaa
open Go.RowKit

set_option maxHeartbeats 3200000 in
theorem refslot_top (a : Option Addr) (cap : Nat) (a' : Option Addr) (n' cap' : Nat) (r : Int) (k : Nat) (w : World) (l : List Cel) (hr : Row w a cap l) (hk : k < l.length) (hl : l.length ≤ 1000000) (hkk : l[k].k = 4) :
    Calls Try.prog 54 #[hv a l.length cap a' n' cap' r, .int .i64 k] w fun e w' => e = .returned (.bool (slotB l k l[k])) ∧ Below w.heap.size w w' := by
  have hm := hr.max
  have hm2 := hr.le
  obtain ⟨b, off, rfl, hb, hat⟩ := hr.cases.resolve_left (fun e => by simp [e] at hk)
  obtain ⟨c0, c1, c2, hf⟩ := cel_at hat (Below.refl _ _) hk
  have n1 := hf.n1
  have n2 := hf.n2
  have hsz := hf.s
  have HA : Hid (slotB l k l[k] = topB l k l[k]) := by rw [Hid]; unfold slotB; rw [if_neg (by omega), if_neg (by omega), if_neg (by omega), if_pos hkk]
  generalize slotB l k l[k] = ans at *
  generalize l[k] = c at *
  obtain ⟨ck, cs, cn⟩ := c
  dsimp only at *
  subst hkk
  have hb0 := ((Below.refl w.heap.size w).new (.cells #[.slice (some ⟨b, off, none⟩) l.length cap, .slice a' n' cap', .int .i64 r] 25)).new (.cells #[.int .i64 4, .string cs, .int .i64 cn] 80)
  have x0 := keep c0 ((Below.refl w.heap.size w).new (.cells #[.slice (some ⟨b, off, none⟩) l.length cap, .slice a' n' cap', .int .i64 r] 25))
  have x1 := keep c1 ((Below.refl w.heap.size w).new (.cells #[.slice (some ⟨b, off, none⟩) l.length cap, .slice a' n' cap', .int .i64 r] 25))
  have x2 := keep c2 ((Below.refl w.heap.size w).new (.cells #[.slice (some ⟨b, off, none⟩) l.length cap, .slice a' n' cap', .int .i64 r] 25))
  have HAT := mkHid hat
  clear hat
  by_cases g1 : cn < 0
  · have HE : Hid (false = ans) := by rw [Hid, HA.out, topB]; simp; omega
    clear HA
    go_enter Try.func54, Try.ntmps54
    go_wp2_with fail
    go_ret
    exact ⟨ret_bool HE.out, hb0⟩
  by_cases g2 : cn > 6
  · have HE : Hid (false = ans) := by rw [Hid, HA.out, topB]; simp; omega
    clear HA
    go_enter Try.func54, Try.ntmps54
    go_wp2_with fail
    go_ret
    exact ⟨ret_bool HE.out, hb0⟩
  obtain ⟨n, rfl⟩ : ∃ n : Nat, cn = n := ⟨cn.toNat, by omega⟩
  by_cases g3 : (k : Int) + n ≥ l.length
  · have HE : Hid (false = ans) := by rw [Hid, HA.out, topB]; simp; omega
    clear HA
    go_enter Try.func54, Try.ntmps54
    go_wp2_with fail
    go_ret
    exact ⟨ret_bool HE.out, hb0⟩
  have g4 : k + n < l.length := by omega
  have HE0 : Hid (ans = (nameOk cs && ((l.drop (k + 1)).take n).all (fun d => d.k != 4))) := by
    rw [Hid, HA.out, topB]
    simp only [decide_eq_true (show (0 : Int) ≤ (n : Int) by omega), decide_eq_true (show (n : Int) ≤ 6 by omega), decide_eq_true (show (k : Int) + n < l.length by omega), Bool.true_and]
    rfl
  clear HA
  have hr2 : Row (((w.alloc (.cells #[.slice (some ⟨b, off, none⟩) l.length cap, .slice a' n' cap', .int .i64 r] 25)).alloc (.cells #[.int .i64 4, .string cs, .int .i64 n] 80)).alloc (.cells #[.int .i64 3, .string cs, .int .i64 0] 54)) (some ⟨w.heap.size + 1 + 1, 0, none⟩) 1 [(⟨3, cs, 0⟩ : Cel)] := by
    refine ⟨by simp, by omega, (fun e => by cases e), fun i x hi => ?_⟩
    match i with
    | 0 =>
      simp at hi
      subst hi
      exact ⟨w.heap.size + 1 + 1, 0, rfl, World.cell?_alloc_at _ _ _ 0 (by simp), World.cell?_alloc_at _ _ _ 1 (by simp), World.cell?_alloc_at _ _ _ 2 (by simp), ⟨by simp, by simp, by simp, by simp, hsz⟩⟩
    | i + 1 => simp at hi
  have hb2 : Below w.heap.size w (((w.alloc (.cells #[.slice (some ⟨b, off, none⟩) l.length cap, .slice a' n' cap', .int .i64 r] 25)).alloc (.cells #[.int .i64 4, .string cs, .int .i64 n] 80)).alloc (.cells #[.int .i64 3, .string cs, .int .i64 0] 54)) := hb0.new _
  have e0 : (((w.alloc (.cells #[.slice (some ⟨b, off, none⟩) l.length cap, .slice a' n' cap', .int .i64 r] 25)).alloc (.cells #[.int .i64 4, .string cs, .int .i64 n] 80)).alloc (.cells #[.int .i64 3, .string cs, .int .i64 0] 54)).cell? ⟨w.heap.size, 0, none⟩ = some (.slice (some ⟨b, off, none⟩) l.length cap) := keep (keep (World.cell?_alloc_at _ _ w.heap.size 0 rfl) ((Below.refl _ _).new _)) ((Below.refl _ _).new _)
  have e2 : (((w.alloc (.cells #[.slice (some ⟨b, off, none⟩) l.length cap, .slice a' n' cap', .int .i64 r] 25)).alloc (.cells #[.int .i64 4, .string cs, .int .i64 n] 80)).alloc (.cells #[.int .i64 3, .string cs, .int .i64 0] 54)).cell? ⟨w.heap.size + 1, 2, none⟩ = some (.int .i64 n) := keep (World.cell?_alloc_at _ _ _ 2 (by simp)) ((Below.refl _ _).new _)
  have HR2 := mkHid hr2
  have HB2 := mkHid hb2
  clear hr2 hb2
  go_enter Try.func54, Try.ntmps54
  go_wp2_with fail
  refine (refright_any _ 1 _ [⟨3, cs, 0⟩] HR2.out).mono ?_
  rintro e w3 ⟨rfl, hb3⟩
  rw [right_fun]
  have y0 := keep e0 hb3
  have y2 := keep e2 hb3
  have HB3 := mkHid (HB2.out.then hb3)
  clear e0 e2
  cases hn : nameOk cs with
  | false =>
    have HE : Hid (false = ans) := by rw [Hid, HE0.out, hn]; rfl
    clear hn
    go_wp2_with fail
    go_ret
    exact ⟨ret_bool HE.out, HB3.out⟩
  | true =>
    have HE : Hid (ans = ((l.drop (k + 1)).take n).all (fun d => d.k != 4)) := by rw [Hid, HE0.out, hn, Bool.true_and]
    clear hn
    go_wp2_with fail
    go_loopw [6] (fun i wr => ∃ m : Nat, m ≤ n ∧ i = .int .i64 ((m : Int) + 1) ∧ Below w3.heap.size w3 wr ∧ Hid (∀ (j : Nat) (h : j < l.length), k + 1 ≤ j → j < k + 1 + m → l[j].k ≠ 4)) (fun i wr => n + 1 - (intOf i).toNat)
    case atStart => exact ⟨0, Nat.zero_le _, by simp, Below.refl _ _, fun j h h1 h2 => by omega⟩
    case round =>
      obtain ⟨m, hm3, rfl, hbl, HALL⟩ := hrel
      have z0 := keep y0 hbl
      have z2 := keep y2 hbl
      by_cases hlt : m < n
      · have hj : k + 1 + m < l.length := by omega
        obtain ⟨d0, d1, d2, hf3⟩ := cel_at HAT.out (HB3.out.then hbl) hj
        have d0' : wr.cell? ⟨b, off + (k + (m + 1)) * 3, none⟩ = some (.int .i64 l[k + 1 + m].k) := by rw [show k + (m + 1) = k + 1 + m by omega]; exact d0
        have hL : Hid (∀ x, l[k + 1 + m] = x → x.k = 4 → ((l.drop (k + 1)).take n).all (fun d => d.k != 4) = false) := fun x hx h4 => by
          rw [List.all_eq_false]
          refine ⟨l[k + 1 + m], ?_, by simp [hx, h4]⟩
          rw [List.mem_take_iff_getElem]
          refine ⟨m, by rw [List.length_drop]; omega, ?_⟩
          rw [List.getElem_drop]
        have hN : Hid (∀ x, l[k + 1 + m] = x → x.k ≠ 4 → ∀ (j : Nat) (h : j < l.length), k + 1 ≤ j → j < k + 1 + (m + 1) → l[j].k ≠ 4) := fun x hx h4 j h h1 h2 => by
          by_cases e : j = k + 1 + m
          · subst e; rw [hx]; exact h4
          · exact HALL.out j h h1 (by omega)
        generalize hq : l[k + 1 + m] = q at *
        by_cases h4 : q.k = 4
        · have t4 : (q.k == 4) = true := by simp [h4]
          have HF : Hid (false = ans) := by rw [Hid, HE.out, hL.out q rfl h4]
          clear h4 hq d0
          go_wp2_with fail
          go_ret
          exact ⟨ret_bool HF.out, HB3.out.then hbl⟩
        · have t4 : (q.k == 4) = false := by simp [h4]
          have HN := mkHid (hN.out q rfl h4)
          clear h4 hq d0
          go_wp2_with fail
          go_round
          case rel => exact ⟨m + 1, by omega, by go_num, hbl, HN⟩
          case measure => simp [intOf]; omega
      · have HT : Hid (true = ans) := by
          rw [Hid, HE.out]
          symm
          rw [List.all_eq_true]
          intro d hd
          rw [List.mem_take_iff_getElem] at hd
          obtain ⟨i, hi, rfl⟩ := hd
          rw [List.length_drop] at hi
          rw [List.getElem_drop]
          simpa using HALL.out (k + 1 + i) (by omega) (by omega) (by omega)
        go_wp2_with fail
        go_ret
        exact ⟨ret_bool HT.out, HB3.out.then hbl⟩
theorem refslot_any (a : Option Addr) (cap : Nat) (a' : Option Addr) (n' cap' : Nat) (r : Int) (k : Nat) (w : World) (l : List Cel) (hr : Row w a cap l) (hk : k < l.length) (hl : l.length ≤ 1000000) :
    Calls Try.prog 54 #[hv a l.length cap a' n' cap' r, .int .i64 k] w fun e w' => e = .returned (.bool (slotB l k l[k])) ∧ Below w.heap.size w w' := by
  by_cases h1 : l[k].k = 1
  · exact refslot_one a cap a' n' cap' r k w l hr hk h1
  by_cases h2 : l[k].k = 2
  · exact refslot_num a cap a' n' cap' r k w l hr hk h2
  by_cases h3 : l[k].k = 3
  · exact refslot_ptr a cap a' n' cap' r k w l hr hk h3
  by_cases h4 : l[k].k = 4
  · exact refslot_top a cap a' n' cap' r k w l hr hk hl h4
  exact refslot_none a cap a' n' cap' r k w l hr hk h1 h2 h3 h4
end Go.Proofs.Ytefnmjoapmnkbaa
set_option linter.unusedVariables false
namespace Go.Proofs.Ytefnmjoapmnkbaa
open Go.RowKit

theorem AccInv.newI {B e : Nat} {acc : List Int} {v : Value} {w : World} (h : AccInv B e acc v w) : ∃ a cap, v = .slice a acc.length cap ∧ NewRow B w a cap acc := by
  obtain ⟨vs, ho, hc⟩ := h.ex
  obtain ⟨rfl, hf⟩ := crows_int hc
  exact own_newG (α := Int) ho (crows_ints _ hf)
set_option maxHeartbeats 1600000 in
theorem refleads_new (a : Option Addr) (cap : Nat) (a' : Option Addr) (n' cap' : Nat) (r : Int) (w : World) (l : List Cel) (k : Nat) (hr : Row w a cap l) (hk : k < l.length) (hl : l.length ≤ 1000000) (h6 : l[k].k = 4 → l[k].n ≤ 1000) :
    Calls Try.prog 107 #[hv a l.length cap a' n' cap' r, .int .i64 k] w fun e w' => ∃ a2 cap2, e = .returned (.slice a2 (leadsL k l[k]).length cap2) ∧ NewRow w.heap.size w' a2 cap2 (leadsL k l[k]) ∧ Below w.heap.size w w' := by
  have hm := hr.max
  have hm2 := hr.le
  obtain ⟨b, off, rfl, hb, hat⟩ := hr.cases.resolve_left (fun e => by simp [e] at hk)
  obtain ⟨c0, c1, c2, hf⟩ := cel_at hat (Below.refl _ _) hk
  have n1 := hf.n1
  have n2 := hf.n2
  obtain ⟨L, HL⟩ : ∃ L, L = leadsL k l[k] := ⟨_, rfl⟩
  rw [← HL]
  generalize l[k] = c at *
  obtain ⟨ck, cs, cn⟩ := c
  dsimp only at *
  replace HL := mkHid HL
  have hb0 := (Below.refl w.heap.size w).new (.cells #[.slice (some ⟨b, off, none⟩) l.length cap, .slice a' n' cap', .int .i64 r] 25)
  have x0 := keep c0 hb0
  have x1 := keep c1 hb0
  have x2 := keep c2 hb0
  have hm0 : AccInv (w.heap.size + 1) 3 ([] : List Int) (.slice (some ⟨w.heap.size + 1, 0, none⟩) 0 0) ((w.alloc (.cells #[.slice (some ⟨b, off, none⟩) l.length cap, .slice a' n' cap', .int .i64 r] 25)).alloc (.cells #[] 3)) := by
    have := AccInv.made (α := Int) (B := w.heap.size + 1) (e := 3) (T := 3) (w.alloc (.cells #[.slice (some ⟨b, off, none⟩) l.length cap, .slice a' n' cap', .int .i64 r] 25)) (by simp) rfl
    rwa [World.size_alloc] at this
  cases h4 : (ck == 4) with
  | true =>
    have h6' := h6 (by simpa using h4)
    clear h6
    have hk3 : (ck == 3) = false := by simp at h4 ⊢; omega
    have hk1 : (ck == 1) = false := by simp at h4 ⊢; omega
    have E1 : Hid (L = nextI k cn.toNat) := by
      have h4' : ck = 4 := by simpa using h4
      rw [Hid, HL.out, leadsL, if_neg (by simp [onwardB, h4']), if_pos h4']; rfl
    clear HL
    go_enter Try.func107, Try.ntmps107
    go_wp2_with fail
    go_loopw [6, 7] (fun v i wr => ∃ m : Nat, (m : Int) ≤ max cn 0 ∧ i = .int .i64 ((m : Int) + 1) ∧ AccInv (w.heap.size + 1) 3 (nextI k m) v wr ∧ Below w.heap.size w wr ∧ (hide v.ownBlock wr).cell? ⟨w.heap.size + 1 + 1, 0, none⟩ = some (.int .i64 ck) ∧ (hide v.ownBlock wr).cell? ⟨w.heap.size + 1 + 1, 2, none⟩ = some (.int .i64 cn) ∧ w.heap.size + 1 ≤ wr.heap.size) (fun v i wr => cn.toNat + 1 - (intOf i).toNat)
    case atStart =>
      refine ⟨0, by simp; omega, rfl, hm0.below ((Below.refl _ _).new _), (hb0.new _).new _, ?_, ?_, by simp⟩
      · exact hide_of_ne (by show ¬ w.heap.size + 1 + 1 = w.heap.size + 1; omega) (World.cell?_alloc_at _ _ _ 0 (by simp))
      · exact hide_of_ne (by show ¬ w.heap.size + 1 + 1 = w.heap.size + 1; omega) (World.cell?_alloc_at _ _ _ 2 (by simp))
    case round =>
      obtain ⟨m, hm3, rfl, hacc, hbl, y0, y2, hz⟩ := hrel
      have z0 := hide_keeps _ _ _ _ _ y0
      have z2 := hide_keeps _ _ _ _ _ y2
      have Y0 := mkHid y0
      have Y2 := mkHid y2
      have HA := mkHid hacc
      clear y0 y2
      obtain ⟨av, cv, rfl, hrow⟩ := hacc.newI
      clear hacc
      by_cases hlt : (m : Int) < cn
      · have HN : Hid (nextI k m ++ [(k : Int) + 1 + m] = nextI k (m + 1)) := (nextI_succ k m).symm
        have hul : Hid ((nextI k m).length = m) := nextI_length k m
        go_wp2_with (at_builtin; refine wpList_acck (α := Int) rfl _ _ 23 rfl (w.heap.size + 1) 3 8 _ Try.underlying23 Try.infoInt rfl (by decide) _ (nextI k m) HA.out (by rfl) _ #[.int .i64 ((k : Int) + (m + 1))] ((k : Int) + 1 + m) ⟨by simp; omega, by omega, by omega⟩ (by rfl) (by have := hul.out; omega) hz ?_; intro v' w3 hacc3 hb3 hk3)
        go_round
        case rel => exact ⟨m + 1, by omega, by go_num, HN.out ▸ hacc3, hbl.trans (hb3.mono (Nat.le_succ _)), hk3 _ _ _ Y0.out, hk3 _ _ _ Y2.out, Nat.le_trans hz hb3.size⟩
        case measure => simp [intOf]; omega
      · have HE : Hid (nextI k m = L) := by
          rw [Hid, E1.out]; congr 1; omega
        go_wp2_with fail
        go_ret
        refine ⟨_, _, ?_, by rw [← HE.out]; exact hrow.mono (Nat.le_succ _), hbl⟩
        rw [← HE.out]; rfl
  | false =>
    have h4' : ¬ ck = 4 := by simpa using h4
    have e0 : (((w.alloc (.cells #[.slice (some ⟨b, off, none⟩) l.length cap, .slice a' n' cap', .int .i64 r] 25)).alloc (.cells #[] 3)).alloc (.cells #[.int .i64 ck, .string cs, .int .i64 cn] 80)).cell? ⟨w.heap.size + 1 + 1, 0, none⟩ = some (.int .i64 ck) := World.cell?_alloc_at _ _ _ 0 (by simp)
    have hz0 : w.heap.size + 1 ≤ (((w.alloc (.cells #[.slice (some ⟨b, off, none⟩) l.length cap, .slice a' n' cap', .int .i64 r] 25)).alloc (.cells #[] 3)).alloc (.cells #[.int .i64 ck, .string cs, .int .i64 cn] 80)).heap.size := by simp
    have hbz : Below w.heap.size w (((w.alloc (.cells #[.slice (some ⟨b, off, none⟩) l.length cap, .slice a' n' cap', .int .i64 r] 25)).alloc (.cells #[] 3)).alloc (.cells #[.int .i64 ck, .string cs, .int .i64 cn] 80)) := (hb0.new _).new _
    have hmz := hm0.below ((Below.refl _ _).new (.cells #[.int .i64 ck, .string cs, .int .i64 cn] 80))
    cases ho : onwardB ⟨ck, cs, cn⟩ k with
    | false =>
      have E1 : Hid (L = []) := by rw [Hid, HL.out, leadsL, if_neg (by simp [ho]), if_neg h4']; rfl
      have h3 : (ck == 3) = false := by
        cases h : (ck == 3) with
        | true => simp [onwardB, h] at ho
        | false => rfl
      clear HL h4'
      have h1 : (ck == 1 && cn != k) = false := by simpa [onwardB, h3] using ho
      clear ho
      have hrow := hmz.row
      cases h1' : (ck == 1) with
      | false =>
        go_enter Try.func107, Try.ntmps107
        go_wp2_with fail
        go_loopw [6, 7] (fun v i wr => v = .slice (some ⟨w.heap.size + 1, 0, none⟩) 0 0 ∧ i = .int .i64 1 ∧ wr = (((w.alloc (.cells #[.slice (some ⟨b, off, none⟩) l.length cap, .slice a' n' cap', .int .i64 r] 25)).alloc (.cells #[] 3)).alloc (.cells #[.int .i64 ck, .string cs, .int .i64 cn] 80))) (fun v i wr => 0)
        case atStart => exact ⟨rfl, rfl, rfl⟩
        case round =>
          obtain ⟨rfl, rfl, rfl⟩ := hrel
          go_wp2_with fail
          go_ret
          refine ⟨some ⟨w.heap.size + 1, 0, none⟩, 0, ?_, by rw [E1.out]; exact NewRow.empty _ _ _ _ (by omega) (fun e => by cases e), hbz⟩
          rw [E1.out]; rfl
      | true =>
        have h2 : (cn != k) = false := by simpa [h1'] using h1
        clear h1
        go_enter Try.func107, Try.ntmps107
        go_wp2_with fail
        go_loopw [6, 7] (fun v i wr => v = .slice (some ⟨w.heap.size + 1, 0, none⟩) 0 0 ∧ i = .int .i64 1 ∧ wr = (((w.alloc (.cells #[.slice (some ⟨b, off, none⟩) l.length cap, .slice a' n' cap', .int .i64 r] 25)).alloc (.cells #[] 3)).alloc (.cells #[.int .i64 ck, .string cs, .int .i64 cn] 80))) (fun v i wr => 0)
        case atStart => exact ⟨rfl, rfl, rfl⟩
        case round =>
          obtain ⟨rfl, rfl, rfl⟩ := hrel
          go_wp2_with fail
          go_ret
          refine ⟨some ⟨w.heap.size + 1, 0, none⟩, 0, ?_, by rw [E1.out]; exact NewRow.empty _ _ _ _ (by omega) (fun e => by cases e), hbz⟩
          rw [E1.out]; rfl
    | true =>
      have E1 : Hid (L = [cn]) := by rw [Hid, HL.out, leadsL, if_pos ho, if_neg h4']; rfl
      have Y0 : Hid ((hide (some (w.heap.size + 1)) (((w.alloc (.cells #[.slice (some ⟨b, off, none⟩) l.length cap, .slice a' n' cap', .int .i64 r] 25)).alloc (.cells #[] 3)).alloc (.cells #[.int .i64 ck, .string cs, .int .i64 cn] 80))).cell? ⟨w.heap.size + 1 + 1, 0, none⟩ = some (.int .i64 ck)) := hide_of_ne (by omega) e0
      clear HL h4'
      cases h3 : (ck == 3) with
      | true =>
        clear ho
        go_enter Try.func107, Try.ntmps107
        go_wp2_with (at_builtin; refine wpList_acck (α := Int) rfl _ _ 23 rfl (w.heap.size + 1) 3 8 _ Try.underlying23 Try.infoInt rfl (by decide) _ [] hmz (by rfl) _ #[.int .i64 cn] cn ⟨rfl, n1, n2⟩ (by simp only [World.size_alloc]; rfl) (by simp) hz0 ?_; intro v' w3 hacc3 hb3 hk3)
        have z0 := hide_keeps _ _ _ _ _ (hk3 _ _ _ Y0.out)
        obtain ⟨av, cv, rfl, hrow⟩ := hacc3.newI
        have hbl : Below w.heap.size w w3 := hbz.trans (hb3.mono (Nat.le_succ _))
        clear hacc3 hb3 hk3
        go_loopw [6, 7] (fun v i wr => v = .slice av 1 cv ∧ i = .int .i64 1 ∧ wr = w3) (fun v i wr => 0)
        case atStart => exact ⟨rfl, rfl, rfl⟩
        case round =>
          obtain ⟨rfl, rfl, rfl⟩ := hrel
          go_wp2_with fail
          go_ret
          refine ⟨av, cv, ?_, by rw [E1.out]; exact hrow.mono (Nat.le_succ _), hbl⟩
          rw [E1.out]; rfl
      | false =>
        have h1 : (ck == 1 && cn != k) = true := by simpa [onwardB, h3] using ho
        have h11 : (ck == 1) = true := by cases h : (ck == 1) with
          | true => rfl
          | false => rw [h] at h1; cases h1
        have h12 : (cn != k) = true := by rw [h11] at h1; exact h1
        clear ho h1
        go_enter Try.func107, Try.ntmps107
        go_wp2_with (at_builtin; refine wpList_acck (α := Int) rfl _ _ 23 rfl (w.heap.size + 1) 3 8 _ Try.underlying23 Try.infoInt rfl (by decide) _ [] hmz (by rfl) _ #[.int .i64 cn] cn ⟨rfl, n1, n2⟩ (by simp only [World.size_alloc]; rfl) (by simp) hz0 ?_; intro v' w3 hacc3 hb3 hk3)
        have z0 := hide_keeps _ _ _ _ _ (hk3 _ _ _ Y0.out)
        obtain ⟨av, cv, rfl, hrow⟩ := hacc3.newI
        have hbl : Below w.heap.size w w3 := hbz.trans (hb3.mono (Nat.le_succ _))
        clear hacc3 hb3 hk3
        go_loopw [6, 7] (fun v i wr => v = .slice av 1 cv ∧ i = .int .i64 1 ∧ wr = w3) (fun v i wr => 0)
        case atStart => exact ⟨rfl, rfl, rfl⟩
        case round =>
          obtain ⟨rfl, rfl, rfl⟩ := hrel
          go_wp2_with fail
          go_ret
          refine ⟨av, cv, ?_, by rw [E1.out]; exact hrow.mono (Nat.le_succ _), hbl⟩
          rw [E1.out]; rfl
end Go.Proofs.Ytefnmjoapmnkbaa
