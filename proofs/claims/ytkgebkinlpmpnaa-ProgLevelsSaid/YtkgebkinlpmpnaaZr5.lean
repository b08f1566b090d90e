import Derived.Test.YtkgebkinlpmpnaaZr4
import Derived.Laws.OwnMore
import Derived.Deep.RegionHeld3
namespace Go.Proofs.Ytkgebkinlpmpnaa
open Go.RowKit Go.Shelf Go.Lib
theorem hd_mayD : mayB clD = true := by decide +kernel
set_option maxRecDepth 100000 in
set_option maxHeartbeats 16000000 in
theorem head7_any (w : World) : Calls Try.prog 11 #[] w fun e w' => e = .returned (.bool true) ∧ Below w.heap.size w w' := by
  go_enter Try.func11, Try.ntmps11
  go_wp2_with fail
  refine (atom_var 112 0 _ (by omega) (by omega)).mono ?_
  rintro e w1 ⟨a1, c1, rfl, r1, b1⟩
  go_wp2_with fail
  refine (atom_var 113 0 _ (by omega) (by omega)).mono ?_
  rintro e w2 ⟨a2, c2, rfl, r2, b2⟩
  have r1 := r1.below b2
  go_wp2_with fail
  refine (atom_var 114 0 _ (by omega) (by omega)).mono ?_
  rintro e w3 ⟨a3, c3, rfl, r3, b3⟩
  have r1 := r1.below b3
  have r2 := r2.below b3
  go_wp2_with fail
  have kA : ClE ((w3.alloc (.cells #[.bool false, .slice a2 2 c2, .bool true, .slice a3 2 c3] 47)).alloc (.cells #[.slice a1 2 c1, .slice (some ⟨w3.heap.size, 0, none⟩) 2 2] 31)) (w3.heap.size + 1) 0 clA := (clbox r1 r2 r3).1
  have gA : Below w3.heap.size w3 ((w3.alloc (.cells #[.bool false, .slice a2 2 c2, .bool true, .slice a3 2 c3] 47)).alloc (.cells #[.slice a1 2 c1, .slice (some ⟨w3.heap.size, 0, none⟩) 2 2] 31)) := (clbox (n1 := false) (n2 := true) r1 r2 r3).2
  generalize (w3.alloc (.cells #[.bool false, .slice a2 2 c2, .bool true, .slice a3 2 c3] 47)).alloc (.cells #[.slice a1 2 c1, .slice (some ⟨w3.heap.size, 0, none⟩) 2 2] 31) = wA at kA gA ⊢
  generalize w3.heap.size + 1 = BA at kA ⊢
  clear r1 r2 r3
  have hb := ((b1.then b2).then b3).then gA
  clear b1 b2 b3 gA
  refine (atom_var 112 0 _ (by omega) (by omega)).mono ?_
  rintro e w4 ⟨a1, c1, rfl, r1, b1⟩
  go_wp2_with fail
  refine (atom_var 114 0 _ (by omega) (by omega)).mono ?_
  rintro e w5 ⟨a2, c2, rfl, r2, b2⟩
  have r1 := r1.below b2
  go_wp2_with fail
  refine (atom_var 113 0 _ (by omega) (by omega)).mono ?_
  rintro e w6 ⟨a3, c3, rfl, r3, b3⟩
  have r1 := r1.below b3
  have r2 := r2.below b3
  go_wp2_with fail
  have kB : ClE ((w6.alloc (.cells #[.bool true, .slice a2 2 c2, .bool false, .slice a3 2 c3] 47)).alloc (.cells #[.slice a1 2 c1, .slice (some ⟨w6.heap.size, 0, none⟩) 2 2] 31)) (w6.heap.size + 1) 0 clB := (clbox r1 r2 r3).1
  have gB : Below w6.heap.size w6 ((w6.alloc (.cells #[.bool true, .slice a2 2 c2, .bool false, .slice a3 2 c3] 47)).alloc (.cells #[.slice a1 2 c1, .slice (some ⟨w6.heap.size, 0, none⟩) 2 2] 31)) := (clbox (n1 := true) (n2 := false) r1 r2 r3).2
  generalize (w6.alloc (.cells #[.bool true, .slice a2 2 c2, .bool false, .slice a3 2 c3] 47)).alloc (.cells #[.slice a1 2 c1, .slice (some ⟨w6.heap.size, 0, none⟩) 2 2] 31) = wB at kB gB ⊢
  generalize w6.heap.size + 1 = BB at kB ⊢
  clear r1 r2 r3
  have hx := ((b1.then b2).then b3).then gB
  have kA := Rep.mono (x := clA) kA (Keeps.of hx)
  have hb := hb.then hx
  clear b1 b2 b3 gB hx
  refine (atom_none 97 _).mono ?_
  rintro e w7 ⟨a1, c1, rfl, r1, b1⟩
  go_wp2_with fail
  refine (atom_none 98 _).mono ?_
  rintro e w8 ⟨a2, c2, rfl, r2, b2⟩
  have r1 := r1.below b2
  go_wp2_with fail
  have kC : ClE ((w8.alloc (.cells #[.bool true, .slice a2 1 c2] 47)).alloc (.cells #[.slice a1 1 c1, .slice (some ⟨w8.heap.size, 0, none⟩) 1 1] 31)) (w8.heap.size + 1) 0 clC := (clbox1 r1 r2).1
  have gC : Below w8.heap.size w8 ((w8.alloc (.cells #[.bool true, .slice a2 1 c2] 47)).alloc (.cells #[.slice a1 1 c1, .slice (some ⟨w8.heap.size, 0, none⟩) 1 1] 31)) := (clbox1 (n1 := true) r1 r2).2
  generalize (w8.alloc (.cells #[.bool true, .slice a2 1 c2] 47)).alloc (.cells #[.slice a1 1 c1, .slice (some ⟨w8.heap.size, 0, none⟩) 1 1] 31) = wC at kC gC ⊢
  generalize w8.heap.size + 1 = BC at kC ⊢
  clear r1 r2
  have hx := (b1.then b2).then gC
  have kA := Rep.mono (x := clA) kA (Keeps.of hx)
  have kB := Rep.mono (x := clB) kB (Keeps.of hx)
  have hb := hb.then hx
  clear b1 b2 gC hx
  refine (atom_none 98 _).mono ?_
  rintro e w9 ⟨a1, c1, rfl, r1, b1⟩
  go_wp2_with fail
  refine (atom_none 97 _).mono ?_
  rintro e w10 ⟨a2, c2, rfl, r2, b2⟩
  have r1 := r1.below b2
  have kD : ClE ((w10.alloc (.cells #[.bool true, .slice a2 1 c2] 47)).alloc (.cells #[.slice a1 1 c1, .slice (some ⟨w10.heap.size, 0, none⟩) 1 1] 31)) (w10.heap.size + 1) 0 clD := (clbox1 r1 r2).1
  have gD : Below w10.heap.size w10 ((w10.alloc (.cells #[.bool true, .slice a2 1 c2] 47)).alloc (.cells #[.slice a1 1 c1, .slice (some ⟨w10.heap.size, 0, none⟩) 1 1] 31)) := (clbox1 (n1 := true) r1 r2).2
  have hx := (b1.then b2).then gD
  have kA := Rep.mono (x := clA) kA (Keeps.of hx)
  have kB := Rep.mono (x := clB) kB (Keeps.of hx)
  have kC := Rep.mono (x := clC) kC (Keeps.of hx)
  have hb := hb.then hx
  clear b1 b2 gD hx r1 r2
  obtain ⟨aA, cA, aA', cA', q0A, q1A, rA, rA'⟩ := ClE.ex (x := clA) kA
  replace q0A : ((w10.alloc (.cells #[.bool true, .slice a2 1 c2] 47)).alloc (.cells #[.slice a1 1 c1, .slice (some ⟨w10.heap.size, 0, none⟩) 1 1] 31)).cell? ⟨BA, 0, none⟩ = some (.slice aA 2 cA) := q0A
  replace q1A : ((w10.alloc (.cells #[.bool true, .slice a2 1 c2] 47)).alloc (.cells #[.slice a1 1 c1, .slice (some ⟨w10.heap.size, 0, none⟩) 1 1] 31)).cell? ⟨BA, 1, none⟩ = some (.slice aA' 2 cA') := q1A
  have vA : ClV ((w10.alloc (.cells #[.bool true, .slice a2 1 c2] 47)).alloc (.cells #[.slice a1 1 c1, .slice (some ⟨w10.heap.size, 0, none⟩) 1 1] 31)) aA cA aA' cA' clA := ⟨rA, rA'⟩
  obtain ⟨aB, cB, aB', cB', q0B, q1B, rB, rB'⟩ := ClE.ex (x := clB) kB
  replace q0B : ((w10.alloc (.cells #[.bool true, .slice a2 1 c2] 47)).alloc (.cells #[.slice a1 1 c1, .slice (some ⟨w10.heap.size, 0, none⟩) 1 1] 31)).cell? ⟨BB, 0, none⟩ = some (.slice aB 2 cB) := q0B
  replace q1B : ((w10.alloc (.cells #[.bool true, .slice a2 1 c2] 47)).alloc (.cells #[.slice a1 1 c1, .slice (some ⟨w10.heap.size, 0, none⟩) 1 1] 31)).cell? ⟨BB, 1, none⟩ = some (.slice aB' 2 cB') := q1B
  have vB : ClV ((w10.alloc (.cells #[.bool true, .slice a2 1 c2] 47)).alloc (.cells #[.slice a1 1 c1, .slice (some ⟨w10.heap.size, 0, none⟩) 1 1] 31)) aB cB aB' cB' clB := ⟨rB, rB'⟩
  obtain ⟨aC, cC, aC', cC', q0C, q1C, rC, rC'⟩ := ClE.ex (x := clC) kC
  replace q0C : ((w10.alloc (.cells #[.bool true, .slice a2 1 c2] 47)).alloc (.cells #[.slice a1 1 c1, .slice (some ⟨w10.heap.size, 0, none⟩) 1 1] 31)).cell? ⟨BC, 0, none⟩ = some (.slice aC 1 cC) := q0C
  replace q1C : ((w10.alloc (.cells #[.bool true, .slice a2 1 c2] 47)).alloc (.cells #[.slice a1 1 c1, .slice (some ⟨w10.heap.size, 0, none⟩) 1 1] 31)).cell? ⟨BC, 1, none⟩ = some (.slice aC' 1 cC') := q1C
  have vC : ClV ((w10.alloc (.cells #[.bool true, .slice a2 1 c2] 47)).alloc (.cells #[.slice a1 1 c1, .slice (some ⟨w10.heap.size, 0, none⟩) 1 1] 31)) aC cC aC' cC' clC := ⟨rC, rC'⟩
  obtain ⟨aD, cD, aD', cD', q0D, q1D, rD, rD'⟩ := ClE.ex (x := clD) kD
  replace q0D : ((w10.alloc (.cells #[.bool true, .slice a2 1 c2] 47)).alloc (.cells #[.slice a1 1 c1, .slice (some ⟨w10.heap.size, 0, none⟩) 1 1] 31)).cell? ⟨w10.heap.size + 1, 0, none⟩ = some (.slice aD 1 cD) := q0D
  replace q1D : ((w10.alloc (.cells #[.bool true, .slice a2 1 c2] 47)).alloc (.cells #[.slice a1 1 c1, .slice (some ⟨w10.heap.size, 0, none⟩) 1 1] 31)).cell? ⟨w10.heap.size + 1, 1, none⟩ = some (.slice aD' 1 cD') := q1D
  have vD : ClV ((w10.alloc (.cells #[.bool true, .slice a2 1 c2] 47)).alloc (.cells #[.slice a1 1 c1, .slice (some ⟨w10.heap.size, 0, none⟩) 1 1] 31)) aD cD aD' cD' clD := ⟨rD, rD'⟩
  clear kA kB kC kD rA rA' rB rB' rC rC' rD rD'
  have s1 := World.size_alloc (w10.alloc (.cells #[.bool true, .slice a2 1 c2] 47)) (.cells #[.slice a1 1 c1, .slice (some ⟨w10.heap.size, 0, none⟩) 1 1] 31)
  clear s1
  have sz : ((w10.alloc (.cells #[.bool true, .slice a2 1 c2] 47)).alloc (.cells #[.slice a1 1 c1, .slice (some ⟨w10.heap.size, 0, none⟩) 1 1] 31)).heap.size = w10.heap.size + 1 + 1 := by simp
  go_wp2_with fail
  generalize (w10.alloc (.cells #[.bool true, .slice a2 1 c2] 47)).alloc (.cells #[.slice a1 1 c1, .slice (some ⟨w10.heap.size, 0, none⟩) 1 1] 31) = WD at * 
  generalize w10.heap.size + 1 = BD at *
  have hmA : Hid (Mays [clA]) := fun c hc => by rw [List.mem_singleton.1 hc]; exact hd_mayA
  have hmC : Hid (Mays [clC, clD]) := fun c hc => by (simp at hc; rcases hc with rfl | rfl); exact hd_mayC; exact hd_mayD
  have hmO : Hid (Mays [clC, clA, clC]) := fun c hc => by (simp at hc; rcases hc with rfl | rfl | rfl); exact hd_mayC; exact hd_mayA; exact hd_mayC
  have rL : Row (WD.alloc (.cells #[.slice aA 2 cA, .slice aA' 2 cA'] 31)) (some ⟨WD.heap.size, 0, none⟩) 1 [clA] := cls1 vA
  have rL := rL
  rw [sz] at rL
  clear sz
  refine (predsp_is _ _ _ [clA] [pd1 112 1, pd1 113 1, pd1 114 1] rL hmA (by simp) (mkHid hd_pr)).mono ?_
  rintro e w6 ⟨aP, cP, rfl, rP, b6⟩
  have hd := ((Below.refl WD.heap.size WD).new _).then b6
  have rL := rL.below b6
  clear b6
  go_wp2_with fail
  refine (linksp_is _ _ _ [clA] [⟨0, 1, false⟩, ⟨0, 2, true⟩] rL hmA (by simp) (mkHid hd_lk)).mono ?_
  rintro e w7 ⟨aK, cK, rfl, rK, b7⟩
  have hd := hd.then b7
  have rL := rL.below b7
  have rP := rP.below b7
  clear b7
  go_wp2_with fail
  refine (levelsp_some _ _ _ [clA] [1, 0, 0] rL hmA (by simp) (mkHid hd_lv)).mono ?_
  rintro e w8 ⟨aM, cM, rfl, rM, b8⟩
  have hd := hd.then b8
  have rL := rL.below b8
  have rP := rP.below b8
  have rK := rK.below b8
  clear b8
  have q2C := keep q0C hd
  have q3C := keep q1C hd
  have q2D := keep q0D hd
  have q3D := keep q1D hd
  go_wp2_with fail
  have hn : Below w8.heap.size w8 (w8.alloc (.cells #[.slice aC 1 cC, .slice aC' 1 cC', .slice aD 1 cD, .slice aD' 1 cD'] 31)) := (Below.refl _ _).new _
  have rCD : Row (w8.alloc (.cells #[.slice aC 1 cC, .slice aC' 1 cC', .slice aD 1 cD, .slice aD' 1 cD'] 31)) (some ⟨w8.heap.size, 0, none⟩) 2 [clC, clD] := cls2 (vC.below hd) (vD.below hd)
  refine (levelsp_none _ _ _ [clC, clD] rCD hmC (by simp) (mkHid hd_ln)).mono ?_
  rintro e w9 ⟨rfl, b9⟩
  have hx := hn.then b9
  have hd := hd.then hx
  have rL := rL.below hx
  have rP := rP.below hx
  have rK := rK.below hx
  have rM := rM.below hx
  clear b9 hx hn rCD q2C q3C q2D q3D
  have q2C := keep q0C hd
  have q3C := keep q1C hd
  have q2A := keep q0A hd
  have q3A := keep q1A hd
  go_wp2_with fail
  have hn : Below w9.heap.size w9 (w9.alloc (.cells #[.slice aC 1 cC, .slice aC' 1 cC', .slice aA 2 cA, .slice aA' 2 cA', .slice aC 1 cC, .slice aC' 1 cC'] 31)) := (Below.refl _ _).new _
  have rCO : Row (w9.alloc (.cells #[.slice aC 1 cC, .slice aC' 1 cC', .slice aA 2 cA, .slice aA' 2 cA', .slice aC 1 cC, .slice aC' 1 cC'] 31)) (some ⟨w9.heap.size, 0, none⟩) 3 [clC, clA, clC] := cls3 (vC.below hd) (vA.below hd) (vC.below hd)
  refine (ofp_is _ _ _ [clC, clA, clC] (pd1 97 0) [0, 2] rCO hmO (by simp) (mkHid hd_of)).mono ?_
  rintro e w11 ⟨aO, cO, rfl, rO, b9⟩
  have hx := hn.then b9
  have hd := hd.then hx
  have rL := rL.below hx
  have rP := rP.below hx
  have rK := rK.below hx
  have rM := rM.below hx
  clear b9 hx hn rCO q2C q3C q2A q3A
  have q2A := keep q0A hd
  have q3A := keep q1A hd
  go_wp2_with fail
  refine (safep_is _ _ _ _ _ clA true (vA.below hd) (mkHid hd_safeA)).mono ?_
  rintro e w12 ⟨rfl, b9⟩
  have hd := hd.then b9
  have rL := rL.below b9
  have rP := rP.below b9
  have rK := rK.below b9
  have rM := rM.below b9
  have rO := rO.below b9
  clear b9 q2A q3A
  have q2B := keep q0B hd
  have q3B := keep q1B hd
  go_wp2_with fail
  refine (safep_is _ _ _ _ _ clB false (vB.below hd) (mkHid hd_safeB)).mono ?_
  rintro e w13 ⟨rfl, b9⟩
  have hd := hd.then b9
  have rL := rL.below b9
  have rP := rP.below b9
  have rK := rK.below b9
  have rM := rM.below b9
  have rO := rO.below b9
  clear b9 q2B q3B
  go_wp2_with fail
  refine (rightp_is _ _ _ [clA] true rL (mkHid hd_ra)).mono ?_
  rintro e w14 ⟨rfl, b9⟩
  have hd := hd.then b9
  have rP := rP.below b9
  have rK := rK.below b9
  have rM := rM.below b9
  have rO := rO.below b9
  clear b9 rL
  have q2A := keep q0A hd
  have q3A := keep q1A hd
  have q2B := keep q0B hd
  have q3B := keep q1B hd
  go_wp2_with fail
  have hn : Below w14.heap.size w14 (w14.alloc (.cells #[.slice aA 2 cA, .slice aA' 2 cA', .slice aB 2 cB, .slice aB' 2 cB'] 31)) := (Below.refl _ _).new _
  have rAB : Row (w14.alloc (.cells #[.slice aA 2 cA, .slice aA' 2 cA', .slice aB 2 cB, .slice aB' 2 cB'] 31)) (some ⟨w14.heap.size, 0, none⟩) 2 [clA, clB] := cls2 (vA.below hd) (vB.below hd)
  refine (rightp_is _ _ _ [clA, clB] false rAB (mkHid hd_rb)).mono ?_
  rintro e w15 ⟨rfl, b9⟩
  have hx := hn.then b9
  have hd := hd.then hx
  have rP := rP.below hx
  have rK := rK.below hx
  have rM := rM.below hx
  have rO := rO.below hx
  clear b9 hx hn rAB q2A q3A q2B q3B q0A q1A q0B q1B q0C q1C q0D q1D vA vB vC vD
  obtain ⟨bP, oP, rfl, _, hatP⟩ := rP.cases.resolve_left (by simp)
  have eP : PdE w15 bP (oP + 0 * 2) (pd1 112 1) := pd_at hatP (Below.refl _ _) (k := 0) (by simp)
  rw [Nat.zero_mul, Nat.add_zero] at eP
  have eP0 : w15.cell? ⟨bP, oP, none⟩ = some (.string ⟨#[112]⟩) := eP.c0
  have eP1 : w15.cell? ⟨bP, oP + 1, none⟩ = some (.int .i64 1) := eP.c1
  obtain ⟨bK, oK, rfl, _, hatK⟩ := rK.cases.resolve_left (by simp)
  have eK : LkE w15 bK (oK + 0 * 3) (⟨0, 1, false⟩ : Lk) := lk_at hatK (Below.refl _ _) (k := 0) (by simp)
  have eJ : LkE w15 bK (oK + 1 * 3) (⟨0, 2, true⟩ : Lk) := lk_at hatK (Below.refl _ _) (k := 1) (by simp)
  rw [Nat.zero_mul, Nat.add_zero] at eK
  rw [Nat.one_mul] at eJ
  have eK0 : w15.cell? ⟨bK, oK, none⟩ = some (.int .i64 0) := eK.c0
  have eK1 : w15.cell? ⟨bK, oK + 1, none⟩ = some (.int .i64 1) := eK.c1
  have eK2 : w15.cell? ⟨bK, oK + 2, none⟩ = some (.bool false) := eK.c2
  have eJ0 : w15.cell? ⟨bK, oK + 3, none⟩ = some (.int .i64 0) := eJ.c0
  have eJ1 : w15.cell? ⟨bK, oK + 3 + 1, none⟩ = some (.int .i64 2) := eJ.c1
  have eJ2 : w15.cell? ⟨bK, oK + 3 + 2, none⟩ = some (.bool true) := eJ.c2
  obtain ⟨bM, oM, rfl, _, hatM⟩ := rM.cases.resolve_left (by simp)
  have eM0 : w15.cell? ⟨bM, oM + 0, none⟩ = some (.int .i64 1) := (int_at hatM (Below.refl _ _) (k := 0) (by simp)).1
  have eM1 : w15.cell? ⟨bM, oM + 1, none⟩ = some (.int .i64 0) := (int_at hatM (Below.refl _ _) (k := 1) (by simp)).1
  have eM2 : w15.cell? ⟨bM, oM + 2, none⟩ = some (.int .i64 0) := (int_at hatM (Below.refl _ _) (k := 2) (by simp)).1
  rw [Nat.add_zero] at eM0
  obtain ⟨bO, oO, rfl, _, hatO⟩ := rO.cases.resolve_left (by simp)
  have eO1 : w15.cell? ⟨bO, oO + 1, none⟩ = some (.int .i64 2) := (int_at hatO (Below.refl _ _) (k := 1) (by simp)).1
  have hq1 : ∀ W, (binOp .eql 24 (.agg #[.string ⟨#[112]⟩, .int .i64 1]) (.agg #[.string ⟨#[112]⟩, .int .i64 1])).run Try.prog W = .ok (.bool true) W := fun W => by have := run_eql_pd (pd1 112 1) (pd1 112 1) W; rwa [decide_eq_true rfl] at this
  have hq2 : ∀ W, (binOp .eql 57 (.agg #[.int .i64 0, .int .i64 1, .bool false]) (.agg #[.int .i64 0, .int .i64 1, .bool false])).run Try.prog W = .ok (.bool true) W := fun W => by have := run_eql_lk ⟨0, 1, false⟩ ⟨0, 1, false⟩ W; rwa [decide_eq_true rfl] at this
  have hq3 : ∀ W, (binOp .eql 57 (.agg #[.int .i64 0, .int .i64 2, .bool true]) (.agg #[.int .i64 0, .int .i64 2, .bool true])).run Try.prog W = .ok (.bool true) W := fun W => by have := run_eql_lk ⟨0, 2, true⟩ ⟨0, 2, true⟩ W; rwa [decide_eq_true rfl] at this
  clear hatP hatK hatM hatO eP eK eJ rP rK rM rO
  go_wp2_with fail
  refine (atom_var 112 3 _ (by omega) (by omega)).mono ?_
  rintro e w16 ⟨a1, c1, rfl, r1, b1⟩
  have hd := hd.then b1
  clear b1
  go_wp2_with fail
  refine (safep_is _ _ _ _ _ ⟨a1L 112 3, []⟩ false ⟨r1, Row.empty _ _ _ (by simp) (fun _ => rfl)⟩ (mkHid hd_p3)).mono ?_
  rintro e w17 ⟨rfl, b1⟩
  have hd := hd.then b1
  clear b1
  go_wp2_with fail
  refine (atom_none 112 _).mono ?_
  rintro e w18 ⟨a1', c1', rfl, r1', b1⟩
  have hd := hd.then b1
  clear b1
  go_wp2_with fail
  refine (safep_is _ _ _ _ _ ⟨a0L 112, []⟩ true ⟨r1', Row.empty _ _ _ (by simp) (fun _ => rfl)⟩ (mkHid hd_p0)).mono ?_
  rintro e w19 ⟨rfl, b1⟩
  have hd := hd.then b1
  clear b1
  go_wp2_with fail
  go_ret
  exact ⟨rfl, hb.then hd⟩
end Go.Proofs.Ytkgebkinlpmpnaa
namespace Go.Proofs.Ytkgebkinlpmpnaa
open Go.RowKit

set_option maxHeartbeats 400000 in
theorem run_eql_cel (x y : Cel) (w : World) : (binOp .eql 50 (.agg #[.int .i64 x.k, .string x.s, .int .i64 x.n]) (.agg #[.int .i64 y.k, .string y.s, .int .i64 y.n])).run Try.prog w = .ok (.bool (decide (x = y))) w := by
  by_cases h1 : x.k = y.k
  · by_cases h2 : x.s = y.s
    · by_cases h3 : x.n = y.n
      · go_simp
        exact (Cel.eq_iff x y).2 ⟨h1, h2, h3⟩
      · have h4 : ¬ x = y := fun e => h3 (by rw [e])
        have h5 : (x.n == y.n) = false := by simp [h3]
        go_simp
    · have h4 : ¬ x = y := fun e => h2 (by rw [e])
      have h5 : (x.s.toList == y.s.toList) = false := by simp [toList_inj, h2]
      go_simp
  · have h4 : ¬ x = y := fun e => h1 (by rw [e])
    have h5 : (x.k == y.k) = false := by simp [h1]
    go_simp

def compR : List Cel → List Cel → Int
  | x :: xs, y :: ys => if x = y then compR xs ys else cellCmp x y
  | _, _ => 0
theorem compR_step {xs ys : List Cel} {k : Nat} (hx : k < xs.length) (hy : k < ys.length) : compR (xs.drop k) (ys.drop k) = if xs[k] = ys[k] then compR (xs.drop (k + 1)) (ys.drop (k + 1)) else cellCmp xs[k] ys[k] := by
  rw [List.drop_eq_getElem_cons hx, List.drop_eq_getElem_cons hy]; rfl
theorem compR_end {xs ys : List Cel} {k : Nat} (h : xs.length ≤ k ∨ ys.length ≤ k) : compR (xs.drop k) (ys.drop k) = 0 := by
  rcases h with h | h
  · rw [List.drop_eq_nil_of_le h]; simp [compR]
  · rw [List.drop_eq_nil_of_le h]; cases xs.drop k <;> simp [compR]
theorem cmp_neg {x y : Cel} (h : x.k < y.k ∨ x.k = y.k ∧ (x.n < y.n ∨ x.n = y.n ∧ Op.bytesLess x.s.toList y.s.toList = true)) : cellCmp x y = -1 := by
  unfold cellCmp cmpI cmpS
  rcases h with h | ⟨h1, h | ⟨h2, h3⟩⟩
  · rw [if_neg (by omega), if_pos h]
  · rw [if_pos h1, if_neg (by omega), if_pos h]
  · rw [if_pos h1, if_pos h2, if_pos h3]
theorem cmp_pos {x y : Cel} (he : ¬ x = y) (h1 : ¬ x.k < y.k) (h : ¬ x.k = y.k ∨ ¬ x.n < y.n ∧ (¬ x.n = y.n ∨ Op.bytesLess x.s.toList y.s.toList = false)) : cellCmp x y = 1 := by
  unfold cellCmp cmpI cmpS
  by_cases h2 : x.k = y.k
  · rw [if_pos h2]
    obtain ⟨h3, h4⟩ := h.resolve_left (fun h => h h2)
    by_cases h5 : x.n = y.n
    · rw [if_pos h5, if_neg (by rw [h4.resolve_left (fun h => h h5)]; simp)]
      rw [if_neg]
      intro e
      exact he ((Cel.eq_iff x y).2 ⟨h2, e, h5⟩)
    · rw [if_neg h5, if_neg h3, if_pos (by omega)]
  · rw [if_neg h2, if_neg h1, if_pos (by omega)]

theorem ground_take {xs : List Cel} {k : Nat} (h : k < xs.length) (h1 : groundB (xs.take k) = true) (h2 : ¬ xs[k].k = 1) : groundB (xs.take (k + 1)) = true := by
  rw [List.take_succ_eq_append_getElem h]
  unfold groundB at h1 ⊢
  rw [List.all_append, h1]; simp [h2]
theorem ground_bad {xs : List Cel} {k : Nat} (h : k < xs.length) (h2 : xs[k].k = 1) : groundB xs = false := by
  unfold groundB
  rw [List.all_eq_false]
  exact ⟨xs[k], List.getElem_mem h, by simp [h2]⟩

set_option maxHeartbeats 400000 in
theorem refground_any (a : Option Addr) (cap : Nat) (w : World) (xs : List Cel) (hx : Row w a cap xs) (hl : xs.length ≤ 1000000) :
    Calls Try.prog 29 #[.slice a xs.length cap] w fun e w' => e = .returned (.bool (groundB xs)) ∧ Below w.heap.size w w' := by
  have HE : Hid (groundB xs = (((varsL xs).length : Int) == 0)) := by
    rw [Hid, ground_vars]; by_cases h : (varsL xs).length = 0 <;> simp [h]
  have hvl := varsGo_length xs []
  go_enter Try.func29, Try.ntmps29
  go_wp2_with (go_at_call 30; refine (refvars_any a cap _ xs hx hl).mono ?_; rintro e w' ⟨a', cap', rfl, hr', hb1⟩)
  go_ret
  exact ⟨ret_bool HE.out.symm, hb1⟩
end Go.Proofs.Ytkgebkinlpmpnaa
namespace Go.Proofs.Ytkgebkinlpmpnaa
open Go.RowKit Go.Shelf Go.Lib

/-! ### the contracts of the document and of the law at answers that are known -/
theorem great_is {a : Option Addr} {cap : Nat} {w : World} {l : List Cl} {b : Bool} (hr : Row w a cap l) (H : Hid (greatB l = b)) :
    Calls Try.prog 12 #[.slice a l.length cap] w fun e w' => e = .returned (.bool b) ∧ w = w' :=
  (great7_any a cap w l hr).mono fun _ _ ⟨he, hb⟩ => ⟨by rw [he]; exact ret_bool H.out, hb⟩
theorem made_is {a : Option Addr} {cap : Nat} {w : World} {l m : List Cl} (hr : Row w a cap l) (hl : l.length ≤ 1000) (H : Hid (madeL l = m)) :
    Calls Try.prog 17 #[.slice a l.length cap] w fun e w' => ∃ a' c', e = .returned (.slice a' m.length c') ∧ Row w' a' c' m ∧ Below w.heap.size w w' :=
  (made7_any a cap w l hr hl).mono fun _ w' ⟨v, he, hacc, hb⟩ => by
    obtain ⟨a', c', rfl, hrow⟩ := hacc.row
    rw [H.out] at he hrow
    exact ⟨a', c', he, hrow, hb⟩
theorem refmay_is {a a' : Option Addr} {cap cap' : Nat} {w : World} {x : Cl} {b : Bool} (h : ClV w a cap a' cap' x) (H : Hid (mayB x = b)) :
    Calls Try.prog 28 #[.agg #[.slice a x.h.length cap, .slice a' x.b.length cap']] w fun e w' => e = .returned (.bool b) ∧ Below w.heap.size w w' :=
  (refmay_any a cap a' cap' w x.h x.b h.h h.b).mono fun _ _ ⟨he, hb⟩ => ⟨by rw [he]; exact ret_bool H.out, hb⟩
theorem ground7_is {a : Option Addr} {cap : Nat} {w : World} {xs : List Cel} {b : Bool} (hx : Row w a cap xs) (hl : xs.length ≤ 1000000) (H : Hid (groundB xs = b)) :
    Calls Try.prog 29 #[.slice a xs.length cap] w fun e w' => e = .returned (.bool b) ∧ Below w.heap.size w w' :=
  (refground_any a cap w xs hx hl).mono fun _ _ ⟨he, hb⟩ => ⟨by rw [he]; exact ret_bool H.out, hb⟩
theorem in7_is {a : Option Addr} {cap : Nat} {w : World} {xs : List Int} {n : Int} {b : Bool} (hx : Row w a cap xs) (H : Hid (decide (n ∈ xs) = b)) :
    Calls Try.prog 31 #[.slice a xs.length cap, .int .i64 n] w fun e w' => e = .returned (.bool b) ∧ Below w.heap.size w w' :=
  (refin_any a cap n w xs hx).mono fun _ _ ⟨he, hb⟩ => ⟨by rw [he]; exact ret_bool H.out, hb⟩

/-! ### what safe clauses are, plain -/
def bvars (l : List Lt) : List Int := l.flatMap fun x => varsL x.t
theorem safeGo_some : ∀ {l : List Lt} {bd r : List Int}, safeGo bd l = some r → r = bd ++ bvars l
  | [], bd, r, h => by simp [safeGo] at h; subst h; simp [bvars]
  | x :: l, bd, r, h => by
    unfold safeGo at h
    split at h
    · cases h
    · rw [safeGo_some h, List.append_assoc]; rfl
theorem safe_may {x : Cl} (h : safeB x = true) : mayB x = true := by
  unfold safeB at h
  rw [Bool.and_eq_true] at h
  exact h.1
theorem safe_head {x : Cl} (h : safeB x = true) : ∀ n ∈ varsL x.h, n ∈ bvars x.b := by
  unfold safeB at h
  rw [Bool.and_eq_true] at h
  obtain ⟨_, h⟩ := h
  cases hg : safeGo [] x.b with
  | none => rw [hg] at h; cases h
  | some r =>
    rw [hg] at h
    have := safeGo_some hg
    rw [List.nil_append] at this
    subst this
    intro n hn
    have := List.all_eq_true.1 h n hn
    simpa using this
theorem may_alone {x : Cl} (h : mayB x = true) : mayB ⟨x.h, []⟩ = true := by
  simp [mayB] at h ⊢
  exact h.2
theorem safe_alone {x : Cl} (h : mayB x = true) : safeB ⟨x.h, []⟩ = (varsL x.h).isEmpty := by
  unfold safeB
  rw [may_alone h]
  simp only [safeGo, Bool.true_and]
  cases varsL x.h with
  | nil => rfl
  | cons n l => simp [withinB]
end Go.Proofs.Ytkgebkinlpmpnaa
namespace Go.Proofs.Ytkgebkinlpmpnaa
open Go.RowKit Go.Shelf Go.Lib

set_option maxHeartbeats 3200000 in
set_option maxRecDepth 100000 in
theorem lawFacts_any (w : World) (x : Cl) (a : Option Addr) (cap : Nat) (a' : Option Addr) (cap' : Nat) (hv : ClV w a cap a' cap' x) :
    Calls Try.prog 4 #[.agg #[.slice a x.h.length cap, .slice a' x.b.length cap']] w fun e w' => e = .returned (.bool true) ∧ Below w.heap.size w w' := by
  have hm1 := hv.h.max
  have hm2 := hv.h.le
  have hm3 := hv.b.max
  have hm4 := hv.b.le
  have hb0 := (Below.refl w.heap.size w).new (.cells #[.slice a x.h.length cap, .slice a' x.b.length cap'] 31)
  have q0 : (w.alloc (.cells #[.slice a x.h.length cap, .slice a' x.b.length cap'] 31)).cell? ⟨w.heap.size, 0, none⟩ = some (.slice a x.h.length cap) := World.cell?_alloc_at _ _ _ 0 rfl
  have q1 : (w.alloc (.cells #[.slice a x.h.length cap, .slice a' x.b.length cap'] 31)).cell? ⟨w.heap.size, 1, none⟩ = some (.slice a' x.b.length cap') := World.cell?_alloc_at _ _ _ 1 rfl
  have HV := mkHid hv
  cases hG : greatB [x] with
  | true =>
    have HG := mkHid hG
    clear hG hv
    go_enter Try.func4, Try.ntmps4
    go_wp2_with fail
    refine (head7_any _).mono ?_; rintro e w1 ⟨rfl, hb1⟩
    have hb := hb0.then hb1
    have p0 := keep q0 hb1
    have p1 := keep q1 hb1
    go_wp2_with fail
    refine (great_is (cls1 (HV.out.below hb)) HG).mono ?_; rintro e w2 ⟨rfl, rfl⟩
    go_wp2_with fail
    go_ret
    exact ⟨rfl, hb.new _⟩
  | false =>
    have HG := mkHid hG
    clear hG hv
    cases hM : mayB x with
    | false =>
      have HM := mkHid hM
      clear hM
      go_enter Try.func4, Try.ntmps4
      go_wp2_with fail
      refine (head7_any _).mono ?_; rintro e w1 ⟨rfl, hb1⟩
      have hb := hb0.then hb1
      have p0 := keep q0 hb1
      have p1 := keep q1 hb1
      go_wp2_with fail
      refine (great_is (cls1 (HV.out.below hb)) HG).mono ?_; rintro e w2 ⟨rfl, rfl⟩
      replace hb := hb.new (.cells #[.slice a x.h.length cap, .slice a' x.b.length cap'] 31)
      have r0 := keep p0 ((Below.refl w1.heap.size w1).new (.cells #[.slice a x.h.length cap, .slice a' x.b.length cap'] 31))
      have r1 := keep p1 ((Below.refl w1.heap.size w1).new (.cells #[.slice a x.h.length cap, .slice a' x.b.length cap'] 31))
      go_wp2_with fail
      refine (refmay_is (HV.out.below hb) HM).mono ?_; rintro e w3 ⟨rfl, hb3⟩
      go_wp2_with fail
      go_ret
      exact ⟨rfl, hb.then hb3⟩
    | true =>
      have HM := mkHid hM
      have HSA := mkHid (safe_alone hM)
      have hah := atom_200 (may_facts hM).2.2
      clear hM
      go_enter Try.func4, Try.ntmps4
      go_wp2_with fail
      refine (head7_any _).mono ?_; rintro e w1 ⟨rfl, hb1⟩
      have hb := hb0.then hb1
      have p0 := keep q0 hb1
      have p1 := keep q1 hb1
      go_wp2_with fail
      refine (great_is (cls1 (HV.out.below hb)) HG).mono ?_; rintro e w2 ⟨rfl, rfl⟩
      replace hb := hb.new (.cells #[.slice a x.h.length cap, .slice a' x.b.length cap'] 31)
      have r0 := keep p0 ((Below.refl w1.heap.size w1).new (.cells #[.slice a x.h.length cap, .slice a' x.b.length cap'] 31))
      have r1 := keep p1 ((Below.refl w1.heap.size w1).new (.cells #[.slice a x.h.length cap, .slice a' x.b.length cap'] 31))
      generalize w1.alloc (.cells #[.slice a x.h.length cap, .slice a' x.b.length cap'] 31) = w1' at *
      go_wp2_with fail
      refine (refmay_is (HV.out.below hb) HM).mono ?_; rintro e w3 ⟨rfl, hb3⟩
      replace hb := hb.then hb3
      have s0 := keep r0 hb3
      have s1 := keep r1 hb3
      clear p0 p1 q0 q1 r0 r1 hb1 hb3 hb0
      go_wp2_with fail
      have hb4 := (Below.refl w3.heap.size w3).new (.cells #[.slice a x.h.length cap, .slice none 0 0] 31)
      have u0 := keep s0 hb4
      have u1 := keep s1 hb4
      have x0 : (w3.alloc (.cells #[.slice a x.h.length cap, .slice none 0 0] 31)).cell? ⟨w3.heap.size, 0, none⟩ = some (.slice a x.h.length cap) := World.cell?_alloc_at _ _ _ 0 rfl
      have x1 : (w3.alloc (.cells #[.slice a x.h.length cap, .slice none 0 0] 31)).cell? ⟨w3.heap.size, 1, none⟩ = some (.slice none 0 0) := World.cell?_alloc_at _ _ _ 1 rfl
      replace hb := hb.then hb4
      generalize w3.alloc (.cells #[.slice a x.h.length cap, .slice none 0 0] 31) = W4 at *
      have hrh := (HV.out.below hb).h
      obtain ⟨b0, hb0e⟩ : ∃ b0, groundB x.h = b0 := ⟨_, rfl⟩
      have HGR := mkHid hb0e
      have HAL : Hid (safeB ⟨x.h, []⟩ = b0) := by
        rw [Hid, HSA.out, ← hb0e, ground_vars]
        cases varsL x.h <;> simp
      have HEM : Hid (∀ W, ClV W a cap none 0 ⟨x.h, []⟩ ↔ Row W a cap x.h) := fun W => ⟨fun h => h.h, fun h => ⟨h, Row.empty _ _ _ (by simp) (fun _ => rfl)⟩⟩
      have t1 : (b0 != b0) = false := by simp
      clear hb4 s0 s1 hb0e HSA
      have l0 := keepL x0
      have l1 := keepL x1
      have l2 := keepL u0
      have l3 := keepL u1
      refine wp_region_calm (by kernel_rfl) (by kernel_rfl) ?_
      repeat (go_big_quiet_step (first
        | exact Calls.calm_of (safep_is a cap none 0 _ ⟨x.h, []⟩ b0 ((HEM.out _).2 (hrh.below (Later.ok _))) HAL)
        | exact Calls.calm_of (ground7_is (hrh.below (Later.ok _)) (by omega) HGR)))
      refine wpQuiet_nil ?_
      rintro _ ⟨y, rfl⟩
      have hy := y.ok
      replace hb := hb.then hy
      have z0 := keep u0 hy
      have z1 := keep u1 hy
      clear u0 u1 x0 x1 hrh l0 l1 l2 l3
      generalize y.w' = W5 at *
      clear hy
      cases hS : safeB x with
      | false =>
        have HS := mkHid hS
        clear hS
        go_wp2_with fail
        refine (safep_is _ _ _ _ _ x false (HV.out.below hb) HS).mono ?_; rintro e w6 ⟨rfl, hb6⟩
        go_wp2_with fail
        go_ret
        exact ⟨rfl, hb.then hb6⟩
      | true =>
        have HS := mkHid hS
        have HHD := mkHid (safe_head hS)
        obtain ⟨h8, hat8, _⟩ := may_facts HM.out
        have HAT := mkHid hat8
        clear hS hat8
        go_wp2_with fail
        refine (safep_is _ _ _ _ _ x true (HV.out.below hb) HS).mono ?_; rintro e w6 ⟨rfl, hb6⟩
        replace hb := hb.then hb6
        have y0 := keep z0 hb6
        have y1 := keep z1 hb6
        clear z0 z1 hb6 HGR HAL HEM HG
        have hsz0 : w.heap.size < w6.heap.size := cell_lt y0
        have hm0 := AccInv.made (α := Int) (B := w.heap.size + 1) (e := 3) (T := 3) w6 hsz0 rfl
        have hbn := hb.new (.cells #[] 3)
        have y2 := keep y0 ((Below.refl w6.heap.size w6).new (.cells #[] 3))
        have y3 := keep y1 ((Below.refl w6.heap.size w6).new (.cells #[] 3))
        go_wp2_with fail
        go_loopw [5, 6] (fun v i wr => ∃ (k : Nat) (bd : List Int), k ≤ x.b.length ∧ i = .int .i64 k ∧ bd.length ≤ 200 * k ∧ AccInv (w.heap.size + 1) 3 bd v wr ∧ Below w.heap.size w wr ∧ w.heap.size < wr.heap.size ∧ wr.cell? ⟨w.heap.size, 0, none⟩ = some (.slice a x.h.length cap) ∧ wr.cell? ⟨w.heap.size, 1, none⟩ = some (.slice a' x.b.length cap') ∧ Hid (bvars x.b = bd ++ bvars (x.b.drop k))) (fun v i wr => x.b.length - (intOf i).toNat)
        case atStart => exact ⟨0, [], Nat.zero_le _, rfl, by simp, hm0, hbn, by simp; omega, y2, y3, rfl⟩
        case round =>
          clear hm0 hbn y0 y1 y2 y3 hb
          obtain ⟨k, bd, hk, rfl, hbd, hacc, hbl, hsz, q0, q1, HB⟩ := hrel
          obtain ⟨ab, capb, rfl, hrow⟩ := hacc.row
          by_cases hlt : k < x.b.length
          · obtain ⟨b, off, rfl, hbb, hat⟩ := HV.out.b.cases.resolve_left (fun e => by simp [e] at hlt)
            obtain ⟨a1, cap1, c0, c1, hr1⟩ := lt_at hat hbl hlt
            have ht2 := atom_200 (HAT.out _ (List.getElem_mem hlt))
            have hvl := vars_len x.b[k].t
            have HT : Hid (bvars x.b = (bd ++ varsL x.b[k].t) ++ bvars (x.b.drop (k + 1))) := by
              have h1 : bvars (x.b.drop k) = varsL x.b[k].t ++ bvars (x.b.drop (k + 1)) := by rw [List.drop_eq_getElem_cons hlt]; rfl
              rw [Hid, HB.out, h1, List.append_assoc]
            clear HB
            go_wp2_with (first
              | (go_at_call 30; refine (refvars_new _ _ _ _ hr1 (by omega)).mono ?_; rintro e w2 ⟨a2, cap2, rfl, hn2, hb2⟩; have hacc2 := hacc.below hb2; have hro := hacc.newer (Nat.le_refl _) hn2; have d0 := keep c0 hb2; have s0 := keep q0 hb2; have s1 := keep q1 hb2; have hz2 := Nat.lt_of_lt_of_le hsz hb2.size)
              | (at_builtin; refine wpList_accs (α := Int) rfl _ _ 33 rfl (w.heap.size + 1) 3 8 _ Try.underlying33 Try.infoInt rfl (by decide) _ bd hacc2 (by rfl) _ _ (varsL x.b[k].t) hro (by rfl) (by omega) hz2 ?_; intro v' w3 hacc3 hb3))
            go_round
            case rel => exact ⟨k + 1, _, by omega, by go_num, by rw [List.length_append]; omega, hacc3, (hbl.then hb2).trans (hb3.mono (by omega)), Nat.lt_of_lt_of_le hz2 hb3.size, keepB hb3 s0 (by omega), keepB hb3 s1 (by omega), HT⟩
            case measure => simp [intOf]; omega
          · have HD : Hid (∀ n ∈ varsL x.h, decide (n ∈ bd) = true) := fun n hn => by
              have h1 := HHD.out n hn
              rw [HB.out, List.drop_eq_nil_of_le (by omega)] at h1
              simpa [bvars] using h1
            have hrh := (HV.out.below hbl).h
            clear HB HHD
            go_wp2_with (go_at_call 30; refine (refvars_new _ _ _ _ hrh (by omega)).mono ?_; rintro e w2 ⟨a2, cap2, rfl, hn2, hb2⟩)
            have hrb := hrow.below hb2
            have hbl2 := hbl.then hb2
            have hrv := hn2.row
            obtain ⟨vs, hvs⟩ : ∃ vs, varsL x.h = vs := ⟨_, rfl⟩
            rw [hvs] at hrv HD
            rw [hvs]
            have hv1 := hrv.max
            have hv2 := hrv.le
            clear hn2 hvs hacc q0 q1 hrow hbl hrh
            go_wp2_with fail
            go_loopw [8] (fun i wr => ∃ j : Nat, j ≤ vs.length ∧ i = .int .i64 j ∧ Below w2.heap.size w2 wr) (fun i wr => vs.length - (intOf i).toNat)
            case atStart => exact ⟨0, Nat.zero_le _, rfl, Below.refl _ _⟩
            case round =>
              obtain ⟨j, hj, rfl, hbj⟩ := hrel
              by_cases hjl : j < vs.length
              · obtain ⟨b2, off2, rfl, _, hat2⟩ := hrv.cases.resolve_left (fun e => by simp [e] at hjl)
                obtain ⟨e0, elo, ehi⟩ := int_at hat2 hbj hjl
                have HIN := mkHid (HD.out _ (List.getElem_mem hjl))
                go_wp2_with (go_at_call 31; refine (in7_is (hrb.below hbj) HIN).mono ?_; rintro e w4 ⟨rfl, hb4⟩)
                go_round
                case rel => exact ⟨j + 1, by omega, by go_num, hbj.then hb4⟩
                case measure => simp [intOf]; omega
              · go_wp2_with fail
                go_ret
                exact ⟨rfl, hbl2.then hbj⟩
end Go.Proofs.Ytkgebkinlpmpnaa
namespace Go.Proofs.Ytkgebkinlpmpnaa
open Go.RowKit Go.Shelf Go.Lib

/-! ### more contracts at answers that are known -/
def lvL (m : List Cl) : List Int := (levelsL m).getD []
def lvB (m : List Cl) : Bool := (levelsL m).isSome
theorem levpost {m : List Cl} {w : World} {e : Ending} {w' : World} (h : LevPost (levelsL m) w e w') : ∃ a c, e = .returned (.tuple #[.slice a (lvL m).length c, .bool (lvB m)]) ∧ Row w' a c (lvL m) ∧ Below w.heap.size w w' := by
  obtain ⟨hb, h⟩ := h
  unfold lvL lvB
  cases e2 : levelsL m with
  | none => rw [e2] at h; exact ⟨none, 0, h, Row.empty _ _ _ (by omega) (fun _ => rfl), hb⟩
  | some L => rw [e2] at h; obtain ⟨a, c, h1, h2⟩ := h; exact ⟨a, c, h1, h2.row, hb⟩
section
variable {a a' : Option Addr} {cap cap' : Nat} {w : World}
theorem levelsp_lv {m : List Cl} {L : List Int} {b : Bool} (hr : Row w a cap m) (HM : Hid (Mays m)) (hl : m.length ≤ 1000) (H : Hid (lvL m = L ∧ lvB m = b)) :
    Calls Try.prog 18 #[.slice a m.length cap] w fun e w' => ∃ a c, e = .returned (.tuple #[.slice a L.length c, .bool b]) ∧ Row w' a c L ∧ Below w.heap.size w w' := by
  obtain ⟨rfl, rfl⟩ := H.out
  exact (levelsp_any a cap w m hr HM hl).mono fun _ _ h => levpost h
theorem reflevels_lv {m : List Cl} {L : List Int} {b : Bool} (hr : Row w a cap m) (HM : Hid (Mays m)) (hl : m.length ≤ 1000) (H : Hid (lvL m = L ∧ lvB m = b)) :
    Calls Try.prog 19 #[.slice a m.length cap] w fun e w' => ∃ a c, e = .returned (.tuple #[.slice a L.length c, .bool b]) ∧ Row w' a c L ∧ Below w.heap.size w w' := by
  obtain ⟨rfl, rfl⟩ := H.out
  exact (reflevels_any a cap w m hr HM hl).mono fun _ _ h => levpost h
theorem refpreds_is {m : List Cl} {L : List Pd} (hr : Row w a cap m) (HM : Hid (Mays m)) (hl : m.length ≤ 1000) (H : Hid (predsL m = L)) :
    Calls Try.prog 21 #[.slice a m.length cap] w fun e w' => ∃ a' c', e = .returned (.slice a' L.length c') ∧ Row w' a' c' L ∧ Below w.heap.size w w' :=
  (refpreds_any a cap w m hr HM hl).mono fun _ w' ⟨v, he, hacc, hb⟩ => by
    obtain ⟨a', c', rfl, hrow⟩ := hacc.row
    rw [H.out] at he hrow
    exact ⟨a', c', he, hrow, hb⟩
theorem reflinks_is {m : List Cl} {L : List Lk} (hr : Row w a cap m) (HM : Hid (Mays m)) (hl : m.length ≤ 1000) (H : Hid (linksL m = L)) :
    Calls Try.prog 27 #[.slice a m.length cap] w fun e w' => ∃ a' c', e = .returned (.slice a' L.length c') ∧ Row w' a' c' L ∧ Below w.heap.size w w' :=
  (reflinks_any a cap w m hr HM hl).mono fun _ w' ⟨v, he, hacc, hb⟩ => by
    obtain ⟨a', c', rfl, hrow⟩ := hacc.row
    rw [H.out] at he hrow
    exact ⟨a', c', he, hrow, hb⟩
theorem refof_is {m : List Cl} {p : Pd} {L : List Int} (hr : Row w a cap m) (HM : Hid (Mays m)) (hl : m.length ≤ 1000) (H : Hid (ofL m p = L)) :
    Calls Try.prog 24 #[.slice a m.length cap, .agg #[.string p.s, .int .i64 p.n]] w fun e w' => ∃ a' c', e = .returned (.slice a' L.length c') ∧ Row w' a' c' L ∧ Below w.heap.size w w' :=
  (refof_any a cap w m p hr HM hl).mono fun _ w' ⟨v, he, hacc, hb⟩ => by
    obtain ⟨a', c', rfl, hrow⟩ := hacc.row
    rw [H.out] at he hrow
    exact ⟨a', c', he, hrow, hb⟩
theorem refsafe_is {x : Cl} {b : Bool} (h : ClV w a cap a' cap' x) (H : Hid (safeB x = b)) :
    Calls Try.prog 14 #[.agg #[.slice a x.h.length cap, .slice a' x.b.length cap']] w fun e w' => e = .returned (.bool b) ∧ Below w.heap.size w w' :=
  (refsafe_any a cap a' cap' w x.h x.b h.h h.b).mono fun _ _ ⟨he, hb⟩ => ⟨by rw [he]; exact ret_bool H.out, hb⟩
theorem refright_is {m : List Cl} {b : Bool} (hr : Row w a cap m) (H : Hid (rightP m = b)) :
    Calls Try.prog 16 #[.slice a m.length cap] w fun e w' => e = .returned (.bool b) ∧ Below w.heap.size w w' :=
  (refright7_any a cap w m hr).mono fun _ _ ⟨he, hb⟩ => ⟨by rw [he]; exact ret_bool H.out, hb⟩
theorem ints_is {xs ys : List Int} {b : Bool} (hx : Row w a cap xs) (hy : Row w a' cap' ys) (H : Hid (decide (xs = ys) = b)) :
    Calls Try.prog 22 #[.slice a xs.length cap, .slice a' ys.length cap'] w fun e w' => e = .returned (.bool b) ∧ Below w.heap.size w w' :=
  (ints7_any a cap a' cap' w xs ys hx hy).mono fun _ _ ⟨he, hb⟩ => ⟨by rw [he]; exact ret_bool H.out, hb⟩
theorem samelinks_is {xs ys : List Lk} {b : Bool} (hx : Row w a cap xs) (hy : Row w a' cap' ys) (H : Hid (decide (xs = ys) = b)) :
    Calls Try.prog 25 #[.slice a xs.length cap, .slice a' ys.length cap'] w fun e w' => e = .returned (.bool b) ∧ Below w.heap.size w w' :=
  (samelinks_any a cap a' cap' w xs ys hx hy).mono fun _ _ ⟨he, hb⟩ => ⟨by rw [he]; exact ret_bool H.out, hb⟩
end
theorem great_len {l : List Cl} (h : greatB l = false) : l.length ≤ 70 := by
  rw [great_eq, Bool.or_eq_false_iff] at h
  have := h.1
  simp at this
  omega
theorem clv_at {w wr : World} {b off cap : Nat} {xs : List Cl} (hat : ∀ i (hi : i < xs.length), Rep.E w b (off + i * Rep.sz Cl) xs[i]) (hb : Below w.heap.size w wr) {k : Nat} (hk : k < xs.length) :
    ∃ a cap a' cap', wr.cell? ⟨b, off + k * 2, none⟩ = some (.slice a xs[k].h.length cap) ∧ wr.cell? ⟨b, off + k * 2 + 1, none⟩ = some (.slice a' xs[k].b.length cap') ∧ ClV wr a cap a' cap' xs[k] := by
  obtain ⟨a, cap, a', cap', h0, h1, h2, h3⟩ := cl_at hat hb hk
  exact ⟨a, cap, a', cap', h0, h1, h2, h3⟩
end Go.Proofs.Ytkgebkinlpmpnaa
namespace Go.Proofs.Ytkgebkinlpmpnaa
open Go.RowKit Go.Shelf Go.Lib

/-- append of all of a slice, as a run -/
theorem run_accs {α : Type} [RepC α] {P : Program} {w : World} (t : TypeId) (B e bytes : Nat) (z : Value) (ht : P.underlying t = some (.slice e)) (hinfo : (P.info? e).map (fun i => (i.zero, i.size, i.bytes)) = some (some z, Rep.sz α, bytes))
    (hzs : z.cells.size = Rep.sz α) (hby : bytes ≤ 1000) {v : Value} {acc : List α} (hacc : AccInv B e acc v w) {sa : Option Addr} {cap : Nat} {ys : List α} (hr : Row (hide v.ownBlock w) sa cap ys)
    (hmax : acc.length + ys.length ≤ 1000000000) (hB : B ≤ w.heap.size) :
    ∃ v' w', (Builtin.append_ #[t, t] t #[v, .slice sa ys.length cap]).run P w = .ok v' w' ∧ AccInv B e (acc ++ ys) v' w' ∧ Below B w w' := by
  obtain ⟨vs, hown, hc⟩ := hacc.ex
  obtain ⟨us, hu, hsrc⟩ := hr.srcK (hide_keeps _ _)
  obtain ⟨i, hi, hz0, hz1, hz2⟩ := info_parts hinfo
  cases sa with
  | none =>
    have h0 : ys.length = 0 := (hsrc.nil rfl).1
    have hc0 : cap = 0 := (hsrc.nil rfl).2
    obtain rfl : ys = [] := List.eq_nil_of_length_eq_zero h0
    subst hc0
    exact ⟨v, w, run_append_owned_none (P := P) (w := w) B t t e i (Rep.sz α) ht hi v acc.length vs hown, ⟨vs, by rw [List.append_nil]; exact hown, by rw [List.append_nil]; exact hc⟩, Below.refl _ _⟩
  | some ad =>
    have hb : (acc.length + ys.length) * bytes ≤ 140737488355328 := Nat.le_trans (Nat.mul_le_mul hmax hby) (by decide)
    obtain ⟨v', w', hr, h2, h3, h4⟩ := run_append_where (P := P) w B t t e i z (Rep.sz α) bytes ht hi hz0 hz1 hz2 hzs RepC.pos v acc.length vs hown ad ys.length cap us hsrc.len (hsrc.cells ad rfl) hsrc.one (by unfold maxLen; omega) hb hB
    exact ⟨v', w', hr, ⟨vs ++ us, by rw [List.length_append]; exact h2, (hc.keeps (hide_next h3 h4)).append (hu.keeps (hide_next h3 h4))⟩, grown_below h3 hown hB⟩
def turnK (m : List Cl) (k : Nat) : List Cl := m.drop k ++ m.take k
theorem turnK_len (m : List Cl) (k : Nat) : (turnK m k).length = m.length := by
  unfold turnK; rw [List.length_append, List.length_drop, List.length_take]; omega
theorem turnK_mem (m : List Cl) (k : Nat) (c : Cl) : c ∈ turnK m k ↔ c ∈ m := by
  unfold turnK
  rw [List.mem_append]
  constructor
  · rintro (h | h)
    · exact List.mem_of_mem_drop h
    · exact List.mem_of_mem_take h
  · intro h
    rw [← List.take_append_drop k m] at h
    rcases List.mem_append.1 h with h | h
    · exact .inr h
    · exact .inl h
end Go.Proofs.Ytkgebkinlpmpnaa
namespace Go.Proofs.Ytkgebkinlpmpnaa
open Go.RowKit Go.Shelf Go.Lib

theorem row_takeK {α : Type} [Rep α] {w : World} {b off cap : Nat} {xs : List α} (h : Row w (some ⟨b, off, none⟩) cap xs) (k : Nat) : Row w (some ⟨b, off, none⟩) cap (xs.take k) :=
  ⟨by have := h.le; rw [List.length_take]; omega, h.max, h.nil, fun i x hi => h.at_ i x (by
    rw [List.getElem?_take] at hi
    split at hi
    · exact hi
    · cases hi)⟩
set_option maxHeartbeats 3200000 in
set_option maxRecDepth 100000 in
theorem turn_any {a : Option Addr} {cap : Nat} {w : World} {m : List Cl} {n : Int} (hr : Row w a cap m) (hn : (Lit.int .u8 n).wf = true) (hl : m.length ≤ 1000) (h0 : 0 < m.length) :
    Calls Try.prog 34 #[.slice a m.length cap, .int .u8 n] w fun e w' => ∃ k v, e = .returned v ∧ AccInv w.heap.size 31 (turnK m k) v w' ∧ Below w.heap.size w w' := by
  have hm1 := hr.max
  have hm2 := hr.le
  have hn2 : 0 ≤ n ∧ n ≤ 255 := by
    simp [Lit.wf, IntKind.min, IntKind.max, IntKind.signed, IntKind.bits] at hn
    omega
  obtain ⟨k, hk, hkl⟩ : ∃ k : Nat, Int.tmod n m.length = k ∧ k < m.length := by
    have h1 : Int.tmod n m.length = n % m.length := Int.tmod_eq_emod_of_nonneg hn2.1
    have h2 := Int.emod_nonneg n (show (m.length : Int) ≠ 0 by omega)
    have h3 := Int.emod_lt_of_pos n (show (0 : Int) < m.length by omega)
    generalize n % (m.length : Int) = r at h1 h2 h3
    exact ⟨r.toNat, by rw [h1]; omega, by omega⟩
  have hz : ((m.length : Int) == 0) = false := beq_false_of_ne (by omega)
  have hz2 : decide ((m.length : Int) = 0) = false := decide_eq_false (by omega)
  obtain ⟨b, off, rfl, hb, hat⟩ := hr.cases.resolve_left (fun e => by simp [e] at h0)
  have hkm : k ≤ m.length := by omega
  have hkc : k ≤ cap := by omega
  have hne : ¬ cap = k := by omega
  have hd1 : (m.drop k).length = m.length - k := by simp
  have hd2 : (m.take k).length = k := by rw [List.length_take]; omega
  have hacc0 := AccInv.made (α := Cl) (B := w.heap.size) (e := 31) (T := 31) w (Nat.le_refl _) rfl
  have hb0 := (Below.refl w.heap.size w).new (.cells #[] 31)
  have hd0 : Below w.heap.size w (w.alloc (.cells #[] 31)).drew := hb0.drew
  have hacc1 : AccInv w.heap.size 31 ([] : List Cl) (.slice (some ⟨w.heap.size, 0, none⟩) 0 0) (w.alloc (.cells #[] 31)).drew := hacc0.below (Below.refl _ _).drew
  have hrow1 : Row (hide (Value.slice (some ⟨w.heap.size, 0, none⟩) 0 0).ownBlock (w.alloc (.cells #[] 31)).drew) (some ⟨b, off + k * 2, none⟩) (cap - k) (m.drop k) := (row_from hr (Nat.le_of_lt hkl)).keeps (hacc1.fresh hd0)
  obtain ⟨v1, w1, hrun1, hacc2, hb1⟩ := run_accs (P := Try.prog) 22 w.heap.size 31 48 _ Try.underlying22 Try.infoClause rfl (by decide) hacc1 hrow1 (by simp; omega) hd0.size
  rw [List.nil_append] at hacc2
  have hb01 := hd0.trans hb1
  have hrow2 : Row (hide v1.ownBlock w1) (some ⟨b, off, none⟩) cap (m.take k) := (row_takeK hr k).keeps (hacc2.fresh hb01)
  obtain ⟨v2, w2, hrun2, hacc3, hb2⟩ := run_accs (P := Try.prog) 22 w.heap.size 31 48 _ Try.underlying22 Try.infoClause rfl (by decide) hacc2 hrow2 (by simp; omega) hb01.size
  rw [hd1] at hrun1
  rw [hd2] at hrun2
  have hrun1a : (Builtin.append_ #[22, 22] 22 #[.slice (some ⟨w.heap.size, 0, none⟩) 0 0, .slice (some ⟨b, off + k * 2, none⟩) (m.length - k) (cap - k)]).run Try.prog (w.alloc (.cells #[] 31)).drew = .ok v1 w1 := hrun1
  have hrun1b : (Builtin.append_ #[22, 22] 22 #[.slice (some ⟨w.heap.size, 0, none⟩) 0 0, .slice (some ⟨b, off + k * 2, none⟩) (m.length - k) (cap - k)]).run Try.prog (w.drew.alloc (.cells #[] 31)) = .ok v1 w1 := hrun1
  clear hrun1 hd1 hd2 hrow1 hrow2 hacc0 hacc1 hacc2 hb hat hb0
  have HACC := mkHid hacc3
  have hbz := hb01.trans hb2
  clear hacc3 hb1 hb2 hd0 hb01
  go_enter Try.func34, Try.ntmps34
  go_wp2
  refine wp_region_noPanic ?_
  refine wp_region_held_drew (S := (fun _ : World => True)) (by kernel_rfl) (trivial) (fun hSd => ?_)
  refine wpAnyH_take (i := 1) (oi := _) (v := ?_) rfl (by kernel_rfl) (by kernel_rfl) (by kernel_rfl) (fun _ _ _ h => h) (Or.inl ⟨by rfl, ?_⟩) (by assumption) ?_
  rotate_left
  · (intro w' hSw; (try dsimp only at hSw); go_simp; try with_reducible rfl)
  (try simp only [Act.put, List.setIfInBounds_toArray, List.set_cons_zero, List.set_cons_succ])
  refine wpAnyH_take (i := 2) (oi := _) (v := ?_) rfl (by kernel_rfl) (by kernel_rfl) (by kernel_rfl) (fun _ _ _ h => h) (Or.inl ⟨by rfl, ?_⟩) (by assumption) ?_
  rotate_left
  · (intro w' hSw; (try dsimp only at hSw); go_simp; try with_reducible rfl)
  (try simp only [Act.put, List.setIfInBounds_toArray, List.set_cons_zero, List.set_cons_succ])
  refine wpAnyH_take (i := 3) (oi := _) (v := ?_) rfl (by kernel_rfl) (by kernel_rfl) (by kernel_rfl) (fun _ _ _ h => h) (Or.inl ⟨by rfl, ?_⟩) (by assumption) ?_
  rotate_left
  · (intro w' hSw; (try dsimp only at hSw); go_simp; try with_reducible rfl)
  (try simp only [Act.put, List.setIfInBounds_toArray, List.set_cons_zero, List.set_cons_succ])
  refine wpAnyH_take (i := 5) (oi := _) (v := ?_) rfl (by kernel_rfl) (by kernel_rfl) (by kernel_rfl) (fun _ _ _ h => h) (Or.inl ⟨by rfl, ?_⟩) (by assumption) ?_
  rotate_left
  · (intro w' hSw; (try dsimp only at hSw); go_simp; try with_reducible rfl)
  (try simp only [Act.put, List.setIfInBounds_toArray, List.set_cons_zero, List.set_cons_succ])
  refine wpAnyH_take (i := 6) (oi := _) (v := ?_) rfl (by kernel_rfl) (by kernel_rfl) (by kernel_rfl) (fun _ _ _ h => h) (Or.inl ⟨by rfl, ?_⟩) (by assumption) ?_
  rotate_left
  · (intro w' hSw; (try dsimp only at hSw); go_simp; try with_reducible rfl)
  (try simp only [Act.put, List.setIfInBounds_toArray, List.set_cons_zero, List.set_cons_succ])
  refine wpAnyH_take (i := 7) (oi := _) (v := ?_) rfl (by kernel_rfl) (by kernel_rfl) (by kernel_rfl) (fun _ _ _ h => h) (Or.inl ⟨by rfl, ?_⟩) (by assumption) ?_
  rotate_left
  · (intro w' hSw; (try dsimp only at hSw); go_simp; try with_reducible rfl)
  (try simp only [Act.put, List.setIfInBounds_toArray, List.set_cons_zero, List.set_cons_succ])
  refine wpAnyH_ready (rs := [0]) (by kernel_rfl) (by simp) ?_
  refine AllReadyH.cons (o := _) rfl (fun Kq hKq => ?_) AllReadyH.nil
  go_simp
  refine hKq.out _ _ (trivial) (fun _ => ?_)
  clear hKq Kq
  (try simp only [Act.put, List.setIfInBounds_toArray, List.set_cons_zero, List.set_cons_succ])
  refine wpAnyH_ready (rs := [4]) (by kernel_rfl) (by simp) ?_
  refine AllReadyH.cons (o := _) rfl (fun Kq hKq => ?_) AllReadyH.nil
  (rw [if_pos (by rfl)]; simp [Oper.wp, execOp, resolve, invoke, builtin, Oper.upon, Act.eval, hrun1a, hrun1b, Result.andThen, Sem.run_bind])
  refine hKq.out _ _ (trivial) (fun _ => ?_)
  clear hKq Kq
  (try simp only [Act.put, List.setIfInBounds_toArray, List.set_cons_zero, List.set_cons_succ])
  refine wpAnyH_ready (rs := [8]) (by kernel_rfl) (by simp) ?_
  refine AllReadyH.cons (o := _) rfl (fun Kq hKq => ?_) AllReadyH.nil
  (rw [if_pos (by rfl)]; simp [Oper.wp, execOp, resolve, invoke, builtin, Oper.upon, Act.eval, hrun2, Result.andThen, Sem.run_bind])
  refine hKq.out _ _ (trivial) (fun _ => ?_)
  clear hKq Kq
  (try simp only [Act.put, List.setIfInBounds_toArray, List.set_cons_zero, List.set_cons_succ])
  refine wpAnyH_ready (rs := [9]) (by kernel_rfl) (by simp) ?_
  refine AllReadyH.cons (o := _) rfl (fun Kq hKq => ?_) AllReadyH.nil
  go_simp
  refine hKq.out _ _ (trivial) (fun _ => ?_)
  clear hKq Kq
  (try simp only [Act.put, List.setIfInBounds_toArray, List.set_cons_zero, List.set_cons_succ])
  refine wpAnyH_done (by kernel_rfl) (NoPanic.normal ?_) _
  go_wp2
  go_ret
  exact ⟨k, v2, rfl, HACC.out, hbz⟩
end Go.Proofs.Ytkgebkinlpmpnaa
namespace Go.Proofs.Ytkgebkinlpmpnaa
open Go.RowKit

/-! ### safe clauses, plain: longer and shorter bodies -/
def bodyV (l : List Lt) : List Int := l.flatMap fun y => varsL y.t
theorem safeGo_is : ∀ {l : List Lt} {bd r : List Int}, safeGo bd l = some r → r = bd ++ bodyV l
  | [], bd, r, h => by simp [safeGo] at h; subst h; simp [bodyV]
  | x :: l, bd, r, h => by
    unfold safeGo at h
    split at h
    · cases h
    · rw [safeGo_is h, List.append_assoc]; rfl
theorem within_mono {a bd bd' : List Int} (h : ∀ n ∈ bd, n ∈ bd') (hw : withinB a bd = true) : withinB a bd' = true := by
  unfold withinB at *
  rw [List.all_eq_true] at *
  intro n hn
  have := hw n hn
  simp at this ⊢
  exact h n this
theorem safeGo_mono : ∀ (l : List Lt) {bd bd' r : List Int}, (∀ n ∈ bd, n ∈ bd') → safeGo bd l = some r → ∃ r', safeGo bd' l = some r' ∧ ∀ n ∈ r, n ∈ r'
  | [], bd, bd', r, h, e => by simp [safeGo] at e; subst e; exact ⟨bd', rfl, h⟩
  | x :: l, bd, bd', r, h, e => by
    unfold safeGo at e ⊢
    split at e
    · cases e
    · rename_i h1
      have h2 : ¬ (x.neg && !withinB (varsL x.t) bd') = true := by
        intro h3
        rw [Bool.and_eq_true] at h3
        apply h1
        rw [Bool.and_eq_true]
        refine ⟨h3.1, ?_⟩
        cases hw : withinB (varsL x.t) bd with
        | false => rfl
        | true => rw [within_mono h hw] at h3; exact absurd h3.2 (by simp)
      rw [if_neg h2]
      refine safeGo_mono l (fun n hn => ?_) e
      rcases List.mem_append.1 hn with hn | hn
      · exact List.mem_append.2 (.inl (h n hn))
      · exact List.mem_append.2 (.inr hn)
theorem safeGo_take : ∀ (l : List Lt) (k : Nat) {bd r : List Int}, safeGo bd l = some r → ∃ r', safeGo bd (l.take k) = some r'
  | l, 0, bd, r, _ => ⟨bd, by simp [safeGo]⟩
  | [], k + 1, bd, r, _ => ⟨bd, rfl⟩
  | x :: l, k + 1, bd, r, e => by
    rw [List.take_succ_cons]
    unfold safeGo at e ⊢
    split at e
    · cases e
    · rename_i h1
      rw [if_neg h1]
      exact safeGo_take l k e
theorem safeGo_snoc : ∀ (l : List Lt) {bd : List Int} (y : Lt), safeGo bd (l ++ [y]) = (safeGo bd l).bind fun r => safeGo r [y]
  | [], bd, y => rfl
  | x :: l, bd, y => by
    rw [List.cons_append]
    unfold safeGo
    split
    · rfl
    · exact safeGo_snoc l y
def soL : List Cel := [⟨3, ⟨#[115, 111]⟩, 0⟩]
theorem so_atom : atomB soL = true := by decide +kernel
theorem so_vars : varsL soL = [] := by decide +kernel
theorem safe_iff {x : Cl} : safeB x = true ↔ mayB x = true ∧ ∃ r, safeGo [] x.b = some r ∧ withinB (varsL x.h) r = true := by
  unfold safeB
  rw [Bool.and_eq_true]
  refine and_congr_right fun _ => ?_
  cases safeGo [] x.b with
  | none => simp
  | some r => simp
theorem may_iff {h : List Cel} {b : List Lt} : mayB ⟨h, b⟩ = true ↔ b.length ≤ 8 ∧ (∀ x ∈ b, atomB x.t = true) ∧ atomB h = true := by
  unfold mayB
  rw [Bool.and_eq_true, Bool.and_eq_true, List.all_eq_true, decide_eq_true_iff, and_assoc]
theorem cut_take {x : Cl} (h : safeB x = true) (k : Nat) : safeB ⟨soL, x.b.take k⟩ = true := by
  obtain ⟨hm, r, hr, _⟩ := safe_iff.1 h
  obtain ⟨h8, hat, _⟩ := may_iff.1 hm
  obtain ⟨r', hr'⟩ := safeGo_take x.b k hr
  refine safe_iff.2 ⟨may_iff.2 ⟨by rw [List.length_take]; omega, fun y hy => hat y (List.mem_of_mem_take hy), so_atom⟩, r', hr', ?_⟩
  show withinB (varsL soL) r' = true
  rw [so_vars]; rfl
theorem cut_ahead {x : Cl} (h : safeB x = true) {t : List Cel} (ht : atomB t = true) : safeB ⟨x.h, ⟨false, t⟩ :: x.b⟩ = decide (x.b.length < 8) := by
  obtain ⟨hm, r, hr, hw⟩ := safe_iff.1 h
  obtain ⟨h8, hat, hah⟩ := may_iff.1 hm
  by_cases hl : x.b.length < 8
  · rw [decide_eq_true hl]
    obtain ⟨r', hr', hsub⟩ := safeGo_mono x.b (bd := []) (bd' := [] ++ varsL t) (by simp) hr
    refine safe_iff.2 ⟨may_iff.2 ⟨by simp; omega, fun y hy => ?_, hah⟩, r', ?_, within_mono hsub hw⟩
    · rcases List.mem_cons.1 hy with rfl | hy
      · exact ht
      · exact hat y hy
    · exact hr'
  · rw [decide_eq_false hl]
    have : mayB ⟨x.h, ⟨false, t⟩ :: x.b⟩ = false := by
      cases e : mayB ⟨x.h, ⟨false, t⟩ :: x.b⟩ with
      | false => rfl
      | true => have := (may_iff.1 e).1; simp at this; omega
    unfold safeB; rw [this]; rfl
theorem cut_behind {x : Cl} (h : safeB x = true) {t : List Cel} (ht : atomB t = true) : safeB ⟨x.h, x.b ++ [⟨false, t⟩]⟩ = decide (x.b.length < 8) := by
  obtain ⟨hm, r, hr, hw⟩ := safe_iff.1 h
  obtain ⟨h8, hat, hah⟩ := may_iff.1 hm
  by_cases hl : x.b.length < 8
  · rw [decide_eq_true hl]
    refine safe_iff.2 ⟨may_iff.2 ⟨by simp; omega, fun y hy => ?_, hah⟩, r ++ varsL t, ?_, within_mono (fun n hn => List.mem_append.2 (.inl hn)) hw⟩
    · rcases List.mem_append.1 hy with hy | hy
      · exact hat y hy
      · obtain rfl := List.mem_singleton.1 hy; exact ht
    · show safeGo [] (x.b ++ [⟨false, t⟩]) = _
      rw [safeGo_snoc, hr]; rfl
  · rw [decide_eq_false hl]
    have : mayB ⟨x.h, x.b ++ [⟨false, t⟩]⟩ = false := by
      cases e : mayB ⟨x.h, x.b ++ [⟨false, t⟩]⟩ with
      | false => rfl
      | true => have := (may_iff.1 e).1; simp at this; omega
    unfold safeB; rw [this]; rfl
def posL (l : List Lt) : List Lt := l.map fun y => ⟨false, y.t⟩
theorem pos_len (l : List Lt) : (posL l).length = l.length := by simp [posL]
theorem safeGo_pos : ∀ (l : List Lt) (bd : List Int), safeGo bd (posL l) = some (bd ++ bodyV l)
  | [], bd => by simp [posL, safeGo, bodyV]
  | x :: l, bd => by
    show safeGo bd (⟨false, x.t⟩ :: posL l) = _
    unfold safeGo
    rw [if_neg (by simp), safeGo_pos l, List.append_assoc]; rfl
theorem pos_safe {x : Cl} (h : safeB x = true) {l : List Lt} (hl : l.length ≤ 8) (hm : ∀ y, y ∈ l ↔ y ∈ x.b) : safeB ⟨x.h, posL l⟩ = true := by
  obtain ⟨hma, r, hr, hw⟩ := safe_iff.1 h
  obtain ⟨h8, hat, hah⟩ := may_iff.1 hma
  refine safe_iff.2 ⟨may_iff.2 ⟨by rw [pos_len]; exact hl, fun y hy => ?_, hah⟩, _, safeGo_pos l [], ?_⟩
  · unfold posL at hy
    obtain ⟨z, hz, rfl⟩ := List.mem_map.1 hy
    exact hat z ((hm z).1 hz)
  · refine within_mono (fun n hn => ?_) hw
    rw [safeGo_is hr, List.nil_append] at hn
    rw [List.nil_append]
    unfold bodyV at *
    obtain ⟨y, hy, hny⟩ := List.mem_flatMap.1 hn
    exact List.mem_flatMap.2 ⟨y, (hm y).2 hy, hny⟩
theorem odd_safe {h : List Cel} {b : List Lt} {n : Int} (hn : n ∉ bodyV b) {y : List Cel} (hy : n ∈ varsL y) : safeB ⟨h, b ++ [⟨true, y⟩]⟩ = false := by
  cases e : safeB ⟨h, b ++ [⟨true, y⟩]⟩ with
  | false => rfl
  | true =>
    exfalso
    obtain ⟨_, r, hr, _⟩ := safe_iff.1 e
    replace hr : safeGo [] (b ++ [⟨true, y⟩]) = some r := hr
    rw [safeGo_snoc] at hr
    cases hg : safeGo [] b with
    | none => rw [hg] at hr; cases hr
    | some s =>
      rw [hg] at hr
      have hs := safeGo_is hg
      rw [List.nil_append] at hs
      subst hs
      have hf : withinB (varsL y) (bodyV b) = false := by
        cases hw : withinB (varsL y) (bodyV b) with
        | false => rfl
        | true =>
          have := List.all_eq_true.1 hw n hy
          simp at this
          exact absurd this hn
      simp [safeGo, hf] at hr
end Go.Proofs.Ytkgebkinlpmpnaa
namespace Go.Proofs.Ytkgebkinlpmpnaa
open Go.RowKit Go.Shelf Go.Lib

/-- append that tells which block has turned, and where the row lies -/
theorem wpList_app3 {P : Program} {w : World} {ops : Array Oper} {rest : List Oper} {o : Oper} {a : Act} {Q : Exit → Act → World → Prop} (hgd : o.guard = none) (s x : Operand) (t : TypeId)
    (ho : o.op = .call { callee := .builtin .append, args := #[s, x], argTypes := #[t, t] })
    (B e size bytes : Nat) (z : Value) (ht : P.underlying t = some (.slice e)) (hinfo : (P.info? e).map (fun i => (i.zero, i.size, i.bytes)) = some (some z, size, bytes))
    (hzs : z.cells.size = size) (hsz : 0 < size) (hby : bytes ≤ 1000)
    (v : Value) (n : Nat) (xs : List Value) (hs : a.eval s = v) (hown : w.ownsRow B e size v n xs)
    (sa : Addr) (m c : Nat) (news : List Value) (hx : a.eval x = .slice (some sa) m c) (hsrc : Src w size (some sa) m c news)
    (hmax : n + m ≤ 1000000000) (hB : B ≤ w.heap.size)
    (h : ∀ v' w', w'.ownsRow B e size v' (n + m) (xs ++ news) → w.grownBy w' v.ownBlock → Below B w w' → (v'.ownBlock = v.ownBlock ∨ v'.ownBlock = some w.heap.size) → wpList P ops Q rest (a.put o.dst v') w') : wpList P ops Q (o :: rest) a w := by
  obtain ⟨i, hi, hz0, hz1, hz2⟩ := info_parts hinfo
  have hb : (n + m) * bytes ≤ 140737488355328 := Nat.le_trans (Nat.mul_le_mul hmax hby) (by decide)
  refine wpList_plain hgd fun K hK => ?_
  obtain ⟨v', w', hr, h2, h3, h4⟩ := run_append_where (P := P) w B t o.type e i z size bytes ht hi hz0 hz1 hz2 hzs hsz v n xs hown sa m c news hsrc.len (hsrc.cells sa rfl) hsrc.one (by unfold maxLen; omega) hb hB
  unfold Oper.wp execOp
  simp only [ho, resolve, invoke, builtin, Sem.run_bind, Sem.run_pure, Result.andThen_ok, List.map_toArray, List.map_cons, List.map_nil, hs, hx, hr]
  exact hK _ _ (h v' w' h2 h3 (grown_below h3 hown hB) h4)

/-- two rows of literals of the call's own, whose terms are elder -/
structure TwoL (w0 : World) (B : Nat) (A C : List Lt) (v u : Value) (w : World) : Prop where
  a : ∃ vs, w.ownsRow B 47 2 v A.length vs ∧ CRows w0 vs A
  c : ∃ vs, w.ownsRow B 47 2 u C.length vs ∧ CRows w0 vs C
  ne : ∀ g, v.ownBlock = some g → u.ownBlock ≠ some g
section
variable {w0 w w' : World} {B : Nat} {A C : List Lt} {v u : Value}
theorem TwoL.below (h : TwoL w0 B A C v u w) (hb : Below w.heap.size w w') : TwoL w0 B A C v u w' :=
  let ⟨vs, h1, h2⟩ := h.a
  let ⟨us, h3, h4⟩ := h.c
  ⟨⟨vs, own_belowA h1 hb, h2⟩, ⟨us, own_belowA h3 hb, h4⟩, h.ne⟩
theorem TwoL.rows (h : TwoL w0 B A C v u w) (hk : Keeps w0 w) : (∃ a cap, v = .slice a A.length cap ∧ Row w a cap A) ∧ ∃ a cap, u = .slice a C.length cap ∧ Row w a cap C :=
  let ⟨_, h1, h2⟩ := h.a
  let ⟨_, h3, h4⟩ := h.c
  ⟨own_rowG h1 (h2.keeps hk), own_rowG h3 (h4.keeps hk)⟩
/-- literals just laid go to the first row -/
theorem wpList_two1 {ops : Array Oper} {rest : List Oper} {o : Oper} {a : Act} {Q : Exit → Act → World → Prop} (hgd : o.guard = none) (s x : Operand)
    (ho : o.op = .call { callee := .builtin .append, args := #[s, x], argTypes := #[29, 29] })
    (h : TwoL w0 B A C v u w) (hs : a.eval s = v) {neg : Bool} {ta : Option Addr} {tc : Nat} {t : List Cel} (hr : Row w0 ta tc t)
    (hx : a.eval x = .slice (some ⟨w.heap.size, 0, none⟩) 1 1) (hmax : A.length ≤ 1000000) (hB : B ≤ w.heap.size)
    (hk : ∀ v' w', TwoL w0 B (A ++ [⟨neg, t⟩]) C v' u w' → Below B w w' → wpList Try.prog ops Q rest (a.put o.dst v') w') :
    wpList Try.prog ops Q (o :: rest) a (w.alloc (.cells #[.bool neg, .slice ta t.length tc] 47)) := by
  obtain ⟨vs, h1, h2⟩ := h.a
  obtain ⟨us, h3, h4⟩ := h.c
  refine wpList_app3 hgd s x 29 ho B 47 2 32 _ Try.underlying29 Try.infoLit rfl (by decide) (by decide) v A.length vs hs (h1.alloc _) ⟨w.heap.size, 0, none⟩ 1 1 [.bool neg, .slice ta t.length tc] hx
    (src_new w #[.bool neg, .slice ta t.length tc] 47 2 (by simp) (fun u hu => by simp at hu; rcases hu with rfl | rfl <;> rfl)) (by omega) (Nat.le_trans hB (by simp)) ?_
  intro v' w' k1 k2 k3 k4
  have hl := h1.lt
  refine hk v' w' ⟨⟨_, by rw [List.length_append]; exact k1, h2.snoc (cs := [.bool neg, .slice ta t.length tc]) ⟨ta, tc, rfl, hr⟩⟩, ⟨us, (h3.alloc _).kept k2 ?_, h4⟩, ?_⟩ (((Below.refl B w).alloc hB _).trans k3)
  · cases hv : v.ownBlock with
    | none => cases hu : u.ownBlock <;> simp
    | some g => exact .inr (h.ne g hv)
  · intro g hg hu
    rcases k4 with e | e
    · rw [e] at hg; exact h.ne g hg hu
    · rw [e] at hg
      injection hg with hg
      subst hg
      have := (h3.lt _ hu).2
      simp at this
      omega
theorem wpList_two2 {ops : Array Oper} {rest : List Oper} {o : Oper} {a : Act} {Q : Exit → Act → World → Prop} (hgd : o.guard = none) (s x : Operand)
    (ho : o.op = .call { callee := .builtin .append, args := #[s, x], argTypes := #[29, 29] })
    (h : TwoL w0 B A C v u w) (hs : a.eval s = u) {neg : Bool} {ta : Option Addr} {tc : Nat} {t : List Cel} (hr : Row w0 ta tc t)
    (hx : a.eval x = .slice (some ⟨w.heap.size, 0, none⟩) 1 1) (hmax : C.length ≤ 1000000) (hB : B ≤ w.heap.size)
    (hk : ∀ u' w', TwoL w0 B A (C ++ [⟨neg, t⟩]) v u' w' → Below B w w' → wpList Try.prog ops Q rest (a.put o.dst u') w') :
    wpList Try.prog ops Q (o :: rest) a (w.alloc (.cells #[.bool neg, .slice ta t.length tc] 47)) :=
  wpList_two1 hgd s x ho (⟨h.c, h.a, fun g hg hv => h.ne g hv hg⟩ : TwoL w0 B C A u v w) hs hr hx hmax hB fun u' w' h' hb => hk u' w' ⟨h'.c, h'.a, fun g hg hu => h'.ne g hu hg⟩ hb
theorem TwoL.made (w : World) : TwoL w0 w.heap.size [] [] (.slice (some ⟨w.heap.size, 0, none⟩) 0 0) (.slice (some ⟨w.heap.size + 1, 0, none⟩) 0 0) ((w.alloc (.cells #[] 47)).alloc (.cells #[] 47)) := by
  have h1 := AccInv.made (α := Lt) (B := w.heap.size) (e := 47) (T := 47) w (Nat.le_refl _) rfl
  have h2 := AccInv.made (α := Lt) (B := w.heap.size) (e := 47) (T := 47) (w.alloc (.cells #[] 47)) (by simp) rfl
  rw [World.size_alloc] at h2
  have h1' := h1.below ((Below.refl _ _).new (.cells #[] 47))
  obtain ⟨vs, k1, k2⟩ := h1'.ex
  obtain ⟨us, k3, k4⟩ := h2.ex
  refine ⟨⟨[], ?_, .nil⟩, ⟨[], ?_, .nil⟩, fun g hg hu => ?_⟩
  · cases k2; exact k1
  · cases k4; exact k3
  · have e1 : w.heap.size = g := by injection hg
    have e2 : w.heap.size + 1 = g := by injection hu
    omega
end
end Go.Proofs.Ytkgebkinlpmpnaa
namespace Go.Proofs.Ytkgebkinlpmpnaa
open Go.RowKit Go.Shelf Go.Lib

/-- a literal row, just laid -/
theorem own_lit {w : World} {B e size : Nat} (hB : B ≤ w.heap.size) (cur : Array Value) (n : Nat) (hs : cur.size = n * size) (hn : n ≤ 1000000) :
    (w.alloc (.cells cur e)).ownsRow B e size (.slice (some ⟨w.heap.size, 0, none⟩) n n) n cur.toList :=
  ⟨by simpa using hs, .inr ⟨w.heap.size, n, cur, rfl, hB, heap_alloc_new w _, Nat.le_refl _, by unfold maxLen; omega, hs, by rw [List.take_of_length_le (by simp [hs])]⟩⟩
theorem AccInv.one {w : World} {B : Nat} (hB : B ≤ w.heap.size) {neg : Bool} {a : Option Addr} {c : Nat} {t : List Cel} (hr : Row w a c t) :
    AccInv B 47 [(⟨neg, t⟩ : Lt)] (.slice (some ⟨w.heap.size, 0, none⟩) 1 1) (w.alloc (.cells #[.bool neg, .slice a t.length c] 47)) := by
  refine ⟨[.bool neg, .slice a t.length c], own_lit hB #[.bool neg, .slice a t.length c] 1 rfl (by omega), ?_⟩
  exact .cons (cs := [.bool neg, .slice a t.length c]) ⟨a, c, rfl, hr.keeps (fresh_keeps (Keeps.of ((Below.refl _ _).new _)) (Nat.le_refl _))⟩ .nil
theorem lit_row {W : World} {r : Option Nat} {g : Nat} {neg : Bool} {a : Option Addr} {c : Nat} {t : List Cel} (hg : ∀ k, r = some k → k ≠ g) (h0 : W.cell? ⟨g, 0, none⟩ = some (.bool neg)) (h1 : W.cell? ⟨g, 1, none⟩ = some (.slice a t.length c)) (hr : Row (hide r W) a c t) :
    Row (hide r W) (some ⟨g, 0, none⟩) 1 [(⟨neg, t⟩ : Lt)] := by
  have k : ∀ o v, W.cell? ⟨g, o, none⟩ = some v → (hide r W).cell? ⟨g, o, none⟩ = some v := fun o v h => by
    cases r with
    | none => exact h
    | some q => exact hide_of_ne (Ne.symm (hg q rfl)) h
  refine ⟨Nat.le_refl _, by omega, (fun e => by cases e), fun i x hi => ?_⟩
  match i with
  | 0 =>
    simp at hi
    subst hi
    exact ⟨g, 0, rfl, ⟨a, c, by simpa using k _ _ h0, by simpa using k _ _ h1, hr⟩⟩
  | i + 1 => simp at hi
theorem row_takeG {α : Type} [Rep α] {w : World} {a : Option Addr} {cap : Nat} {xs : List α} (h : Row w a cap xs) (k : Nat) : Row w a cap (xs.take k) :=
  ⟨by have := h.le; rw [List.length_take]; omega, h.max, h.nil, fun i x hi => h.at_ i x (by
    rw [List.getElem?_take] at hi
    split at hi
    · exact hi
    · cases hi)⟩
theorem refatom_is {a : Option Addr} {cap : Nat} {w : World} {t : List Cel} {b : Bool} (hr : Row w a cap t) (H : Hid (atomB t = b)) :
    Calls Try.prog 32 #[.slice a t.length cap] w fun e w' => e = .returned (.bool b) ∧ Below w.heap.size w w' :=
  (refatom_any a cap w t hr).mono fun _ _ ⟨he, hb⟩ => ⟨by rw [he]; exact ret_bool H.out, hb⟩
theorem cells_new {w : World} {B : Nat} {xs : List Cel} (hB : B ≤ w.heap.size) (h : ∀ c ∈ xs, c.fit) (hl : xs.length ≤ 1000) :
    NewRow B (w.alloc (.cells (flat xs).toArray 50)) (some ⟨w.heap.size, 0, none⟩) xs.length xs := by
  have ho := own_lit (e := 50) (size := 3) hB (flat xs).toArray xs.length (by simp [flat_length]) (by omega)
  obtain ⟨a, c, e, hn⟩ := own_new (xs := xs) (by simpa using ho) h
  injection e with e1 e2 e3
  subst e1; subst e3
  exact hn
theorem atom_varN (b : UInt8) (n : Int) (w : World) (h1 : 0 ≤ n) (h2 : n ≤ 1000000) :
    Calls Try.prog 33 #[.string ⟨#[b]⟩, .int .i64 n] w fun e w' => ∃ a c, e = .returned (.slice a 2 c) ∧ NewRow w.heap.size w' a c (a1L b n) ∧ Below w.heap.size w w' := by
  have hd : decide (n < 0) = false := by simp; omega
  have hr := cells_new (w := w) (B := w.heap.size) (xs := a1L b n) (Nat.le_refl _) (by intro c hc; simp [a1L] at hc; rcases hc with rfl | rfl; exact fC_fit b (by omega) (by omega); exact vC_fit (by omega) (by omega)) (by simp [a1L])
  have hb := (Below.refl w.heap.size w).new (.cells (flat (a1L b n)).toArray 50)
  have HR := mkHid hr
  have HB := mkHid hb
  clear hr hb
  go_enter Try.func33, Try.ntmps33
  go_wp2
  go_ret
  exact ⟨_, _, rfl, HR.out, HB.out⟩
end Go.Proofs.Ytkgebkinlpmpnaa
namespace Go.Proofs.Ytkgebkinlpmpnaa
open Go.RowKit Go.Shelf Go.Lib

/-- append of all of a slice, as a run that tells what has turned -/
theorem run_accsW {α : Type} [RepC α] {P : Program} {w : World} (t : TypeId) (B e bytes : Nat) (z : Value) (ht : P.underlying t = some (.slice e)) (hinfo : (P.info? e).map (fun i => (i.zero, i.size, i.bytes)) = some (some z, Rep.sz α, bytes))
    (hzs : z.cells.size = Rep.sz α) (hby : bytes ≤ 1000) {v : Value} {acc : List α} (hacc : AccInv B e acc v w) {sa : Option Addr} {cap : Nat} {ys : List α} (hr : Row (hide v.ownBlock w) sa cap ys)
    (hmax : acc.length + ys.length ≤ 1000000000) (hB : B ≤ w.heap.size) :
    ∃ v' w', (Builtin.append_ #[t, t] t #[v, .slice sa ys.length cap]).run P w = .ok v' w' ∧ AccInv B e (acc ++ ys) v' w' ∧ Below B w w' ∧ w.grownBy w' v.ownBlock ∧ (v'.ownBlock = v.ownBlock ∨ v'.ownBlock = some w.heap.size) := by
  obtain ⟨vs, hown, hc⟩ := hacc.ex
  obtain ⟨us, hu, hsrc⟩ := hr.srcK (hide_keeps _ _)
  obtain ⟨i, hi, hz0, hz1, hz2⟩ := info_parts hinfo
  cases sa with
  | none =>
    have h0 : ys.length = 0 := (hsrc.nil rfl).1
    have hc0 : cap = 0 := (hsrc.nil rfl).2
    obtain rfl : ys = [] := List.eq_nil_of_length_eq_zero h0
    subst hc0
    exact ⟨v, w, run_append_owned_none (P := P) (w := w) B t t e i (Rep.sz α) ht hi v acc.length vs hown, ⟨vs, by rw [List.append_nil]; exact hown, by rw [List.append_nil]; exact hc⟩, Below.refl _ _, ⟨rfl, rfl, rfl, Nat.le_refl _, fun _ _ _ => rfl⟩, .inl rfl⟩
  | some ad =>
    have hb : (acc.length + ys.length) * bytes ≤ 140737488355328 := Nat.le_trans (Nat.mul_le_mul hmax hby) (by decide)
    obtain ⟨v', w', hr, h2, h3, h4⟩ := run_append_where (P := P) w B t t e i z (Rep.sz α) bytes ht hi hz0 hz1 hz2 hzs RepC.pos v acc.length vs hown ad ys.length cap us hsrc.len (hsrc.cells ad rfl) hsrc.one (by unfold maxLen; omega) hb hB
    exact ⟨v', w', hr, ⟨vs ++ us, by rw [List.length_append]; exact h2, (hc.keeps (hide_next h3 h4)).append (hu.keeps (hide_next h3 h4))⟩, grown_below h3 hown hB, h3, h4⟩

section
variable {W z : World} {v0 : Value} {a' ta : Option Addr} {cap' tc : Nat} {l Z : List Lt} {t : List Cel} {neg : Bool}
/-- a body, and one literal more that was laid ahead -/
theorem app_two {g : Nat} (hc : Below W.heap.size W z) (hacc : AccInv W.heap.size 47 ([] : List Lt) v0 z) (h0 : z.cell? ⟨g, 0, none⟩ = some (.bool neg)) (h1 : z.cell? ⟨g, 1, none⟩ = some (.slice ta t.length tc)) (hne : v0.ownBlock ≠ some g)
    (hl : Row W a' cap' l) (ht : Row W ta tc t) (hlen : l.length ≤ 1000) (hZ : l ++ [⟨neg, t⟩] = Z) :
    ∃ v1 w1 a2 c2 w2, (Builtin.append_ #[29, 29] 29 #[v0, .slice a' l.length cap']).run Try.prog z = .ok v1 w1 ∧
      (Builtin.append_ #[29, 29] 29 #[v1, .slice (some ⟨g, 0, none⟩) 1 1]).run Try.prog w1 = .ok (.slice a2 Z.length c2) w2 ∧
      Row w2 a2 c2 Z ∧ Below W.heap.size W w1 ∧ Below W.heap.size W w2 := by
  subst hZ
  obtain ⟨v1, w1, r1, k1, b1, g1, o1⟩ := run_accsW (P := Try.prog) 29 W.heap.size 47 32 _ Try.underlying29 Try.infoLit rfl (by decide) hacc (hl.keeps (hacc.fresh hc)) (by simp; omega) hc.size
  rw [List.nil_append] at k1
  have hc1 := hc.trans b1
  have hgz : g < z.heap.size := cell_lt h0
  have hng : some g ≠ v0.ownBlock := Ne.symm hne
  have c0 : w1.cell? ⟨g, 0, none⟩ = some (.bool neg) := g1.cell h0 hng
  have c1 : w1.cell? ⟨g, 1, none⟩ = some (.slice ta t.length tc) := g1.cell h1 hng
  have hn1 : ∀ k, v1.ownBlock = some k → k ≠ g := fun k hk e => by
    subst e
    rcases o1 with e | e
    · rw [e] at hk; exact hne hk
    · rw [e] at hk; injection hk with hk; omega
  have hrow : Row (hide v1.ownBlock w1) (some ⟨g, 0, none⟩) 1 [(⟨neg, t⟩ : Lt)] := lit_row hn1 c0 c1 (ht.keeps (k1.fresh hc1))
  obtain ⟨v2, w2, r2, k2, b2, _, _⟩ := run_accsW (P := Try.prog) 29 W.heap.size 47 32 _ Try.underlying29 Try.infoLit rfl (by decide) k1 hrow (by simp; omega) hc1.size
  obtain ⟨a2, c2, rfl, hr2⟩ := k2.row
  exact ⟨v1, w1, a2, c2, w2, r1, r2, hr2, hc1, hc1.trans b2⟩
/-- the same, where the literal is laid between -/
theorem app_mid (hc : Below W.heap.size W z) (hacc : AccInv W.heap.size 47 ([] : List Lt) v0 z)
    (hl : Row W a' cap' l) (ht : Row W ta tc t) (hlen : l.length ≤ 1000) (hZ : l ++ [⟨neg, t⟩] = Z) :
    ∃ v1 w1 a2 c2 w2, (Builtin.append_ #[29, 29] 29 #[v0, .slice a' l.length cap']).run Try.prog z = .ok v1 w1 ∧
      (Builtin.append_ #[29, 29] 29 #[v1, .slice (some ⟨w1.heap.size, 0, none⟩) 1 1]).run Try.prog (w1.alloc (.cells #[.bool neg, .slice ta t.length tc] 47)) = .ok (.slice a2 Z.length c2) w2 ∧
      Row w2 a2 c2 Z ∧ Below W.heap.size W w1 ∧ Below W.heap.size W (w1.alloc (.cells #[.bool neg, .slice ta t.length tc] 47)) ∧ Below W.heap.size W w2 := by
  subst hZ
  obtain ⟨v1, w1, r1, k1, b1, g1, o1⟩ := run_accsW (P := Try.prog) 29 W.heap.size 47 32 _ Try.underlying29 Try.infoLit rfl (by decide) hacc (hl.keeps (hacc.fresh hc)) (by simp; omega) hc.size
  rw [List.nil_append] at k1
  have hc1 := hc.trans b1
  have k1' := k1.below ((Below.refl w1.heap.size w1).new (.cells #[.bool neg, .slice ta t.length tc] 47))
  have hc2 : Below W.heap.size W (w1.alloc (.cells #[.bool neg, .slice ta t.length tc] 47)) := hc1.new _
  have hn1 : ∀ k, v1.ownBlock = some k → k ≠ w1.heap.size := fun k hk e => by
    have := (k1.lt k hk).2; omega
  have hrow : Row (hide v1.ownBlock (w1.alloc (.cells #[.bool neg, .slice ta t.length tc] 47))) (some ⟨w1.heap.size, 0, none⟩) 1 [(⟨neg, t⟩ : Lt)] :=
    lit_row hn1 (World.cell?_alloc_at _ _ _ 0 rfl) (World.cell?_alloc_at _ _ _ 1 rfl) (ht.keeps (k1'.fresh hc2))
  obtain ⟨v2, w2, r2, k2, b2, _, _⟩ := run_accsW (P := Try.prog) 29 W.heap.size 47 32 _ Try.underlying29 Try.infoLit rfl (by decide) k1' hrow (by simp; omega) hc2.size
  obtain ⟨a2, c2, rfl, hr2⟩ := k2.row
  exact ⟨v1, w1, a2, c2, w2, r1, r2, hr2, hc1, hc2, hc2.trans b2⟩
end
end Go.Proofs.Ytkgebkinlpmpnaa
namespace Go.Proofs.Ytkgebkinlpmpnaa
open Go.RowKit Go.Shelf Go.Lib

/-- a block of truths -/
def RowB (w : World) (u : Nat) (U : List Bool) : Prop := w.heap[u]? = some (.cells (U.map Value.bool).toArray 4 (0, 0))
section
variable {w w' : World} {u : Nat} {U : List Bool}
theorem RowB.lt (h : RowB w u U) : u < w.heap.size := by
  unfold RowB at h
  exact (Array.getElem?_eq_some_iff.1 h).1
theorem RowB.read (h : RowB w u U) {k : Nat} (hk : k < U.length) : w.cell? ⟨u, k, none⟩ = some (.bool U[k]) := by
  rw [cell_of_row w u k _ _ _ h]; simp [hk]
theorem RowB.free (h : RowB w u U) (k : Nat) : w.frozen? ⟨u, k, none⟩ = false := by
  unfold RowB at h
  simp [World.frozen?, h]
theorem RowB.set (h : RowB w u U) (k : Nat) (v : Bool) : RowB (w.setCell ⟨u, k, none⟩ (.bool v)) u (U.set k v) := by
  unfold RowB at *
  simp only [World.setCell, Array.getElem?_modify, if_true, h, Option.map_some]
  simp
theorem RowB.below (h : RowB w u U) (hb : Below w.heap.size w w') : RowB w' u U := (hb.block u h.lt).trans h
theorem RowB.fr (h : RowB w u U) {us : List Nat} (hf : Fr us w w') (hu : u ∉ us) : RowB w' u U := (hf.block u h.lt hu).trans h
end
theorem Try.infoBool7 : (Try.prog.info? 4).map (fun i => (i.zero, i.size, i.bytes)) = some (some (.bool false), 1, 1) := by kernel_rfl
theorem made_bools7 (n : Nat) : madeCells (Value.bool false).cells n = Array.replicate n (Value.bool false) := by
  unfold madeCells
  simp only [Value.cells]
  apply Array.ext
  · simp
  · intro i h1 h2
    simp [Nat.mod_one]
theorem run_bools7 (n : Nat) (hn : n ≤ 1000000) (w : World) : (Instr.makeSlice 58 (.int .i64 n) (.int .i64 n)).run Try.prog w = .ok (.slice (some ⟨w.heap.size, 0, none⟩) n n) (w.alloc (.cells (Array.replicate n (Value.bool false)) 4)) := by
  obtain ⟨i, hi, hz0, hz1, hz2⟩ := info_parts Try.infoBool7
  have hrun := run_make (P := Try.prog) w 58 4 i _ Try.underlying58 hi hz0 .i64 .i64 n n (by omega) (Int.le_refl _) (by rw [hz2]; omega) (by omega)
  rw [hz1, Nat.mul_one, Int.toNat_natCast, made_bools7] at hrun
  exact hrun
theorem RowB.made (w : World) (n : Nat) : RowB (w.alloc (.cells (Array.replicate n (Value.bool false)) 4)) w.heap.size (List.replicate n false) := by
  unfold RowB
  rw [heap_alloc_new]
  simp
theorem sweep_step {n : Nat} {q : Int} {K : List Lk} {so : List Bool} {k : Nat} (hk : k < K.length) : sweepL n (K.drop k) q so = sweepL n (K.drop (k + 1)) q (lead1 n q so K[k]) := by
  unfold sweepL
  rw [List.drop_eq_getElem_cons hk]; rfl
theorem lead1_yes {n : Nat} {q : Int} {so : List Bool} {x : Lk} {t : Nat} (ht : x.t = t) (h : x.f = q ∨ x.f < (n : Int) ∧ BG so x.f = true) : lead1 n q so x = so.set t true := by
  unfold lead1
  rw [if_pos h, ht]; rfl
theorem lead1_no {n : Nat} {q : Int} {so : List Bool} {x : Lk} (h : ¬ (x.f = q ∨ x.f < (n : Int) ∧ BG so x.f = true)) : lead1 n q so x = so := by
  unfold lead1
  rw [if_neg h]

set_option maxHeartbeats 3200000 in
set_option maxRecDepth 100000 in
theorem leads_any {a : Option Addr} {cap : Nat} {w : World} {n q : Nat} {K : List Lk} (hr : Row w a cap K) (hn : n ≤ 100000) (HK : Hid (LkIn n K)) :
    Calls Try.prog 36 #[.slice a K.length cap, .int .i64 q, .int .i64 n] w fun e w' => ∃ u, e = .returned (.slice (some ⟨u, 0, none⟩) n n) ∧ RowB w' u (leadsL K q n) ∧ Below w.heap.size w w' := by
  have hm := hr.max
  have hle := hr.le
  have hms := run_bools7 n (by omega)
  have hb0 := (Below.refl w.heap.size w).new (.cells (Array.replicate n (Value.bool false)) 4)
  have hz := RowB.made w n
  have HL0 : Hid ((List.replicate n false).length = n) := List.length_replicate
  have HD : Hid (leadsL K q n = leadsGo n K q (n + 1) (List.replicate n false)) := rfl
  go_enter Try.func36, Try.ntmps36
  go_wp2
  have hlt0 : w.heap.size < (w.alloc (.cells (Array.replicate n (Value.bool false)) 4)).heap.size := by simp
  generalize w.alloc (.cells (Array.replicate n (Value.bool false)) 4) = W1 at *
  generalize hu : w.heap.size = u at *
  clear hms
  have HZ := mkHid hz
  clear hz
  go_loopw [8] (fun i wr => ∃ (k g : Nat) (so : List Bool), k ≤ n + 1 ∧ i = .int .i64 k ∧ Hid (RowB wr u so) ∧ Hid (so.length = n) ∧ Hid (g + k = n + 1) ∧ Hid (leadsL K q n = leadsGo n K q g so) ∧ Below u w wr) (fun i wr => n + 1 - (intOf i).toNat)
  case atStart => exact ⟨0, n + 1, _, Nat.zero_le _, rfl, HZ, HL0, rfl, HD, hb0⟩
  case round =>
    clear HZ HL0 HD hb0 hlt0
    obtain ⟨k, g, so, hk, rfl, HB, HL, HG, HS, hb⟩ := hrel
    cases g with
    | zero =>
      have hkn : k = n + 1 := by have := HG.out; omega
      have HT : Hid (leadsL K q n = so) := HS.out
      clear HS
      go_wp2
      go_ret
      exact ⟨u, rfl, by rw [HT.out]; exact HB.out, by rw [hu]; exact hb⟩
    | succ g =>
      have hkn : k ≤ n := by have := HG.out; omega
      have HS2 : Hid (leadsL K q n = leadsGo n K q g (sweepL n (K.drop 0) q so)) := by rw [Hid, HS.out]; rfl
      clear HS
      go_wp2
      go_loopw [9] (fun i wr2 => ∃ (j : Nat) (so2 : List Bool), j ≤ K.length ∧ i = .int .i64 j ∧ Hid (RowB wr2 u so2) ∧ Hid (so2.length = n) ∧ Hid (leadsL K q n = leadsGo n K q g (sweepL n (K.drop j) q so2)) ∧ Below u w wr2) (fun i wr2 => K.length - (intOf i).toNat)
      case atStart => exact ⟨0, so, Nat.zero_le _, rfl, HB, HL, HS2, hb⟩
      case round =>
        clear HB HL HS2 hb
        obtain ⟨j, so2, hj, rfl, HB, HL, HS, hb⟩ := hrel
        by_cases hlt : j < K.length
        · obtain ⟨b, off, rfl, hbb, hat⟩ := hr.cases.resolve_left (fun e => by simp [e] at hlt)
          obtain ⟨c0, c1, c2, hlf⟩ := lk_at hat (by rw [hu]; exact hb) hlt
          obtain ⟨f1, f2, t1, t2⟩ := HK.out _ (List.getElem_mem hlt)
          obtain ⟨f, hf⟩ : ∃ f : Nat, K[j].f = f := ⟨K[j].f.toNat, by omega⟩
          obtain ⟨t, ht⟩ : ∃ t : Nat, K[j].t = t := ⟨K[j].t.toNat, by omega⟩
          have hfn : f < n := by omega
          have htn : t < n := by omega
          have hfs : f < so2.length := by have := HL.out; omega
          have e0 := HB.out.read hfs
          have e1 := HB.out.free t
          have hul := HB.out.lt
          obtain ⟨old, hold⟩ : ∃ old, wr.cell? ⟨u, t, none⟩ = some old := ⟨_, HB.out.read (k := t) (by have := HL.out; omega)⟩
          rw [hf] at c0
          rw [ht] at c1
          have x1 : decide ((f : Int) < (n : Int)) = true := by simp; omega
          have hf0 : (0 : Int) ≤ (f : Int) := by omega
          have hf1 : (f : Int) < (n : Int) := by omega
          have ht0 : (0 : Int) ≤ (t : Int) := by omega
          have ht1 : (t : Int) < (n : Int) := by omega
          have hgg : BG so2 f = so2[f] := BG_get hfs
          have hst := sweep_step (n := n) (q := (q : Int)) (so := so2) hlt
          have hb2 : Below u w (wr.setCell ⟨u, t, none⟩ (.bool true)) := hb.setCell (p := ⟨u, t, none⟩) (Nat.le_refl _) _
          have HB2 : Hid (RowB (wr.setCell ⟨u, t, none⟩ (.bool true)) u (so2.set t true)) := HB.out.set t true
          have HL2 : Hid ((so2.set t true).length = n) := by rw [Hid, List.length_set]; exact HL.out
          clear hlf hat hbb
          by_cases hq : f = q
          · have HT : Hid (leadsL K q n = leadsGo n K q g (sweepL n (K.drop (j + 1)) q (so2.set t true))) := by
              rw [Hid, HS.out, hst, lead1_yes ht (.inl (by rw [hf, hq]))]
            have y1 : decide ((f : Int) = (q : Int)) = true := by simp [hq]
            have y2 : ((f : Int) == (q : Int)) = true := by simp [hq]
            clear HS hst hq hf ht hgg e0 f1 f2 t1 t2
            go_wp2
            go_round
            case rel => exact ⟨j + 1, _, by omega, by go_num, HB2, HL2, HT, hb2⟩
            case measure => simp [intOf]; omega
          · have y1 : decide ((f : Int) = (q : Int)) = false := by simp; omega
            have y2 : ((f : Int) == (q : Int)) = false := by simp; omega
            cases hs : so2[f] with
            | true =>
              have HT : Hid (leadsL K q n = leadsGo n K q g (sweepL n (K.drop (j + 1)) q (so2.set t true))) := by
                rw [Hid, HS.out, hst, lead1_yes ht (.inr ⟨by rw [hf]; omega, by rw [hf, hgg, hs]⟩)]
              rw [hs] at e0
              clear HS hst hq hf ht hgg f1 f2 t1 t2 hs
              go_wp2
              go_round
              case rel => exact ⟨j + 1, _, by omega, by go_num, HB2, HL2, HT, hb2⟩
              case measure => simp [intOf]; omega
            | false =>
              have HT : Hid (leadsL K q n = leadsGo n K q g (sweepL n (K.drop (j + 1)) q so2)) := by
                rw [Hid, HS.out, hst, lead1_no]
                rintro (h | ⟨_, h⟩)
                · rw [hf] at h; omega
                · rw [hf, hgg, hs] at h; cases h
              rw [hs] at e0
              clear HS hst hq hf ht hgg f1 f2 t1 t2 hs
              go_wp2
              go_round
              case rel => exact ⟨j + 1, _, by omega, by go_num, HB, HL, HT, hb⟩
              case measure => simp [intOf]; omega
        · have HT : Hid (leadsL K q n = leadsGo n K q g so2) := by rw [Hid, HS.out, List.drop_eq_nil_of_le (by omega)]; rfl
          have HG2 : Hid (g + (k + 1) = n + 1) := by have := HG.out; rw [Hid]; omega
          clear HS
          go_wp2
          go_round
          case rel => exact ⟨k + 1, g, so2, by omega, by go_num, HB, HL, HG2, HT, hb⟩
          case measure => simp [intOf]; omega
end Go.Proofs.Ytkgebkinlpmpnaa
namespace Go.Proofs.Ytkgebkinlpmpnaa
open Go.RowKit

/-! ### which levels are asked for -/
def ask1 (L : List Int) (so : List Bool) (x : Lk) : List Bool := if G L x.f = G L x.t + negI x.neg then so.set x.f.toNat true else so
def askL (L : List Int) (K : List Lk) (so : List Bool) : List Bool := K.foldl (ask1 L) so
theorem ask1_len (L : List Int) (so : List Bool) (x : Lk) : (ask1 L so x).length = so.length := by unfold ask1; split <;> simp
theorem askL_len (L : List Int) : ∀ (K : List Lk) (so : List Bool), (askL L K so).length = so.length
  | [], _ => rfl
  | x :: K, so => by
    have := askL_len L K (ask1 L so x)
    rw [ask1_len] at this
    exact this
theorem ask1_up {n : Nat} {L : List Int} {so : List Bool} (hl : so.length = n) {x : Lk} (hf : In n x.f) {p : Int} (hp : In n p) (h : BG so p = true) : BG (ask1 L so x) p = true := by
  unfold ask1
  split
  · rw [BG_set hl hf hp]; split
    · rfl
    · exact h
  · exact h
theorem askL_up {n : Nat} {L : List Int} : ∀ (K : List Lk) {so : List Bool}, LkIn n K → so.length = n → ∀ p, In n p → BG so p = true → BG (askL L K so) p = true
  | [], _, _, _, _, _, h => h
  | x :: K, so, hk, hl, p, hp, h => by
    obtain ⟨h1, h2, _⟩ := hk x (by simp)
    exact askL_up K (so := ask1 L so x) (fun y hy => hk y (by simp [hy])) (by rw [ask1_len]; exact hl) p hp (ask1_up hl ⟨h1, h2⟩ hp h)
theorem askL_on {n : Nat} {L : List Int} : ∀ (K : List Lk) {so : List Bool}, LkIn n K → so.length = n → ∀ x ∈ K, G L x.f = G L x.t + negI x.neg → BG (askL L K so) x.f = true
  | [], _, _, _, x, hx, _ => by simp at hx
  | y :: K, so, hk, hl, x, hx, h => by
    have hk' : LkIn n K := fun z hz => hk z (by simp [hz])
    have hl' : (ask1 L so y).length = n := by rw [ask1_len]; exact hl
    rcases List.mem_cons.1 hx with rfl | hx
    · obtain ⟨h1, h2, _⟩ := hk x (by simp)
      refine askL_up K (so := ask1 L so x) hk' hl' x.f ⟨h1, h2⟩ ?_
      unfold ask1
      rw [if_pos h, BG_set hl ⟨h1, h2⟩ ⟨h1, h2⟩, if_pos rfl]
    · exact askL_on K (so := ask1 L so y) hk' hl' x hx h
theorem ask_step {L : List Int} {K : List Lk} {so : List Bool} {k : Nat} (hk : k < K.length) : askL L (K.drop k) so = askL L (K.drop (k + 1)) (ask1 L so K[k]) := by
  unfold askL
  rw [List.drop_eq_getElem_cons hk]; rfl
theorem any_next {α : Type} {l : List α} {f : α → Bool} {k : Nat} (hk : k < l.length) : (l.take (k + 1)).any f = ((l.take k).any f || f l[k]) := by
  rw [List.take_succ_eq_append_getElem hk, List.any_append]; simp
/-- what the levels of made clauses are -/
theorem lv_round (m : List Cl) : lvB m = !((linksL m).any (roundAt (predsL m).length (linksL m))) := levels_round (links_lkin m)
theorem lv_least {m : List Cl} (h : lvB m = true) : Least (predsL m).length (linksL m) (lvL m) := by
  have h1 := levelsOf_ok (links_lkin m)
  unfold lvB at h
  unfold lvL
  cases e : levelsL m with
  | none => rw [e] at h; cases h
  | some a =>
    have e2 : levelsOf (predsL m).length (linksL m) = some a := e
    rw [e2] at h1
    exact h1
theorem lv_none {m : List Cl} (h : lvB m = false) : lvL m = [] := by
  unfold lvB at h
  unfold lvL
  cases e : levelsL m with
  | none => rfl
  | some a => rw [e] at h; cases h
end Go.Proofs.Ytkgebkinlpmpnaa
namespace Go.Proofs.Ytkgebkinlpmpnaa
open Go.RowKit

/-! ### fewer clauses and more, plain -/
theorem place_in {P : List Pd} {p : Pd} (h : p ∈ P) : placeP P p = ((P.idxOf p : Nat) : Int) := by unfold placeP; rw [if_pos h]
theorem place_lt {P : List Pd} {p : Pd} (h : p ∈ P) : In P.length (placeP P p) := by
  rw [place_in h]
  have := List.idxOf_lt_length_of_mem h
  exact ⟨by omega, by omega⟩
section
variable {m f : List Cl}
theorem more_preds (hf : ∀ c ∈ f, c ∈ m) {p : Pd} (h : p ∈ predsL f) : p ∈ predsL m := by
  rw [mem_preds, mem_allP] at *
  obtain ⟨c, hc, h⟩ := h
  exact ⟨c, hf c hc, h⟩
theorem idx_at {P : List Pd} {p : Pd} (h : p ∈ P) {i : Nat} (hi : i < P.length) (e : i = P.idxOf p) : P[i] = p := by
  subst e; exact List.getElem_idxOf hi
theorem more_link (hf : ∀ c ∈ f, c ∈ m) {j : Lk} (hj : j ∈ linksL f) (h1 : j.f.toNat < (predsL f).length) (h2 : j.t.toNat < (predsL f).length) :
    (⟨placeP (predsL m) (predsL f)[j.f.toNat], placeP (predsL m) (predsL f)[j.t.toNat], j.neg⟩ : Lk) ∈ linksL m := by
  rw [mem_links] at hj ⊢
  unfold allK at hj ⊢
  obtain ⟨c, hc, hj⟩ := List.mem_flatMap.1 hj
  obtain ⟨x, hx, rfl⟩ := List.mem_map.1 hj
  have e1 : (predsL f)[(linkOf (predsL f) c x).f.toNat] = predOf c.h := idx_at (head_mem hc) h1 (by simp [linkOf])
  have e2 : (predsL f)[(linkOf (predsL f) c x).t.toNat] = predOf x.t := idx_at (body_mem hc hx) h2 (by simp [linkOf])
  refine List.mem_flatMap.2 ⟨c, hf c hc, List.mem_map.2 ⟨x, hx, ?_⟩⟩
  rw [e1, e2, place_in (head_mem (hf c hc)), place_in (body_mem (hf c hc) hx)]
  rfl
theorem lv_some {b : List Int} (h : Sat (predsL m).length (linksL m) b) : lvB m = true := by
  have h1 := levelsOf_ok (links_lkin m)
  unfold lvB
  cases e : levelsL m with
  | none =>
    have e2 : levelsOf (predsL m).length (linksL m) = none := e
    rw [e2] at h1
    exact absurd h (h1 b)
  | some a => rfl
theorem G_map {P : List Pd} {F : Pd → Int} {p : Int} (hp : In P.length p) : G (P.map F) p = F (P[p.toNat]'(by have := hp.1; have := hp.2; omega)) := by
  have : p.toNat < P.length := by have := hp.1; have := hp.2; omega
  unfold G
  rw [List.getD_eq_getElem?_getD, List.getElem?_map, List.getElem?_eq_getElem this]; rfl
theorem more_sat (hf : ∀ c ∈ f, c ∈ m) {a : List Int} (h : Sat (predsL m).length (linksL m) a) : Sat (predsL f).length (linksL f) ((predsL f).map fun q => G a (placeP (predsL m) q)) where
  len := by simp
  pos p hp := by
    rw [G_map hp]
    exact h.pos _ (place_lt (more_preds hf (List.getElem_mem _)))
  lk x hx := by
    obtain ⟨h1, h2, h3, h4⟩ := links_lkin f x hx
    rw [G_map ⟨h1, h2⟩, G_map ⟨h3, h4⟩]
    exact h.lk _ (more_link hf hx (by omega) (by omega))
theorem more_levels (hf : ∀ c ∈ f, c ∈ m) (h : lvB m = true) : lvB f = true ∧ ∀ i (hi : i < (predsL f).length), In (predsL m).length (placeP (predsL m) (predsL f)[i]) ∧ G (lvL f) i ≤ G (lvL m) (placeP (predsL m) (predsL f)[i]) := by
  have hs := more_sat hf (lv_least h).sat
  have hb := lv_some hs
  refine ⟨hb, fun i hi => ⟨place_lt (more_preds hf (List.getElem_mem _)), ?_⟩⟩
  have hin : In (predsL f).length (i : Int) := ⟨by omega, by omega⟩
  have := (lv_least hb).low _ hs _ hin
  rw [G_map hin] at this
  exact this
end
end Go.Proofs.Ytkgebkinlpmpnaa
namespace Go.Proofs.Ytkgebkinlpmpnaa
open Go.RowKit

/-! ### how often each place came -/
def cntL (n : Nat) (d : List Int) : List Int := (List.range n).map fun (c : Nat) => ((d.count (c : Int) : Nat) : Int)
theorem cnt_len (n : Nat) (d : List Int) : (cntL n d).length = n := by simp [cntL]
theorem cnt_get {n : Nat} {d : List Int} {c : Nat} (hc : c < (cntL n d).length) : (cntL n d)[c] = ((d.count (c : Int) : Nat) : Int) := by simp [cntL]
theorem cnt_step {n : Nat} {d : List Int} {c : Nat} (hc : c < n) : (cntL n d).set c (((d.count (c : Int) : Nat) : Int) + 1) = cntL n (d ++ [(c : Int)]) := by
  apply List.ext_getElem
  · simp [cntL]
  · intro i h1 h2
    rw [cnt_get, List.getElem_set]
    by_cases e : c = i
    · subst e; simp [List.count_append]
    · rw [if_neg e, cnt_get, List.count_append]
      have : ((c : Int) == (i : Int)) = false := beq_false_of_ne (by omega)
      simp [List.count_cons, this]
theorem cnt_nil (n : Nat) : cntL n [] = List.replicate n 0 := by
  apply List.ext_getElem
  · simp [cntL]
  · intro i h1 h2; rw [cnt_get]; simp
theorem cnt_le (n : Nat) (d : List Int) : ∀ x ∈ cntL n d, 0 ≤ x ∧ x ≤ d.length := by
  intro x hx
  simp only [cntL, List.mem_map] at hx
  obtain ⟨c, _, rfl⟩ := hx
  have := List.count_le_length (a := (c : Int)) (l := d)
  omega
theorem of_get {m : List Cl} {p : Pd} {k : Nat} (hk : k < (ofL m p).length) : ∃ c : Nat, (ofL m p)[k] = (c : Int) ∧ ∃ h : c < m.length, predOf m[c].h = p := by
  have hm := List.getElem_mem hk
  generalize (ofL m p)[k] = x at hm
  unfold ofL at hm
  rw [List.mem_map] at hm
  obtain ⟨c, hc, rfl⟩ := hm
  rw [List.mem_filter, List.mem_range] at hc
  refine ⟨c, rfl, hc.1, ?_⟩
  have h2 := hc.2
  rw [List.getElem?_eq_getElem hc.1] at h2
  simpa using h2
theorem of_up (m : List Cl) (p : Pd) : (ofL m p).Pairwise (· < ·) := by
  unfold ofL
  rw [List.pairwise_map]
  exact (List.pairwise_lt_range.filter _).imp fun h => by omega
theorem of_up_at {m : List Cl} {p : Pd} {k : Nat} (hk : k + 1 < (ofL m p).length) : (ofL m p)[k] < (ofL m p)[k + 1] :=
  List.pairwise_iff_getElem.1 (of_up m p) k (k + 1) (by omega) hk (by omega)
theorem of_mem {m : List Cl} {p : Pd} {c : Nat} (hc : c < m.length) : (c : Int) ∈ ofL m p ↔ predOf m[c].h = p := by
  unfold ofL
  rw [List.mem_map]
  constructor
  · rintro ⟨i, hi, e⟩
    obtain rfl : i = c := by omega
    rw [List.mem_filter, List.getElem?_eq_getElem hc] at hi
    simpa using hi.2
  · intro h
    refine ⟨c, ?_, rfl⟩
    rw [List.mem_filter, List.mem_range, List.getElem?_eq_getElem hc]
    exact ⟨hc, by simpa using h⟩
theorem count_one {l : List Int} (hn : l.Nodup) {x : Int} (h : x ∈ l) : l.count x = 1 := by
  induction l with
  | nil => cases h
  | cons y l ih =>
    rw [List.nodup_cons] at hn
    rw [List.count_cons]
    rcases List.mem_cons.1 h with e | e
    · subst e
      rw [List.count_eq_zero.2 hn.1]; simp
    · have hne : ¬ y = x := fun e2 => hn.1 (e2 ▸ e)
      rw [ih hn.2 e]
      simp [hne]
theorem of_nodup (m : List Cl) (p : Pd) : (ofL m p).Nodup := (of_up m p).imp fun h => by omega
theorem ofs_nodup (m : List Cl) : ((predsL m).flatMap (ofL m)).Nodup := by
  unfold List.Nodup
  rw [List.pairwise_flatMap]
  refine ⟨fun p _ => of_nodup m p, (preds_nodup m).imp fun {p q} hne x hx y hy e => ?_⟩
  subst e
  obtain ⟨k, hk, e1⟩ := List.mem_iff_getElem.1 hx
  obtain ⟨c, ec, hc, e2⟩ := of_get hk
  rw [e1] at ec
  subst ec
  exact hne (by rw [← e2]; exact (of_mem hc).1 hy)
theorem ofs_one {m : List Cl} {c : Nat} (hc : c < m.length) : ((predsL m).flatMap (ofL m)).count (c : Int) = 1 :=
  count_one (ofs_nodup m) (List.mem_flatMap.2 ⟨predOf m[c].h, head_mem (List.getElem_mem hc), (of_mem hc).2 rfl⟩)
theorem flat_next {P : List Pd} {F : Pd → List Int} {i : Nat} (hi : i < P.length) : (P.take (i + 1)).flatMap F = (P.take i).flatMap F ++ F P[i] := by
  rw [List.take_succ_eq_append_getElem hi, List.flatMap_append]; simp
theorem of_len (m : List Cl) (p : Pd) : (ofL m p).length ≤ m.length := by
  unfold ofL
  rw [List.length_map]
  exact Nat.le_trans (List.length_filter_le _ _) (by simp)
theorem flat_len {P : List Pd} {m : List Cl} : ∀ i, ((P.take i).flatMap (ofL m)).length ≤ P.length * m.length := by
  intro i
  have h : ∀ l : List Pd, (l.flatMap (ofL m)).length ≤ l.length * m.length := by
    intro l
    induction l with
    | nil => simp
    | cons p l ih =>
      rw [List.flatMap_cons, List.length_append, List.length_cons, Nat.succ_mul]
      have := of_len m p
      omega
  refine Nat.le_trans (h _) (Nat.mul_le_mul_right _ ?_)
  rw [List.length_take]; omega
end Go.Proofs.Ytkgebkinlpmpnaa
namespace Go.Proofs.Ytkgebkinlpmpnaa
open Go.RowKit Go.ChangeShapes Go.WideShapes Go.Deep Go.ChangeAt

theorem Try.cells4 : Try.prog.cellsOf 4 = 1 := by kernel_rfl
theorem Try.cells47 : Try.prog.cellsOf 47 = 2 := by kernel_rfl
theorem Try.cells29 : Try.prog.cellsOf 29 = 1 := by kernel_rfl
theorem Try.cells31 : Try.prog.cellsOf 31 = 2 := by kernel_rfl
section
variable {H : Type} {enc : TypeId × Value → H} {w : World} {held : Bool}
theorem open_slv {fuel : Nat} {t e : TypeId} (he : Try.prog.underlying t = some (.slice e)) {v : Value} {x : DataW H × List MemPlace} (h : DataW.trod enc Try.prog w 0 (fun _ => true) held fuel t [v] = some x) : ∃ a len cap, v = .slice a len cap := by
  rcases open_slice he h with ⟨hcs, _⟩ | ⟨ad, l, c, m, n, D, Pl, hcs, _⟩
  · simp at hcs; exact ⟨_, _, _, hcs⟩
  · simp at hcs; exact ⟨_, _, _, hcs⟩
set_option maxRecDepth 100000 in
theorem open_lit7 {n : Nat} {cs : List Value} {x : DataW H × List MemPlace} (h : DataW.trod enc Try.prog w 0 (fun _ => true) held n 47 cs = some x) :
    ∃ (v : Bool) (t : List Cel) (a : Option Addr) (cap : Nat), cs = [.bool v, .slice a t.length cap] ∧ Row w a cap t := by
  obtain ⟨ys, m, _, _, hlen, hyl, hf⟩ := DataW.trod_struct Try.underlying47 h
  rw [Try.cells47] at hlen
  match cs, hlen with
  | [v0, v1], _ =>
    have h0 : DataW.trod enc Try.prog w 0 (fun _ => true) held m 4 (([v0, v1].drop 0).take (Try.prog.cellsOf 4)) = ys[0]? := hf 0 _ rfl
    have h1 : DataW.trod enc Try.prog w 0 (fun _ => true) held m 28 (([v0, v1].drop 1).take (Try.prog.cellsOf 28)) = ys[1]? := hf 1 _ rfl
    rw [Try.cells4] at h0
    rw [Try.cells28] at h1
    have hy : ∀ i : Nat, i < 2 → ∃ y, ys[i]? = some y := fun i hi => ⟨_, List.getElem?_eq_getElem (by rw [hyl]; exact hi)⟩
    obtain ⟨y0, e0⟩ := hy 0 (by omega)
    obtain ⟨y1, e1⟩ := hy 1 (by omega)
    rw [e0] at h0
    rw [e1] at h1
    obtain ⟨a0, q0, _⟩ := DataW.trod_bool Try.underlying4 h0
    simp at q0
    have h1' : DataW.trod enc Try.prog w 0 (fun _ => true) held m 28 [v1] = some y1 := by simpa using h1
    obtain ⟨a', len, cap, rfl⟩ := open_slv Try.underlying28 h1'
    obtain ⟨xs, rfl, hr⟩ := open_cells h1'
    exact ⟨a0, xs, a', cap, by rw [q0], hr⟩
set_option maxRecDepth 100000 in
theorem E_lit7 (n : Nat) (a : Addr) (cs : List Value) (x : DataW H × List MemPlace) (hc : w.cells? 0 a 2 = some cs) (h : DataW.trod enc Try.prog w 0 (fun _ => true) held n 47 cs = some x) : ∃ (b o : Nat) (y : Lt), a = ⟨b, o, none⟩ ∧ Rep.E w b o y := by
  obtain ⟨v, t, a', cap, rfl, hr⟩ := open_lit7 h
  obtain ⟨_, _, hat⟩ := World.cells?_some hc
  have h0 := hat 0 (by omega)
  obtain ⟨b, o, rfl⟩ : ∃ b o, a = ⟨b, o, none⟩ := spot_none (by simpa [Addr.add] using h0)
  refine ⟨b, o, ⟨v, t⟩, rfl, ?_⟩
  have h1 := hat 1 (by omega)
  rw [add_lit] at h0 h1
  exact ⟨a', cap, h0, h1, hr⟩
theorem open_lits7 {fuel : Nat} {a : Option Addr} {len cap : Nat} {x : DataW H × List MemPlace} (h : DataW.trod enc Try.prog w 0 (fun _ => true) held fuel 29 [.slice a len cap] = some x) :
    ∃ xs : List Lt, xs.length = len ∧ Row w a cap xs :=
  open_rows Try.underlying29 Try.cells47 (fun n a cs x h1 h2 => E_lit7 n a cs x h1 h2) h
set_option maxRecDepth 100000 in
theorem open_clause7 {n : Nat} {cs : List Value} {x : DataW H × List MemPlace} (h : DataW.trod enc Try.prog w 0 (fun _ => true) held n 31 cs = some x) :
    ∃ (c : Cl) (a : Option Addr) (cap : Nat) (a' : Option Addr) (cap' : Nat), cs = [.slice a c.h.length cap, .slice a' c.b.length cap'] ∧ Row w a cap c.h ∧ Row w a' cap' c.b := by
  obtain ⟨ys, m, _, _, hlen, hyl, hf⟩ := DataW.trod_struct Try.underlying31 h
  rw [Try.cells31] at hlen
  match cs, hlen with
  | [v0, v1], _ =>
    have h0 : DataW.trod enc Try.prog w 0 (fun _ => true) held m 28 (([v0, v1].drop 0).take (Try.prog.cellsOf 28)) = ys[0]? := hf 0 _ rfl
    have h1 : DataW.trod enc Try.prog w 0 (fun _ => true) held m 29 (([v0, v1].drop 1).take (Try.prog.cellsOf 29)) = ys[1]? := hf 1 _ rfl
    rw [Try.cells28] at h0
    rw [Try.cells29] at h1
    have hy : ∀ i : Nat, i < 2 → ∃ y, ys[i]? = some y := fun i hi => ⟨_, List.getElem?_eq_getElem (by rw [hyl]; exact hi)⟩
    obtain ⟨y0, e0⟩ := hy 0 (by omega)
    obtain ⟨y1, e1⟩ := hy 1 (by omega)
    rw [e0] at h0
    rw [e1] at h1
    have h0' : DataW.trod enc Try.prog w 0 (fun _ => true) held m 28 [v0] = some y0 := by simpa using h0
    have h1' : DataW.trod enc Try.prog w 0 (fun _ => true) held m 29 [v1] = some y1 := by simpa using h1
    obtain ⟨a, len, cap, rfl⟩ := open_slv Try.underlying28 h0'
    obtain ⟨a', len', cap', rfl⟩ := open_slv Try.underlying29 h1'
    obtain ⟨xs, rfl, hr⟩ := open_cells h0'
    obtain ⟨ls, rfl, hr'⟩ := open_lits7 h1'
    exact ⟨⟨xs, ls⟩, a, cap, a', cap', rfl, hr, hr'⟩
set_option maxRecDepth 100000 in
theorem E_clause7 (n : Nat) (a : Addr) (cs : List Value) (x : DataW H × List MemPlace) (hc : w.cells? 0 a 2 = some cs) (h : DataW.trod enc Try.prog w 0 (fun _ => true) held n 31 cs = some x) : ∃ (b o : Nat) (y : Cl), a = ⟨b, o, none⟩ ∧ Rep.E w b o y := by
  obtain ⟨c, a1, cap, a', cap', rfl, hr, hr'⟩ := open_clause7 h
  obtain ⟨_, _, hat⟩ := World.cells?_some hc
  have h0 := hat 0 (by omega)
  obtain ⟨b, o, rfl⟩ : ∃ b o, a = ⟨b, o, none⟩ := spot_none (by simpa [Addr.add] using h0)
  refine ⟨b, o, c, rfl, ?_⟩
  have h1 := hat 1 (by omega)
  rw [add_lit] at h0 h1
  exact ⟨a1, cap, a', cap', h0, h1, hr, hr'⟩
theorem open_clauses7 {fuel : Nat} {a : Option Addr} {len cap : Nat} {x : DataW H × List MemPlace} (h : DataW.trod enc Try.prog w 0 (fun _ => true) held fuel 22 [.slice a len cap] = some x) :
    ∃ xs : List Cl, xs.length = len ∧ Row w a cap xs :=
  open_rows Try.underlying22 Try.cells31 (fun n a cs x h1 h2 => E_clause7 n a cs x h1 h2) h
theorem Try.cells24 : Try.prog.cellsOf 24 = 2 := by kernel_rfl
set_option maxRecDepth 100000 in
theorem open_pred7 {n : Nat} {cs : List Value} {x : DataW H × List MemPlace} (h : DataW.trod enc Try.prog w 0 (fun _ => true) held n 24 cs = some x) :
    ∃ p : Pd, cs = [.string p.s, .int .i64 p.n] ∧ p.fit := by
  obtain ⟨ys, m, _, _, hlen, hyl, hf⟩ := DataW.trod_struct Try.underlying24 h
  rw [Try.cells24] at hlen
  match cs, hlen with
  | [v0, v1], _ =>
    have h0 : DataW.trod enc Try.prog w 0 (fun _ => true) held m 9 (([v0, v1].drop 0).take (Try.prog.cellsOf 9)) = ys[0]? := hf 0 _ rfl
    have h1 : DataW.trod enc Try.prog w 0 (fun _ => true) held m 3 (([v0, v1].drop 1).take (Try.prog.cellsOf 3)) = ys[1]? := hf 1 _ rfl
    rw [Try.cells9] at h0
    rw [Try.cells3] at h1
    have hy : ∀ i : Nat, i < 2 → ∃ y, ys[i]? = some y := fun i hi => ⟨_, List.getElem?_eq_getElem (by rw [hyl]; exact hi)⟩
    obtain ⟨y0, e0⟩ := hy 0 (by omega)
    obtain ⟨y1, e1⟩ := hy 1 (by omega)
    rw [e0] at h0
    rw [e1] at h1
    obtain ⟨a0, q0, _, f0⟩ := DataW.trod_string Try.underlying9 h0
    obtain ⟨a1, q1, _, f1⟩ := DataW.trod_int Try.underlying3 h1
    simp at q0 q1
    exact ⟨⟨a0, a1⟩, by rw [q0, q1], ⟨by unfold maxLen at f0; exact f0, (i64_wf f1).1, (i64_wf f1).2⟩⟩

set_option maxRecDepth 100000 in
theorem agg_clause {base : Nat} {v : Value} (hk : Value.okWide Try.prog w .any base 31 v) : ∃ cs, v = .agg cs := by
  simp only [Value.okWide, Try.underlying31] at hk
  obtain ⟨cs, h1, _⟩ := hk
  exact ⟨cs, h1⟩
set_option maxRecDepth 100000 in
theorem agg_pred {base : Nat} {v : Value} (hk : Value.okWide Try.prog w .any base 24 v) : ∃ cs, v = .agg cs := by
  simp only [Value.okWide, Try.underlying24] at hk
  obtain ⟨cs, h1, _⟩ := hk
  exact ⟨cs, h1⟩
end
end Go.Proofs.Ytkgebkinlpmpnaa
namespace Go.Proofs.Ytkgebkinlpmpnaa
end Go.Proofs.Ytkgebkinlpmpnaa
