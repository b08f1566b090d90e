/-
  Of layer 12 of sorrel: whatever arguments come in, the law FactsTells returns true, and what was handed in reads as it did: whether any cells are a fact, and any row may be so, and all that is done with a row and a term, is as the document says. No condition.
-/
import Derived.Test.YtmmnfkggfnokjaaGreatZr9
namespace Go.Proofs.YtmmnfkggfnokjaaGreat
open Go.RowKit

/-! ### the document's, at answers that are known -/
section
variable {w : World} {a a' : Option Addr} {c c' : Nat} {l : List (List Cel)} {t : List Cel}
theorem refaddK {m : List (List Cel)} {E : Int} (hr : Row w a c l) (ht : Row w a' c' t) (hF : Hid (FR l)) (hm : Hid (addF l t = m)) (hE : Hid (addE l t = E)) :
    Calls Tryz.prog 12 #[.slice a l.length c, .slice a' t.length c'] w fun e w' => ∃ a2 c2, e = .returned (.tuple #[.slice a2 m.length c2, .int .i64 E]) ∧ Row w' a2 c2 m ∧ Below w.heap.size w w' := by
  have h := refaddF_any a c l a' c' t w hr ht hF.out
  rw [hm.out, hE.out] at h
  exact h
theorem refdropK {m : List (List Cel)} {E : Int} (hr : Row w a c l) (ht : Row w a' c' t) (hl : l.length ≤ 512) (hm : Hid (dropF l t = m)) (hE : Hid (dropE l t = E)) :
    Calls Tryz.prog 14 #[.slice a l.length c, .slice a' t.length c'] w fun e w' => ∃ a2 c2, e = .returned (.tuple #[.slice a2 m.length c2, .int .i64 E]) ∧ Row w' a2 c2 m ∧ Below w.heap.size w w' := by
  have h := refdropF_any a c l a' c' t w hr ht hl
  rw [hm.out, hE.out] at h
  exact h
theorem reffindK {m : List (List Cel)} (hr : Row w a c l) (ht : Row w a' c' t) (hF : Hid (FR l)) (rt : Hid (rightB t = true)) (hm : Hid (l.filter (matchB t) = m)) :
    Calls Tryz.prog 23 #[.slice a l.length c, .slice a' t.length c'] w fun e w' => ∃ a2 c2, e = .returned (.slice a2 m.length c2) ∧ Row w' a2 c2 m ∧ Below w.heap.size w w' := by
  have h := reffindF_any a c l a' c' t w hr ht hF.out rt.out
  rw [hm.out] at h
  exact h
theorem refdiffK {m x y : List (List Cel)} (hr : Row w a c l) (ht : Row w a' c' m) (hl : l.length ≤ 512) (hl2 : m.length ≤ 512) (hx : Hid (lessF m l = x)) (hy : Hid (lessF l m = y)) :
    Calls Tryz.prog 18 #[.slice a l.length c, .slice a' m.length c'] w fun e w' => ∃ a2 c2 a3 c3, e = .returned (.tuple #[.slice a2 x.length c2, .slice a3 y.length c3]) ∧ Row w' a2 c2 x ∧ Row w' a3 c3 y ∧ Below w.heap.size w w' := by
  have h := refdiffF_any a c l a' c' m w hr ht hl hl2
  rw [hx.out, hy.out] at h
  exact h
end
/-- rows of rows copied -/
theorem copy_rows {w1 : World} {B : Nat} {ys : List (List Cel)} {v : Value} (h : AccInv B 23 ([] ++ ys) v w1) : ∃ a c, v = .slice a ys.length c ∧ Row w1 a c ys := by
  rw [List.nil_append] at h
  exact h.row

set_option maxHeartbeats 8000000 in
set_option maxRecDepth 100000 in
theorem lawTells12_any (hH : Head12) (a : Option Addr) (cap : Nat) (l : List (List Cel)) (a' : Option Addr) (cap' : Nat) (t : List Cel) (x : List Cel) (ax : Option Addr) (cx : Nat) (y : List Cel) (ay : Option Addr) (cy : Nat) (w : World) (hr : Row w a cap l) (ht : Row w a' cap' t) (hx : Row w ax cx x) (hy : Row w ay cy y) :
    Calls Tryz.prog 3 #[.slice a l.length cap, .slice a' t.length cap', .agg #[.slice ax x.length cx, .slice ay y.length cy]] w fun e w' => e = .returned (.bool true) ∧ Below w.heap.size w w' := by
  have hm := hr.max
  have hm2 := hr.le
  have hm3 := ht.max
  have hm4 := ht.le
  have HH := mkHid hH
  clear hH
  obtain ⟨k, hk, hk40⟩ : ∃ k : Nat, k = min l.length 40 ∧ k ≤ 40 := ⟨_, rfl, by omega⟩
  have hkl : k ≤ l.length := by omega
  have hmin : min (l.length : Int) 40 = (k : Int) := by omega
  have HU : Hid ((l.take k).length = k) := by rw [Hid, List.length_take]; omega
  clear hk
  have hbx : Below w.heap.size w (w.alloc (.cells #[.slice ax x.length cx, .slice ay y.length cy] 24)) := (Below.refl _ _).new _
  have k0 : (w.alloc (.cells #[.slice ax x.length cx, .slice ay y.length cy] 24)).cell? ⟨w.heap.size, 0, none⟩ = some (.slice ax x.length cx) := cell_mk w _ _ 0 _ rfl
  have k1 : (w.alloc (.cells #[.slice ax x.length cx, .slice ay y.length cy] 24)).cell? ⟨w.heap.size, 1, none⟩ = some (.slice ay y.length cy) := cell_mk w _ _ 1 _ rfl
  go_enter Tryz.func3, Tryz.ntmps3
  go_wp2_with fail
  refine (HH.out _).mono ?_
  rintro e w1 ⟨rfl, hb1⟩
  have hb01 := hbx.then hb1
  have K0 := mkHid (keep k0 hb1)
  have K1 := mkHid (keep k1 hb1)
  have rL := hr.below hb01
  have hm0 := AccInv.made (α := List Cel) (B := w1.heap.size) (e := 23) (T := 23) w1 (Nat.le_refl _) rfl
  have hb02 := (Below.refl w1.heap.size w1).new (.cells #[] 23)
  have htk : Row (hide (some w1.heap.size) (w1.alloc (.cells #[] 23))) a cap (l.take k) := (rL.takeF k).keeps (fresh_keeps (Keeps.of hb02) (Nat.le_refl _))
  generalize l.take k = u at HU htk
  have hs02 := hb02.size
  clear hkl k0 k1
  go_wp2_with (at_builtin; refine wpList_accs (α := List Cel) rfl _ _ 22 rfl w1.heap.size 23 24 _ Tryz.underlying22 Tryz.infoSl rfl (by decide) _ [] hm0 (by rfl) a cap u htk (by rw [HU.out]; rfl) (by rw [HU.out]; simp; omega) hs02 ?_; intro v3 w3 hacc3 hb3)
  obtain ⟨a3, c3, rfl, hr3⟩ := copy_rows hacc3
  have hb13 : Below w1.heap.size w1 w3 := hb02.trans (hb3.mono (Nat.le_refl _))
  replace K0 := mkHid (keep K0.out hb13)
  replace K1 := mkHid (keep K1.out hb13)
  have hb03 := hb01.then hb13
  have rT := mkHid (ht.below hb03)
  have rX := mkHid (hx.below hb03)
  have rY := mkHid (hy.below hb03)
  replace rL := mkHid (rL.below hb13)
  have rU := mkHid hr3
  have HB := mkHid hb03
  --REST
  clear hb1 hb01 hb02 hb13 hb03 hacc3 hb3 hm0 htk hs02 hr3
  obtain ⟨q, hq⟩ : ∃ q, factB t = q := ⟨_, rfl⟩
  have HQ := mkHid hq
  clear hq
  go_wp2_with fail
  refine (fact_is rT.out HQ).mono ?_
  rintro e w4 ⟨rfl, hw4⟩
  replace rT := mkHid (rT.out.below hw4)
  replace rX := mkHid (rX.out.below hw4)
  replace rY := mkHid (rY.out.below hw4)
  replace rL := mkHid (rL.out.below hw4)
  replace rU := mkHid (rU.out.below hw4)
  replace K0 := mkHid (keep K0.out hw4)
  replace K1 := mkHid (keep K1.out hw4)
  replace HB := mkHid (HB.out.then hw4)
  clear hw4
  go_wp2_with fail
  refine (reffact_is rT.out HQ).mono ?_
  rintro e w5 ⟨rfl, hw5⟩
  replace rT := mkHid (rT.out.below hw5)
  replace rX := mkHid (rX.out.below hw5)
  replace rY := mkHid (rY.out.below hw5)
  replace rL := mkHid (rL.out.below hw5)
  replace rU := mkHid (rU.out.below hw5)
  replace K0 := mkHid (keep K0.out hw5)
  replace K1 := mkHid (keep K1.out hw5)
  replace HB := mkHid (HB.out.then hw5)
  clear hw5
  obtain ⟨g, hg⟩ : ∃ g, frightB u = g := ⟨_, rfl⟩
  have HG := mkHid hg
  clear hg
  go_wp2_with fail
  refine (rightK rU.out HG).mono ?_
  rintro e w6 ⟨rfl, hw6⟩
  replace rT := mkHid (rT.out.below hw6)
  replace rX := mkHid (rX.out.below hw6)
  replace rY := mkHid (rY.out.below hw6)
  replace rL := mkHid (rL.out.below hw6)
  replace rU := mkHid (rU.out.below hw6)
  replace K0 := mkHid (keep K0.out hw6)
  replace K1 := mkHid (keep K1.out hw6)
  replace HB := mkHid (HB.out.then hw6)
  clear hw6
  go_wp2_with fail
  refine (refrightK rU.out HG).mono ?_
  rintro e w7 ⟨rfl, hw7⟩
  replace rT := mkHid (rT.out.below hw7)
  replace rX := mkHid (rX.out.below hw7)
  replace rY := mkHid (rY.out.below hw7)
  replace rL := mkHid (rL.out.below hw7)
  replace rU := mkHid (rU.out.below hw7)
  replace K0 := mkHid (keep K0.out hw7)
  replace K1 := mkHid (keep K1.out hw7)
  replace HB := mkHid (HB.out.then hw7)
  clear hw7
  go_wp2_with fail
  refine (row12_any a cap _ l rL.out 40 (by omega)).mono ?_
  rintro e w8 ⟨a4, c4, m, rfl, q0, hF, hml, hw8⟩
  replace rT := mkHid (rT.out.below hw8)
  replace rX := mkHid (rX.out.below hw8)
  replace rY := mkHid (rY.out.below hw8)
  replace rL := mkHid (rL.out.below hw8)
  replace rU := mkHid (rU.out.below hw8)
  replace K0 := mkHid (keep K0.out hw8)
  replace K1 := mkHid (keep K1.out hw8)
  replace HB := mkHid (HB.out.then hw8)
  clear hw8
  have rM := mkHid q0
  clear q0
  have HF := mkHid hF
  have hm512 : m.length ≤ 512 := by omega
  clear hF
  obtain ⟨A, hA⟩ : ∃ A, addF m t = A := ⟨_, rfl⟩
  have HA := mkHid hA
  clear hA
  obtain ⟨EA, hEA⟩ : ∃ E, addE m t = E := ⟨_, rfl⟩
  have HEA := mkHid hEA
  clear hEA
  obtain ⟨D, hD⟩ : ∃ A, dropF m t = A := ⟨_, rfl⟩
  have HD := mkHid hD
  clear hD
  obtain ⟨ED, hED⟩ : ∃ E, dropE m t = E := ⟨_, rfl⟩
  have HED := mkHid hED
  clear hED
  have hmx := rM.out.max
  have hmy := rM.out.le
  go_wp2_with fail
  refine (addK rM.out rT.out HF HA HEA).mono ?_
  rintro e w9 ⟨a5, c5, rfl, q0, hw9⟩
  replace rT := mkHid (rT.out.below hw9)
  replace rX := mkHid (rX.out.below hw9)
  replace rY := mkHid (rY.out.below hw9)
  replace rL := mkHid (rL.out.below hw9)
  replace rU := mkHid (rU.out.below hw9)
  replace rM := mkHid (rM.out.below hw9)
  replace K0 := mkHid (keep K0.out hw9)
  replace K1 := mkHid (keep K1.out hw9)
  replace HB := mkHid (HB.out.then hw9)
  clear hw9
  have rA := mkHid q0
  clear q0
  go_wp2_with fail
  refine (refaddK rM.out rT.out HF HA HEA).mono ?_
  rintro e w10 ⟨a6, c6, rfl, q0, hw10⟩
  replace rT := mkHid (rT.out.below hw10)
  replace rX := mkHid (rX.out.below hw10)
  replace rY := mkHid (rY.out.below hw10)
  replace rL := mkHid (rL.out.below hw10)
  replace rU := mkHid (rU.out.below hw10)
  replace rM := mkHid (rM.out.below hw10)
  replace rA := mkHid (rA.out.below hw10)
  replace K0 := mkHid (keep K0.out hw10)
  replace K1 := mkHid (keep K1.out hw10)
  replace HB := mkHid (HB.out.then hw10)
  clear hw10
  have rA2 := mkHid q0
  clear q0
  go_wp2_with fail
  refine (dropK rM.out rT.out HF HD HED).mono ?_
  rintro e w11 ⟨a7, c7, rfl, q0, hw11⟩
  replace rT := mkHid (rT.out.below hw11)
  replace rX := mkHid (rX.out.below hw11)
  replace rY := mkHid (rY.out.below hw11)
  replace rL := mkHid (rL.out.below hw11)
  replace rU := mkHid (rU.out.below hw11)
  replace rM := mkHid (rM.out.below hw11)
  replace rA := mkHid (rA.out.below hw11)
  replace rA2 := mkHid (rA2.out.below hw11)
  replace K0 := mkHid (keep K0.out hw11)
  replace K1 := mkHid (keep K1.out hw11)
  replace HB := mkHid (HB.out.then hw11)
  clear hw11
  have rD := mkHid q0
  clear q0
  go_wp2_with fail
  refine (refdropK rM.out rT.out hm512 HD HED).mono ?_
  rintro e w12 ⟨a8, c8, rfl, q0, hw12⟩
  replace rT := mkHid (rT.out.below hw12)
  replace rX := mkHid (rX.out.below hw12)
  replace rY := mkHid (rY.out.below hw12)
  replace rL := mkHid (rL.out.below hw12)
  replace rU := mkHid (rU.out.below hw12)
  replace rM := mkHid (rM.out.below hw12)
  replace rA := mkHid (rA.out.below hw12)
  replace rA2 := mkHid (rA2.out.below hw12)
  replace rD := mkHid (rD.out.below hw12)
  replace K0 := mkHid (keep K0.out hw12)
  replace K1 := mkHid (keep K1.out hw12)
  replace HB := mkHid (HB.out.then hw12)
  clear hw12
  have rD2 := mkHid q0
  clear q0
  have k0 := K0.out
  go_wp2_with fail
  refine (atom3_any ax cx _ x rX.out 12 (by omega) (by omega)).mono ?_
  rintro e w13 ⟨a9, c9, p, rfl, q0, hp, _, _, hw13⟩
  replace rT := mkHid (rT.out.below hw13)
  replace rX := mkHid (rX.out.below hw13)
  replace rY := mkHid (rY.out.below hw13)
  replace rL := mkHid (rL.out.below hw13)
  replace rU := mkHid (rU.out.below hw13)
  replace rM := mkHid (rM.out.below hw13)
  replace rA := mkHid (rA.out.below hw13)
  replace rA2 := mkHid (rA2.out.below hw13)
  replace rD := mkHid (rD.out.below hw13)
  replace rD2 := mkHid (rD2.out.below hw13)
  replace K0 := mkHid (keep K0.out hw13)
  replace K1 := mkHid (keep K1.out hw13)
  replace HB := mkHid (HB.out.then hw13)
  clear hw13
  have rP := mkHid q0
  clear q0
  clear k0
  have RP := mkHid hp
  clear hp
  have k1 := K1.out
  go_wp2_with fail
  refine (made12_any ay cy _ y rY.out).mono ?_
  rintro e w14 ⟨a10, c10, z, rfl, q0, _, _, hw14⟩
  replace rT := mkHid (rT.out.below hw14)
  replace rX := mkHid (rX.out.below hw14)
  replace rY := mkHid (rY.out.below hw14)
  replace rL := mkHid (rL.out.below hw14)
  replace rU := mkHid (rU.out.below hw14)
  replace rM := mkHid (rM.out.below hw14)
  replace rA := mkHid (rA.out.below hw14)
  replace rA2 := mkHid (rA2.out.below hw14)
  replace rD := mkHid (rD.out.below hw14)
  replace rD2 := mkHid (rD2.out.below hw14)
  replace rP := mkHid (rP.out.below hw14)
  replace K0 := mkHid (keep K0.out hw14)
  replace K1 := mkHid (keep K1.out hw14)
  replace HB := mkHid (HB.out.then hw14)
  clear hw14
  have rZ := mkHid q0
  clear q0
  clear k1
  obtain ⟨N, hN⟩ : ∃ N, addF m z = N := ⟨_, rfl⟩
  have HN := mkHid hN
  have FN : Hid (FR N) := by rw [Hid, ← hN]; exact HF.out.add z
  clear hN
  obtain ⟨EN, hEN⟩ : ∃ E, addE m z = E := ⟨_, rfl⟩
  have HEN := mkHid hEN
  clear hEN
  go_wp2_with fail
  refine (refaddK rM.out rZ.out HF HN HEN).mono ?_
  rintro e w15 ⟨a11, c11, rfl, q0, hw15⟩
  replace rT := mkHid (rT.out.below hw15)
  replace rX := mkHid (rX.out.below hw15)
  replace rY := mkHid (rY.out.below hw15)
  replace rL := mkHid (rL.out.below hw15)
  replace rU := mkHid (rU.out.below hw15)
  replace rM := mkHid (rM.out.below hw15)
  replace rA := mkHid (rA.out.below hw15)
  replace rA2 := mkHid (rA2.out.below hw15)
  replace rD := mkHid (rD.out.below hw15)
  replace rD2 := mkHid (rD2.out.below hw15)
  replace rP := mkHid (rP.out.below hw15)
  replace rZ := mkHid (rZ.out.below hw15)
  replace K0 := mkHid (keep K0.out hw15)
  replace K1 := mkHid (keep K1.out hw15)
  replace HB := mkHid (HB.out.then hw15)
  clear hw15
  have rN := mkHid q0
  clear q0
  have hn512 : N.length ≤ 512 := FN.out.len
  obtain ⟨X1, hX1⟩ : ∃ X, lessF N m = X := ⟨_, rfl⟩
  have HX1 := mkHid hX1
  clear hX1
  obtain ⟨X2, hX2⟩ : ∃ X, lessF m N = X := ⟨_, rfl⟩
  have HX2 := mkHid hX2
  clear hX2
  go_wp2_with fail
  refine (diffK rM.out rN.out HF FN HX1 HX2).mono ?_
  rintro e w16 ⟨a12, c12, a13, c13, rfl, q0, q1, hw16⟩
  replace rT := mkHid (rT.out.below hw16)
  replace rX := mkHid (rX.out.below hw16)
  replace rY := mkHid (rY.out.below hw16)
  replace rL := mkHid (rL.out.below hw16)
  replace rU := mkHid (rU.out.below hw16)
  replace rM := mkHid (rM.out.below hw16)
  replace rA := mkHid (rA.out.below hw16)
  replace rA2 := mkHid (rA2.out.below hw16)
  replace rD := mkHid (rD.out.below hw16)
  replace rD2 := mkHid (rD2.out.below hw16)
  replace rP := mkHid (rP.out.below hw16)
  replace rZ := mkHid (rZ.out.below hw16)
  replace rN := mkHid (rN.out.below hw16)
  replace K0 := mkHid (keep K0.out hw16)
  replace K1 := mkHid (keep K1.out hw16)
  replace HB := mkHid (HB.out.then hw16)
  clear hw16
  have rX1 := mkHid q0
  clear q0
  have rX2 := mkHid q1
  clear q1
  go_wp2_with fail
  refine (refdiffK rM.out rN.out hm512 hn512 HX1 HX2).mono ?_
  rintro e w17 ⟨a14, c14, a15, c15, rfl, q0, q1, hw17⟩
  replace rT := mkHid (rT.out.below hw17)
  replace rX := mkHid (rX.out.below hw17)
  replace rY := mkHid (rY.out.below hw17)
  replace rL := mkHid (rL.out.below hw17)
  replace rU := mkHid (rU.out.below hw17)
  replace rM := mkHid (rM.out.below hw17)
  replace rA := mkHid (rA.out.below hw17)
  replace rA2 := mkHid (rA2.out.below hw17)
  replace rD := mkHid (rD.out.below hw17)
  replace rD2 := mkHid (rD2.out.below hw17)
  replace rP := mkHid (rP.out.below hw17)
  replace rZ := mkHid (rZ.out.below hw17)
  replace rN := mkHid (rN.out.below hw17)
  replace rX1 := mkHid (rX1.out.below hw17)
  replace rX2 := mkHid (rX2.out.below hw17)
  replace K0 := mkHid (keep K0.out hw17)
  replace K1 := mkHid (keep K1.out hw17)
  replace HB := mkHid (HB.out.then hw17)
  clear hw17
  have rX3 := mkHid q0
  clear q0
  have rX4 := mkHid q1
  clear q1
  go_wp2_with fail
  refine (sameK (b := true) rA.out rA2.out (by rw [Hid]; exact decide_eq_true rfl)).mono ?_
  rintro e w18 ⟨rfl, hw18⟩
  replace rT := mkHid (rT.out.below hw18)
  replace rX := mkHid (rX.out.below hw18)
  replace rY := mkHid (rY.out.below hw18)
  replace rL := mkHid (rL.out.below hw18)
  replace rU := mkHid (rU.out.below hw18)
  replace rM := mkHid (rM.out.below hw18)
  replace rA := mkHid (rA.out.below hw18)
  replace rA2 := mkHid (rA2.out.below hw18)
  replace rD := mkHid (rD.out.below hw18)
  replace rD2 := mkHid (rD2.out.below hw18)
  replace rP := mkHid (rP.out.below hw18)
  replace rZ := mkHid (rZ.out.below hw18)
  replace rN := mkHid (rN.out.below hw18)
  replace rX1 := mkHid (rX1.out.below hw18)
  replace rX2 := mkHid (rX2.out.below hw18)
  replace rX3 := mkHid (rX3.out.below hw18)
  replace rX4 := mkHid (rX4.out.below hw18)
  replace K0 := mkHid (keep K0.out hw18)
  replace K1 := mkHid (keep K1.out hw18)
  replace HB := mkHid (HB.out.then hw18)
  clear hw18
  go_wp2_with fail
  refine (sameK (b := true) rD.out rD2.out (by rw [Hid]; exact decide_eq_true rfl)).mono ?_
  rintro e w19 ⟨rfl, hw19⟩
  replace rT := mkHid (rT.out.below hw19)
  replace rX := mkHid (rX.out.below hw19)
  replace rY := mkHid (rY.out.below hw19)
  replace rL := mkHid (rL.out.below hw19)
  replace rU := mkHid (rU.out.below hw19)
  replace rM := mkHid (rM.out.below hw19)
  replace rA := mkHid (rA.out.below hw19)
  replace rA2 := mkHid (rA2.out.below hw19)
  replace rD := mkHid (rD.out.below hw19)
  replace rD2 := mkHid (rD2.out.below hw19)
  replace rP := mkHid (rP.out.below hw19)
  replace rZ := mkHid (rZ.out.below hw19)
  replace rN := mkHid (rN.out.below hw19)
  replace rX1 := mkHid (rX1.out.below hw19)
  replace rX2 := mkHid (rX2.out.below hw19)
  replace rX3 := mkHid (rX3.out.below hw19)
  replace rX4 := mkHid (rX4.out.below hw19)
  replace K0 := mkHid (keep K0.out hw19)
  replace K1 := mkHid (keep K1.out hw19)
  replace HB := mkHid (HB.out.then hw19)
  clear hw19
  obtain ⟨h, hh⟩ : ∃ h, decide (t ∈ m) = h := ⟨_, rfl⟩
  have HH2 := mkHid hh
  clear hh
  go_wp2_with fail
  refine (hasK rM.out rT.out HF HH2).mono ?_
  rintro e w20 ⟨rfl, hw20⟩
  replace rT := mkHid (rT.out.below hw20)
  replace rX := mkHid (rX.out.below hw20)
  replace rY := mkHid (rY.out.below hw20)
  replace rL := mkHid (rL.out.below hw20)
  replace rU := mkHid (rU.out.below hw20)
  replace rM := mkHid (rM.out.below hw20)
  replace rA := mkHid (rA.out.below hw20)
  replace rA2 := mkHid (rA2.out.below hw20)
  replace rD := mkHid (rD.out.below hw20)
  replace rD2 := mkHid (rD2.out.below hw20)
  replace rP := mkHid (rP.out.below hw20)
  replace rZ := mkHid (rZ.out.below hw20)
  replace rN := mkHid (rN.out.below hw20)
  replace rX1 := mkHid (rX1.out.below hw20)
  replace rX2 := mkHid (rX2.out.below hw20)
  replace rX3 := mkHid (rX3.out.below hw20)
  replace rX4 := mkHid (rX4.out.below hw20)
  replace K0 := mkHid (keep K0.out hw20)
  replace K1 := mkHid (keep K1.out hw20)
  replace HB := mkHid (HB.out.then hw20)
  clear hw20
  go_wp2_with fail
  refine (refhasK rM.out rT.out HH2).mono ?_
  rintro e w21 ⟨rfl, hw21⟩
  replace rT := mkHid (rT.out.below hw21)
  replace rX := mkHid (rX.out.below hw21)
  replace rY := mkHid (rY.out.below hw21)
  replace rL := mkHid (rL.out.below hw21)
  replace rU := mkHid (rU.out.below hw21)
  replace rM := mkHid (rM.out.below hw21)
  replace rA := mkHid (rA.out.below hw21)
  replace rA2 := mkHid (rA2.out.below hw21)
  replace rD := mkHid (rD.out.below hw21)
  replace rD2 := mkHid (rD2.out.below hw21)
  replace rP := mkHid (rP.out.below hw21)
  replace rZ := mkHid (rZ.out.below hw21)
  replace rN := mkHid (rN.out.below hw21)
  replace rX1 := mkHid (rX1.out.below hw21)
  replace rX2 := mkHid (rX2.out.below hw21)
  replace rX3 := mkHid (rX3.out.below hw21)
  replace rX4 := mkHid (rX4.out.below hw21)
  replace K0 := mkHid (keep K0.out hw21)
  replace K1 := mkHid (keep K1.out hw21)
  replace HB := mkHid (HB.out.then hw21)
  clear hw21
  obtain ⟨M, hM⟩ : ∃ M, m.filter (matchB p) = M := ⟨_, rfl⟩
  have HM := mkHid hM
  clear hM
  go_wp2_with fail
  refine (findK rM.out rP.out HF RP HM).mono ?_
  rintro e w22 ⟨a16, c16, rfl, q0, hw22⟩
  replace rT := mkHid (rT.out.below hw22)
  replace rX := mkHid (rX.out.below hw22)
  replace rY := mkHid (rY.out.below hw22)
  replace rL := mkHid (rL.out.below hw22)
  replace rU := mkHid (rU.out.below hw22)
  replace rM := mkHid (rM.out.below hw22)
  replace rA := mkHid (rA.out.below hw22)
  replace rA2 := mkHid (rA2.out.below hw22)
  replace rD := mkHid (rD.out.below hw22)
  replace rD2 := mkHid (rD2.out.below hw22)
  replace rP := mkHid (rP.out.below hw22)
  replace rZ := mkHid (rZ.out.below hw22)
  replace rN := mkHid (rN.out.below hw22)
  replace rX1 := mkHid (rX1.out.below hw22)
  replace rX2 := mkHid (rX2.out.below hw22)
  replace rX3 := mkHid (rX3.out.below hw22)
  replace rX4 := mkHid (rX4.out.below hw22)
  replace K0 := mkHid (keep K0.out hw22)
  replace K1 := mkHid (keep K1.out hw22)
  replace HB := mkHid (HB.out.then hw22)
  clear hw22
  have rF1 := mkHid q0
  clear q0
  go_wp2_with fail
  refine (reffindK rM.out rP.out HF RP HM).mono ?_
  rintro e w23 ⟨a17, c17, rfl, q0, hw23⟩
  replace rT := mkHid (rT.out.below hw23)
  replace rX := mkHid (rX.out.below hw23)
  replace rY := mkHid (rY.out.below hw23)
  replace rL := mkHid (rL.out.below hw23)
  replace rU := mkHid (rU.out.below hw23)
  replace rM := mkHid (rM.out.below hw23)
  replace rA := mkHid (rA.out.below hw23)
  replace rA2 := mkHid (rA2.out.below hw23)
  replace rD := mkHid (rD.out.below hw23)
  replace rD2 := mkHid (rD2.out.below hw23)
  replace rP := mkHid (rP.out.below hw23)
  replace rZ := mkHid (rZ.out.below hw23)
  replace rN := mkHid (rN.out.below hw23)
  replace rX1 := mkHid (rX1.out.below hw23)
  replace rX2 := mkHid (rX2.out.below hw23)
  replace rX3 := mkHid (rX3.out.below hw23)
  replace rX4 := mkHid (rX4.out.below hw23)
  replace rF1 := mkHid (rF1.out.below hw23)
  replace K0 := mkHid (keep K0.out hw23)
  replace K1 := mkHid (keep K1.out hw23)
  replace HB := mkHid (HB.out.then hw23)
  clear hw23
  have rF2 := mkHid q0
  clear q0
  go_wp2_with fail
  refine (sameK (b := true) rF1.out rF2.out (by rw [Hid]; exact decide_eq_true rfl)).mono ?_
  rintro e w24 ⟨rfl, hw24⟩
  replace rT := mkHid (rT.out.below hw24)
  replace rX := mkHid (rX.out.below hw24)
  replace rY := mkHid (rY.out.below hw24)
  replace rL := mkHid (rL.out.below hw24)
  replace rU := mkHid (rU.out.below hw24)
  replace rM := mkHid (rM.out.below hw24)
  replace rA := mkHid (rA.out.below hw24)
  replace rA2 := mkHid (rA2.out.below hw24)
  replace rD := mkHid (rD.out.below hw24)
  replace rD2 := mkHid (rD2.out.below hw24)
  replace rP := mkHid (rP.out.below hw24)
  replace rZ := mkHid (rZ.out.below hw24)
  replace rN := mkHid (rN.out.below hw24)
  replace rX1 := mkHid (rX1.out.below hw24)
  replace rX2 := mkHid (rX2.out.below hw24)
  replace rX3 := mkHid (rX3.out.below hw24)
  replace rX4 := mkHid (rX4.out.below hw24)
  replace rF1 := mkHid (rF1.out.below hw24)
  replace rF2 := mkHid (rF2.out.below hw24)
  replace K0 := mkHid (keep K0.out hw24)
  replace K1 := mkHid (keep K1.out hw24)
  replace HB := mkHid (HB.out.then hw24)
  clear hw24
  go_wp2_with fail
  refine (sameK (b := true) rX1.out rX3.out (by rw [Hid]; exact decide_eq_true rfl)).mono ?_
  rintro e w25 ⟨rfl, hw25⟩
  replace rT := mkHid (rT.out.below hw25)
  replace rX := mkHid (rX.out.below hw25)
  replace rY := mkHid (rY.out.below hw25)
  replace rL := mkHid (rL.out.below hw25)
  replace rU := mkHid (rU.out.below hw25)
  replace rM := mkHid (rM.out.below hw25)
  replace rA := mkHid (rA.out.below hw25)
  replace rA2 := mkHid (rA2.out.below hw25)
  replace rD := mkHid (rD.out.below hw25)
  replace rD2 := mkHid (rD2.out.below hw25)
  replace rP := mkHid (rP.out.below hw25)
  replace rZ := mkHid (rZ.out.below hw25)
  replace rN := mkHid (rN.out.below hw25)
  replace rX1 := mkHid (rX1.out.below hw25)
  replace rX2 := mkHid (rX2.out.below hw25)
  replace rX3 := mkHid (rX3.out.below hw25)
  replace rX4 := mkHid (rX4.out.below hw25)
  replace rF1 := mkHid (rF1.out.below hw25)
  replace rF2 := mkHid (rF2.out.below hw25)
  replace K0 := mkHid (keep K0.out hw25)
  replace K1 := mkHid (keep K1.out hw25)
  replace HB := mkHid (HB.out.then hw25)
  clear hw25
  go_wp2_with fail
  refine (sameK (b := true) rX2.out rX4.out (by rw [Hid]; exact decide_eq_true rfl)).mono ?_
  rintro e w26 ⟨rfl, hw26⟩
  replace rT := mkHid (rT.out.below hw26)
  replace rX := mkHid (rX.out.below hw26)
  replace rY := mkHid (rY.out.below hw26)
  replace rL := mkHid (rL.out.below hw26)
  replace rU := mkHid (rU.out.below hw26)
  replace rM := mkHid (rM.out.below hw26)
  replace rA := mkHid (rA.out.below hw26)
  replace rA2 := mkHid (rA2.out.below hw26)
  replace rD := mkHid (rD.out.below hw26)
  replace rD2 := mkHid (rD2.out.below hw26)
  replace rP := mkHid (rP.out.below hw26)
  replace rZ := mkHid (rZ.out.below hw26)
  replace rN := mkHid (rN.out.below hw26)
  replace rX1 := mkHid (rX1.out.below hw26)
  replace rX2 := mkHid (rX2.out.below hw26)
  replace rX3 := mkHid (rX3.out.below hw26)
  replace rX4 := mkHid (rX4.out.below hw26)
  replace rF1 := mkHid (rF1.out.below hw26)
  replace rF2 := mkHid (rF2.out.below hw26)
  replace K0 := mkHid (keep K0.out hw26)
  replace K1 := mkHid (keep K1.out hw26)
  replace HB := mkHid (HB.out.then hw26)
  clear hw26
  go_wp2_with fail
  go_ret
  exact ⟨rfl, HB.out⟩
end Go.Proofs.YtmmnfkggfnokjaaGreat
namespace Go.Proofs.YtmmnfkggfnokjaaGreat
open Go.RowKit Go.ChangeShapes Go.WideShapes Go.ChangeAt
open Go.ChangeMaps (open_string)
open Go.Deep

section
variable {H : Type} {enc : TypeId × Value → H} {w : World} {held : Bool}
theorem Tryz.cells24 : Tryz.prog.cellsOf 24 = 2 := by kernel_rfl
theorem open_one {fuel : Nat} {v : Value} {x : DataW H × List MemPlace} (h : DataW.trod enc Tryz.prog w 0 (fun _ => true) held fuel 23 [v] = some x) : ∃ (a : Option Addr) (cap : Nat) (xs : List Cel), v = .slice a xs.length cap ∧ Row w a cap xs := by
  have hv : ∃ a' len cap, v = .slice a' len cap := by
    rcases open_slice Tryz.underlying23 h with ⟨hcs, _⟩ | ⟨ad, l, c, m, n, D, Pl, hcs, _⟩
    · simp at hcs; exact ⟨_, _, _, hcs⟩
    · simp at hcs; exact ⟨_, _, _, hcs⟩
  obtain ⟨a', len, cap, rfl⟩ := hv
  obtain ⟨xs, rfl, hr⟩ := open_cells h
  exact ⟨a', cap, xs, rfl, hr⟩
set_option maxRecDepth 100000 in
/-- two rows of cells, side by side -/
theorem open_two {fuel : Nat} {cs : List Value} {x : DataW H × List MemPlace} (h : DataW.trod enc Tryz.prog w 0 (fun _ => true) held fuel 24 cs = some x) :
    ∃ (a0 : Option Addr) (c0 : Nat) (x0 : List Cel) (a1 : Option Addr) (c1 : Nat) (x1 : List Cel), cs = [.slice a0 x0.length c0, .slice a1 x1.length c1] ∧ Row w a0 c0 x0 ∧ Row w a1 c1 x1 := by
  obtain ⟨ys, m, _, _, hlen, hyl, hf⟩ := DataW.trod_array Tryz.underlying24 h
  rw [Tryz.cells24] at hlen
  match cs, hlen with
  | [v0, v1], _ =>
    have h0 := hf 0 (by omega)
    have h1 := hf 1 (by omega)
    rw [Tryz.cells23] at h0 h1
    obtain ⟨y0, e0⟩ : ∃ y, ys[0]? = some y := ⟨_, List.getElem?_eq_getElem (by rw [hyl]; omega)⟩
    obtain ⟨y1, e1⟩ : ∃ y, ys[1]? = some y := ⟨_, List.getElem?_eq_getElem (by rw [hyl]; omega)⟩
    rw [e0] at h0
    rw [e1] at h1
    obtain ⟨a0, c0, x0, rfl, r0⟩ := open_one (v := v0) h0
    obtain ⟨a1, c1, x1, rfl, r1⟩ := open_one (v := v1) h1
    exact ⟨a0, c0, x0, a1, c1, x1, rfl, r0, r1⟩
end

set_option maxRecDepth 100000 in
set_option maxHeartbeats 1000000 in
theorem FactsTells_lifted (os : Os) (started : os.Started) (H : Type) (enc : TypeId × Value → H) :
    ReturnsInHanded {} Tryz.checked os 3 .any (Rows.factsTellsSpec.pre6 enc Tryz.prog Tryz.f3 Rows.factsTellsRow.domain false) (Rows.factsTellsSpec.post enc Tryz.prog Tryz.f3 false true false false) := by
  refine returnsInHanded_of_change (C := Tryz.checked) Tryz.own started (by kernel_rfl) Tryz.func3
    (ChangeSpec.witness6 (enc := enc) (C := Tryz.checked) false ⟨#[], #[.slice none 0 0, .slice none 0 0, .agg #[.slice none 0 0, .slice none 0 0]], []⟩ 8 (by kernel_rfl) (by kernel_rfl) (by kernel_rfl) (by kernel_rfl)) ?_
  intro W base args ds gs before hval0 hW hcnd _
  have hval : ∀ (j : Nat) t v, Tryz.f3.params[j]? = some t → args[j]? = some v → Value.okWide Tryz.prog W .any base t v := hval0
  have hW' := hW
  obtain ⟨p, q, hA0, hV, rfl, hfz, hnd⟩ := hW
  have hA : DataW.TrodAll enc Tryz.prog W 0 (fun _ => true) true Tryz.f3.params.toList args.toList ds p := hA0
  rw [Tryz.params3] at hA hval
  obtain ⟨v0, vs0, d0, ds0, p0, q0, hargs, rfl, rfl, h0, r0⟩ := trodAll_cons hA
  obtain ⟨v1, vs1, d1, ds1, p1, q1, rfl, rfl, rfl, h1, r1⟩ := trodAll_cons r0
  obtain ⟨v2, vs2, d2, ds2, p2, q2, rfl, rfl, rfl, h2, r2⟩ := trodAll_cons r1
  obtain ⟨rfl, rfl, rfl⟩ := trodAll_nil r2
  obtain rfl : args = #[v0, v1, v2] := by cases args; simp_all
  obtain ⟨rfl, rfl⟩ := trodVars_none hV
  have k0 := h0
  have lt0 : ∀ x ∈ p0, x.block < W.heap.size := by obtain ⟨m, hm⟩ := k0; exact DataW.trod_lt m _ _ _ hm
  obtain ⟨a0, len0, cap0, rfl⟩ := okWide_slice Tryz.underlying22 (hval 0 22 v0 rfl rfl)
  obtain ⟨xs0, rfl, hr0⟩ : ∃ xs : List (List Cel), xs.length = len0 ∧ Row W a0 cap0 xs := by
    obtain ⟨fuel, hf⟩ := h0
    exact open_cellss hf
  have k1 := h1
  have lt1 : ∀ x ∈ p1, x.block < W.heap.size := by obtain ⟨m, hm⟩ := k1; exact DataW.trod_lt m _ _ _ hm
  obtain ⟨a1, len1, cap1, rfl⟩ := okWide_slice Tryz.underlying23 (hval 1 23 v1 rfl rfl)
  obtain ⟨xs1, rfl, hr1⟩ : ∃ xs : List Cel, xs.length = len1 ∧ Row W a1 cap1 xs := by
    obtain ⟨fuel, hf⟩ := h1
    exact open_cells hf
  have k2 := h2
  have lt2 : ∀ x ∈ p2, x.block < W.heap.size := by obtain ⟨m, hm⟩ := k2; exact DataW.trod_lt m _ _ _ hm
  obtain ⟨x2, a2, b2, y2, e2, b22, rfl, rr2, ss2⟩ : ∃ (x : List Cel) (a : Option Addr) (b : Nat) (y : List Cel) (e : Option Addr) (b2 : Nat), v2 = .agg #[.slice a x.length b, .slice e y.length b2] ∧ Row W a b x ∧ Row W e b2 y := by
    have hk := hval 2 24 v2 rfl rfl
    obtain ⟨cs, rfl⟩ : ∃ cs, v2 = .agg cs := by
      simp only [Value.okWide, Tryz.underlying24] at hk
      obtain ⟨cs, h1, _⟩ := hk
      exact ⟨cs, h1⟩
    obtain ⟨fuel, hf⟩ := h2
    obtain ⟨a0, c0, z0, a1, c1, z1, hc, g0, g1⟩ := open_two hf
    refine ⟨z0, a0, c0, z1, a1, c1, ?_, g0, g1⟩
    obtain ⟨l⟩ := cs
    have hc' : l = [.slice a0 z0.length c0, .slice a1 z1.length c1] := hc
    rw [hc']
  clear hA0 hval0
  refine (lawTells12_any head12_any a0 cap0 xs0 a1 cap1 xs1 x2 a2 b2 y2 e2 b22 W hr0 hr1 rr2 ss2).mono fun e W' ⟨he, bel⟩ => ?_
  subst he
  exact ⟨_, rfl, _, _, _, [], _, [], hW', trodAll_mk1 (shut_bool Tryz.underlying4 _), (trodAll_cons_mk (Below.trod Tryz.laidOut (by kernel_rfl) (of_decide_eq_true (by kernel_rfl)) k0 bel lt0) (trodAll_cons_mk (Below.trod Tryz.laidOut (by kernel_rfl) (of_decide_eq_true (by kernel_rfl)) k1 bel lt1) (trodAll_cons_mk (Below.trod Tryz.laidOut (by kernel_rfl) (of_decide_eq_true (by kernel_rfl)) k2 bel lt2) trodAll_mk0))), rfl, bel.frame _, fun h => by cases h⟩

theorem FactsTells_over : Rows.factsTellsRow.holds Tryz.pinned (OpenSpec.ofChange Rows.factsTellsSpec) :=
  OpenClaim.holds_of_wide 3 Tryz.f3 rfl rfl rfl rfl rfl rfl rfl ⟨rfl, rfl, rfl, rfl, rfl⟩ rfl rfl rfl rfl rfl (by kernel_rfl) Tryz.func3 (by kernel_rfl)
    (of_decide_eq_true (by kernel_rfl)) (by unfold Func.isWrapper; first | (rw [if_pos (by decide +kernel)]; kernel_rfl) | (rw [if_neg (by decide +kernel)]; exact ⟨rfl, rfl⟩))
    (fun os started H enc _ => FactsTells_lifted os started H enc)

theorem FactsTells_holds : Rows.FactsTellsSaid := FactsTells_over
end Go.Proofs.YtmmnfkggfnokjaaGreat
