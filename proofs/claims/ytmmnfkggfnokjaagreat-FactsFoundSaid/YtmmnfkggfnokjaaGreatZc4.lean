/-
  Of layer 12 of sorrel: whatever arguments come in, the law FactsFound returns true, and what was handed in reads as it did: what a call finds are facts of the row, in order, each an instance of it; a call of which another one is an instance finds all that that one finds; a fact as a call finds itself alone, if it is there. No condition.
-/
import Derived.Test.YtmmnfkggfnokjaaGreatZr9
import Derived.OrdersHeld
import Derived.Deep.RegionHeld3
namespace Go.Proofs.YtmmnfkggfnokjaaGreat
open Go.RowKit

/-! ### the document's, at answers that are known -/
section
variable {w : World} {a a' : Option Addr} {c c' : Nat} {l : List (List Cel)} {t : List Cel}
theorem refaddK {m : List (List Cel)} {E : Int} (hr : Row w a c l) (ht : Row w a' c' t) (hF : Hid (FR l)) (hm : Hid (addF l t = m)) (hE : Hid (addE l t = E)) :
    Calls Tryz.prog 12 #[.slice a l.length c, .slice a' t.length c'] w fun e w' => ∃ a2 c2, e = .returned (.tuple #[.slice a2 m.length c2, .int .i64 E]) ∧ Row w' a2 c2 m ∧ Below w.heap.size w w' := by
  have h := refaddF_any a c l a' c' t w hr ht hF.out
  rw [hm.out, hE.out] at h
  exact h
theorem refdropK {m : List (List Cel)} {E : Int} (hr : Row w a c l) (ht : Row w a' c' t) (hl : l.length ≤ 512) (hm : Hid (dropF l t = m)) (hE : Hid (dropE l t = E)) :
    Calls Tryz.prog 14 #[.slice a l.length c, .slice a' t.length c'] w fun e w' => ∃ a2 c2, e = .returned (.tuple #[.slice a2 m.length c2, .int .i64 E]) ∧ Row w' a2 c2 m ∧ Below w.heap.size w w' := by
  have h := refdropF_any a c l a' c' t w hr ht hl
  rw [hm.out, hE.out] at h
  exact h
theorem reffindK {m : List (List Cel)} (hr : Row w a c l) (ht : Row w a' c' t) (hF : Hid (FR l)) (rt : Hid (rightB t = true)) (hm : Hid (l.filter (matchB t) = m)) :
    Calls Tryz.prog 23 #[.slice a l.length c, .slice a' t.length c'] w fun e w' => ∃ a2 c2, e = .returned (.slice a2 m.length c2) ∧ Row w' a2 c2 m ∧ Below w.heap.size w w' := by
  have h := reffindF_any a c l a' c' t w hr ht hF.out rt.out
  rw [hm.out] at h
  exact h
theorem refdiffK {m x y : List (List Cel)} (hr : Row w a c l) (ht : Row w a' c' m) (hl : l.length ≤ 512) (hl2 : m.length ≤ 512) (hx : Hid (lessF m l = x)) (hy : Hid (lessF l m = y)) :
    Calls Tryz.prog 18 #[.slice a l.length c, .slice a' m.length c'] w fun e w' => ∃ a2 c2 a3 c3, e = .returned (.tuple #[.slice a2 x.length c2, .slice a3 y.length c3]) ∧ Row w' a2 c2 x ∧ Row w' a3 c3 y ∧ Below w.heap.size w w' := by
  have h := refdiffF_any a c l a' c' m w hr ht hl hl2
  rw [hx.out, hy.out] at h
  exact h
end
/-- rows of rows copied -/
theorem copy_rows {w1 : World} {B : Nat} {ys : List (List Cel)} {v : Value} (h : AccInv B 23 ([] ++ ys) v w1) : ∃ a c, v = .slice a ys.length c ∧ Row w1 a c ys := by
  rw [List.nil_append] at h
  exact h.row

set_option maxHeartbeats 8000000 in
set_option maxRecDepth 100000 in
theorem lawTells12_any (hH : Head12) (a : Option Addr) (cap : Nat) (l : List (List Cel)) (a' : Option Addr) (cap' : Nat) (t : List Cel) (x : List Cel) (ax : Option Addr) (cx : Nat) (y : List Cel) (ay : Option Addr) (cy : Nat) (w : World) (hr : Row w a cap l) (ht : Row w a' cap' t) (hx : Row w ax cx x) (hy : Row w ay cy y) :
    Calls Tryz.prog 3 #[.slice a l.length cap, .slice a' t.length cap', .agg #[.slice ax x.length cx, .slice ay y.length cy]] w fun e w' => e = .returned (.bool true) ∧ Below w.heap.size w w' := by
  have hm := hr.max
  have hm2 := hr.le
  have hm3 := ht.max
  have hm4 := ht.le
  have HH := mkHid hH
  clear hH
  obtain ⟨k, hk, hk40⟩ : ∃ k : Nat, k = min l.length 40 ∧ k ≤ 40 := ⟨_, rfl, by omega⟩
  have hkl : k ≤ l.length := by omega
  have hmin : min (l.length : Int) 40 = (k : Int) := by omega
  have HU : Hid ((l.take k).length = k) := by rw [Hid, List.length_take]; omega
  clear hk
  have hbx : Below w.heap.size w (w.alloc (.cells #[.slice ax x.length cx, .slice ay y.length cy] 24)) := (Below.refl _ _).new _
  have k0 : (w.alloc (.cells #[.slice ax x.length cx, .slice ay y.length cy] 24)).cell? ⟨w.heap.size, 0, none⟩ = some (.slice ax x.length cx) := cell_mk w _ _ 0 _ rfl
  have k1 : (w.alloc (.cells #[.slice ax x.length cx, .slice ay y.length cy] 24)).cell? ⟨w.heap.size, 1, none⟩ = some (.slice ay y.length cy) := cell_mk w _ _ 1 _ rfl
  go_enter Tryz.func3, Tryz.ntmps3
  go_wp2_with fail
  refine (HH.out _).mono ?_
  rintro e w1 ⟨rfl, hb1⟩
  have hb01 := hbx.then hb1
  have K0 := mkHid (keep k0 hb1)
  have K1 := mkHid (keep k1 hb1)
  have rL := hr.below hb01
  have hm0 := AccInv.made (α := List Cel) (B := w1.heap.size) (e := 23) (T := 23) w1 (Nat.le_refl _) rfl
  have hb02 := (Below.refl w1.heap.size w1).new (.cells #[] 23)
  have htk : Row (hide (some w1.heap.size) (w1.alloc (.cells #[] 23))) a cap (l.take k) := (rL.takeF k).keeps (fresh_keeps (Keeps.of hb02) (Nat.le_refl _))
  generalize l.take k = u at HU htk
  have hs02 := hb02.size
  clear hkl k0 k1
  go_wp2_with (at_builtin; refine wpList_accs (α := List Cel) rfl _ _ 22 rfl w1.heap.size 23 24 _ Tryz.underlying22 Tryz.infoSl rfl (by decide) _ [] hm0 (by rfl) a cap u htk (by rw [HU.out]; rfl) (by rw [HU.out]; simp; omega) hs02 ?_; intro v3 w3 hacc3 hb3)
  obtain ⟨a3, c3, rfl, hr3⟩ := copy_rows hacc3
  have hb13 : Below w1.heap.size w1 w3 := hb02.trans (hb3.mono (Nat.le_refl _))
  replace K0 := mkHid (keep K0.out hb13)
  replace K1 := mkHid (keep K1.out hb13)
  have hb03 := hb01.then hb13
  have rT := mkHid (ht.below hb03)
  have rX := mkHid (hx.below hb03)
  have rY := mkHid (hy.below hb03)
  replace rL := mkHid (rL.below hb13)
  have rU := mkHid hr3
  have HB := mkHid hb03
  --REST
  clear hb1 hb01 hb02 hb13 hb03 hacc3 hb3 hm0 htk hs02 hr3
  obtain ⟨q, hq⟩ : ∃ q, factB t = q := ⟨_, rfl⟩
  have HQ := mkHid hq
  clear hq
  go_wp2_with fail
  refine (fact_is rT.out HQ).mono ?_
  rintro e w4 ⟨rfl, hw4⟩
  replace rT := mkHid (rT.out.below hw4)
  replace rX := mkHid (rX.out.below hw4)
  replace rY := mkHid (rY.out.below hw4)
  replace rL := mkHid (rL.out.below hw4)
  replace rU := mkHid (rU.out.below hw4)
  replace K0 := mkHid (keep K0.out hw4)
  replace K1 := mkHid (keep K1.out hw4)
  replace HB := mkHid (HB.out.then hw4)
  clear hw4
  go_wp2_with fail
  refine (reffact_is rT.out HQ).mono ?_
  rintro e w5 ⟨rfl, hw5⟩
  replace rT := mkHid (rT.out.below hw5)
  replace rX := mkHid (rX.out.below hw5)
  replace rY := mkHid (rY.out.below hw5)
  replace rL := mkHid (rL.out.below hw5)
  replace rU := mkHid (rU.out.below hw5)
  replace K0 := mkHid (keep K0.out hw5)
  replace K1 := mkHid (keep K1.out hw5)
  replace HB := mkHid (HB.out.then hw5)
  clear hw5
  obtain ⟨g, hg⟩ : ∃ g, frightB u = g := ⟨_, rfl⟩
  have HG := mkHid hg
  clear hg
  go_wp2_with fail
  refine (rightK rU.out HG).mono ?_
  rintro e w6 ⟨rfl, hw6⟩
  replace rT := mkHid (rT.out.below hw6)
  replace rX := mkHid (rX.out.below hw6)
  replace rY := mkHid (rY.out.below hw6)
  replace rL := mkHid (rL.out.below hw6)
  replace rU := mkHid (rU.out.below hw6)
  replace K0 := mkHid (keep K0.out hw6)
  replace K1 := mkHid (keep K1.out hw6)
  replace HB := mkHid (HB.out.then hw6)
  clear hw6
  go_wp2_with fail
  refine (refrightK rU.out HG).mono ?_
  rintro e w7 ⟨rfl, hw7⟩
  replace rT := mkHid (rT.out.below hw7)
  replace rX := mkHid (rX.out.below hw7)
  replace rY := mkHid (rY.out.below hw7)
  replace rL := mkHid (rL.out.below hw7)
  replace rU := mkHid (rU.out.below hw7)
  replace K0 := mkHid (keep K0.out hw7)
  replace K1 := mkHid (keep K1.out hw7)
  replace HB := mkHid (HB.out.then hw7)
  clear hw7
  go_wp2_with fail
  refine (row12_any a cap _ l rL.out 40 (by omega)).mono ?_
  rintro e w8 ⟨a4, c4, m, rfl, q0, hF, hml, hw8⟩
  replace rT := mkHid (rT.out.below hw8)
  replace rX := mkHid (rX.out.below hw8)
  replace rY := mkHid (rY.out.below hw8)
  replace rL := mkHid (rL.out.below hw8)
  replace rU := mkHid (rU.out.below hw8)
  replace K0 := mkHid (keep K0.out hw8)
  replace K1 := mkHid (keep K1.out hw8)
  replace HB := mkHid (HB.out.then hw8)
  clear hw8
  have rM := mkHid q0
  clear q0
  have HF := mkHid hF
  have hm512 : m.length ≤ 512 := by omega
  clear hF
  obtain ⟨A, hA⟩ : ∃ A, addF m t = A := ⟨_, rfl⟩
  have HA := mkHid hA
  clear hA
  obtain ⟨EA, hEA⟩ : ∃ E, addE m t = E := ⟨_, rfl⟩
  have HEA := mkHid hEA
  clear hEA
  obtain ⟨D, hD⟩ : ∃ A, dropF m t = A := ⟨_, rfl⟩
  have HD := mkHid hD
  clear hD
  obtain ⟨ED, hED⟩ : ∃ E, dropE m t = E := ⟨_, rfl⟩
  have HED := mkHid hED
  clear hED
  have hmx := rM.out.max
  have hmy := rM.out.le
  go_wp2_with fail
  refine (addK rM.out rT.out HF HA HEA).mono ?_
  rintro e w9 ⟨a5, c5, rfl, q0, hw9⟩
  replace rT := mkHid (rT.out.below hw9)
  replace rX := mkHid (rX.out.below hw9)
  replace rY := mkHid (rY.out.below hw9)
  replace rL := mkHid (rL.out.below hw9)
  replace rU := mkHid (rU.out.below hw9)
  replace rM := mkHid (rM.out.below hw9)
  replace K0 := mkHid (keep K0.out hw9)
  replace K1 := mkHid (keep K1.out hw9)
  replace HB := mkHid (HB.out.then hw9)
  clear hw9
  have rA := mkHid q0
  clear q0
  go_wp2_with fail
  refine (refaddK rM.out rT.out HF HA HEA).mono ?_
  rintro e w10 ⟨a6, c6, rfl, q0, hw10⟩
  replace rT := mkHid (rT.out.below hw10)
  replace rX := mkHid (rX.out.below hw10)
  replace rY := mkHid (rY.out.below hw10)
  replace rL := mkHid (rL.out.below hw10)
  replace rU := mkHid (rU.out.below hw10)
  replace rM := mkHid (rM.out.below hw10)
  replace rA := mkHid (rA.out.below hw10)
  replace K0 := mkHid (keep K0.out hw10)
  replace K1 := mkHid (keep K1.out hw10)
  replace HB := mkHid (HB.out.then hw10)
  clear hw10
  have rA2 := mkHid q0
  clear q0
  go_wp2_with fail
  refine (dropK rM.out rT.out HF HD HED).mono ?_
  rintro e w11 ⟨a7, c7, rfl, q0, hw11⟩
  replace rT := mkHid (rT.out.below hw11)
  replace rX := mkHid (rX.out.below hw11)
  replace rY := mkHid (rY.out.below hw11)
  replace rL := mkHid (rL.out.below hw11)
  replace rU := mkHid (rU.out.below hw11)
  replace rM := mkHid (rM.out.below hw11)
  replace rA := mkHid (rA.out.below hw11)
  replace rA2 := mkHid (rA2.out.below hw11)
  replace K0 := mkHid (keep K0.out hw11)
  replace K1 := mkHid (keep K1.out hw11)
  replace HB := mkHid (HB.out.then hw11)
  clear hw11
  have rD := mkHid q0
  clear q0
  go_wp2_with fail
  refine (refdropK rM.out rT.out hm512 HD HED).mono ?_
  rintro e w12 ⟨a8, c8, rfl, q0, hw12⟩
  replace rT := mkHid (rT.out.below hw12)
  replace rX := mkHid (rX.out.below hw12)
  replace rY := mkHid (rY.out.below hw12)
  replace rL := mkHid (rL.out.below hw12)
  replace rU := mkHid (rU.out.below hw12)
  replace rM := mkHid (rM.out.below hw12)
  replace rA := mkHid (rA.out.below hw12)
  replace rA2 := mkHid (rA2.out.below hw12)
  replace rD := mkHid (rD.out.below hw12)
  replace K0 := mkHid (keep K0.out hw12)
  replace K1 := mkHid (keep K1.out hw12)
  replace HB := mkHid (HB.out.then hw12)
  clear hw12
  have rD2 := mkHid q0
  clear q0
  have k0 := K0.out
  go_wp2_with fail
  refine (atom3_any ax cx _ x rX.out 12 (by omega) (by omega)).mono ?_
  rintro e w13 ⟨a9, c9, p, rfl, q0, hp, _, _, hw13⟩
  replace rT := mkHid (rT.out.below hw13)
  replace rX := mkHid (rX.out.below hw13)
  replace rY := mkHid (rY.out.below hw13)
  replace rL := mkHid (rL.out.below hw13)
  replace rU := mkHid (rU.out.below hw13)
  replace rM := mkHid (rM.out.below hw13)
  replace rA := mkHid (rA.out.below hw13)
  replace rA2 := mkHid (rA2.out.below hw13)
  replace rD := mkHid (rD.out.below hw13)
  replace rD2 := mkHid (rD2.out.below hw13)
  replace K0 := mkHid (keep K0.out hw13)
  replace K1 := mkHid (keep K1.out hw13)
  replace HB := mkHid (HB.out.then hw13)
  clear hw13
  have rP := mkHid q0
  clear q0
  clear k0
  have RP := mkHid hp
  clear hp
  have k1 := K1.out
  go_wp2_with fail
  refine (made12_any ay cy _ y rY.out).mono ?_
  rintro e w14 ⟨a10, c10, z, rfl, q0, _, _, hw14⟩
  replace rT := mkHid (rT.out.below hw14)
  replace rX := mkHid (rX.out.below hw14)
  replace rY := mkHid (rY.out.below hw14)
  replace rL := mkHid (rL.out.below hw14)
  replace rU := mkHid (rU.out.below hw14)
  replace rM := mkHid (rM.out.below hw14)
  replace rA := mkHid (rA.out.below hw14)
  replace rA2 := mkHid (rA2.out.below hw14)
  replace rD := mkHid (rD.out.below hw14)
  replace rD2 := mkHid (rD2.out.below hw14)
  replace rP := mkHid (rP.out.below hw14)
  replace K0 := mkHid (keep K0.out hw14)
  replace K1 := mkHid (keep K1.out hw14)
  replace HB := mkHid (HB.out.then hw14)
  clear hw14
  have rZ := mkHid q0
  clear q0
  clear k1
  obtain ⟨N, hN⟩ : ∃ N, addF m z = N := ⟨_, rfl⟩
  have HN := mkHid hN
  have FN : Hid (FR N) := by rw [Hid, ← hN]; exact HF.out.add z
  clear hN
  obtain ⟨EN, hEN⟩ : ∃ E, addE m z = E := ⟨_, rfl⟩
  have HEN := mkHid hEN
  clear hEN
  go_wp2_with fail
  refine (refaddK rM.out rZ.out HF HN HEN).mono ?_
  rintro e w15 ⟨a11, c11, rfl, q0, hw15⟩
  replace rT := mkHid (rT.out.below hw15)
  replace rX := mkHid (rX.out.below hw15)
  replace rY := mkHid (rY.out.below hw15)
  replace rL := mkHid (rL.out.below hw15)
  replace rU := mkHid (rU.out.below hw15)
  replace rM := mkHid (rM.out.below hw15)
  replace rA := mkHid (rA.out.below hw15)
  replace rA2 := mkHid (rA2.out.below hw15)
  replace rD := mkHid (rD.out.below hw15)
  replace rD2 := mkHid (rD2.out.below hw15)
  replace rP := mkHid (rP.out.below hw15)
  replace rZ := mkHid (rZ.out.below hw15)
  replace K0 := mkHid (keep K0.out hw15)
  replace K1 := mkHid (keep K1.out hw15)
  replace HB := mkHid (HB.out.then hw15)
  clear hw15
  have rN := mkHid q0
  clear q0
  have hn512 : N.length ≤ 512 := FN.out.len
  obtain ⟨X1, hX1⟩ : ∃ X, lessF N m = X := ⟨_, rfl⟩
  have HX1 := mkHid hX1
  clear hX1
  obtain ⟨X2, hX2⟩ : ∃ X, lessF m N = X := ⟨_, rfl⟩
  have HX2 := mkHid hX2
  clear hX2
  go_wp2_with fail
  refine (diffK rM.out rN.out HF FN HX1 HX2).mono ?_
  rintro e w16 ⟨a12, c12, a13, c13, rfl, q0, q1, hw16⟩
  replace rT := mkHid (rT.out.below hw16)
  replace rX := mkHid (rX.out.below hw16)
  replace rY := mkHid (rY.out.below hw16)
  replace rL := mkHid (rL.out.below hw16)
  replace rU := mkHid (rU.out.below hw16)
  replace rM := mkHid (rM.out.below hw16)
  replace rA := mkHid (rA.out.below hw16)
  replace rA2 := mkHid (rA2.out.below hw16)
  replace rD := mkHid (rD.out.below hw16)
  replace rD2 := mkHid (rD2.out.below hw16)
  replace rP := mkHid (rP.out.below hw16)
  replace rZ := mkHid (rZ.out.below hw16)
  replace rN := mkHid (rN.out.below hw16)
  replace K0 := mkHid (keep K0.out hw16)
  replace K1 := mkHid (keep K1.out hw16)
  replace HB := mkHid (HB.out.then hw16)
  clear hw16
  have rX1 := mkHid q0
  clear q0
  have rX2 := mkHid q1
  clear q1
  go_wp2_with fail
  refine (refdiffK rM.out rN.out hm512 hn512 HX1 HX2).mono ?_
  rintro e w17 ⟨a14, c14, a15, c15, rfl, q0, q1, hw17⟩
  replace rT := mkHid (rT.out.below hw17)
  replace rX := mkHid (rX.out.below hw17)
  replace rY := mkHid (rY.out.below hw17)
  replace rL := mkHid (rL.out.below hw17)
  replace rU := mkHid (rU.out.below hw17)
  replace rM := mkHid (rM.out.below hw17)
  replace rA := mkHid (rA.out.below hw17)
  replace rA2 := mkHid (rA2.out.below hw17)
  replace rD := mkHid (rD.out.below hw17)
  replace rD2 := mkHid (rD2.out.below hw17)
  replace rP := mkHid (rP.out.below hw17)
  replace rZ := mkHid (rZ.out.below hw17)
  replace rN := mkHid (rN.out.below hw17)
  replace rX1 := mkHid (rX1.out.below hw17)
  replace rX2 := mkHid (rX2.out.below hw17)
  replace K0 := mkHid (keep K0.out hw17)
  replace K1 := mkHid (keep K1.out hw17)
  replace HB := mkHid (HB.out.then hw17)
  clear hw17
  have rX3 := mkHid q0
  clear q0
  have rX4 := mkHid q1
  clear q1
  go_wp2_with fail
  refine (sameK (b := true) rA.out rA2.out (by rw [Hid]; exact decide_eq_true rfl)).mono ?_
  rintro e w18 ⟨rfl, hw18⟩
  replace rT := mkHid (rT.out.below hw18)
  replace rX := mkHid (rX.out.below hw18)
  replace rY := mkHid (rY.out.below hw18)
  replace rL := mkHid (rL.out.below hw18)
  replace rU := mkHid (rU.out.below hw18)
  replace rM := mkHid (rM.out.below hw18)
  replace rA := mkHid (rA.out.below hw18)
  replace rA2 := mkHid (rA2.out.below hw18)
  replace rD := mkHid (rD.out.below hw18)
  replace rD2 := mkHid (rD2.out.below hw18)
  replace rP := mkHid (rP.out.below hw18)
  replace rZ := mkHid (rZ.out.below hw18)
  replace rN := mkHid (rN.out.below hw18)
  replace rX1 := mkHid (rX1.out.below hw18)
  replace rX2 := mkHid (rX2.out.below hw18)
  replace rX3 := mkHid (rX3.out.below hw18)
  replace rX4 := mkHid (rX4.out.below hw18)
  replace K0 := mkHid (keep K0.out hw18)
  replace K1 := mkHid (keep K1.out hw18)
  replace HB := mkHid (HB.out.then hw18)
  clear hw18
  go_wp2_with fail
  refine (sameK (b := true) rD.out rD2.out (by rw [Hid]; exact decide_eq_true rfl)).mono ?_
  rintro e w19 ⟨rfl, hw19⟩
  replace rT := mkHid (rT.out.below hw19)
  replace rX := mkHid (rX.out.below hw19)
  replace rY := mkHid (rY.out.below hw19)
  replace rL := mkHid (rL.out.below hw19)
  replace rU := mkHid (rU.out.below hw19)
  replace rM := mkHid (rM.out.below hw19)
  replace rA := mkHid (rA.out.below hw19)
  replace rA2 := mkHid (rA2.out.below hw19)
  replace rD := mkHid (rD.out.below hw19)
  replace rD2 := mkHid (rD2.out.below hw19)
  replace rP := mkHid (rP.out.below hw19)
  replace rZ := mkHid (rZ.out.below hw19)
  replace rN := mkHid (rN.out.below hw19)
  replace rX1 := mkHid (rX1.out.below hw19)
  replace rX2 := mkHid (rX2.out.below hw19)
  replace rX3 := mkHid (rX3.out.below hw19)
  replace rX4 := mkHid (rX4.out.below hw19)
  replace K0 := mkHid (keep K0.out hw19)
  replace K1 := mkHid (keep K1.out hw19)
  replace HB := mkHid (HB.out.then hw19)
  clear hw19
  obtain ⟨h, hh⟩ : ∃ h, decide (t ∈ m) = h := ⟨_, rfl⟩
  have HH2 := mkHid hh
  clear hh
  go_wp2_with fail
  refine (hasK rM.out rT.out HF HH2).mono ?_
  rintro e w20 ⟨rfl, hw20⟩
  replace rT := mkHid (rT.out.below hw20)
  replace rX := mkHid (rX.out.below hw20)
  replace rY := mkHid (rY.out.below hw20)
  replace rL := mkHid (rL.out.below hw20)
  replace rU := mkHid (rU.out.below hw20)
  replace rM := mkHid (rM.out.below hw20)
  replace rA := mkHid (rA.out.below hw20)
  replace rA2 := mkHid (rA2.out.below hw20)
  replace rD := mkHid (rD.out.below hw20)
  replace rD2 := mkHid (rD2.out.below hw20)
  replace rP := mkHid (rP.out.below hw20)
  replace rZ := mkHid (rZ.out.below hw20)
  replace rN := mkHid (rN.out.below hw20)
  replace rX1 := mkHid (rX1.out.below hw20)
  replace rX2 := mkHid (rX2.out.below hw20)
  replace rX3 := mkHid (rX3.out.below hw20)
  replace rX4 := mkHid (rX4.out.below hw20)
  replace K0 := mkHid (keep K0.out hw20)
  replace K1 := mkHid (keep K1.out hw20)
  replace HB := mkHid (HB.out.then hw20)
  clear hw20
  go_wp2_with fail
  refine (refhasK rM.out rT.out HH2).mono ?_
  rintro e w21 ⟨rfl, hw21⟩
  replace rT := mkHid (rT.out.below hw21)
  replace rX := mkHid (rX.out.below hw21)
  replace rY := mkHid (rY.out.below hw21)
  replace rL := mkHid (rL.out.below hw21)
  replace rU := mkHid (rU.out.below hw21)
  replace rM := mkHid (rM.out.below hw21)
  replace rA := mkHid (rA.out.below hw21)
  replace rA2 := mkHid (rA2.out.below hw21)
  replace rD := mkHid (rD.out.below hw21)
  replace rD2 := mkHid (rD2.out.below hw21)
  replace rP := mkHid (rP.out.below hw21)
  replace rZ := mkHid (rZ.out.below hw21)
  replace rN := mkHid (rN.out.below hw21)
  replace rX1 := mkHid (rX1.out.below hw21)
  replace rX2 := mkHid (rX2.out.below hw21)
  replace rX3 := mkHid (rX3.out.below hw21)
  replace rX4 := mkHid (rX4.out.below hw21)
  replace K0 := mkHid (keep K0.out hw21)
  replace K1 := mkHid (keep K1.out hw21)
  replace HB := mkHid (HB.out.then hw21)
  clear hw21
  obtain ⟨M, hM⟩ : ∃ M, m.filter (matchB p) = M := ⟨_, rfl⟩
  have HM := mkHid hM
  clear hM
  go_wp2_with fail
  refine (findK rM.out rP.out HF RP HM).mono ?_
  rintro e w22 ⟨a16, c16, rfl, q0, hw22⟩
  replace rT := mkHid (rT.out.below hw22)
  replace rX := mkHid (rX.out.below hw22)
  replace rY := mkHid (rY.out.below hw22)
  replace rL := mkHid (rL.out.below hw22)
  replace rU := mkHid (rU.out.below hw22)
  replace rM := mkHid (rM.out.below hw22)
  replace rA := mkHid (rA.out.below hw22)
  replace rA2 := mkHid (rA2.out.below hw22)
  replace rD := mkHid (rD.out.below hw22)
  replace rD2 := mkHid (rD2.out.below hw22)
  replace rP := mkHid (rP.out.below hw22)
  replace rZ := mkHid (rZ.out.below hw22)
  replace rN := mkHid (rN.out.below hw22)
  replace rX1 := mkHid (rX1.out.below hw22)
  replace rX2 := mkHid (rX2.out.below hw22)
  replace rX3 := mkHid (rX3.out.below hw22)
  replace rX4 := mkHid (rX4.out.below hw22)
  replace K0 := mkHid (keep K0.out hw22)
  replace K1 := mkHid (keep K1.out hw22)
  replace HB := mkHid (HB.out.then hw22)
  clear hw22
  have rF1 := mkHid q0
  clear q0
  go_wp2_with fail
  refine (reffindK rM.out rP.out HF RP HM).mono ?_
  rintro e w23 ⟨a17, c17, rfl, q0, hw23⟩
  replace rT := mkHid (rT.out.below hw23)
  replace rX := mkHid (rX.out.below hw23)
  replace rY := mkHid (rY.out.below hw23)
  replace rL := mkHid (rL.out.below hw23)
  replace rU := mkHid (rU.out.below hw23)
  replace rM := mkHid (rM.out.below hw23)
  replace rA := mkHid (rA.out.below hw23)
  replace rA2 := mkHid (rA2.out.below hw23)
  replace rD := mkHid (rD.out.below hw23)
  replace rD2 := mkHid (rD2.out.below hw23)
  replace rP := mkHid (rP.out.below hw23)
  replace rZ := mkHid (rZ.out.below hw23)
  replace rN := mkHid (rN.out.below hw23)
  replace rX1 := mkHid (rX1.out.below hw23)
  replace rX2 := mkHid (rX2.out.below hw23)
  replace rX3 := mkHid (rX3.out.below hw23)
  replace rX4 := mkHid (rX4.out.below hw23)
  replace rF1 := mkHid (rF1.out.below hw23)
  replace K0 := mkHid (keep K0.out hw23)
  replace K1 := mkHid (keep K1.out hw23)
  replace HB := mkHid (HB.out.then hw23)
  clear hw23
  have rF2 := mkHid q0
  clear q0
  go_wp2_with fail
  refine (sameK (b := true) rF1.out rF2.out (by rw [Hid]; exact decide_eq_true rfl)).mono ?_
  rintro e w24 ⟨rfl, hw24⟩
  replace rT := mkHid (rT.out.below hw24)
  replace rX := mkHid (rX.out.below hw24)
  replace rY := mkHid (rY.out.below hw24)
  replace rL := mkHid (rL.out.below hw24)
  replace rU := mkHid (rU.out.below hw24)
  replace rM := mkHid (rM.out.below hw24)
  replace rA := mkHid (rA.out.below hw24)
  replace rA2 := mkHid (rA2.out.below hw24)
  replace rD := mkHid (rD.out.below hw24)
  replace rD2 := mkHid (rD2.out.below hw24)
  replace rP := mkHid (rP.out.below hw24)
  replace rZ := mkHid (rZ.out.below hw24)
  replace rN := mkHid (rN.out.below hw24)
  replace rX1 := mkHid (rX1.out.below hw24)
  replace rX2 := mkHid (rX2.out.below hw24)
  replace rX3 := mkHid (rX3.out.below hw24)
  replace rX4 := mkHid (rX4.out.below hw24)
  replace rF1 := mkHid (rF1.out.below hw24)
  replace rF2 := mkHid (rF2.out.below hw24)
  replace K0 := mkHid (keep K0.out hw24)
  replace K1 := mkHid (keep K1.out hw24)
  replace HB := mkHid (HB.out.then hw24)
  clear hw24
  go_wp2_with fail
  refine (sameK (b := true) rX1.out rX3.out (by rw [Hid]; exact decide_eq_true rfl)).mono ?_
  rintro e w25 ⟨rfl, hw25⟩
  replace rT := mkHid (rT.out.below hw25)
  replace rX := mkHid (rX.out.below hw25)
  replace rY := mkHid (rY.out.below hw25)
  replace rL := mkHid (rL.out.below hw25)
  replace rU := mkHid (rU.out.below hw25)
  replace rM := mkHid (rM.out.below hw25)
  replace rA := mkHid (rA.out.below hw25)
  replace rA2 := mkHid (rA2.out.below hw25)
  replace rD := mkHid (rD.out.below hw25)
  replace rD2 := mkHid (rD2.out.below hw25)
  replace rP := mkHid (rP.out.below hw25)
  replace rZ := mkHid (rZ.out.below hw25)
  replace rN := mkHid (rN.out.below hw25)
  replace rX1 := mkHid (rX1.out.below hw25)
  replace rX2 := mkHid (rX2.out.below hw25)
  replace rX3 := mkHid (rX3.out.below hw25)
  replace rX4 := mkHid (rX4.out.below hw25)
  replace rF1 := mkHid (rF1.out.below hw25)
  replace rF2 := mkHid (rF2.out.below hw25)
  replace K0 := mkHid (keep K0.out hw25)
  replace K1 := mkHid (keep K1.out hw25)
  replace HB := mkHid (HB.out.then hw25)
  clear hw25
  go_wp2_with fail
  refine (sameK (b := true) rX2.out rX4.out (by rw [Hid]; exact decide_eq_true rfl)).mono ?_
  rintro e w26 ⟨rfl, hw26⟩
  replace rT := mkHid (rT.out.below hw26)
  replace rX := mkHid (rX.out.below hw26)
  replace rY := mkHid (rY.out.below hw26)
  replace rL := mkHid (rL.out.below hw26)
  replace rU := mkHid (rU.out.below hw26)
  replace rM := mkHid (rM.out.below hw26)
  replace rA := mkHid (rA.out.below hw26)
  replace rA2 := mkHid (rA2.out.below hw26)
  replace rD := mkHid (rD.out.below hw26)
  replace rD2 := mkHid (rD2.out.below hw26)
  replace rP := mkHid (rP.out.below hw26)
  replace rZ := mkHid (rZ.out.below hw26)
  replace rN := mkHid (rN.out.below hw26)
  replace rX1 := mkHid (rX1.out.below hw26)
  replace rX2 := mkHid (rX2.out.below hw26)
  replace rX3 := mkHid (rX3.out.below hw26)
  replace rX4 := mkHid (rX4.out.below hw26)
  replace rF1 := mkHid (rF1.out.below hw26)
  replace rF2 := mkHid (rF2.out.below hw26)
  replace K0 := mkHid (keep K0.out hw26)
  replace K1 := mkHid (keep K1.out hw26)
  replace HB := mkHid (HB.out.then hw26)
  clear hw26
  go_wp2_with fail
  go_ret
  exact ⟨rfl, HB.out⟩
end Go.Proofs.YtmmnfkggfnokjaaGreat
namespace Go.Proofs.YtmmnfkggfnokjaaGreat
open Go.RowKit

/-! ### calls and their instances -/
theorem found_more {s : List Bnd} (hs : ∀ x ∈ s, IsT x.t) {c : List Cel} (rc : rightB c = true) (ha : apB s c = true) :
    rightB (apL s c) = true ∧ ∀ x, rightB x = true → matchB (apL s c) x = true → matchB c x = true := by
  have hT := (isT_of_right rc).1
  have e := put_lookF s c (isT_ok hT)
  have hI : IsT (putF (lookF s) c) := put_isT2 hT (fun d _ _ => lookF_isT hs _)
  have hap : apL s c = putF (lookF s) c := by unfold apL; rw [if_pos ha]; exact e
  have hr : rightB (apL s c) = true := by
    rw [hap]
    refine right_of hI ?_
    unfold apB at ha
    rw [e] at ha
    have := of_decide_eq_true ha
    omega
  refine ⟨hr, fun x rx h => ?_⟩
  obtain ⟨G, hG, hx⟩ := (match_iff hr rx).1 h
  rw [hap, put_put] at hx
  exact match_of (fun v => put_isT2 (lookF_isT hs v) (fun d _ _ => hG _)) hx
/-- a fact as a call finds itself alone -/
theorem found_self {l : List (List Cel)} (hF : FR l) {x : List Cel} (hx : x ∈ l) : l.filter (matchB x) = [x] := by
  have hm : ∀ y ∈ l, matchB x y = decide (y = x) := fun y hy => by
    have hg := fact_ground (hF.all x hx)
    have rx := fact_right (hF.all x hx)
    have ry := fact_right (hF.all y hy)
    have hput : ∀ G : Int → List Cel, putF G x = x := fun G => by
      have : ∀ t : List Cel, (∀ c ∈ t, c.k ≠ 1) → putF G t = t := by
        intro t
        induction t with
        | nil => intro _; rfl
        | cons c t ih => intro h; rw [putF_cell G (h c (by simp)), ih (fun d hd => h d (by simp [hd]))]
      exact this x (ground_iff.1 hg)
    by_cases e : y = x
    · rw [decide_eq_true e, e]
      exact match_of (G := selfF) self_isT (hput _)
    · rw [decide_eq_false e]
      cases hb : matchB x y with
      | false => rfl
      | true =>
        obtain ⟨G, _, hG⟩ := (match_iff rx ry).1 hb
        rw [hput] at hG
        exact absurd hG.symm e
  refine (hF.filter (matchB x)).ext (⟨by simp, fun y hy => by rw [List.mem_singleton.1 hy]; exact hF.all x hx, List.pairwise_singleton _ _⟩ : FR [x]) fun y => ?_
  rw [List.mem_filter, List.mem_singleton]
  refine ⟨fun h => by have := hm y h.1; rw [h.2] at this; exact of_decide_eq_true this.symm, fun h => ?_⟩
  subst h
  exact ⟨hx, by rw [hm _ hx]; exact decide_eq_true rfl⟩

set_option maxHeartbeats 16000000 in
set_option maxRecDepth 100000 in
theorem lawFound_any (hH : Head12) (a : Option Addr) (cap : Nat) (l : List (List Cel)) (a' : Option Addr) (cap' : Nat) (t : List Cel) (az : Option Addr) (cz : Nat) (zs : List (List Cel)) (w : World) (hr : Row w a cap l) (ht : Row w a' cap' t) (hz : Row w az cz zs) :
    Calls Tryz.prog 4 #[.slice a l.length cap, .slice a' t.length cap', .slice az zs.length cz] w fun e w' => e = .returned (.bool true) ∧ Below w.heap.size w w' := by
  have hzm := hz.max
  have hzl := hz.le
  have HH := mkHid hH
  clear hH
  go_enter Tryz.func4, Tryz.ntmps4
  go_wp2_with fail
  refine (HH.out _).mono ?_
  rintro e w1 ⟨rfl, hb1⟩
  go_wp2_with fail
  refine (row12_any a cap w1 l (hr.below hb1) 60 (by omega)).mono ?_
  rintro e w2 ⟨a2, c2, L, rfl, hr2, hF, hll, hb2⟩
  have HF := mkHid hF
  have hb12 := hb1.then hb2
  go_wp2_with fail
  refine (atom3_any a' cap' w2 t (ht.below hb12) 12 (by omega) (by omega)).mono ?_
  rintro e w3 ⟨a3, c3, C, rfl, hr3, hRC, _, _, hb3⟩
  have RC := mkHid hRC
  have hb13 := hb12.then hb3
  have rL := mkHid (hr2.below hb3)
  have rC := mkHid hr3
  have rZ := mkHid (hz.below hb13)
  have HB := mkHid hb13
  have hacc0 : AccInv w3.heap.size 44 ([] : List Bnd) (.slice (some ⟨w3.heap.size, 0, none⟩) 0 0) (w3.alloc (.cells #[] 44)) := AccInv.made w3 (Nat.le_refl _) rfl
  have hb30 := (Below.refl w3.heap.size w3).new (.cells #[] 44)
  clear hb1 hb2 hb12 hb3 hb13 hr2 hr3 hF hRC
  go_wp2_with fail
  go_loopw [8, 9] (fun v i wr => ∃ (k : Nat) (A : List Bnd), k ≤ zs.length ∧ k ≤ 6 ∧ A.length ≤ k ∧ i = .int .i64 k ∧ AccInv w3.heap.size 44 A v wr ∧ Hid (∀ b ∈ A, IsT b.t ∧ b.t.length ≤ 1000) ∧ Below w3.heap.size w3 wr) (fun v i wr => zs.length - (intOf i).toNat)
  case atStart => exact ⟨0, [], Nat.zero_le _, Nat.zero_le _, Nat.le_refl _, rfl, hacc0, by simp [Hid], hb30⟩
  case round =>
    clear hacc0 hb30
    obtain ⟨k, A, hk, hk6, hA, rfl, hacc, HT, hbl⟩ := hrel
    by_cases hlt2 : k < zs.length ∧ k < 6
    · obtain ⟨hlt, hl6⟩ := hlt2
      obtain ⟨b, off, rfl, hb, hat⟩ := rZ.out.cases.resolve_left (fun e => by simp [e] at hlt)
      obtain ⟨a1, cap1, d0, rx⟩ := list_at hat (Below.refl _ _) hlt
      have c0 := keep d0 hbl
      go_wp2_with fail
      refine (made_where a1 cap1 wr zs[k] (rx.below hbl) 6 (by omega) (by omega)).mono ?_
      rintro e w4 ⟨a4, c4, ys, rfl, hmk, rY, lY, hb4⟩
      have hacc4 := hacc.below hb4
      have hbl4 := hbl.then hb4
      have hsz4 := hbl4.size
      have hrh : Row (hide u8.ownBlock w4) a4 c4 ys := by
        rcases hmk with ⟨rfl, rfl, rfl⟩ | hn
        · exact rx.keeps (hacc4.fresh hbl4)
        · exact hacc.newer (Nat.le_refl _) hn
      have hry : Row w4 a4 c4 ys := hrh.keeps (hide_keeps _ _)
      have h0 : 0 < ys.length := (isT_of_right rY).2.2
      have hyT := (isT_of_right rY).1
      obtain ⟨by_, oy, rfl, _, haty⟩ := hry.cases.resolve_left (fun e => by simp [e] at h0)
      obtain ⟨y0, y1, y2, _⟩ := cel_at haty (Below.refl _ _) h0
      simp only [Nat.zero_mul, Nat.add_zero] at y0 y1 y2
      have hmx := hry.max
      have hmx2 := hry.le
      have HRH := mkHid hrh
      have HT2 : Hid (∀ b ∈ A ++ [(⟨(k : Int), ys⟩ : Bnd)], IsT b.t ∧ b.t.length ≤ 1000) := fun b hb => by
        rcases List.mem_append.1 hb with h | h
        · exact HT.out b h
        · rw [List.mem_singleton.1 h]; exact ⟨hyT, by show ys.length ≤ 1000; omega⟩
      clear hmk hrh hry hyT rY
      by_cases hk1 : ys[0].k = 1
      · by_cases hn1 : ys[0].n = (k : Int)
        · have t1 : (ys[0].k != 1) = false := by simp [hk1]
          have t2 : (ys[0].n != (k : Int)) = false := by simp [hn1]
          clear hk1 hn1 HT2
          go_wp2_with fail
          go_round
          case rel => exact ⟨k + 1, A, by omega, by omega, by omega, by go_num, hacc4, HT, hbl4⟩
          case measure => simp [intOf]; omega
        · have t1 : (ys[0].k != 1) = false := by simp [hk1]
          have t2 : (ys[0].n != (k : Int)) = true := by simp [hn1]
          clear hk1 hn1
          go_wp2_with (at_builtin; refine wpList_acc (α := Bnd) rfl _ _ 40 rfl w3.heap.size 44 32 _ Tryz.underlying40 Tryz.infoBind2 rfl (by decide) _ A hacc4 (by rfl) _ #[.int .i64 k, .slice (some ⟨by_, oy, none⟩) ys.length c4] (⟨k, ys⟩ : Bnd) ⟨⟨_, _, rfl, HRH.out⟩, by show _ ≤ (k : Int); omega, by show (k : Int) ≤ _; omega⟩ (by rfl) (by omega) hsz4 ?_; intro v' w6 hacc6 hb6)
          go_round
          case rel => exact ⟨k + 1, A ++ [⟨(k : Int), ys⟩], by omega, by omega, by simp; omega, by go_num, hacc6, HT2, hbl4.trans hb6⟩
          case measure => simp [intOf]; omega
      · have t1 : (ys[0].k != 1) = true := by simp [hk1]
        clear hk1
        go_wp2_with (at_builtin; refine wpList_acc (α := Bnd) rfl _ _ 40 rfl w3.heap.size 44 32 _ Tryz.underlying40 Tryz.infoBind2 rfl (by decide) _ A hacc4 (by rfl) _ #[.int .i64 k, .slice (some ⟨by_, oy, none⟩) ys.length c4] (⟨k, ys⟩ : Bnd) ⟨⟨_, _, rfl, HRH.out⟩, by show _ ≤ (k : Int); omega, by show (k : Int) ≤ _; omega⟩ (by rfl) (by omega) hsz4 ?_; intro v' w6 hacc6 hb6)
        go_round
        case rel => exact ⟨k + 1, A ++ [⟨(k : Int), ys⟩], by omega, by omega, by simp; omega, by go_num, hacc6, HT2, hbl4.trans hb6⟩
        case measure => simp [intOf]; omega
    · by_cases hkl : k < zs.length
      · have hkm : ¬ k < 6 := fun h => hlt2 ⟨hkl, h⟩
        clear hlt2
        obtain ⟨aS, cS, rfl, hrS⟩ := hacc.row
        replace rL := mkHid (rL.out.below hbl)
        replace rC := mkHid (rC.out.below hbl)
        replace HB := mkHid (HB.out.then hbl)
        have hAl : A.length ≤ 1000000 := by omega
        have hC200 : C.length ≤ 200 := (isT_of_right RC.out).2.1
        clear hacc hbl
        go_wp2_with fail
        refine (refapply_any aS cS a3 c3 wr A C hrS rC.out (fun b hb => (HT.out b hb).2) (by omega)).mono ?_
        rintro e w4 ⟨a4, c4, rfl, hnew, hb4⟩
        have rM := mkHid hnew.row
        replace rL := mkHid (rL.out.below hb4)
        replace rC := mkHid (rC.out.below hb4)
        replace HB := mkHid (HB.out.then hb4)
        clear hnew hb4 hrS
        obtain ⟨is, his⟩ : ∃ x, apB A C = x := ⟨_, rfl⟩
        have HIS := mkHid his
        have HMORE : Hid (apB A C = true → rightB (apL A C) = true ∧ ∀ x, rightB x = true → matchB (apL A C) x = true → matchB C x = true) := fun h => found_more (fun b hb => (HT.out b hb).1) RC.out h
        rw [his]
        clear his HT
        generalize apL A C = more at rM HMORE ⊢
        obtain ⟨M, hM⟩ : ∃ M, L.filter (matchB C) = M := ⟨_, rfl⟩
        have HM := mkHid hM
        have FM : Hid (FR M) := by rw [Hid, ← hM]; exact HF.out.filter _
        have HRM : Hid (frightB M = true) := FM.out.rightB
        have HMm : Hid (∀ x, x ∈ M ↔ x ∈ L ∧ matchB C x = true) := fun x => by rw [← hM]; exact List.mem_filter
        clear hM
        go_wp2_with fail
        refine (findK rL.out rC.out HF RC HM).mono ?_
        rintro e w5 ⟨a5, c5, rfl, q0, h5⟩
        have rA := mkHid q0
        replace rL := mkHid (rL.out.below h5)
        replace rC := mkHid (rC.out.below h5)
        replace rM := mkHid (rM.out.below h5)
        replace HB := mkHid (HB.out.then h5)
        clear q0 h5
        go_wp2_with fail
        refine (rightK rA.out HRM).mono ?_
        rintro e w6 ⟨rfl, h6⟩
        replace rL := mkHid (rL.out.below h6)
        replace rC := mkHid (rC.out.below h6)
        replace rM := mkHid (rM.out.below h6)
        replace rA := mkHid (rA.out.below h6)
        replace HB := mkHid (HB.out.then h6)
        clear h6
        have hAm := rA.out.max
        have hAm2 := rA.out.le
        go_wp2_with fail
        go_loopw [14] (fun i wq => ∃ j : Nat, j ≤ M.length ∧ i = .int .i64 j ∧ Below w6.heap.size w6 wq) (fun i wq => M.length - (intOf i).toNat)
        case atStart => exact ⟨0, Nat.zero_le _, rfl, Below.refl _ _⟩
        case round =>
          obtain ⟨j, hj, rfl, hbq⟩ := hrel
          by_cases hlt : j < M.length
          · obtain ⟨bm, om, rfl, hbm, hat⟩ := rA.out.cases.resolve_left (fun e => by simp [e] at hlt)
            obtain ⟨ax, cx, d0, rx⟩ := list_at hat hbq hlt
            have hxm := (HMm.out M[j]).1 (List.getElem_mem hlt)
            have rxr : Hid (rightB M[j] = true) := fact_right (HF.out.all _ hxm.1)
            have HMT : Hid (matchB C M[j] = true) := hxm.2
            have HIN : Hid (decide (M[j] ∈ L) = true) := decide_eq_true hxm.1
            have HSELF : Hid (L.filter (matchB M[j]) = [M[j]]) := found_self HF.out hxm.1
            clear hxm
            go_wp2_with fail
            refine (match3_any a3 c3 ax cx _ C M[j] (rC.out.below hbq) rx RC.out rxr.out).mono ?_
            rintro e w7 ⟨⟨_, _, rfl, _⟩, h7⟩
            rw [HMT.out]
            have D0 := mkHid (keep d0 h7)
            have rX := mkHid (rx.below h7)
            have hbq7 := hbq.then h7
            have rL7 := mkHid (rL.out.below hbq7)
            have rS7 : Hid (Row w7 (some ⟨bm, om + j, none⟩) (c5 - j) [M[j]]) := by
              have := (rA.out.below hbq7).slice (i := j) (j := j + 1) (by omega) (by omega)
              have e1 : (M.drop j).take (j + 1 - j) = [M[j]] := by
                rw [show j + 1 - j = 1 by omega, List.drop_eq_getElem_cons hlt]; rfl
              rw [e1] at this
              simpa [Hid, show Rep.sz (List Cel) = 1 from rfl] using this
            clear d0 rx h7 hbq
            go_wp2_with fail
            have hwr : IntKind.i64.wrap (((j : Nat) : Int) + 1) = ((j + 1 : Nat) : Int) := by rw [IntWalk.i64_in _ (by omega)]; omega
            have HS : Hid (∀ X, Below w7.heap.size w7 X → (fun X => X.cell? ⟨bm, om + j, none⟩ = some (.slice ax M[j].length cx)) X) := fun X h => keep D0.out h
            have hd0 : Below w7.heap.size w7 w7.drew := (Below.refl _ _).drew
            refine wp_region_noPanic ?_
            refine wp_region_held_drew (S := fun X => X.cell? ⟨bm, om + j, none⟩ = some (.slice ax M[j].length cx)) (by kernel_rfl) (HS.out _ hd0) (fun hSd => ?_)
            obtain ⟨x1, hx0⟩ : ∃ X, w7.drew = X := ⟨_, rfl⟩
            rw [hx0] at hd0 hSd ⊢
            clear hx0
            refine wpAnyH_take (i := 0) (oi := _) (v := ?_) rfl (by kernel_rfl) (by kernel_rfl) (by kernel_rfl) (fun _ _ _ h => h) (Or.inl ⟨by kernel_rfl, ?_⟩) (by assumption) ?_
            rotate_left
            · (intro w' hSw; obtain s0 := hSw; go_simp; try with_reducible rfl)
            (try simp only [List.getElem_toArray, List.getElem_cons_succ, List.getElem_cons_zero, Act.put, List.setIfInBounds_toArray, List.set_cons_zero, List.set_cons_succ])
            refine wpAnyH_take (i := 1) (oi := _) (v := ?_) rfl (by kernel_rfl) (by kernel_rfl) (by kernel_rfl) (fun _ _ _ h => h) (Or.inl ⟨by kernel_rfl, ?_⟩) (by assumption) ?_
            rotate_left
            · (intro w' hSw; obtain s0 := hSw; go_simp; try with_reducible rfl)
            (try simp only [List.getElem_toArray, List.getElem_cons_succ, List.getElem_cons_zero, Act.put, List.setIfInBounds_toArray, List.set_cons_zero, List.set_cons_succ])
            refine wpAnyH_take (i := 2) (oi := _) (v := ?_) rfl (by kernel_rfl) (by kernel_rfl) (by kernel_rfl) (fun _ _ _ h => h) (Or.inl ⟨by kernel_rfl, ?_⟩) (by assumption) ?_
            rotate_left
            · (intro w' hSw; obtain s0 := hSw; go_simp; try with_reducible rfl)
            (try simp only [List.getElem_toArray, List.getElem_cons_succ, List.getElem_cons_zero, Act.put, List.setIfInBounds_toArray, List.set_cons_zero, List.set_cons_succ])
            refine wpAnyH_take (i := 3) (oi := _) (v := ?_) rfl (by kernel_rfl) (by kernel_rfl) (by kernel_rfl) (fun _ _ _ h => h) (Or.inl ⟨by kernel_rfl, ?_⟩) (by assumption) ?_
            rotate_left
            · (intro w' hSw; obtain s0 := hSw; go_simp; try with_reducible rfl)
            (try simp only [List.getElem_toArray, List.getElem_cons_succ, List.getElem_cons_zero, Act.put, List.setIfInBounds_toArray, List.set_cons_zero, List.set_cons_succ])
            refine wpAnyH_take (i := 4) (oi := _) (v := ?_) rfl (by kernel_rfl) (by kernel_rfl) (by kernel_rfl) (fun _ _ _ h => h) (Or.inl ⟨by kernel_rfl, ?_⟩) (by assumption) ?_
            rotate_left
            · (intro w' hSw; obtain s0 := hSw; go_simp; try with_reducible rfl)
            (try simp only [List.getElem_toArray, List.getElem_cons_succ, List.getElem_cons_zero, Act.put, List.setIfInBounds_toArray, List.set_cons_zero, List.set_cons_succ])
            refine wpAnyH_take (i := 5) (oi := _) (v := ?_) rfl (by kernel_rfl) (by kernel_rfl) (by kernel_rfl) (fun _ _ _ h => h) (Or.inl ⟨by kernel_rfl, ?_⟩) (by assumption) ?_
            rotate_left
            · (intro w' hSw; obtain s0 := hSw; go_simp; try with_reducible rfl)
            (try simp only [List.getElem_toArray, List.getElem_cons_succ, List.getElem_cons_zero, Act.put, List.setIfInBounds_toArray, List.set_cons_zero, List.set_cons_succ])
            refine wpAnyH_take (i := 6) (oi := _) (v := ?_) rfl (by kernel_rfl) (by kernel_rfl) (by kernel_rfl) (fun _ _ _ h => h) (Or.inl ⟨by kernel_rfl, ?_⟩) (by assumption) ?_
            rotate_left
            · (intro w' hSw; obtain s0 := hSw; go_simp; try with_reducible rfl)
            (try simp only [List.getElem_toArray, List.getElem_cons_succ, List.getElem_cons_zero, Act.put, List.setIfInBounds_toArray, List.set_cons_zero, List.set_cons_succ])
            refine wpAnyH_take (i := 7) (oi := _) (v := ?_) rfl (by kernel_rfl) (by kernel_rfl) (by kernel_rfl) (fun _ _ _ h => h) (Or.inl ⟨by kernel_rfl, ?_⟩) (by assumption) ?_
            rotate_left
            · (intro w' hSw; obtain s0 := hSw; go_simp; try with_reducible rfl)
            (try simp only [List.getElem_toArray, List.getElem_cons_succ, List.getElem_cons_zero, Act.put, List.setIfInBounds_toArray, List.set_cons_zero, List.set_cons_succ])
            refine wpAnyH_ready (rs := [8]) (by kernel_rfl) (by simp) ?_
            refine AllReadyH.cons (o := _) rfl (fun K hK => ?_) AllReadyH.nil
            go_simp
            refine (refhasK (b := true) (rL7.out.below hd0) (rX.out.below hd0) HIN).mono ?_
            rintro e x2 ⟨rfl, hbx2⟩
            have hd1_2 := hd0.then hbx2
            try dsimp only
            refine hK.out _ _ (HS.out _ hd1_2) (fun hSn => ?_)
            clear hK K hSn
            have hSx2 := HS.out _ hd1_2
            (try simp only [List.getElem_toArray, List.getElem_cons_succ, List.getElem_cons_zero, Act.put, List.setIfInBounds_toArray, List.set_cons_zero, List.set_cons_succ])
            clear hbx2
            refine wpAnyH_take (i := 9) (oi := _) (v := ?_) rfl (by kernel_rfl) (by kernel_rfl) (by kernel_rfl) (fun _ _ _ h => h) (Or.inl ⟨by kernel_rfl, ?_⟩) (by assumption) ?_
            rotate_left
            · (intro w' hSw; obtain s0 := hSw; go_simp; try with_reducible rfl)
            (try simp only [List.getElem_toArray, List.getElem_cons_succ, List.getElem_cons_zero, Act.put, List.setIfInBounds_toArray, List.set_cons_zero, List.set_cons_succ])
            refine wpAnyH_take (i := 10) (oi := _) (v := ?_) rfl (by kernel_rfl) (by kernel_rfl) (by kernel_rfl) (fun _ _ _ h => h) (Or.inl ⟨by kernel_rfl, ?_⟩) (by assumption) ?_
            rotate_left
            · (intro w' hSw; obtain s0 := hSw; go_simp; try with_reducible rfl)
            (try simp only [List.getElem_toArray, List.getElem_cons_succ, List.getElem_cons_zero, Act.put, List.setIfInBounds_toArray, List.set_cons_zero, List.set_cons_succ])
            refine wpAnyH_take (i := 11) (oi := _) (v := ?_) rfl (by kernel_rfl) (by kernel_rfl) (by kernel_rfl) (fun _ _ _ h => h) (Or.inl ⟨by kernel_rfl, ?_⟩) (by assumption) ?_
            rotate_left
            · (intro w' hSw; obtain s0 := hSw; go_simp; try with_reducible rfl)
            (try simp only [List.getElem_toArray, List.getElem_cons_succ, List.getElem_cons_zero, Act.put, List.setIfInBounds_toArray, List.set_cons_zero, List.set_cons_succ])
            refine wpAnyH_take (i := 12) (oi := _) (v := ?_) rfl (by kernel_rfl) (by kernel_rfl) (by kernel_rfl) (fun _ _ _ h => h) (Or.inl ⟨by kernel_rfl, ?_⟩) (by assumption) ?_
            rotate_left
            · (intro w' hSw; obtain s0 := hSw; go_simp; try with_reducible rfl)
            (try simp only [List.getElem_toArray, List.getElem_cons_succ, List.getElem_cons_zero, Act.put, List.setIfInBounds_toArray, List.set_cons_zero, List.set_cons_succ])
            refine wpAnyH_take (i := 13) (oi := _) (v := ?_) rfl (by kernel_rfl) (by kernel_rfl) (by kernel_rfl) (fun _ _ _ h => h) (Or.inl ⟨by kernel_rfl, ?_⟩) (by assumption) ?_
            rotate_left
            · (intro w' hSw; obtain s0 := hSw; go_simp; try with_reducible rfl)
            (try simp only [List.getElem_toArray, List.getElem_cons_succ, List.getElem_cons_zero, Act.put, List.setIfInBounds_toArray, List.set_cons_zero, List.set_cons_succ])
            refine wpAnyH_take (i := 14) (oi := _) (v := ?_) rfl (by kernel_rfl) (by kernel_rfl) (by kernel_rfl) (fun _ _ _ h => h) (Or.inl ⟨by kernel_rfl, ?_⟩) (by assumption) ?_
            rotate_left
            · (intro w' hSw; obtain s0 := hSw; go_simp; try with_reducible rfl)
            (try simp only [List.getElem_toArray, List.getElem_cons_succ, List.getElem_cons_zero, Act.put, List.setIfInBounds_toArray, List.set_cons_zero, List.set_cons_succ])
            refine wpAnyH_take (i := 15) (oi := _) (v := ?_) rfl (by kernel_rfl) (by kernel_rfl) (by kernel_rfl) (fun _ _ _ h => h) (Or.inl ⟨by kernel_rfl, ?_⟩) (by assumption) ?_
            rotate_left
            · (intro w' hSw; obtain s0 := hSw; go_simp; try with_reducible rfl)
            (try simp only [List.getElem_toArray, List.getElem_cons_succ, List.getElem_cons_zero, Act.put, List.setIfInBounds_toArray, List.set_cons_zero, List.set_cons_succ])
            refine wpAnyH_take (i := 16) (oi := _) (v := ?_) rfl (by kernel_rfl) (by kernel_rfl) (by kernel_rfl) (fun _ _ _ h => h) (Or.inl ⟨by kernel_rfl, ?_⟩) (by assumption) ?_
            rotate_left
            · (intro w' hSw; obtain s0 := hSw; go_simp; try with_reducible rfl)
            (try simp only [List.getElem_toArray, List.getElem_cons_succ, List.getElem_cons_zero, Act.put, List.setIfInBounds_toArray, List.set_cons_zero, List.set_cons_succ])
            refine wpAnyH_take (i := 18) (oi := _) (v := ?_) rfl (by kernel_rfl) (by kernel_rfl) (by kernel_rfl) (fun _ _ _ h => h) (Or.inl ⟨by kernel_rfl, ?_⟩) (by assumption) ?_
            rotate_left
            · (intro w' hSw; obtain s0 := hSw; go_simp; try with_reducible rfl)
            (try simp only [List.getElem_toArray, List.getElem_cons_succ, List.getElem_cons_zero, Act.put, List.setIfInBounds_toArray, List.set_cons_zero, List.set_cons_succ])
            refine wpAnyH_take (i := 19) (oi := _) (v := ?_) rfl (by kernel_rfl) (by kernel_rfl) (by kernel_rfl) (fun _ _ _ h => h) (Or.inl ⟨by kernel_rfl, ?_⟩) (by assumption) ?_
            rotate_left
            · (intro w' hSw; obtain s0 := hSw; go_simp; try with_reducible rfl)
            (try simp only [List.getElem_toArray, List.getElem_cons_succ, List.getElem_cons_zero, Act.put, List.setIfInBounds_toArray, List.set_cons_zero, List.set_cons_succ])
            refine wpAnyH_take (i := 20) (oi := _) (v := ?_) rfl (by kernel_rfl) (by kernel_rfl) (by kernel_rfl) (fun _ _ _ h => h) (Or.inl ⟨by kernel_rfl, ?_⟩) (by assumption) ?_
            rotate_left
            · (intro w' hSw; obtain s0 := hSw; go_simp; try with_reducible rfl)
            (try simp only [List.getElem_toArray, List.getElem_cons_succ, List.getElem_cons_zero, Act.put, List.setIfInBounds_toArray, List.set_cons_zero, List.set_cons_succ])
            refine wpAnyH_take (i := 21) (oi := _) (v := ?_) rfl (by kernel_rfl) (by kernel_rfl) (by kernel_rfl) (fun _ _ _ h => h) (Or.inl ⟨by kernel_rfl, ?_⟩) (by assumption) ?_
            rotate_left
            · (intro w' hSw; obtain s0 := hSw; go_simp; try with_reducible rfl)
            (try simp only [List.getElem_toArray, List.getElem_cons_succ, List.getElem_cons_zero, Act.put, List.setIfInBounds_toArray, List.set_cons_zero, List.set_cons_succ])
            refine wpAnyH_take (i := 22) (oi := _) (v := .slice (some ⟨bm, om + j, none⟩) 1 (c5 - j)) rfl (by kernel_rfl) (by kernel_rfl) (by kernel_rfl) (fun _ _ _ h => h) (Or.inl ⟨by kernel_rfl, ?_⟩) (by assumption) ?_
            · intro w' hSw
              obtain s0 := hSw
              go_simp
              rw [if_pos ⟨by omega, by omega⟩, if_neg (by omega)]
            (try simp only [List.getElem_toArray, List.getElem_cons_succ, List.getElem_cons_zero, Act.put, List.setIfInBounds_toArray, List.set_cons_zero, List.set_cons_succ])
            refine wpAnyH_ready (rs := [17]) (by kernel_rfl) (by simp) ?_
            refine AllReadyH.cons (o := _) rfl (fun K hK => ?_) AllReadyH.nil
            go_simp
            refine (findK (rL7.out.below hd1_2) (rX.out.below hd1_2) HF rxr HSELF).mono ?_
            rintro e x3 ⟨a8, c8, rfl, r8, hbx3⟩
            have rF := mkHid r8
            clear r8
            have hd2_3 := hd1_2.then hbx3
            try dsimp only
            refine hK.out _ _ (HS.out _ hd2_3) (fun hSn => ?_)
            clear hK K hSn
            have hSx3 := HS.out _ hd2_3
            (try simp only [List.getElem_toArray, List.getElem_cons_succ, List.getElem_cons_zero, Act.put, List.setIfInBounds_toArray, List.set_cons_zero, List.set_cons_succ])
            clear hbx3
            refine wpAnyH_ready (rs := [23]) (by kernel_rfl) (by simp) ?_
            refine AllReadyH.cons (o := _) rfl (fun K hK => ?_) AllReadyH.nil
            go_simp
            refine (sameK (b := true) rF.out (rS7.out.below hd2_3) (by rw [Hid]; exact decide_eq_true rfl)).mono ?_
            rintro e x4 ⟨rfl, hbx4⟩
            have hd3_4 := hd2_3.then hbx4
            replace rF := mkHid (rF.out.below hbx4)
            try dsimp only
            refine hK.out _ _ (HS.out _ hd3_4) (fun hSn => ?_)
            clear hK K hSn
            have hSx4 := HS.out _ hd3_4
            (try simp only [List.getElem_toArray, List.getElem_cons_succ, List.getElem_cons_zero, Act.put, List.setIfInBounds_toArray, List.set_cons_zero, List.set_cons_succ])
            clear hbx4
            refine wpAnyH_take (i := 24) (oi := _) (v := ?_) rfl (by kernel_rfl) (by kernel_rfl) (by kernel_rfl) (fun _ _ _ h => h) (Or.inl ⟨by kernel_rfl, ?_⟩) (by assumption) ?_
            rotate_left
            · (intro w' hSw; obtain s0 := hSw; go_simp; try with_reducible rfl)
            (try simp only [List.getElem_toArray, List.getElem_cons_succ, List.getElem_cons_zero, Act.put, List.setIfInBounds_toArray, List.set_cons_zero, List.set_cons_succ])
            refine wpAnyH_take (i := 25) (oi := _) (v := ?_) rfl (by kernel_rfl) (by kernel_rfl) (by kernel_rfl) (fun _ _ _ h => h) (Or.inl ⟨by kernel_rfl, ?_⟩) (by assumption) ?_
            rotate_left
            · (intro w' hSw; obtain s0 := hSw; go_simp; try with_reducible rfl)
            (try simp only [List.getElem_toArray, List.getElem_cons_succ, List.getElem_cons_zero, Act.put, List.setIfInBounds_toArray, List.set_cons_zero, List.set_cons_succ])
            refine wpAnyH_done (by kernel_rfl) (NoPanic.normal ?_) _
            have hZ := hbq7.then hd3_4
            clear HS
            go_wp2_with fail
            go_round
            case rel => exact ⟨j + 1, by omega, by go_num, hZ⟩
            case measure => simp [intOf]; omega
          · replace rL := mkHid (rL.out.below hbq)
            replace rM := mkHid (rM.out.below hbq)
            replace rA := mkHid (rA.out.below hbq)
            replace HB := mkHid (HB.out.then hbq)
            clear hbq
            cases is with
            | false =>
              go_wp2_with fail
              go_ret
              exact ⟨rfl, HB.out⟩
            | true =>
              have HMO := mkHid (HMORE.out HIS.out)
              obtain ⟨N, hN⟩ : ∃ N, L.filter (matchB more) = N := ⟨_, rfl⟩
              have HN := mkHid hN
              have RMO : Hid (rightB more = true) := HMO.out.1
              have HNM : Hid (∀ x ∈ N, x ∈ M) := fun x hx => by
                rw [← hN] at hx
                obtain ⟨h1, h2⟩ := List.mem_filter.1 hx
                exact (HMm.out x).2 ⟨h1, HMO.out.2 x (fact_right (HF.out.all x h1)) h2⟩
              clear hN
              go_wp2_with fail
              refine (findK rL.out rM.out HF RMO HN).mono ?_
              rintro e w8 ⟨a8, c8, rfl, r8, h8⟩
              replace rA := mkHid (rA.out.below h8)
              replace HB := mkHid (HB.out.then h8)
              have hNm := r8.max
              have hNm2 := r8.le
              have r8h := mkHid r8
              clear h8 r8
              go_wp2_with fail
              go_loopw [18] (fun i wq2 => ∃ j2 : Nat, j2 ≤ N.length ∧ i = .int .i64 j2 ∧ Below w8.heap.size w8 wq2) (fun i wq2 => N.length - (intOf i).toNat)
              case atStart => exact ⟨0, Nat.zero_le _, rfl, Below.refl _ _⟩
              case round =>
                obtain ⟨j2, hj2, rfl, hbq2⟩ := hrel
                by_cases hlt2 : j2 < N.length
                · obtain ⟨bn, on_, rfl, hbn, hat⟩ := r8h.out.cases.resolve_left (fun e => by simp [e] at hlt2)
                  obtain ⟨ax, cx, d0, rx⟩ := list_at hat hbq2 hlt2
                  have HIN : Hid (decide (N[j2] ∈ M) = true) := decide_eq_true (HNM.out _ (List.getElem_mem hlt2))
                  go_wp2_with fail
                  refine (refhasK (rA.out.below hbq2) rx HIN).mono ?_
                  rintro e w9 ⟨rfl, h9⟩
                  go_wp2_with fail
                  go_round
                  case rel => exact ⟨j2 + 1, by omega, by go_num, hbq2.then h9⟩
                  case measure => simp [intOf]; omega
                · go_wp2_with fail
                  go_ret
                  exact ⟨rfl, HB.out.then hbq2⟩
      · clear hlt2
        obtain ⟨aS, cS, rfl, hrS⟩ := hacc.row
        replace rL := mkHid (rL.out.below hbl)
        replace rC := mkHid (rC.out.below hbl)
        replace HB := mkHid (HB.out.then hbl)
        have hAl : A.length ≤ 1000000 := by omega
        have hC200 : C.length ≤ 200 := (isT_of_right RC.out).2.1
        clear hacc hbl
        go_wp2_with fail
        refine (refapply_any aS cS a3 c3 wr A C hrS rC.out (fun b hb => (HT.out b hb).2) (by omega)).mono ?_
        rintro e w4 ⟨a4, c4, rfl, hnew, hb4⟩
        have rM := mkHid hnew.row
        replace rL := mkHid (rL.out.below hb4)
        replace rC := mkHid (rC.out.below hb4)
        replace HB := mkHid (HB.out.then hb4)
        clear hnew hb4 hrS
        obtain ⟨is, his⟩ : ∃ x, apB A C = x := ⟨_, rfl⟩
        have HIS := mkHid his
        have HMORE : Hid (apB A C = true → rightB (apL A C) = true ∧ ∀ x, rightB x = true → matchB (apL A C) x = true → matchB C x = true) := fun h => found_more (fun b hb => (HT.out b hb).1) RC.out h
        rw [his]
        clear his HT
        generalize apL A C = more at rM HMORE ⊢
        obtain ⟨M, hM⟩ : ∃ M, L.filter (matchB C) = M := ⟨_, rfl⟩
        have HM := mkHid hM
        have FM : Hid (FR M) := by rw [Hid, ← hM]; exact HF.out.filter _
        have HRM : Hid (frightB M = true) := FM.out.rightB
        have HMm : Hid (∀ x, x ∈ M ↔ x ∈ L ∧ matchB C x = true) := fun x => by rw [← hM]; exact List.mem_filter
        clear hM
        go_wp2_with fail
        refine (findK rL.out rC.out HF RC HM).mono ?_
        rintro e w5 ⟨a5, c5, rfl, q0, h5⟩
        have rA := mkHid q0
        replace rL := mkHid (rL.out.below h5)
        replace rC := mkHid (rC.out.below h5)
        replace rM := mkHid (rM.out.below h5)
        replace HB := mkHid (HB.out.then h5)
        clear q0 h5
        go_wp2_with fail
        refine (rightK rA.out HRM).mono ?_
        rintro e w6 ⟨rfl, h6⟩
        replace rL := mkHid (rL.out.below h6)
        replace rC := mkHid (rC.out.below h6)
        replace rM := mkHid (rM.out.below h6)
        replace rA := mkHid (rA.out.below h6)
        replace HB := mkHid (HB.out.then h6)
        clear h6
        have hAm := rA.out.max
        have hAm2 := rA.out.le
        go_wp2_with fail
        go_loopw [14] (fun i wq => ∃ j : Nat, j ≤ M.length ∧ i = .int .i64 j ∧ Below w6.heap.size w6 wq) (fun i wq => M.length - (intOf i).toNat)
        case atStart => exact ⟨0, Nat.zero_le _, rfl, Below.refl _ _⟩
        case round =>
          obtain ⟨j, hj, rfl, hbq⟩ := hrel
          by_cases hlt : j < M.length
          · obtain ⟨bm, om, rfl, hbm, hat⟩ := rA.out.cases.resolve_left (fun e => by simp [e] at hlt)
            obtain ⟨ax, cx, d0, rx⟩ := list_at hat hbq hlt
            have hxm := (HMm.out M[j]).1 (List.getElem_mem hlt)
            have rxr : Hid (rightB M[j] = true) := fact_right (HF.out.all _ hxm.1)
            have HMT : Hid (matchB C M[j] = true) := hxm.2
            have HIN : Hid (decide (M[j] ∈ L) = true) := decide_eq_true hxm.1
            have HSELF : Hid (L.filter (matchB M[j]) = [M[j]]) := found_self HF.out hxm.1
            clear hxm
            go_wp2_with fail
            refine (match3_any a3 c3 ax cx _ C M[j] (rC.out.below hbq) rx RC.out rxr.out).mono ?_
            rintro e w7 ⟨⟨_, _, rfl, _⟩, h7⟩
            rw [HMT.out]
            have D0 := mkHid (keep d0 h7)
            have rX := mkHid (rx.below h7)
            have hbq7 := hbq.then h7
            have rL7 := mkHid (rL.out.below hbq7)
            have rS7 : Hid (Row w7 (some ⟨bm, om + j, none⟩) (c5 - j) [M[j]]) := by
              have := (rA.out.below hbq7).slice (i := j) (j := j + 1) (by omega) (by omega)
              have e1 : (M.drop j).take (j + 1 - j) = [M[j]] := by
                rw [show j + 1 - j = 1 by omega, List.drop_eq_getElem_cons hlt]; rfl
              rw [e1] at this
              simpa [Hid, show Rep.sz (List Cel) = 1 from rfl] using this
            clear d0 rx h7 hbq
            go_wp2_with fail
            have hwr : IntKind.i64.wrap (((j : Nat) : Int) + 1) = ((j + 1 : Nat) : Int) := by rw [IntWalk.i64_in _ (by omega)]; omega
            have HS : Hid (∀ X, Below w7.heap.size w7 X → (fun X => X.cell? ⟨bm, om + j, none⟩ = some (.slice ax M[j].length cx)) X) := fun X h => keep D0.out h
            have hd0 : Below w7.heap.size w7 w7.drew := (Below.refl _ _).drew
            refine wp_region_noPanic ?_
            refine wp_region_held_drew (S := fun X => X.cell? ⟨bm, om + j, none⟩ = some (.slice ax M[j].length cx)) (by kernel_rfl) (HS.out _ hd0) (fun hSd => ?_)
            obtain ⟨x1, hx0⟩ : ∃ X, w7.drew = X := ⟨_, rfl⟩
            rw [hx0] at hd0 hSd ⊢
            clear hx0
            refine wpAnyH_take (i := 0) (oi := _) (v := ?_) rfl (by kernel_rfl) (by kernel_rfl) (by kernel_rfl) (fun _ _ _ h => h) (Or.inl ⟨by kernel_rfl, ?_⟩) (by assumption) ?_
            rotate_left
            · (intro w' hSw; obtain s0 := hSw; go_simp; try with_reducible rfl)
            (try simp only [List.getElem_toArray, List.getElem_cons_succ, List.getElem_cons_zero, Act.put, List.setIfInBounds_toArray, List.set_cons_zero, List.set_cons_succ])
            refine wpAnyH_take (i := 1) (oi := _) (v := ?_) rfl (by kernel_rfl) (by kernel_rfl) (by kernel_rfl) (fun _ _ _ h => h) (Or.inl ⟨by kernel_rfl, ?_⟩) (by assumption) ?_
            rotate_left
            · (intro w' hSw; obtain s0 := hSw; go_simp; try with_reducible rfl)
            (try simp only [List.getElem_toArray, List.getElem_cons_succ, List.getElem_cons_zero, Act.put, List.setIfInBounds_toArray, List.set_cons_zero, List.set_cons_succ])
            refine wpAnyH_take (i := 2) (oi := _) (v := ?_) rfl (by kernel_rfl) (by kernel_rfl) (by kernel_rfl) (fun _ _ _ h => h) (Or.inl ⟨by kernel_rfl, ?_⟩) (by assumption) ?_
            rotate_left
            · (intro w' hSw; obtain s0 := hSw; go_simp; try with_reducible rfl)
            (try simp only [List.getElem_toArray, List.getElem_cons_succ, List.getElem_cons_zero, Act.put, List.setIfInBounds_toArray, List.set_cons_zero, List.set_cons_succ])
            refine wpAnyH_take (i := 3) (oi := _) (v := ?_) rfl (by kernel_rfl) (by kernel_rfl) (by kernel_rfl) (fun _ _ _ h => h) (Or.inl ⟨by kernel_rfl, ?_⟩) (by assumption) ?_
            rotate_left
            · (intro w' hSw; obtain s0 := hSw; go_simp; try with_reducible rfl)
            (try simp only [List.getElem_toArray, List.getElem_cons_succ, List.getElem_cons_zero, Act.put, List.setIfInBounds_toArray, List.set_cons_zero, List.set_cons_succ])
            refine wpAnyH_take (i := 4) (oi := _) (v := ?_) rfl (by kernel_rfl) (by kernel_rfl) (by kernel_rfl) (fun _ _ _ h => h) (Or.inl ⟨by kernel_rfl, ?_⟩) (by assumption) ?_
            rotate_left
            · (intro w' hSw; obtain s0 := hSw; go_simp; try with_reducible rfl)
            (try simp only [List.getElem_toArray, List.getElem_cons_succ, List.getElem_cons_zero, Act.put, List.setIfInBounds_toArray, List.set_cons_zero, List.set_cons_succ])
            refine wpAnyH_take (i := 5) (oi := _) (v := ?_) rfl (by kernel_rfl) (by kernel_rfl) (by kernel_rfl) (fun _ _ _ h => h) (Or.inl ⟨by kernel_rfl, ?_⟩) (by assumption) ?_
            rotate_left
            · (intro w' hSw; obtain s0 := hSw; go_simp; try with_reducible rfl)
            (try simp only [List.getElem_toArray, List.getElem_cons_succ, List.getElem_cons_zero, Act.put, List.setIfInBounds_toArray, List.set_cons_zero, List.set_cons_succ])
            refine wpAnyH_take (i := 6) (oi := _) (v := ?_) rfl (by kernel_rfl) (by kernel_rfl) (by kernel_rfl) (fun _ _ _ h => h) (Or.inl ⟨by kernel_rfl, ?_⟩) (by assumption) ?_
            rotate_left
            · (intro w' hSw; obtain s0 := hSw; go_simp; try with_reducible rfl)
            (try simp only [List.getElem_toArray, List.getElem_cons_succ, List.getElem_cons_zero, Act.put, List.setIfInBounds_toArray, List.set_cons_zero, List.set_cons_succ])
            refine wpAnyH_take (i := 7) (oi := _) (v := ?_) rfl (by kernel_rfl) (by kernel_rfl) (by kernel_rfl) (fun _ _ _ h => h) (Or.inl ⟨by kernel_rfl, ?_⟩) (by assumption) ?_
            rotate_left
            · (intro w' hSw; obtain s0 := hSw; go_simp; try with_reducible rfl)
            (try simp only [List.getElem_toArray, List.getElem_cons_succ, List.getElem_cons_zero, Act.put, List.setIfInBounds_toArray, List.set_cons_zero, List.set_cons_succ])
            refine wpAnyH_ready (rs := [8]) (by kernel_rfl) (by simp) ?_
            refine AllReadyH.cons (o := _) rfl (fun K hK => ?_) AllReadyH.nil
            go_simp
            refine (refhasK (b := true) (rL7.out.below hd0) (rX.out.below hd0) HIN).mono ?_
            rintro e x2 ⟨rfl, hbx2⟩
            have hd1_2 := hd0.then hbx2
            try dsimp only
            refine hK.out _ _ (HS.out _ hd1_2) (fun hSn => ?_)
            clear hK K hSn
            have hSx2 := HS.out _ hd1_2
            (try simp only [List.getElem_toArray, List.getElem_cons_succ, List.getElem_cons_zero, Act.put, List.setIfInBounds_toArray, List.set_cons_zero, List.set_cons_succ])
            clear hbx2
            refine wpAnyH_take (i := 9) (oi := _) (v := ?_) rfl (by kernel_rfl) (by kernel_rfl) (by kernel_rfl) (fun _ _ _ h => h) (Or.inl ⟨by kernel_rfl, ?_⟩) (by assumption) ?_
            rotate_left
            · (intro w' hSw; obtain s0 := hSw; go_simp; try with_reducible rfl)
            (try simp only [List.getElem_toArray, List.getElem_cons_succ, List.getElem_cons_zero, Act.put, List.setIfInBounds_toArray, List.set_cons_zero, List.set_cons_succ])
            refine wpAnyH_take (i := 10) (oi := _) (v := ?_) rfl (by kernel_rfl) (by kernel_rfl) (by kernel_rfl) (fun _ _ _ h => h) (Or.inl ⟨by kernel_rfl, ?_⟩) (by assumption) ?_
            rotate_left
            · (intro w' hSw; obtain s0 := hSw; go_simp; try with_reducible rfl)
            (try simp only [List.getElem_toArray, List.getElem_cons_succ, List.getElem_cons_zero, Act.put, List.setIfInBounds_toArray, List.set_cons_zero, List.set_cons_succ])
            refine wpAnyH_take (i := 11) (oi := _) (v := ?_) rfl (by kernel_rfl) (by kernel_rfl) (by kernel_rfl) (fun _ _ _ h => h) (Or.inl ⟨by kernel_rfl, ?_⟩) (by assumption) ?_
            rotate_left
            · (intro w' hSw; obtain s0 := hSw; go_simp; try with_reducible rfl)
            (try simp only [List.getElem_toArray, List.getElem_cons_succ, List.getElem_cons_zero, Act.put, List.setIfInBounds_toArray, List.set_cons_zero, List.set_cons_succ])
            refine wpAnyH_take (i := 12) (oi := _) (v := ?_) rfl (by kernel_rfl) (by kernel_rfl) (by kernel_rfl) (fun _ _ _ h => h) (Or.inl ⟨by kernel_rfl, ?_⟩) (by assumption) ?_
            rotate_left
            · (intro w' hSw; obtain s0 := hSw; go_simp; try with_reducible rfl)
            (try simp only [List.getElem_toArray, List.getElem_cons_succ, List.getElem_cons_zero, Act.put, List.setIfInBounds_toArray, List.set_cons_zero, List.set_cons_succ])
            refine wpAnyH_take (i := 13) (oi := _) (v := ?_) rfl (by kernel_rfl) (by kernel_rfl) (by kernel_rfl) (fun _ _ _ h => h) (Or.inl ⟨by kernel_rfl, ?_⟩) (by assumption) ?_
            rotate_left
            · (intro w' hSw; obtain s0 := hSw; go_simp; try with_reducible rfl)
            (try simp only [List.getElem_toArray, List.getElem_cons_succ, List.getElem_cons_zero, Act.put, List.setIfInBounds_toArray, List.set_cons_zero, List.set_cons_succ])
            refine wpAnyH_take (i := 14) (oi := _) (v := ?_) rfl (by kernel_rfl) (by kernel_rfl) (by kernel_rfl) (fun _ _ _ h => h) (Or.inl ⟨by kernel_rfl, ?_⟩) (by assumption) ?_
            rotate_left
            · (intro w' hSw; obtain s0 := hSw; go_simp; try with_reducible rfl)
            (try simp only [List.getElem_toArray, List.getElem_cons_succ, List.getElem_cons_zero, Act.put, List.setIfInBounds_toArray, List.set_cons_zero, List.set_cons_succ])
            refine wpAnyH_take (i := 15) (oi := _) (v := ?_) rfl (by kernel_rfl) (by kernel_rfl) (by kernel_rfl) (fun _ _ _ h => h) (Or.inl ⟨by kernel_rfl, ?_⟩) (by assumption) ?_
            rotate_left
            · (intro w' hSw; obtain s0 := hSw; go_simp; try with_reducible rfl)
            (try simp only [List.getElem_toArray, List.getElem_cons_succ, List.getElem_cons_zero, Act.put, List.setIfInBounds_toArray, List.set_cons_zero, List.set_cons_succ])
            refine wpAnyH_take (i := 16) (oi := _) (v := ?_) rfl (by kernel_rfl) (by kernel_rfl) (by kernel_rfl) (fun _ _ _ h => h) (Or.inl ⟨by kernel_rfl, ?_⟩) (by assumption) ?_
            rotate_left
            · (intro w' hSw; obtain s0 := hSw; go_simp; try with_reducible rfl)
            (try simp only [List.getElem_toArray, List.getElem_cons_succ, List.getElem_cons_zero, Act.put, List.setIfInBounds_toArray, List.set_cons_zero, List.set_cons_succ])
            refine wpAnyH_take (i := 18) (oi := _) (v := ?_) rfl (by kernel_rfl) (by kernel_rfl) (by kernel_rfl) (fun _ _ _ h => h) (Or.inl ⟨by kernel_rfl, ?_⟩) (by assumption) ?_
            rotate_left
            · (intro w' hSw; obtain s0 := hSw; go_simp; try with_reducible rfl)
            (try simp only [List.getElem_toArray, List.getElem_cons_succ, List.getElem_cons_zero, Act.put, List.setIfInBounds_toArray, List.set_cons_zero, List.set_cons_succ])
            refine wpAnyH_take (i := 19) (oi := _) (v := ?_) rfl (by kernel_rfl) (by kernel_rfl) (by kernel_rfl) (fun _ _ _ h => h) (Or.inl ⟨by kernel_rfl, ?_⟩) (by assumption) ?_
            rotate_left
            · (intro w' hSw; obtain s0 := hSw; go_simp; try with_reducible rfl)
            (try simp only [List.getElem_toArray, List.getElem_cons_succ, List.getElem_cons_zero, Act.put, List.setIfInBounds_toArray, List.set_cons_zero, List.set_cons_succ])
            refine wpAnyH_take (i := 20) (oi := _) (v := ?_) rfl (by kernel_rfl) (by kernel_rfl) (by kernel_rfl) (fun _ _ _ h => h) (Or.inl ⟨by kernel_rfl, ?_⟩) (by assumption) ?_
            rotate_left
            · (intro w' hSw; obtain s0 := hSw; go_simp; try with_reducible rfl)
            (try simp only [List.getElem_toArray, List.getElem_cons_succ, List.getElem_cons_zero, Act.put, List.setIfInBounds_toArray, List.set_cons_zero, List.set_cons_succ])
            refine wpAnyH_take (i := 21) (oi := _) (v := ?_) rfl (by kernel_rfl) (by kernel_rfl) (by kernel_rfl) (fun _ _ _ h => h) (Or.inl ⟨by kernel_rfl, ?_⟩) (by assumption) ?_
            rotate_left
            · (intro w' hSw; obtain s0 := hSw; go_simp; try with_reducible rfl)
            (try simp only [List.getElem_toArray, List.getElem_cons_succ, List.getElem_cons_zero, Act.put, List.setIfInBounds_toArray, List.set_cons_zero, List.set_cons_succ])
            refine wpAnyH_take (i := 22) (oi := _) (v := .slice (some ⟨bm, om + j, none⟩) 1 (c5 - j)) rfl (by kernel_rfl) (by kernel_rfl) (by kernel_rfl) (fun _ _ _ h => h) (Or.inl ⟨by kernel_rfl, ?_⟩) (by assumption) ?_
            · intro w' hSw
              obtain s0 := hSw
              go_simp
              rw [if_pos ⟨by omega, by omega⟩, if_neg (by omega)]
            (try simp only [List.getElem_toArray, List.getElem_cons_succ, List.getElem_cons_zero, Act.put, List.setIfInBounds_toArray, List.set_cons_zero, List.set_cons_succ])
            refine wpAnyH_ready (rs := [17]) (by kernel_rfl) (by simp) ?_
            refine AllReadyH.cons (o := _) rfl (fun K hK => ?_) AllReadyH.nil
            go_simp
            refine (findK (rL7.out.below hd1_2) (rX.out.below hd1_2) HF rxr HSELF).mono ?_
            rintro e x3 ⟨a8, c8, rfl, r8, hbx3⟩
            have rF := mkHid r8
            clear r8
            have hd2_3 := hd1_2.then hbx3
            try dsimp only
            refine hK.out _ _ (HS.out _ hd2_3) (fun hSn => ?_)
            clear hK K hSn
            have hSx3 := HS.out _ hd2_3
            (try simp only [List.getElem_toArray, List.getElem_cons_succ, List.getElem_cons_zero, Act.put, List.setIfInBounds_toArray, List.set_cons_zero, List.set_cons_succ])
            clear hbx3
            refine wpAnyH_ready (rs := [23]) (by kernel_rfl) (by simp) ?_
            refine AllReadyH.cons (o := _) rfl (fun K hK => ?_) AllReadyH.nil
            go_simp
            refine (sameK (b := true) rF.out (rS7.out.below hd2_3) (by rw [Hid]; exact decide_eq_true rfl)).mono ?_
            rintro e x4 ⟨rfl, hbx4⟩
            have hd3_4 := hd2_3.then hbx4
            replace rF := mkHid (rF.out.below hbx4)
            try dsimp only
            refine hK.out _ _ (HS.out _ hd3_4) (fun hSn => ?_)
            clear hK K hSn
            have hSx4 := HS.out _ hd3_4
            (try simp only [List.getElem_toArray, List.getElem_cons_succ, List.getElem_cons_zero, Act.put, List.setIfInBounds_toArray, List.set_cons_zero, List.set_cons_succ])
            clear hbx4
            refine wpAnyH_take (i := 24) (oi := _) (v := ?_) rfl (by kernel_rfl) (by kernel_rfl) (by kernel_rfl) (fun _ _ _ h => h) (Or.inl ⟨by kernel_rfl, ?_⟩) (by assumption) ?_
            rotate_left
            · (intro w' hSw; obtain s0 := hSw; go_simp; try with_reducible rfl)
            (try simp only [List.getElem_toArray, List.getElem_cons_succ, List.getElem_cons_zero, Act.put, List.setIfInBounds_toArray, List.set_cons_zero, List.set_cons_succ])
            refine wpAnyH_take (i := 25) (oi := _) (v := ?_) rfl (by kernel_rfl) (by kernel_rfl) (by kernel_rfl) (fun _ _ _ h => h) (Or.inl ⟨by kernel_rfl, ?_⟩) (by assumption) ?_
            rotate_left
            · (intro w' hSw; obtain s0 := hSw; go_simp; try with_reducible rfl)
            (try simp only [List.getElem_toArray, List.getElem_cons_succ, List.getElem_cons_zero, Act.put, List.setIfInBounds_toArray, List.set_cons_zero, List.set_cons_succ])
            refine wpAnyH_done (by kernel_rfl) (NoPanic.normal ?_) _
            have hZ := hbq7.then hd3_4
            clear HS
            go_wp2_with fail
            go_round
            case rel => exact ⟨j + 1, by omega, by go_num, hZ⟩
            case measure => simp [intOf]; omega
          · replace rL := mkHid (rL.out.below hbq)
            replace rM := mkHid (rM.out.below hbq)
            replace rA := mkHid (rA.out.below hbq)
            replace HB := mkHid (HB.out.then hbq)
            clear hbq
            cases is with
            | false =>
              go_wp2_with fail
              go_ret
              exact ⟨rfl, HB.out⟩
            | true =>
              have HMO := mkHid (HMORE.out HIS.out)
              obtain ⟨N, hN⟩ : ∃ N, L.filter (matchB more) = N := ⟨_, rfl⟩
              have HN := mkHid hN
              have RMO : Hid (rightB more = true) := HMO.out.1
              have HNM : Hid (∀ x ∈ N, x ∈ M) := fun x hx => by
                rw [← hN] at hx
                obtain ⟨h1, h2⟩ := List.mem_filter.1 hx
                exact (HMm.out x).2 ⟨h1, HMO.out.2 x (fact_right (HF.out.all x h1)) h2⟩
              clear hN
              go_wp2_with fail
              refine (findK rL.out rM.out HF RMO HN).mono ?_
              rintro e w8 ⟨a8, c8, rfl, r8, h8⟩
              replace rA := mkHid (rA.out.below h8)
              replace HB := mkHid (HB.out.then h8)
              have hNm := r8.max
              have hNm2 := r8.le
              have r8h := mkHid r8
              clear h8 r8
              go_wp2_with fail
              go_loopw [18] (fun i wq2 => ∃ j2 : Nat, j2 ≤ N.length ∧ i = .int .i64 j2 ∧ Below w8.heap.size w8 wq2) (fun i wq2 => N.length - (intOf i).toNat)
              case atStart => exact ⟨0, Nat.zero_le _, rfl, Below.refl _ _⟩
              case round =>
                obtain ⟨j2, hj2, rfl, hbq2⟩ := hrel
                by_cases hlt2 : j2 < N.length
                · obtain ⟨bn, on_, rfl, hbn, hat⟩ := r8h.out.cases.resolve_left (fun e => by simp [e] at hlt2)
                  obtain ⟨ax, cx, d0, rx⟩ := list_at hat hbq2 hlt2
                  have HIN : Hid (decide (N[j2] ∈ M) = true) := decide_eq_true (HNM.out _ (List.getElem_mem hlt2))
                  go_wp2_with fail
                  refine (refhasK (rA.out.below hbq2) rx HIN).mono ?_
                  rintro e w9 ⟨rfl, h9⟩
                  go_wp2_with fail
                  go_round
                  case rel => exact ⟨j2 + 1, by omega, by go_num, hbq2.then h9⟩
                  case measure => simp [intOf]; omega
                · go_wp2_with fail
                  go_ret
                  exact ⟨rfl, HB.out.then hbq2⟩
end Go.Proofs.YtmmnfkggfnokjaaGreat
namespace Go.Proofs.YtmmnfkggfnokjaaGreat
open Go.RowKit Go.ChangeShapes Go.WideShapes Go.ChangeAt
open Go.ChangeMaps (open_string)

set_option maxRecDepth 100000 in
set_option maxHeartbeats 1000000 in
theorem FactsFound_lifted (os : Os) (started : os.Started) (H : Type) (enc : TypeId × Value → H) :
    ReturnsInHanded {} Tryz.checked os 4 .any (Rows.factsFoundSpec.pre6 enc Tryz.prog Tryz.f4 Rows.factsFoundRow.domain false) (Rows.factsFoundSpec.post enc Tryz.prog Tryz.f4 false true false false) := by
  refine returnsInHanded_of_change (C := Tryz.checked) Tryz.own started (by kernel_rfl) Tryz.func4
    (ChangeSpec.witness6 (enc := enc) (C := Tryz.checked) false ⟨#[], #[.slice none 0 0, .slice none 0 0, .slice none 0 0], []⟩ 8 (by kernel_rfl) (by kernel_rfl) (by kernel_rfl) (by kernel_rfl)) ?_
  intro W base args ds gs before hval0 hW hcnd _
  have hval : ∀ (j : Nat) t v, Tryz.f4.params[j]? = some t → args[j]? = some v → Value.okWide Tryz.prog W .any base t v := hval0
  have hW' := hW
  obtain ⟨p, q, hA0, hV, rfl, hfz, hnd⟩ := hW
  have hA : DataW.TrodAll enc Tryz.prog W 0 (fun _ => true) true Tryz.f4.params.toList args.toList ds p := hA0
  rw [Tryz.params4] at hA hval
  obtain ⟨v0, vs0, d0, ds0, p0, q0, hargs, rfl, rfl, h0, r0⟩ := trodAll_cons hA
  obtain ⟨v1, vs1, d1, ds1, p1, q1, rfl, rfl, rfl, h1, r1⟩ := trodAll_cons r0
  obtain ⟨v2, vs2, d2, ds2, p2, q2, rfl, rfl, rfl, h2, r2⟩ := trodAll_cons r1
  obtain ⟨rfl, rfl, rfl⟩ := trodAll_nil r2
  obtain rfl : args = #[v0, v1, v2] := by cases args; simp_all
  obtain ⟨rfl, rfl⟩ := trodVars_none hV
  have k0 := h0
  have lt0 : ∀ x ∈ p0, x.block < W.heap.size := by obtain ⟨m, hm⟩ := k0; exact DataW.trod_lt m _ _ _ hm
  obtain ⟨a0, len0, cap0, rfl⟩ := okWide_slice Tryz.underlying22 (hval 0 22 v0 rfl rfl)
  obtain ⟨xs0, rfl, hr0⟩ : ∃ xs : List (List Cel), xs.length = len0 ∧ Row W a0 cap0 xs := by
    obtain ⟨fuel, hf⟩ := h0
    exact open_cellss hf
  have k1 := h1
  have lt1 : ∀ x ∈ p1, x.block < W.heap.size := by obtain ⟨m, hm⟩ := k1; exact DataW.trod_lt m _ _ _ hm
  obtain ⟨a1, len1, cap1, rfl⟩ := okWide_slice Tryz.underlying23 (hval 1 23 v1 rfl rfl)
  obtain ⟨xs1, rfl, hr1⟩ : ∃ xs : List Cel, xs.length = len1 ∧ Row W a1 cap1 xs := by
    obtain ⟨fuel, hf⟩ := h1
    exact open_cells hf
  have k2 := h2
  have lt2 : ∀ x ∈ p2, x.block < W.heap.size := by obtain ⟨m, hm⟩ := k2; exact DataW.trod_lt m _ _ _ hm
  obtain ⟨a2, len2, cap2, rfl⟩ := okWide_slice Tryz.underlying22 (hval 2 22 v2 rfl rfl)
  obtain ⟨xs2, rfl, hr2⟩ : ∃ xs : List (List Cel), xs.length = len2 ∧ Row W a2 cap2 xs := by
    obtain ⟨fuel, hf⟩ := h2
    exact open_cellss hf
  clear hA0 hval0
  refine (lawFound_any head12_any a0 cap0 xs0 a1 cap1 xs1 a2 cap2 xs2 W hr0 hr1 hr2).mono fun e W' ⟨he, bel⟩ => ?_
  subst he
  exact ⟨_, rfl, _, _, _, [], _, [], hW', trodAll_mk1 (shut_bool Tryz.underlying4 _), (trodAll_cons_mk (Below.trod Tryz.laidOut (by kernel_rfl) (of_decide_eq_true (by kernel_rfl)) k0 bel lt0) (trodAll_cons_mk (Below.trod Tryz.laidOut (by kernel_rfl) (of_decide_eq_true (by kernel_rfl)) k1 bel lt1) (trodAll_cons_mk (Below.trod Tryz.laidOut (by kernel_rfl) (of_decide_eq_true (by kernel_rfl)) k2 bel lt2) trodAll_mk0))), rfl, bel.frame _, fun h => by cases h⟩

theorem FactsFound_over : Rows.factsFoundRow.holds Tryz.pinned (OpenSpec.ofChange Rows.factsFoundSpec) :=
  OpenClaim.holds_of_wide 4 Tryz.f4 rfl rfl rfl rfl rfl rfl rfl ⟨rfl, rfl, rfl, rfl, rfl⟩ rfl rfl rfl rfl rfl (by kernel_rfl) Tryz.func4 (by kernel_rfl)
    (of_decide_eq_true (by kernel_rfl)) (by unfold Func.isWrapper; first | (rw [if_pos (by decide +kernel)]; kernel_rfl) | (rw [if_neg (by decide +kernel)]; exact ⟨rfl, rfl⟩))
    (fun os started H enc _ => FactsFound_lifted os started H enc)

theorem FactsFound_holds : Rows.FactsFoundSaid := FactsFound_over
end Go.Proofs.YtmmnfkggfnokjaaGreat
