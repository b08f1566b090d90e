/-
  Of layer 3 of sorrel: whatever arguments come in, the law UnifyParts returns true, and what was handed in reads as it did: the theorem of parts: two terms of the same name, of two parts each, are made alike just if the first parts are, and then, with that put in, the second ones; both one behind the other are what makes both alike. No condition.
-/
import Derived.Test.YtlddglajdcednaaZr10
namespace Go.Proofs.Ytlddglajdcednaa
open Go.RowKit

theorem row_two (w : World) {a a' : Option Addr} {cap cap' : Nat} {t u : List Cel} (ht : Row w a cap t) (hu : Row w a' cap' u) : Row (w.alloc (.cells #[.slice a t.length cap, .slice a' u.length cap'] 22)) (some ⟨w.heap.size, 0, none⟩) 2 [t, u] := by
  have h := World.ownsRow_lit (base := w.heap.size) (e := 22) (size := 1) w #[.slice a t.length cap, .slice a' u.length cap'] 2 (Nat.le_refl _) (by unfold maxLen; omega) rfl
  have hb := (Below.refl w.heap.size w).new (.cells #[.slice a t.length cap, .slice a' u.length cap'] 22)
  obtain ⟨a2, c2, e, hrow⟩ := own_rowG (xs := [t, u]) h ((CRows.single (show RepC.C _ [.slice a t.length cap] t from ⟨a, cap, rfl, ht.below hb⟩)).append (CRows.single (show RepC.C _ [.slice a' u.length cap'] u from ⟨a', cap', rfl, hu.below hb⟩)))
  cases e
  exact hrow
theorem ucompose {w : World} {a a' : Option Addr} {cap cap' : Nat} {xs ys L : List Bnd} {b : Bool} (hx : Row w a cap xs) (hy : Row w a' cap' ys) (hT : ∀ b ∈ xs, b.t.length ≤ 200) (hT2 : ∀ b ∈ ys, b.t.length ≤ 200) (hL : compL xs ys = L) (hb : compB xs ys = b) :
    Calls Try.prog 27 #[.slice a xs.length cap, .slice a' ys.length cap'] w fun e w' => ∃ a2 cap2, e = .returned (.tuple #[.slice a2 L.length cap2, .bool b]) ∧ Row w' a2 cap2 L ∧ Below w.heap.size w w' := by
  subst hL; subst hb
  exact refcompose_any a cap a' cap' w xs ys hx hy (fun b hb => Nat.le_trans (hT b hb) (by omega)) (fun b hb => Nat.le_trans (hT2 b hb) (by omega))
theorem umake {w : World} {a : Option Addr} {cap : Nat} {nm : ByteArray} {l : List (List Cel)} {A : List Cel} (hx : Row w a cap l) (hl : l.length ≤ 1000) (hn : nm.size ≤ 9223372036854775807) (hA : makeL nm l = A) :
    Calls Try.prog 26 #[.string nm, .slice a l.length cap] w fun e w' => ∃ a' cap', e = .returned (.slice a' A.length cap') ∧ Row w' a' cap' A ∧ Below w.heap.size w w' := by
  subst hA; exact refmake_any a cap nm w l hx hl hn
theorem fn2 : cellOk (fnC 2) = true ∧ ar (fnC 2) = 2 ∧ (fnC 2).k ≠ 1 := by decide +kernel
theorem make_two {p q : List Cel} (rp : rightB p = true) (rq : rightB q = true) (lp : p.length ≤ 12) (lq : q.length ≤ 12) : makeL ⟨#[102]⟩ [p, q] = fnC 2 :: (p ++ q) ∧ rightB (fnC 2 :: (p ++ q)) = true := by
  have hr : rightB (fnC 2 :: (p ++ q)) = true := right_of (isT_two fn2.1 fn2.2.1 (isT_of_right rp).1 (isT_of_right rq).1) (by simp; omega)
  have hm : madeL ⟨#[102]⟩ [p, q] = fnC 2 :: (p ++ q) := by unfold madeL fnC; simp
  refine ⟨?_, hr⟩
  unfold makeL
  rw [hm, hr]
  simp [rp, rq]
theorem ansL_some (L : List Bnd) : ansL (some (some L)) = L := rfl
/-- what the two answers of the law of parts are, case by case -/
theorem parts_sum {a1 a2 b1 b2 : List Cel} (ra1 : rightB a1 = true) (ra2 : rightB a2 = true) (rb1 : rightB b1 = true) (rb2 : rightB b2 = true) {LS LX : List Bnd} {ES EX : Int}
    (hLS : ansL (mguL (fnC 2 :: (a1 ++ a2)) (fnC 2 :: (b1 ++ b2))) = LS) (hES : ansE (mguL (fnC 2 :: (a1 ++ a2)) (fnC 2 :: (b1 ++ b2))) = ES) (hLX : ansL (mguL a1 b1) = LX) (hEX : ansE (mguL a1 b1) = EX) :
    (EX = 3 ∧ ES = 3) ∨ (EX = 2 ∧ (ES = 3 ∨ ES = 2)) ∨ (EX = 0 ∧ (∀ x ∈ LX, x.t.length ≤ 200) ∧ (apB LX a2 = true → apB LX b2 = true →
      rightB (apL LX a2) = true ∧ rightB (apL LX b2) = true ∧ ∃ LY EY, ansL (mguL (apL LX a2) (apL LX b2)) = LY ∧ ansE (mguL (apL LX a2) (apL LX b2)) = EY ∧
        ((EY = 3 ∧ ES = 3) ∨ (EY = 2 ∧ ES = 2) ∨ (EY = 0 ∧ (∀ x ∈ LY, x.t.length ≤ 200) ∧ ((compB LX LY = false ∧ ES = 2) ∨ (compB LX LY = true ∧ ES = 0 ∧ LS = compL LX LY)))))) := by
  obtain ⟨ha1, _, _⟩ := isT_of_right ra1
  obtain ⟨ha2, _, _⟩ := isT_of_right ra2
  obtain ⟨hb1, _, _⟩ := isT_of_right rb1
  obtain ⟨hb2, _, _⟩ := isT_of_right rb2
  have hA := isT_two fn2.1 fn2.2.1 ha1 ha2
  have hB := isT_two fn2.1 fn2.2.1 hb1 hb2
  cases e1 : mguL a1 b1 with
  | none =>
    rw [parts_none1 hA hB fn2.2.2 ha1 hb1 e1] at hES
    rw [e1] at hEX
    exact .inl ⟨hEX.symm, hES.symm⟩
  | some o =>
    cases o with
    | none =>
      rw [e1] at hEX
      refine .inr (.inl ⟨hEX.symm, ?_⟩)
      have hno := parts_big hA hB fn2.2.2 ha1 hb1 e1
      cases e2 : mguL (fnC 2 :: (a1 ++ a2)) (fnC 2 :: (b1 ++ b2)) with
      | none => rw [e2] at hES; exact .inl hES.symm
      | some o2 =>
        cases o2 with
        | none => rw [e2] at hES; exact .inr hES.symm
        | some L => exact absurd e2 (hno L)
    | some B1 =>
      rw [e1] at hEX hLX
      have hLX' : LX = B1 := hLX.symm
      subst hLX'
      obtain ⟨h1, h2⟩ := parts_law ra1 ra2 rb1 rb2 fn2.1 fn2.2.1 fn2.2.2 e1
      refine .inr (.inr ⟨hEX.symm, h1, fun t1 t2 => ?_⟩)
      have l1 : (putL (look LX) a2).length ≤ 200 := by unfold apB at t1; simp at t1; omega
      have l2 : (putL (look LX) b2).length ≤ 200 := by unfold apB at t2; simp at t2; omega
      rw [apL_yes t1, apL_yes t2]
      obtain ⟨r1, r2, n1, n2, n3⟩ := h2 l1 l2
      refine ⟨r1, r2, _, _, rfl, rfl, ?_⟩
      cases e3 : mguL (putL (look LX) a2) (putL (look LX) b2) with
      | none =>
        rw [n1 e3] at hES
        exact .inl ⟨rfl, hES.symm⟩
      | some o3 =>
        cases o3 with
        | none =>
          rw [n2 e3] at hES
          exact .inr (.inl ⟨rfl, hES.symm⟩)
        | some B2 =>
          obtain ⟨m1, m2⟩ := n3 B2 e3
          rw [m2] at hES hLS
          have hg : (compB LX B2 = false ∧ ES = 2) ∨ (compB LX B2 = true ∧ ES = 0 ∧ LS = compL LX B2) := by
            cases hc : compB LX B2 with
            | false =>
              rw [hc, if_neg (by decide)] at hES
              exact .inl ⟨rfl, hES.symm⟩
            | true =>
              rw [hc, if_pos rfl] at hES hLS
              rw [ansL_some] at hLS
              exact .inr ⟨rfl, hES.symm, hLS.symm⟩
          exact .inr (.inr ⟨rfl, m1, hg⟩)
/-- behind the second statement: both rows of two made terms -/
def PartsAt (w1 : World) (g6 g7 : Nat) (W' : World) : Prop := ∃ p0 p1 q0 q1, rightB p0 = true ∧ rightB p1 = true ∧ rightB q0 = true ∧ rightB q1 = true ∧ p0.length ≤ 12 ∧ p1.length ≤ 12 ∧ q0.length ≤ 12 ∧ q1.length ≤ 12 ∧ Row W' (some ⟨g6, 0, none⟩) 2 [p0, p1] ∧ Row W' (some ⟨g7, 0, none⟩) 2 [q0, q1] ∧ Below w1.heap.size w1 W'
def SP (A : Nat) (p0 p1 q0 q1 : Value) (w' : World) : Prop := w'.cell? ⟨A, 0, none⟩ = some p0 ∧ w'.cell? ⟨A, 1, none⟩ = some p1 ∧ w'.cell? ⟨A + 1, 0, none⟩ = some q0 ∧ w'.cell? ⟨A + 1, 1, none⟩ = some q1
def SQ (g6 g7 : Nat) (p q : Value) (w' : World) : Prop := w'.cell? ⟨g6, 0, none⟩ = some p ∧ w'.cell? ⟨g7, 0, none⟩ = some q

set_option maxRecDepth 100000 in
set_option maxHeartbeats 16000000 in
theorem lawParts_any (w : World) (x0 x1 y0 y1 : List Cel) (a0 a1 b0 b1 : Option Addr) (c0 c1 d0 d1 : Nat) (hx0 : Row w a0 c0 x0) (hx1 : Row w a1 c1 x1) (hy0 : Row w b0 d0 y0) (hy1 : Row w b1 d1 y1) :
    Calls Try.prog 7 #[.agg #[.slice a0 x0.length c0, .slice a1 x1.length c1], .agg #[.slice b0 y0.length d0, .slice b1 y1.length d1]] w fun e w' => e = .returned (.bool true) ∧ Below w.heap.size w w' := by
  have HX0 := mkHid hx0
  have HX1 := mkHid hx1
  have HY0 := mkHid hy0
  have HY1 := mkHid hy1
  clear hx0 hx1 hy0 hy1
  go_enter Try.func7, Try.ntmps7
  go_wp2_with fail
  refine (head_any _).mono ?_
  rintro e w1 ⟨rfl, hb1⟩
  have hn0 := (Below.refl w.heap.size w).new (.cells #[.slice a0 x0.length c0, .slice a1 x1.length c1] 45)
  have hn1 := (Below.refl _ (w.alloc (.cells #[.slice a0 x0.length c0, .slice a1 x1.length c1] 45))).new (.cells #[.slice b0 y0.length d0, .slice b1 y1.length d1] 45)
  have hn2 := hn1.then hb1
  have t0 : (w.alloc (.cells #[.slice a0 x0.length c0, .slice a1 x1.length c1] 45)).cell? ⟨w.heap.size, 0, none⟩ = some (.slice a0 x0.length c0) := World.cell?_alloc_at _ _ _ 0 rfl
  have t1 : (w.alloc (.cells #[.slice a0 x0.length c0, .slice a1 x1.length c1] 45)).cell? ⟨w.heap.size, 1, none⟩ = some (.slice a1 x1.length c1) := World.cell?_alloc_at _ _ _ 1 rfl
  have t2 : ((w.alloc (.cells #[.slice a0 x0.length c0, .slice a1 x1.length c1] 45)).alloc (.cells #[.slice b0 y0.length d0, .slice b1 y1.length d1] 45)).cell? ⟨(w.alloc (.cells #[.slice a0 x0.length c0, .slice a1 x1.length c1] 45)).heap.size, 0, none⟩ = some (.slice b0 y0.length d0) := World.cell?_alloc_at _ _ _ 0 rfl
  have t3 : ((w.alloc (.cells #[.slice a0 x0.length c0, .slice a1 x1.length c1] 45)).alloc (.cells #[.slice b0 y0.length d0, .slice b1 y1.length d1] 45)).cell? ⟨(w.alloc (.cells #[.slice a0 x0.length c0, .slice a1 x1.length c1] 45)).heap.size, 1, none⟩ = some (.slice b1 y1.length d1) := World.cell?_alloc_at _ _ _ 1 rfl
  have s0 := keep t0 hn2
  have s1 := keep t1 hn2
  have s2 := keep t2 hb1
  have s3 := keep t3 hb1
  clear t0 t1 t2 t3
  simp only [World.size_alloc] at s2 s3
  have HS : Hid (∀ W', Below w1.heap.size w1 W' → SP w.heap.size (.slice a0 x0.length c0) (.slice a1 x1.length c1) (.slice b0 y0.length d0) (.slice b1 y1.length d1) W') := fun W' h => ⟨keep s0 h, keep s1 h, keep s2 h, keep s3 h⟩
  have hb01 := mkHid (hn0.then hn2)
  clear hn0 hn1 hn2 s0 s1 s2 s3 hb1
  go_wp2_with fail
  generalize hA : Act.mk _ _ = A0
  refine Code.wp_mono (Q := fun ev A' W' => ev = .normal ∧ ∃ (e21 e22 e23 e24 e25 e26 e27 e28 e29 e30 e31 e32 e33 e34 : Value) (g6 g7 : Nat), A' = ((((((((((((((((A0.put (some 21) e21).put (some 22) e22).put (some 23) e23).put (some 24) e24).put (some 25) e25).put (some 26) e26).put (some 27) e27).put (some 28) e28).put (some 29) e29).put (some 30) e30).put (some 31) e31).put (some 32) e32).put (some 33) e33).put (some 34) e34).put (some 6) (.slice (some ⟨g6, 0, none⟩) 2 2)).put (some 7) (.slice (some ⟨g7, 0, none⟩) 2 2)) ∧ PartsAt w1 g6 g7 W') ?_ ?_
  rotate_left
  · subst hA
    have hcd := (Below.refl w1.heap.size w1).drew
    refine wp_region_noPanic ?_
    refine wp_region_held_drew (S := SP w.heap.size (.slice a0 x0.length c0) (.slice a1 x1.length c1) (.slice b0 y0.length d0) (.slice b1 y1.length d1)) (by kernel_rfl) (HS.out _ hcd) (fun hSd => ?_)
    refine wpAnyH_take (i := 0) (oi := _) (v := ?_) rfl (by kernel_rfl) (by kernel_rfl) (by kernel_rfl) (fun _ _ _ h => h) (Or.inl ⟨by rfl, ?_⟩) (by assumption) ?_
    rotate_left
    · (intro w' hSw; obtain ⟨k0, k1, k2, k3⟩ := hSw; go_simp; try with_reducible rfl)
    (try simp only [Act.put, List.setIfInBounds_toArray, List.set_cons_zero, List.set_cons_succ])
    refine wpAnyH_take (i := 1) (oi := _) (v := ?_) rfl (by kernel_rfl) (by kernel_rfl) (by kernel_rfl) (fun _ _ _ h => h) (Or.inl ⟨by rfl, ?_⟩) (by assumption) ?_
    rotate_left
    · (intro w' hSw; obtain ⟨k0, k1, k2, k3⟩ := hSw; go_simp; try with_reducible rfl)
    (try simp only [Act.put, List.setIfInBounds_toArray, List.set_cons_zero, List.set_cons_succ])
    refine wpAnyH_take (i := 3) (oi := _) (v := ?_) rfl (by kernel_rfl) (by kernel_rfl) (by kernel_rfl) (fun _ _ _ h => h) (Or.inl ⟨by rfl, ?_⟩) (by assumption) ?_
    rotate_left
    · (intro w' hSw; obtain ⟨k0, k1, k2, k3⟩ := hSw; go_simp; try with_reducible rfl)
    (try simp only [Act.put, List.setIfInBounds_toArray, List.set_cons_zero, List.set_cons_succ])
    refine wpAnyH_take (i := 4) (oi := _) (v := ?_) rfl (by kernel_rfl) (by kernel_rfl) (by kernel_rfl) (fun _ _ _ h => h) (Or.inl ⟨by rfl, ?_⟩) (by assumption) ?_
    rotate_left
    · (intro w' hSw; obtain ⟨k0, k1, k2, k3⟩ := hSw; go_simp; try with_reducible rfl)
    (try simp only [Act.put, List.setIfInBounds_toArray, List.set_cons_zero, List.set_cons_succ])
    refine wpAnyH_take (i := 7) (oi := _) (v := ?_) rfl (by kernel_rfl) (by kernel_rfl) (by kernel_rfl) (fun _ _ _ h => h) (Or.inl ⟨by rfl, ?_⟩) (by assumption) ?_
    rotate_left
    · (intro w' hSw; obtain ⟨k0, k1, k2, k3⟩ := hSw; go_simp; try with_reducible rfl)
    (try simp only [Act.put, List.setIfInBounds_toArray, List.set_cons_zero, List.set_cons_succ])
    refine wpAnyH_take (i := 8) (oi := _) (v := ?_) rfl (by kernel_rfl) (by kernel_rfl) (by kernel_rfl) (fun _ _ _ h => h) (Or.inl ⟨by rfl, ?_⟩) (by assumption) ?_
    rotate_left
    · (intro w' hSw; obtain ⟨k0, k1, k2, k3⟩ := hSw; go_simp; try with_reducible rfl)
    (try simp only [Act.put, List.setIfInBounds_toArray, List.set_cons_zero, List.set_cons_succ])
    refine wpAnyH_take (i := 10) (oi := _) (v := ?_) rfl (by kernel_rfl) (by kernel_rfl) (by kernel_rfl) (fun _ _ _ h => h) (Or.inl ⟨by rfl, ?_⟩) (by assumption) ?_
    rotate_left
    · (intro w' hSw; obtain ⟨k0, k1, k2, k3⟩ := hSw; go_simp; try with_reducible rfl)
    (try simp only [Act.put, List.setIfInBounds_toArray, List.set_cons_zero, List.set_cons_succ])
    refine wpAnyH_take (i := 11) (oi := _) (v := ?_) rfl (by kernel_rfl) (by kernel_rfl) (by kernel_rfl) (fun _ _ _ h => h) (Or.inl ⟨by rfl, ?_⟩) (by assumption) ?_
    rotate_left
    · (intro w' hSw; obtain ⟨k0, k1, k2, k3⟩ := hSw; go_simp; try with_reducible rfl)
    (try simp only [Act.put, List.setIfInBounds_toArray, List.set_cons_zero, List.set_cons_succ])
    refine wpAnyH_ready (rs := [2]) (by kernel_rfl) (by simp) ?_
    refine AllReadyH.cons (o := _) rfl (fun K hK => ?_) AllReadyH.nil
    go_simp
    refine (umade (HX0.out.below (hb01.out.then hcd)) (by omega) (by omega)).mono ?_
    rintro e V1 ⟨a_p0, c_p0, p0, rfl, r_p0, R_p0, o_p0, l_p0, hv1⟩
    have hd1 := hcd.then hv1
    try dsimp only
    refine hK.out _ _ (HS.out _ hd1) (fun hS1 => ?_)
    clear hK K
    (try simp only [Act.put, List.setIfInBounds_toArray, List.set_cons_zero, List.set_cons_succ])
    refine wpAnyH_ready (rs := [5]) (by kernel_rfl) (by simp) ?_
    refine AllReadyH.cons (o := _) rfl (fun K hK => ?_) AllReadyH.nil
    go_simp
    refine (umade (HX1.out.below (hb01.out.then hd1)) (by omega) (by omega)).mono ?_
    rintro e V2 ⟨a_p1, c_p1, p1, rfl, r_p1, R_p1, o_p1, l_p1, hv2⟩
    replace r_p0 := r_p0.below hv2
    have hd2 := hd1.then hv2
    try dsimp only
    refine hK.out _ _ (HS.out _ hd2) (fun hS2 => ?_)
    clear hK K
    (try simp only [Act.put, List.setIfInBounds_toArray, List.set_cons_zero, List.set_cons_succ])
    refine wpAnyH_ready (rs := [6, 9]) (by kernel_rfl) (by simp) ?_
    refine AllReadyH.cons (o := _) rfl (fun K hK => ?_) ?_
    · skip
      have r_gp := row_two V2 r_p0 r_p1
      have hv3 := (Below.refl V2.heap.size V2).new (.cells #[.slice a_p0 p0.length c_p0, .slice a_p1 p1.length c_p1] 22)
      replace r_p0 := r_p0.below hv3
      replace r_p1 := r_p1.below hv3
      have hd3 := hd2.then hv3
      go_simp
      try dsimp only
      refine hK.out _ _ (HS.out _ hd3) (fun hS3 => ?_)
      clear hK K
      (try simp only [Act.put, List.setIfInBounds_toArray, List.set_cons_zero, List.set_cons_succ])
      obtain ⟨V3, hV3⟩ : ∃ V, (V2.alloc (.cells #[.slice a_p0 p0.length c_p0, .slice a_p1 p1.length c_p1] 22)) = V := ⟨_, rfl⟩
      rw [hV3] at r_p0 r_p1 r_gp hd3 hS3
      have hz3 : V2.heap.size + 1 = V3.heap.size := by rw [← hV3, World.size_alloc]
      obtain ⟨g_gp, hg_gp⟩ : ∃ g, V2.heap.size = g := ⟨_, rfl⟩
      rw [hg_gp] at r_gp
      rw [hV3]
      rw [hg_gp]
      clear hz3 hV3 hv3
      refine wpAnyH_ready (rs := [9]) (by kernel_rfl) (by simp) ?_
      refine AllReadyH.cons (o := _) rfl (fun K hK => ?_) AllReadyH.nil
      go_simp
      refine (umade (HY0.out.below (hb01.out.then hd3)) (by omega) (by omega)).mono ?_
      rintro e V4 ⟨a_q0, c_q0, q0, rfl, r_q0, R_q0, o_q0, l_q0, hv4⟩
      replace r_p0 := r_p0.below hv4
      replace r_p1 := r_p1.below hv4
      replace r_gp := r_gp.below hv4
      have hd4 := hd3.then hv4
      try dsimp only
      refine hK.out _ _ (HS.out _ hd4) (fun hS4 => ?_)
      clear hK K
      (try simp only [Act.put, List.setIfInBounds_toArray, List.set_cons_zero, List.set_cons_succ])
      refine wpAnyH_ready (rs := [12]) (by kernel_rfl) (by simp) ?_
      refine AllReadyH.cons (o := _) rfl (fun K hK => ?_) AllReadyH.nil
      go_simp
      refine (umade (HY1.out.below (hb01.out.then hd4)) (by omega) (by omega)).mono ?_
      rintro e V5 ⟨a_q1, c_q1, q1, rfl, r_q1, R_q1, o_q1, l_q1, hv5⟩
      replace r_p0 := r_p0.below hv5
      replace r_p1 := r_p1.below hv5
      replace r_gp := r_gp.below hv5
      replace r_q0 := r_q0.below hv5
      have hd5 := hd4.then hv5
      try dsimp only
      refine hK.out _ _ (HS.out _ hd5) (fun hS5 => ?_)
      clear hK K
      (try simp only [Act.put, List.setIfInBounds_toArray, List.set_cons_zero, List.set_cons_succ])
      refine wpAnyH_take (i := 14) (oi := _) (v := ?_) rfl (by kernel_rfl) (by kernel_rfl) (by kernel_rfl) (fun _ _ _ h => h) (Or.inl ⟨by rfl, ?_⟩) (by assumption) ?_
      rotate_left
      · (intro w' hSw; obtain ⟨k0, k1, k2, k3⟩ := hSw; go_simp; try with_reducible rfl)
      (try simp only [Act.put, List.setIfInBounds_toArray, List.set_cons_zero, List.set_cons_succ])
      refine wpAnyH_ready (rs := [13]) (by kernel_rfl) (by simp) ?_
      refine AllReadyH.cons (o := _) rfl (fun K hK => ?_) AllReadyH.nil
      have r_gq := row_two V5 r_q0 r_q1
      have hv6 := (Below.refl V5.heap.size V5).new (.cells #[.slice a_q0 q0.length c_q0, .slice a_q1 q1.length c_q1] 22)
      replace r_p0 := r_p0.below hv6
      replace r_p1 := r_p1.below hv6
      replace r_gp := r_gp.below hv6
      replace r_q0 := r_q0.below hv6
      replace r_q1 := r_q1.below hv6
      have hd6 := hd5.then hv6
      go_simp
      try dsimp only
      refine hK.out _ _ (HS.out _ hd6) (fun hS6 => ?_)
      clear hK K
      (try simp only [Act.put, List.setIfInBounds_toArray, List.set_cons_zero, List.set_cons_succ])
      obtain ⟨V6, hV6⟩ : ∃ V, (V5.alloc (.cells #[.slice a_q0 q0.length c_q0, .slice a_q1 q1.length c_q1] 22)) = V := ⟨_, rfl⟩
      rw [hV6] at r_p0 r_p1 r_gp r_q0 r_q1 r_gq hd6 hS6
      have hz6 : V5.heap.size + 1 = V6.heap.size := by rw [← hV6, World.size_alloc]
      obtain ⟨g_gq, hg_gq⟩ : ∃ g, V5.heap.size = g := ⟨_, rfl⟩
      rw [hg_gq] at r_gq
      rw [hV6]
      rw [hg_gq]
      clear hz6 hV6 hv6
      refine wpAnyH_take (i := 15) (oi := _) (v := ?_) rfl (by kernel_rfl) (by kernel_rfl) (by kernel_rfl) (fun _ _ _ h => h) (Or.inl ⟨by rfl, ?_⟩) (by assumption) ?_
      rotate_left
      · (intro w' hSw; obtain ⟨k0, k1, k2, k3⟩ := hSw; go_simp; try with_reducible rfl)
      (try simp only [Act.put, List.setIfInBounds_toArray, List.set_cons_zero, List.set_cons_succ])
      refine wpAnyH_done (by kernel_rfl) (NoPanic.normal ?_) _
      refine ⟨rfl, ?_⟩
      (repeat apply Exists.intro)
      exact ⟨rfl, ⟨p0, p1, q0, q1, R_p0, R_p1, R_q0, R_q1, by omega, by omega, by omega, by omega, r_gp, r_gq, hd6⟩⟩
    refine AllReadyH.cons (o := _) rfl (fun K hK => ?_) AllReadyH.nil
    go_simp
    refine (umade (HY0.out.below (hb01.out.then hd2)) (by omega) (by omega)).mono ?_
    rintro e V7 ⟨a_q0, c_q0, q0, rfl, r_q0, R_q0, o_q0, l_q0, hv7⟩
    replace r_p0 := r_p0.below hv7
    replace r_p1 := r_p1.below hv7
    have hd7 := hd2.then hv7
    try dsimp only
    refine hK.out _ _ (HS.out _ hd7) (fun hS7 => ?_)
    clear hK K
    (try simp only [Act.put, List.setIfInBounds_toArray, List.set_cons_zero, List.set_cons_succ])
    refine wpAnyH_ready (rs := [6, 12]) (by kernel_rfl) (by simp) ?_
    refine AllReadyH.cons (o := _) rfl (fun K hK => ?_) ?_
    · skip
      have r_gp := row_two V7 r_p0 r_p1
      have hv8 := (Below.refl V7.heap.size V7).new (.cells #[.slice a_p0 p0.length c_p0, .slice a_p1 p1.length c_p1] 22)
      replace r_p0 := r_p0.below hv8
      replace r_p1 := r_p1.below hv8
      replace r_q0 := r_q0.below hv8
      have hd8 := hd7.then hv8
      go_simp
      try dsimp only
      refine hK.out _ _ (HS.out _ hd8) (fun hS8 => ?_)
      clear hK K
      (try simp only [Act.put, List.setIfInBounds_toArray, List.set_cons_zero, List.set_cons_succ])
      obtain ⟨V8, hV8⟩ : ∃ V, (V7.alloc (.cells #[.slice a_p0 p0.length c_p0, .slice a_p1 p1.length c_p1] 22)) = V := ⟨_, rfl⟩
      rw [hV8] at r_p0 r_p1 r_q0 r_gp hd8 hS8
      have hz8 : V7.heap.size + 1 = V8.heap.size := by rw [← hV8, World.size_alloc]
      obtain ⟨g_gp, hg_gp⟩ : ∃ g, V7.heap.size = g := ⟨_, rfl⟩
      rw [hg_gp] at r_gp
      rw [hV8]
      rw [hg_gp]
      clear hz8 hV8 hv8
      refine wpAnyH_ready (rs := [12]) (by kernel_rfl) (by simp) ?_
      refine AllReadyH.cons (o := _) rfl (fun K hK => ?_) AllReadyH.nil
      go_simp
      refine (umade (HY1.out.below (hb01.out.then hd8)) (by omega) (by omega)).mono ?_
      rintro e V9 ⟨a_q1, c_q1, q1, rfl, r_q1, R_q1, o_q1, l_q1, hv9⟩
      replace r_p0 := r_p0.below hv9
      replace r_p1 := r_p1.below hv9
      replace r_q0 := r_q0.below hv9
      replace r_gp := r_gp.below hv9
      have hd9 := hd8.then hv9
      try dsimp only
      refine hK.out _ _ (HS.out _ hd9) (fun hS9 => ?_)
      clear hK K
      (try simp only [Act.put, List.setIfInBounds_toArray, List.set_cons_zero, List.set_cons_succ])
      refine wpAnyH_take (i := 14) (oi := _) (v := ?_) rfl (by kernel_rfl) (by kernel_rfl) (by kernel_rfl) (fun _ _ _ h => h) (Or.inl ⟨by rfl, ?_⟩) (by assumption) ?_
      rotate_left
      · (intro w' hSw; obtain ⟨k0, k1, k2, k3⟩ := hSw; go_simp; try with_reducible rfl)
      (try simp only [Act.put, List.setIfInBounds_toArray, List.set_cons_zero, List.set_cons_succ])
      refine wpAnyH_ready (rs := [13]) (by kernel_rfl) (by simp) ?_
      refine AllReadyH.cons (o := _) rfl (fun K hK => ?_) AllReadyH.nil
      have r_gq := row_two V9 r_q0 r_q1
      have hv10 := (Below.refl V9.heap.size V9).new (.cells #[.slice a_q0 q0.length c_q0, .slice a_q1 q1.length c_q1] 22)
      replace r_p0 := r_p0.below hv10
      replace r_p1 := r_p1.below hv10
      replace r_q0 := r_q0.below hv10
      replace r_gp := r_gp.below hv10
      replace r_q1 := r_q1.below hv10
      have hd10 := hd9.then hv10
      go_simp
      try dsimp only
      refine hK.out _ _ (HS.out _ hd10) (fun hS10 => ?_)
      clear hK K
      (try simp only [Act.put, List.setIfInBounds_toArray, List.set_cons_zero, List.set_cons_succ])
      obtain ⟨V10, hV10⟩ : ∃ V, (V9.alloc (.cells #[.slice a_q0 q0.length c_q0, .slice a_q1 q1.length c_q1] 22)) = V := ⟨_, rfl⟩
      rw [hV10] at r_p0 r_p1 r_q0 r_gp r_q1 r_gq hd10 hS10
      have hz10 : V9.heap.size + 1 = V10.heap.size := by rw [← hV10, World.size_alloc]
      obtain ⟨g_gq, hg_gq⟩ : ∃ g, V9.heap.size = g := ⟨_, rfl⟩
      rw [hg_gq] at r_gq
      rw [hV10]
      rw [hg_gq]
      clear hz10 hV10 hv10
      refine wpAnyH_take (i := 15) (oi := _) (v := ?_) rfl (by kernel_rfl) (by kernel_rfl) (by kernel_rfl) (fun _ _ _ h => h) (Or.inl ⟨by rfl, ?_⟩) (by assumption) ?_
      rotate_left
      · (intro w' hSw; obtain ⟨k0, k1, k2, k3⟩ := hSw; go_simp; try with_reducible rfl)
      (try simp only [Act.put, List.setIfInBounds_toArray, List.set_cons_zero, List.set_cons_succ])
      refine wpAnyH_done (by kernel_rfl) (NoPanic.normal ?_) _
      refine ⟨rfl, ?_⟩
      (repeat apply Exists.intro)
      exact ⟨rfl, ⟨p0, p1, q0, q1, R_p0, R_p1, R_q0, R_q1, by omega, by omega, by omega, by omega, r_gp, r_gq, hd10⟩⟩
    refine AllReadyH.cons (o := _) rfl (fun K hK => ?_) AllReadyH.nil
    go_simp
    refine (umade (HY1.out.below (hb01.out.then hd7)) (by omega) (by omega)).mono ?_
    rintro e V11 ⟨a_q1, c_q1, q1, rfl, r_q1, R_q1, o_q1, l_q1, hv11⟩
    replace r_p0 := r_p0.below hv11
    replace r_p1 := r_p1.below hv11
    replace r_q0 := r_q0.below hv11
    have hd11 := hd7.then hv11
    try dsimp only
    refine hK.out _ _ (HS.out _ hd11) (fun hS11 => ?_)
    clear hK K
    (try simp only [Act.put, List.setIfInBounds_toArray, List.set_cons_zero, List.set_cons_succ])
    refine wpAnyH_ready (rs := [6, 13]) (by kernel_rfl) (by simp) ?_
    refine AllReadyH.cons (o := _) rfl (fun K hK => ?_) ?_
    · skip
      have r_gp := row_two V11 r_p0 r_p1
      have hv12 := (Below.refl V11.heap.size V11).new (.cells #[.slice a_p0 p0.length c_p0, .slice a_p1 p1.length c_p1] 22)
      replace r_p0 := r_p0.below hv12
      replace r_p1 := r_p1.below hv12
      replace r_q0 := r_q0.below hv12
      replace r_q1 := r_q1.below hv12
      have hd12 := hd11.then hv12
      go_simp
      try dsimp only
      refine hK.out _ _ (HS.out _ hd12) (fun hS12 => ?_)
      clear hK K
      (try simp only [Act.put, List.setIfInBounds_toArray, List.set_cons_zero, List.set_cons_succ])
      obtain ⟨V12, hV12⟩ : ∃ V, (V11.alloc (.cells #[.slice a_p0 p0.length c_p0, .slice a_p1 p1.length c_p1] 22)) = V := ⟨_, rfl⟩
      rw [hV12] at r_p0 r_p1 r_q0 r_q1 r_gp hd12 hS12
      have hz12 : V11.heap.size + 1 = V12.heap.size := by rw [← hV12, World.size_alloc]
      obtain ⟨g_gp, hg_gp⟩ : ∃ g, V11.heap.size = g := ⟨_, rfl⟩
      rw [hg_gp] at r_gp
      rw [hV12]
      rw [hg_gp]
      clear hz12 hV12 hv12
      refine wpAnyH_take (i := 14) (oi := _) (v := ?_) rfl (by kernel_rfl) (by kernel_rfl) (by kernel_rfl) (fun _ _ _ h => h) (Or.inl ⟨by rfl, ?_⟩) (by assumption) ?_
      rotate_left
      · (intro w' hSw; obtain ⟨k0, k1, k2, k3⟩ := hSw; go_simp; try with_reducible rfl)
      (try simp only [Act.put, List.setIfInBounds_toArray, List.set_cons_zero, List.set_cons_succ])
      refine wpAnyH_ready (rs := [13]) (by kernel_rfl) (by simp) ?_
      refine AllReadyH.cons (o := _) rfl (fun K hK => ?_) AllReadyH.nil
      have r_gq := row_two V12 r_q0 r_q1
      have hv13 := (Below.refl V12.heap.size V12).new (.cells #[.slice a_q0 q0.length c_q0, .slice a_q1 q1.length c_q1] 22)
      replace r_p0 := r_p0.below hv13
      replace r_p1 := r_p1.below hv13
      replace r_q0 := r_q0.below hv13
      replace r_q1 := r_q1.below hv13
      replace r_gp := r_gp.below hv13
      have hd13 := hd12.then hv13
      go_simp
      try dsimp only
      refine hK.out _ _ (HS.out _ hd13) (fun hS13 => ?_)
      clear hK K
      (try simp only [Act.put, List.setIfInBounds_toArray, List.set_cons_zero, List.set_cons_succ])
      obtain ⟨V13, hV13⟩ : ∃ V, (V12.alloc (.cells #[.slice a_q0 q0.length c_q0, .slice a_q1 q1.length c_q1] 22)) = V := ⟨_, rfl⟩
      rw [hV13] at r_p0 r_p1 r_q0 r_q1 r_gp r_gq hd13 hS13
      have hz13 : V12.heap.size + 1 = V13.heap.size := by rw [← hV13, World.size_alloc]
      obtain ⟨g_gq, hg_gq⟩ : ∃ g, V12.heap.size = g := ⟨_, rfl⟩
      rw [hg_gq] at r_gq
      rw [hV13]
      rw [hg_gq]
      clear hz13 hV13 hv13
      refine wpAnyH_take (i := 15) (oi := _) (v := ?_) rfl (by kernel_rfl) (by kernel_rfl) (by kernel_rfl) (fun _ _ _ h => h) (Or.inl ⟨by rfl, ?_⟩) (by assumption) ?_
      rotate_left
      · (intro w' hSw; obtain ⟨k0, k1, k2, k3⟩ := hSw; go_simp; try with_reducible rfl)
      (try simp only [Act.put, List.setIfInBounds_toArray, List.set_cons_zero, List.set_cons_succ])
      refine wpAnyH_done (by kernel_rfl) (NoPanic.normal ?_) _
      refine ⟨rfl, ?_⟩
      (repeat apply Exists.intro)
      exact ⟨rfl, ⟨p0, p1, q0, q1, R_p0, R_p1, R_q0, R_q1, by omega, by omega, by omega, by omega, r_gp, r_gq, hd13⟩⟩
    refine AllReadyH.cons (o := _) rfl (fun K hK => ?_) AllReadyH.nil
    have r_gq := row_two V11 r_q0 r_q1
    have hv14 := (Below.refl V11.heap.size V11).new (.cells #[.slice a_q0 q0.length c_q0, .slice a_q1 q1.length c_q1] 22)
    replace r_p0 := r_p0.below hv14
    replace r_p1 := r_p1.below hv14
    replace r_q0 := r_q0.below hv14
    replace r_q1 := r_q1.below hv14
    have hd14 := hd11.then hv14
    go_simp
    try dsimp only
    refine hK.out _ _ (HS.out _ hd14) (fun hS14 => ?_)
    clear hK K
    (try simp only [Act.put, List.setIfInBounds_toArray, List.set_cons_zero, List.set_cons_succ])
    obtain ⟨V14, hV14⟩ : ∃ V, (V11.alloc (.cells #[.slice a_q0 q0.length c_q0, .slice a_q1 q1.length c_q1] 22)) = V := ⟨_, rfl⟩
    rw [hV14] at r_p0 r_p1 r_q0 r_q1 r_gq hd14 hS14
    have hz14 : V11.heap.size + 1 = V14.heap.size := by rw [← hV14, World.size_alloc]
    obtain ⟨g_gq, hg_gq⟩ : ∃ g, V11.heap.size = g := ⟨_, rfl⟩
    rw [hg_gq] at r_gq
    rw [hV14]
    rw [hg_gq]
    clear hz14 hV14 hv14
    refine wpAnyH_ready (rs := [6]) (by kernel_rfl) (by simp) ?_
    refine AllReadyH.cons (o := _) rfl (fun K hK => ?_) AllReadyH.nil
    have r_gp := row_two V14 r_p0 r_p1
    have hv15 := (Below.refl V14.heap.size V14).new (.cells #[.slice a_p0 p0.length c_p0, .slice a_p1 p1.length c_p1] 22)
    replace r_p0 := r_p0.below hv15
    replace r_p1 := r_p1.below hv15
    replace r_q0 := r_q0.below hv15
    replace r_q1 := r_q1.below hv15
    replace r_gq := r_gq.below hv15
    have hd15 := hd14.then hv15
    go_simp
    try dsimp only
    refine hK.out _ _ (HS.out _ hd15) (fun hS15 => ?_)
    clear hK K
    (try simp only [Act.put, List.setIfInBounds_toArray, List.set_cons_zero, List.set_cons_succ])
    obtain ⟨V15, hV15⟩ : ∃ V, (V14.alloc (.cells #[.slice a_p0 p0.length c_p0, .slice a_p1 p1.length c_p1] 22)) = V := ⟨_, rfl⟩
    rw [hV15] at r_p0 r_p1 r_q0 r_q1 r_gq r_gp hd15 hS15
    have hz15 : V14.heap.size + 1 = V15.heap.size := by rw [← hV15, World.size_alloc]
    obtain ⟨g_gp, hg_gp⟩ : ∃ g, V14.heap.size = g := ⟨_, rfl⟩
    rw [hg_gp] at r_gp
    rw [hV15]
    rw [hg_gp]
    clear hz15 hV15 hv15
    refine wpAnyH_take (i := 14) (oi := _) (v := ?_) rfl (by kernel_rfl) (by kernel_rfl) (by kernel_rfl) (fun _ _ _ h => h) (Or.inl ⟨by rfl, ?_⟩) (by assumption) ?_
    rotate_left
    · (intro w' hSw; obtain ⟨k0, k1, k2, k3⟩ := hSw; go_simp; try with_reducible rfl)
    (try simp only [Act.put, List.setIfInBounds_toArray, List.set_cons_zero, List.set_cons_succ])
    refine wpAnyH_take (i := 15) (oi := _) (v := ?_) rfl (by kernel_rfl) (by kernel_rfl) (by kernel_rfl) (fun _ _ _ h => h) (Or.inl ⟨by rfl, ?_⟩) (by assumption) ?_
    rotate_left
    · (intro w' hSw; obtain ⟨k0, k1, k2, k3⟩ := hSw; go_simp; try with_reducible rfl)
    (try simp only [Act.put, List.setIfInBounds_toArray, List.set_cons_zero, List.set_cons_succ])
    refine wpAnyH_done (by kernel_rfl) (NoPanic.normal ?_) _
    refine ⟨rfl, ?_⟩
    (repeat apply Exists.intro)
    exact ⟨rfl, ⟨p0, p1, q0, q1, R_p0, R_p1, R_q0, R_q1, by omega, by omega, by omega, by omega, r_gp, r_gq, hd15⟩⟩
  rintro ev A' w2 ⟨rfl, e21, e22, e23, e24, e25, e26, e27, e28, e29, e30, e31, e32, e33, e34, g6, g7, rfl, p0, p1, q0, q1, rp0, rp1, rq0, rq1, lp0, lp1, lq0, lq1, hp, hq, hb2⟩
  subst hA
  simp only [Act.put, List.setIfInBounds_toArray, List.set_cons_zero, List.set_cons_succ]
  have hb02 := mkHid (hb01.out.then hb2)
  obtain ⟨mA, rA⟩ := make_two rp0 rp1 lp0 lp1
  obtain ⟨mB, rB⟩ := make_two rq0 rq1 lq0 lq1
  obtain ⟨A, hAA⟩ : ∃ A, fnC 2 :: (p0 ++ p1) = A := ⟨_, rfl⟩
  obtain ⟨Bq, hBB⟩ : ∃ A, fnC 2 :: (q0 ++ q1) = A := ⟨_, rfl⟩
  rw [hAA] at mA rA
  rw [hBB] at mB rB
  obtain ⟨LS, hLS⟩ : ∃ L, ansL (mguL A Bq) = L := ⟨_, rfl⟩
  obtain ⟨ES, hES⟩ : ∃ L, ansE (mguL A Bq) = L := ⟨_, rfl⟩
  obtain ⟨LX, hLX⟩ : ∃ L, ansL (mguL p0 q0) = L := ⟨_, rfl⟩
  obtain ⟨EX, hEX⟩ : ∃ L, ansE (mguL p0 q0) = L := ⟨_, rfl⟩
  have hsum := mkHid (parts_sum (LS := LS) (ES := ES) rp0 rp1 rq0 rq1 (by rw [hAA, hBB]; exact hLS) (by rw [hAA, hBB]; exact hES) hLX hEX)
  obtain ⟨ap0, cp0, m6, rowp0⟩ := list_at (b := g6) (off := 0) (xs := [p0, p1]) (by obtain ⟨b, off, e, _, hat⟩ := hp.cases.resolve_left (fun e => by cases e); cases e; exact hat) (Below.refl _ _) (k := 0) (by simp)
  obtain ⟨ap1, cp1, m61, rowp1⟩ := list_at (b := g6) (off := 0) (xs := [p0, p1]) (by obtain ⟨b, off, e, _, hat⟩ := hp.cases.resolve_left (fun e => by cases e); cases e; exact hat) (Below.refl _ _) (k := 1) (by simp)
  obtain ⟨aq0, cq0, m7, rowq0⟩ := list_at (b := g7) (off := 0) (xs := [q0, q1]) (by obtain ⟨b, off, e, _, hat⟩ := hq.cases.resolve_left (fun e => by cases e); cases e; exact hat) (Below.refl _ _) (k := 0) (by simp)
  obtain ⟨aq1, cq1, m71, rowq1⟩ := list_at (b := g7) (off := 0) (xs := [q0, q1]) (by obtain ⟨b, off, e, _, hat⟩ := hq.cases.resolve_left (fun e => by cases e); cases e; exact hat) (Below.refl _ _) (k := 1) (by simp)
  simp only [List.getElem_cons_zero, List.getElem_cons_succ, Nat.zero_add] at m6 m61 m7 m71 rowp0 rowp1 rowq0 rowq1
  have M61 := mkHid m61
  have M71 := mkHid m71
  have RP0 := mkHid rowp0
  have RP1 := mkHid rowp1
  have RQ0 := mkHid rowq0
  have RQ1 := mkHid rowq1
  have HPR := mkHid hp
  have HQR := mkHid hq
  have HMA := mkHid mA
  have HMB := mkHid mB
  have HRA := mkHid rA
  have HRB := mkHid rB
  have HR_p0 := mkHid rp0
  have HR_q0 := mkHid rq0
  have HLS := mkHid hLS
  have HES := mkHid hES
  have HLX := mkHid hLX
  have HEX := mkHid hEX
  have HS4' : Hid (∀ W', Below w2.heap.size w2 W' → SQ g6 g7 (.slice ap0 p0.length cp0) (.slice aq0 q0.length cq0) W') := fun W' h => ⟨keep m6 h, keep m7 h⟩
  clear m61 m71 rowp0 rowp1 rowq0 rowq1 hp hq mA mB rA rB rp0 rq0 rp1 rq1 hLS hES hLX hEX m6 m7 hAA hBB hb2
  go_wp2_with fail
  refine (umake HPR.out (by simp) (by decide) HMA.out).mono ?_
  rintro e w5a ⟨aA, cA, rfl, hxA, hb5a⟩
  have HXA := mkHid hxA
  have hb25a := mkHid hb5a
  clear hxA hb5a
  go_wp2_with fail
  refine (umake (HQR.out.below hb25a.out) (by simp) (by decide) HMB.out).mono ?_
  rintro e w5b ⟨aB, cB, rfl, hxB, hb5b⟩
  have HXB := mkHid hxB
  have HXA2 := mkHid (HXA.out.below hb5b)
  have hb25b := mkHid (hb25a.out.then hb5b)
  clear hxB hb5b
  go_wp2_with fail
  refine (umgu HXA2.out HXB.out HRA.out HRB.out HLS.out HES.out).mono ?_
  rintro e w7 ⟨a7, c7, rfl, hx7, hb7⟩
  have HX7 := mkHid hx7
  have hb57 := mkHid (hb25b.out.then hb7)
  clear hx7 hb7
  have HS4 : Hid (∀ W', Below w7.heap.size w7 W' → SQ g6 g7 (.slice ap0 p0.length cp0) (.slice aq0 q0.length cq0) W') := fun W' h => HS4'.out W' (hb57.out.then h)
  go_wp2_with fail
  have hcd4 := (Below.refl w7.heap.size w7).drew
  refine wp_region_noPanic ?_
  refine wp_region_held_drew (S := SQ g6 g7 (.slice ap0 p0.length cp0) (.slice aq0 q0.length cq0)) (by kernel_rfl) (HS4.out _ hcd4) (fun hSd => ?_)
  refine wpAnyH_take (i := 0) (oi := _) (v := ?_) rfl (by kernel_rfl) (by kernel_rfl) (by kernel_rfl) (fun _ _ _ h => h) (Or.inl ⟨by rfl, ?_⟩) (by assumption) ?_
  rotate_left
  · (intro w' hSw; obtain ⟨k0, k1⟩ := hSw; go_simp; try with_reducible rfl)
  (try simp only [Act.put, List.setIfInBounds_toArray, List.set_cons_zero, List.set_cons_succ])
  refine wpAnyH_take (i := 1) (oi := _) (v := ?_) rfl (by kernel_rfl) (by kernel_rfl) (by kernel_rfl) (fun _ _ _ h => h) (Or.inl ⟨by rfl, ?_⟩) (by assumption) ?_
  rotate_left
  · (intro w' hSw; obtain ⟨k0, k1⟩ := hSw; go_simp; try with_reducible rfl)
  (try simp only [Act.put, List.setIfInBounds_toArray, List.set_cons_zero, List.set_cons_succ])
  refine wpAnyH_take (i := 2) (oi := _) (v := ?_) rfl (by kernel_rfl) (by kernel_rfl) (by kernel_rfl) (fun _ _ _ h => h) (Or.inl ⟨by rfl, ?_⟩) (by assumption) ?_
  rotate_left
  · (intro w' hSw; obtain ⟨k0, k1⟩ := hSw; go_simp; try with_reducible rfl)
  (try simp only [Act.put, List.setIfInBounds_toArray, List.set_cons_zero, List.set_cons_succ])
  refine wpAnyH_take (i := 3) (oi := _) (v := ?_) rfl (by kernel_rfl) (by kernel_rfl) (by kernel_rfl) (fun _ _ _ h => h) (Or.inl ⟨by rfl, ?_⟩) (by assumption) ?_
  rotate_left
  · (intro w' hSw; obtain ⟨k0, k1⟩ := hSw; go_simp; try with_reducible rfl)
  (try simp only [Act.put, List.setIfInBounds_toArray, List.set_cons_zero, List.set_cons_succ])
  refine wpAnyH_take (i := 4) (oi := _) (v := ?_) rfl (by kernel_rfl) (by kernel_rfl) (by kernel_rfl) (fun _ _ _ h => h) (Or.inl ⟨by rfl, ?_⟩) (by assumption) ?_
  rotate_left
  · (intro w' hSw; obtain ⟨k0, k1⟩ := hSw; go_simp; try with_reducible rfl)
  (try simp only [Act.put, List.setIfInBounds_toArray, List.set_cons_zero, List.set_cons_succ])
  refine wpAnyH_take (i := 5) (oi := _) (v := ?_) rfl (by kernel_rfl) (by kernel_rfl) (by kernel_rfl) (fun _ _ _ h => h) (Or.inl ⟨by rfl, ?_⟩) (by assumption) ?_
  rotate_left
  · (intro w' hSw; obtain ⟨k0, k1⟩ := hSw; go_simp; try with_reducible rfl)
  (try simp only [Act.put, List.setIfInBounds_toArray, List.set_cons_zero, List.set_cons_succ])
  refine wpAnyH_ready (rs := [6]) (by kernel_rfl) (by simp) ?_
  refine AllReadyH.cons (o := _) rfl (fun K hK => ?_) AllReadyH.nil
  go_simp
  refine (umgu (RP0.out.below (hb57.out.then hcd4)) (RQ0.out.below (hb57.out.then hcd4)) HR_p0.out HR_q0.out HLX.out HEX.out).mono ?_
  rintro e w8 ⟨a8, c8, rfl, hx8, hb8⟩
  have hb78 := hcd4.then hb8
  have HX8 := mkHid hx8
  clear hx8
  try dsimp only
  refine hK.out _ _ (HS4.out _ hb78) (fun hS8 => ?_)
  clear hK K hSd
  (try simp only [Act.put, List.setIfInBounds_toArray, List.set_cons_zero, List.set_cons_succ])
  refine wpAnyH_take (i := 7) (oi := _) (v := ?_) rfl (by kernel_rfl) (by kernel_rfl) (by kernel_rfl) (fun _ _ _ h => h) (Or.inl ⟨by rfl, ?_⟩) (by assumption) ?_
  rotate_left
  · (intro w' hSw; obtain ⟨k0, k1⟩ := hSw; go_simp; try with_reducible rfl)
  (try simp only [Act.put, List.setIfInBounds_toArray, List.set_cons_zero, List.set_cons_succ])
  refine wpAnyH_take (i := 8) (oi := _) (v := ?_) rfl (by kernel_rfl) (by kernel_rfl) (by kernel_rfl) (fun _ _ _ h => h) (Or.inl ⟨by rfl, ?_⟩) (by assumption) ?_
  rotate_left
  · (intro w' hSw; obtain ⟨k0, k1⟩ := hSw; go_simp; try with_reducible rfl)
  (try simp only [Act.put, List.setIfInBounds_toArray, List.set_cons_zero, List.set_cons_succ])
  refine wpAnyH_take (i := 9) (oi := _) (v := ?_) rfl (by kernel_rfl) (by kernel_rfl) (by kernel_rfl) (fun _ _ _ h => h) (Or.inl ⟨by rfl, ?_⟩) (by assumption) ?_
  rotate_left
  · (intro w' hSw; obtain ⟨k0, k1⟩ := hSw; go_simp; try with_reducible rfl)
  (try simp only [Act.put, List.setIfInBounds_toArray, List.set_cons_zero, List.set_cons_succ])
  refine wpAnyH_take (i := 10) (oi := _) (v := ?_) rfl (by kernel_rfl) (by kernel_rfl) (by kernel_rfl) (fun _ _ _ h => h) (Or.inl ⟨by rfl, ?_⟩) (by assumption) ?_
  rotate_left
  · (intro w' hSw; obtain ⟨k0, k1⟩ := hSw; go_simp; try with_reducible rfl)
  (try simp only [Act.put, List.setIfInBounds_toArray, List.set_cons_zero, List.set_cons_succ])
  refine wpAnyH_take (i := 11) (oi := _) (v := ?_) rfl (by kernel_rfl) (by kernel_rfl) (by kernel_rfl) (fun _ _ _ h => h) (Or.inl ⟨by rfl, ?_⟩) (by assumption) ?_
  rotate_left
  · (intro w' hSw; obtain ⟨k0, k1⟩ := hSw; go_simp; try with_reducible rfl)
  (try simp only [Act.put, List.setIfInBounds_toArray, List.set_cons_zero, List.set_cons_succ])
  refine wpAnyH_done (by kernel_rfl) (NoPanic.normal ?_) _
  clear hS8
  have hb28 := mkHid (hb57.out.then hb78)
  have hb08 := mkHid (hb02.out.then hb28.out)
  have n61 := keep M61.out hb28.out
  have n71 := keep M71.out hb28.out
  rcases hsum.out with ⟨rfl, rfl⟩ | ⟨rfl, hE⟩ | ⟨rfl, hlx, hrest⟩
  · go_wp2_with fail
    go_ret
    exact ⟨rfl, hb08.out⟩
  · rcases hE with rfl | rfl
    · go_wp2_with fail
      go_ret
      exact ⟨rfl, hb08.out⟩
    · go_wp2_with fail
      go_ret
      exact ⟨rfl, hb08.out⟩
  · obtain ⟨bp, hbp⟩ : ∃ b, apB LX p1 = b := ⟨_, rfl⟩
    obtain ⟨bq, hbq⟩ : ∃ b, apB LX q1 = b := ⟨_, rfl⟩
    obtain ⟨P, hP⟩ : ∃ b, apL LX p1 = b := ⟨_, rfl⟩
    obtain ⟨Q, hQ⟩ : ∃ b, apL LX q1 = b := ⟨_, rfl⟩
    have HBP := mkHid hbp
    have HBQ := mkHid hbq
    have HPP := mkHid hP
    have HQQ := mkHid hQ
    have HLT := mkHid hlx
    rw [hbp, hbq, hP, hQ] at hrest
    have HREST := mkHid hrest
    have hk1 : (0 : Int) ≤ 1 := by omega
    clear hbp hbq hP hQ hlx hrest hsum
    go_wp2_with fail
    refine (uapply HX8.out (RP1.out.below hb28.out) HLT.out (by omega) HPP.out HBP.out).mono ?_
    rintro e w9 ⟨a9, c9, rfl, hx9, hb9⟩
    have HX9 := mkHid hx9
    have n71' := keep n71 hb9
    have hb09 := mkHid (hb08.out.then hb9)
    have hb89 := mkHid hb9
    clear hx9 hb9 n61 n71
    go_wp2_with fail
    refine (uapply (HX8.out.below hb89.out) ((RQ1.out.below hb28.out).below hb89.out) HLT.out (by omega) HQQ.out HBQ.out).mono ?_
    rintro e w10 ⟨a10, c10, rfl, hx10, hb10⟩
    have HX10 := mkHid hx10
    have HX910 := mkHid (HX9.out.below hb10)
    have hb010 := mkHid (hb09.out.then hb10)
    have hb810 := mkHid (hb89.out.then hb10)
    clear hx10 hb10 n71'
    cases bp with
    | false =>
      go_wp2_with fail
      go_ret
      exact ⟨rfl, hb010.out⟩
    | true =>
    cases bq with
    | false =>
      go_wp2_with fail
      go_ret
      exact ⟨rfl, hb010.out⟩
    | true =>
    obtain ⟨rP, rQ, LY, EY, hLY, hEY, hcase⟩ := HREST.out rfl rfl
    have HRPP := mkHid rP
    have HRQQ := mkHid rQ
    have HLY := mkHid hLY
    have HEY := mkHid hEY
    have HCASE := mkHid hcase
    clear rP rQ hLY hEY hcase HREST
    go_wp2_with fail
    refine (umgu HX910.out HX10.out HRPP.out HRQQ.out HLY.out HEY.out).mono ?_
    rintro e w11 ⟨a11, c11, rfl, hx11, hb11⟩
    have HX11 := mkHid hx11
    have hb011 := mkHid (hb010.out.then hb11)
    have hb811 := mkHid (hb810.out.then hb11)
    clear hx11 hb11
    rcases HCASE.out with ⟨rfl, rfl⟩ | ⟨rfl, rfl⟩ | ⟨rfl, hly, hc⟩
    · go_wp2_with fail
      go_ret
      exact ⟨rfl, hb011.out⟩
    · go_wp2_with fail
      go_ret
      exact ⟨rfl, hb011.out⟩
    · have HLY2 := mkHid hly
      clear hly
      rcases hc with ⟨hc, rfl⟩ | ⟨hc, rfl, rfl⟩
      · have HC := mkHid hc
        clear hc
        go_wp2_with fail
        refine (ucompose (HX8.out.below hb811.out) HX11.out HLT.out HLY2.out rfl HC.out).mono ?_
        rintro e w12 ⟨a12, c12, rfl, hx12, hb12⟩
        have hb012 := mkHid (hb011.out.then hb12)
        clear hx12 hb12
        go_wp2_with fail
        go_ret
        exact ⟨rfl, hb012.out⟩
      · have HC := mkHid hc
        obtain ⟨LC, hLC⟩ : ∃ L, compL LX LY = L := ⟨_, rfl⟩
        have HLC := mkHid hLC
        rw [hLC] at HX7 HLS ⊢
        clear hc hLC
        go_wp2_with fail
        refine (ucompose (HX8.out.below hb811.out) HX11.out HLT.out HLY2.out HLC.out HC.out).mono ?_
        rintro e w12 ⟨a12, c12, rfl, hx12, hb12⟩
        have hb012 := mkHid (hb011.out.then hb12)
        have HX12 := mkHid hx12
        have HX712 := mkHid (((HX7.out.below hb78).below hb811.out).below hb12)
        clear hx12 hb12
        go_wp2_with fail
        refine (usame3 (b := true) HX712.out HX12.out (by simp)).mono ?_
        rintro e w13 ⟨rfl, hb13⟩
        have hb013 := mkHid (hb012.out.then hb13)
        go_wp2_with fail
        go_ret
        exact ⟨rfl, hb013.out⟩
end Go.Proofs.Ytlddglajdcednaa
namespace Go.Proofs.Ytlddglajdcednaa
open Go.RowKit Go.ChangeShapes Go.WideShapes Go.ChangeAt
open Go.ChangeMaps (open_string)
open Go.Deep

section
variable {H : Type} {enc : TypeId × Value → H} {w : World} {held : Bool}
theorem Try.cells45 : Try.prog.cellsOf 45 = 2 := by kernel_rfl
theorem open_one {fuel : Nat} {v : Value} {x : DataW H × List MemPlace} (h : DataW.trod enc Try.prog w 0 (fun _ => true) held fuel 22 [v] = some x) : ∃ (a : Option Addr) (cap : Nat) (xs : List Cel), v = .slice a xs.length cap ∧ Row w a cap xs := by
  have hv : ∃ a' len cap, v = .slice a' len cap := by
    rcases open_slice Try.underlying22 h with ⟨hcs, _⟩ | ⟨ad, l, c, m, n, D, Pl, hcs, _⟩
    · simp at hcs; exact ⟨_, _, _, hcs⟩
    · simp at hcs; exact ⟨_, _, _, hcs⟩
  obtain ⟨a', len, cap, rfl⟩ := hv
  obtain ⟨xs, rfl, hr⟩ := open_cells h
  exact ⟨a', cap, xs, rfl, hr⟩
set_option maxRecDepth 100000 in
/-- two rows of cells, side by side -/
theorem open_two {fuel : Nat} {cs : List Value} {x : DataW H × List MemPlace} (h : DataW.trod enc Try.prog w 0 (fun _ => true) held fuel 45 cs = some x) :
    ∃ (a0 : Option Addr) (c0 : Nat) (x0 : List Cel) (a1 : Option Addr) (c1 : Nat) (x1 : List Cel), cs = [.slice a0 x0.length c0, .slice a1 x1.length c1] ∧ Row w a0 c0 x0 ∧ Row w a1 c1 x1 := by
  obtain ⟨ys, m, _, _, hlen, hyl, hf⟩ := DataW.trod_array Try.underlying45 h
  rw [Try.cells45] at hlen
  match cs, hlen with
  | [v0, v1], _ =>
    have h0 := hf 0 (by omega)
    have h1 := hf 1 (by omega)
    rw [Try.cells22] at h0 h1
    obtain ⟨y0, e0⟩ : ∃ y, ys[0]? = some y := ⟨_, List.getElem?_eq_getElem (by rw [hyl]; omega)⟩
    obtain ⟨y1, e1⟩ : ∃ y, ys[1]? = some y := ⟨_, List.getElem?_eq_getElem (by rw [hyl]; omega)⟩
    rw [e0] at h0
    rw [e1] at h1
    obtain ⟨a0, c0, x0, rfl, r0⟩ := open_one (v := v0) h0
    obtain ⟨a1, c1, x1, rfl, r1⟩ := open_one (v := v1) h1
    exact ⟨a0, c0, x0, a1, c1, x1, rfl, r0, r1⟩
end

set_option maxRecDepth 100000 in
set_option maxHeartbeats 1000000 in
theorem UnifyParts_lifted (os : Os) (started : os.Started) (H : Type) (enc : TypeId × Value → H) :
    ReturnsInHanded {} Try.checked os 7 .any (Rows.unifyPartsSpec.pre6 enc Try.prog Try.f7 Rows.unifyPartsRow.domain false) (Rows.unifyPartsSpec.post enc Try.prog Try.f7 false true false false) := by
  refine returnsInHanded_of_change (C := Try.checked) Try.own started (by kernel_rfl) Try.func7
    (ChangeSpec.witness6 (enc := enc) (C := Try.checked) false ⟨#[], #[.agg #[.slice none 0 0, .slice none 0 0], .agg #[.slice none 0 0, .slice none 0 0]], []⟩ 8 (by kernel_rfl) (by kernel_rfl) (by kernel_rfl) (by kernel_rfl)) ?_
  intro W base args ds gs before hval0 hW hcnd _
  have hval : ∀ (j : Nat) t v, Try.f7.params[j]? = some t → args[j]? = some v → Value.okWide Try.prog W .any base t v := hval0
  have hW' := hW
  obtain ⟨p, q, hA0, hV, rfl, hfz, hnd⟩ := hW
  have hA : DataW.TrodAll enc Try.prog W 0 (fun _ => true) true Try.f7.params.toList args.toList ds p := hA0
  rw [Try.params7] at hA hval
  obtain ⟨v0, vs0, d0, ds0, p0, q0, hargs, rfl, rfl, h0, r0⟩ := trodAll_cons hA
  obtain ⟨v1, vs1, d1, ds1, p1, q1, rfl, rfl, rfl, h1, r1⟩ := trodAll_cons r0
  obtain ⟨rfl, rfl, rfl⟩ := trodAll_nil r1
  obtain rfl : args = #[v0, v1] := by cases args; simp_all
  obtain ⟨rfl, rfl⟩ := trodVars_none hV
  have k0 := h0
  have lt0 : ∀ x ∈ p0, x.block < W.heap.size := by obtain ⟨m, hm⟩ := k0; exact DataW.trod_lt m _ _ _ hm
  obtain ⟨x0, a0, b0, y0, e0, b20, rfl, rr0, ss0⟩ : ∃ (x : List Cel) (a : Option Addr) (b : Nat) (y : List Cel) (e : Option Addr) (b2 : Nat), v0 = .agg #[.slice a x.length b, .slice e y.length b2] ∧ Row W a b x ∧ Row W e b2 y := by
    have hk := hval 0 45 v0 rfl rfl
    obtain ⟨cs, rfl⟩ : ∃ cs, v0 = .agg cs := by
      simp only [Value.okWide, Try.underlying45] at hk
      obtain ⟨cs, h1, _⟩ := hk
      exact ⟨cs, h1⟩
    obtain ⟨fuel, hf⟩ := h0
    obtain ⟨a0, c0, z0, a1, c1, z1, hc, g0, g1⟩ := open_two hf
    refine ⟨z0, a0, c0, z1, a1, c1, ?_, g0, g1⟩
    obtain ⟨l⟩ := cs
    have hc' : l = [.slice a0 z0.length c0, .slice a1 z1.length c1] := hc
    rw [hc']
  have k1 := h1
  have lt1 : ∀ x ∈ p1, x.block < W.heap.size := by obtain ⟨m, hm⟩ := k1; exact DataW.trod_lt m _ _ _ hm
  obtain ⟨x1, a1, b1, y1, e1, b21, rfl, rr1, ss1⟩ : ∃ (x : List Cel) (a : Option Addr) (b : Nat) (y : List Cel) (e : Option Addr) (b2 : Nat), v1 = .agg #[.slice a x.length b, .slice e y.length b2] ∧ Row W a b x ∧ Row W e b2 y := by
    have hk := hval 1 45 v1 rfl rfl
    obtain ⟨cs, rfl⟩ : ∃ cs, v1 = .agg cs := by
      simp only [Value.okWide, Try.underlying45] at hk
      obtain ⟨cs, h1, _⟩ := hk
      exact ⟨cs, h1⟩
    obtain ⟨fuel, hf⟩ := h1
    obtain ⟨a0, c0, z0, a1, c1, z1, hc, g0, g1⟩ := open_two hf
    refine ⟨z0, a0, c0, z1, a1, c1, ?_, g0, g1⟩
    obtain ⟨l⟩ := cs
    have hc' : l = [.slice a0 z0.length c0, .slice a1 z1.length c1] := hc
    rw [hc']
  clear hA0 hval0
  refine (lawParts_any W x0 y0 x1 y1 a0 e0 a1 e1 b0 b20 b1 b21 rr0 ss0 rr1 ss1).mono fun e W' ⟨he, bel⟩ => ?_
  subst he
  exact ⟨_, rfl, _, _, _, [], _, [], hW', trodAll_mk1 (shut_bool Try.underlying4 _), (trodAll_cons_mk (Below.trod Try.laidOut (by kernel_rfl) (of_decide_eq_true (by kernel_rfl)) k0 bel lt0) (trodAll_cons_mk (Below.trod Try.laidOut (by kernel_rfl) (of_decide_eq_true (by kernel_rfl)) k1 bel lt1) trodAll_mk0)), rfl, bel.frame _, fun h => by cases h⟩

theorem UnifyParts_over : Rows.unifyPartsRow.holds Try.pinned (OpenSpec.ofChange Rows.unifyPartsSpec) :=
  OpenClaim.holds_of_wide 7 Try.f7 rfl rfl rfl rfl rfl rfl rfl ⟨rfl, rfl, rfl, rfl, rfl⟩ rfl rfl rfl rfl rfl (by kernel_rfl) Try.func7 (by kernel_rfl)
    (of_decide_eq_true (by kernel_rfl)) (by unfold Func.isWrapper; first | (rw [if_pos (by decide +kernel)]; kernel_rfl) | (rw [if_neg (by decide +kernel)]; exact ⟨rfl, rfl⟩))
    (fun os started H enc _ => UnifyParts_lifted os started H enc)

theorem UnifyParts_holds : Rows.UnifyPartsSaid := UnifyParts_over
end Go.Proofs.Ytlddglajdcednaa
