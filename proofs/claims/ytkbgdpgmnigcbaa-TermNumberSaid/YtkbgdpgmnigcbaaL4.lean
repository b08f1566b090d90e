import Derived.Test.YtkbgdpgmnigcbaaL2
namespace Go.Proofs.Ytkbgdpgmnigcbaa
open Go.RowKit

theorem comp_prefix (xs : List Cel) : ∀ ys : List Cel, compP xs ys = compR xs ys ∨ (∃ z zs, ys = xs ++ z :: zs) ∨ (∃ z zs, xs = ys ++ z :: zs) := by
  induction xs with
  | nil => intro ys; cases ys with
    | nil => exact .inl rfl
    | cons y ys => exact .inr (.inl ⟨y, ys, rfl⟩)
  | cons x xs ih => intro ys; cases ys with
    | nil => exact .inr (.inr ⟨x, xs, rfl⟩)
    | cons y ys =>
      by_cases e : x = y
      · subst e
        rcases ih ys with h | ⟨z, zs, h⟩ | ⟨z, zs, h⟩
        · exact .inl (by simp [compP, compR, h])
        · exact .inr (.inl ⟨z, zs, by rw [h]; rfl⟩)
        · exact .inr (.inr ⟨z, zs, by rw [h]; rfl⟩)
      · exact .inl (by simp [compP, compR, e])
theorem right_prefix {xs : List Cel} {z : Cel} {zs : List Cel} (h : rightB xs = true) (h2 : rightB (xs ++ z :: zs) = true) : False := by
  obtain ⟨t, ht, rfl, _⟩ := right_tm h
  obtain ⟨u, hu, e, _⟩ := right_tm h2
  have h1 := sk_flat t ht 0 (z :: zs)
  have h3 := sk_flat u hu 0 []
  rw [List.append_nil, ← e, h1] at h3
  simp [sk] at h3
theorem comp_right {xs ys : List Cel} (h : rightB xs = true) (h2 : rightB ys = true) : compP xs ys = compR xs ys := by
  rcases comp_prefix xs ys with h' | ⟨z, zs, rfl⟩ | ⟨z, zs, rfl⟩
  · exact h'
  · exact (right_prefix h h2).elim
  · exact (right_prefix h2 h).elim

section lit
variable {n m : Nat} {a : Option Addr} {cap : Nat} {a' : Option Addr} {cap' : Nat} {w : World}
theorem refright_lit {xs : List Cel} (hn : n = xs.length) (hr : Row w a cap xs) {b : Bool} (hb : rightB xs = b) :
    Calls Try.prog 15 #[.slice a n cap] w fun e w' => e = .returned (.bool b) ∧ Below w.heap.size w w' := by
  subst hn; subst hb; exact refright_any a cap w xs hr
theorem refsame_lit {xs ys : List Cel} (hn : n = xs.length) (hr : Row w a cap xs) (hm : m = ys.length) (hr' : Row w a' cap' ys) {d : Bool} (hd : decide (xs = ys) = d) :
    Calls Try.prog 17 #[.slice a n cap, .slice a' m cap'] w fun e w' => e = .returned (.bool d) ∧ Below w.heap.size w w' := by
  subst hn; subst hm; subst hd; exact refsame_any a cap a' cap' w xs ys hr hr'
theorem ints_lit {xs ys : List Int} (hn : n = xs.length) (hr : Row w a cap xs) (hm : m = ys.length) (hr' : Row w a' cap' ys) {d : Bool} (hd : decide (xs = ys) = d) :
    Calls Try.prog 20 #[.slice a n cap, .slice a' m cap'] w fun e w' => e = .returned (.bool d) ∧ Below w.heap.size w w' := by
  subst hn; subst hm; subst hd; exact ints_any a cap a' cap' w xs ys hr hr'
theorem sameall_lit {xs ys : List (List Cel)} (hn : n = xs.length) (hr : Row w a cap xs) (hm : m = ys.length) (hr' : Row w a' cap' ys) {d : Bool} (hd : decide (xs = ys) = d) :
    Calls Try.prog 25 #[.slice a n cap, .slice a' m cap'] w fun e w' => e = .returned (.bool d) ∧ Below w.heap.size w w' := by
  subst hn; subst hm; subst hd; exact sameall_any a cap a' cap' w xs ys hr hr'
end lit

set_option maxHeartbeats 4000000 in
set_option maxRecDepth 100000 in
theorem tells_1 (w : World) (xs : List Cel) (a : Option Addr) (cap : Nat) (hx : Row w a cap xs) (ys : List Cel) (a' : Option Addr) (cap' : Nat) (hy : Row w a' cap' ys) (d : Int) (hg : 300 < xs.length) :
    Calls Try.prog 3 #[.slice a xs.length cap, .slice a' ys.length cap', .int .i64 d] w fun e w' => e = .returned (.bool true) ∧ Below w.heap.size w w' := by
  have hm1 := hx.max
  have hm2 := hx.le
  have hm3 := hy.max
  have hm4 := hy.le
  go_enter Try.func3, Try.ntmps3
  go_wp2_with fail
  refine (head_any _).mono ?_
  rintro e w9 ⟨rfl, hb9⟩
  obtain ⟨y1, rfl⟩ := later_first hb9
  clear hb9
  go_wp2_with fail
  refine (great_yes hg).mono ?_
  rintro e w9 ⟨rfl, hb9⟩
  obtain ⟨y2, rfl⟩ := later_of hb9
  clear hb9
  go_wp2_with fail
  go_ret
  exact ⟨rfl, y2.ok⟩

set_option maxHeartbeats 4000000 in
set_option maxRecDepth 100000 in
theorem tells_2 (w : World) (xs : List Cel) (a : Option Addr) (cap : Nat) (hx : Row w a cap xs) (ys : List Cel) (a' : Option Addr) (cap' : Nat) (hy : Row w a' cap' ys) (d : Int) (hg : ¬ 300 < xs.length) (hg2 : 300 < ys.length) :
    Calls Try.prog 3 #[.slice a xs.length cap, .slice a' ys.length cap', .int .i64 d] w fun e w' => e = .returned (.bool true) ∧ Below w.heap.size w w' := by
  have hm1 := hx.max
  have hm2 := hx.le
  have hm3 := hy.max
  have hm4 := hy.le
  go_enter Try.func3, Try.ntmps3
  go_wp2_with fail
  refine (head_any _).mono ?_
  rintro e w9 ⟨rfl, hb9⟩
  obtain ⟨y1, rfl⟩ := later_first hb9
  clear hb9
  go_wp2_with fail
  refine (great_no hg).mono ?_
  rintro e w9 ⟨rfl, hb9⟩
  obtain ⟨y2, rfl⟩ := later_of hb9
  clear hb9
  go_wp2_with fail
  refine (great_yes hg2).mono ?_
  rintro e w9 ⟨rfl, hb9⟩
  obtain ⟨y3, rfl⟩ := later_of hb9
  clear hb9
  go_wp2_with fail
  go_ret
  exact ⟨rfl, y3.ok⟩

set_option maxHeartbeats 4000000 in
set_option maxRecDepth 100000 in
theorem tells_3 (w : World) (xs : List Cel) (a : Option Addr) (cap : Nat) (hx : Row w a cap xs) (ys : List Cel) (a' : Option Addr) (cap' : Nat) (hy : Row w a' cap' ys) (d : Int) (hg : ¬ 300 < xs.length) (hg2 : ¬ 300 < ys.length) (hR : rightB xs = false) :
    Calls Try.prog 3 #[.slice a xs.length cap, .slice a' ys.length cap', .int .i64 d] w fun e w' => e = .returned (.bool true) ∧ Below w.heap.size w w' := by
  have hm1 := hx.max
  have hm2 := hx.le
  have hm3 := hy.max
  have hm4 := hy.le
  go_enter Try.func3, Try.ntmps3
  go_wp2_with fail
  refine (head_any _).mono ?_
  rintro e w9 ⟨rfl, hb9⟩
  obtain ⟨y1, rfl⟩ := later_first hb9
  clear hb9
  go_wp2_with fail
  refine (great_no hg).mono ?_
  rintro e w9 ⟨rfl, hb9⟩
  obtain ⟨y2, rfl⟩ := later_of hb9
  clear hb9
  go_wp2_with fail
  refine (great_no hg2).mono ?_
  rintro e w9 ⟨rfl, hb9⟩
  obtain ⟨y3, rfl⟩ := later_of hb9
  clear hb9
  go_wp2_with fail
  refine (right_lit rfl (hx.below y3.ok) hR).mono ?_
  rintro e w9 ⟨rfl, hb9⟩
  obtain ⟨y4, rfl⟩ := later_of hb9
  clear hb9
  go_wp2_with fail
  refine (refright_lit rfl (hx.below y4.ok) hR).mono ?_
  rintro e w9 ⟨rfl, hb9⟩
  obtain ⟨y5, rfl⟩ := later_of hb9
  clear hb9
  go_wp2_with fail
  refine (same_lit rfl (hx.below y5.ok) rfl (hy.below y5.ok) (d := decide (xs = ys)) rfl).mono ?_
  rintro e w9 ⟨rfl, hb9⟩
  obtain ⟨y6, rfl⟩ := later_of hb9
  clear hb9
  go_wp2_with fail
  refine (refsame_lit rfl (hx.below y6.ok) rfl (hy.below y6.ok) (d := decide (xs = ys)) rfl).mono ?_
  rintro e w9 ⟨rfl, hb9⟩
  obtain ⟨y7, rfl⟩ := later_of hb9
  clear hb9
  go_wp2_with fail
  refine (refright_lit rfl (hx.below y7.ok) hR).mono ?_
  rintro e w9 ⟨rfl, hb9⟩
  obtain ⟨y8, rfl⟩ := later_of hb9
  clear hb9
  go_wp2_with fail
  go_ret
  exact ⟨rfl, y8.ok⟩

set_option maxHeartbeats 4000000 in
set_option maxRecDepth 100000 in
theorem tells_4true (w : World) (t : Tm) (a : Option Addr) (cap : Nat) (hx : Row w a cap t.flat) (ys : List Cel) (a' : Option Addr) (cap' : Nat) (hy : Row w a' cap' ys) (d : Int) (ht : t.ok) (h200 : t.flat.length ≤ 200) (hg : ¬ 300 < t.flat.length) (hg2 : ¬ 300 < ys.length) (hR : rightB t.flat = true) (hR2 : rightB ys = true) (_hlo : -9223372036854775808 ≤ d) (_hhi : d ≤ 9223372036854775807) (hd1 : ¬ 2000 < d) (hd2 : ¬ d < -2000) :
    Calls Try.prog 3 #[.slice a t.flat.length cap, .slice a' ys.length cap', .int .i64 d] w fun e w' => e = .returned (.bool true) ∧ Below w.heap.size w w' := by
  have hm1 := hx.max
  have hm2 := hx.le
  have hm3 := hy.max
  have hm4 := hy.le
  have h0 := flat_pos t
  have hcmp := comp_right hR hR2
  go_enter Try.func3, Try.ntmps3
  go_wp2_with fail
  refine (head_any _).mono ?_
  rintro e w9 ⟨rfl, hb9⟩
  obtain ⟨y1, rfl⟩ := later_first hb9
  clear hb9
  go_wp2_with fail
  refine (great_no hg).mono ?_
  rintro e w9 ⟨rfl, hb9⟩
  obtain ⟨y2, rfl⟩ := later_of hb9
  clear hb9
  go_wp2_with fail
  refine (great_no hg2).mono ?_
  rintro e w9 ⟨rfl, hb9⟩
  obtain ⟨y3, rfl⟩ := later_of hb9
  clear hb9
  go_wp2_with fail
  refine (right_lit rfl (hx.below y3.ok) hR).mono ?_
  rintro e w9 ⟨rfl, hb9⟩
  obtain ⟨y4, rfl⟩ := later_of hb9
  clear hb9
  go_wp2_with fail
  refine (refright_lit rfl (hx.below y4.ok) hR).mono ?_
  rintro e w9 ⟨rfl, hb9⟩
  obtain ⟨y5, rfl⟩ := later_of hb9
  clear hb9
  go_wp2_with fail
  refine (same_lit rfl (hx.below y5.ok) rfl (hy.below y5.ok) (d := decide (t.flat = ys)) rfl).mono ?_
  rintro e w9 ⟨rfl, hb9⟩
  obtain ⟨y6, rfl⟩ := later_of hb9
  clear hb9
  go_wp2_with fail
  refine (refsame_lit rfl (hx.below y6.ok) rfl (hy.below y6.ok) (d := decide (t.flat = ys)) rfl).mono ?_
  rintro e w9 ⟨rfl, hb9⟩
  obtain ⟨y7, rfl⟩ := later_of hb9
  clear hb9
  go_wp2_with fail
  refine (refright_lit rfl (hx.below y7.ok) hR).mono ?_
  rintro e w9 ⟨rfl, hb9⟩
  obtain ⟨y8, rfl⟩ := later_of hb9
  clear hb9
  go_wp2_with fail
  refine (depth_lit rfl ht rfl h200 (hx.below y8.ok) rfl).mono ?_
  rintro e w9 ⟨rfl, hb9⟩
  obtain ⟨y9, rfl⟩ := later_of hb9
  clear hb9
  go_wp2_with fail
  refine (refdepth_any _ t a cap _ (Nat.le_refl _) ht h200 (hx.below y9.ok)).mono ?_
  rintro e w9 ⟨rfl, hb9⟩
  obtain ⟨y10, rfl⟩ := later_of hb9
  clear hb9
  go_wp2_with fail
  refine (vars_any a cap _ t.flat (hx.below y10.ok) (by omega)).mono ?_
  rintro e w9 ⟨a1, cap1, rfl, r1, hb9⟩
  obtain ⟨y11, rfl⟩ := later_of hb9
  clear hb9
  have q1 := r1
  go_wp2_with fail
  refine (refvars_any a cap _ t.flat (hx.below y11.ok) (by omega)).mono ?_
  rintro e w9 ⟨a2, cap2, rfl, r2, hb9⟩
  replace q1 := q1.below hb9
  obtain ⟨y12, rfl⟩ := later_of hb9
  clear hb9
  go_wp2_with fail
  refine (ints_lit rfl q1 rfl r2 (decide_eq_true rfl)).mono ?_
  rintro e w9 ⟨rfl, hb9⟩
  obtain ⟨y13, rfl⟩ := later_of hb9
  clear hb9 q1 r1 r2
  go_wp2_with fail
  refine (ground_lit rfl (hx.below y13.ok) (b := groundB t.flat) rfl).mono ?_
  rintro e w9 ⟨rfl, hb9⟩
  obtain ⟨y14, rfl⟩ := later_of hb9
  clear hb9
  go_wp2_with fail
  refine (refground_any a cap _ t.flat (hx.below y14.ok) (by omega)).mono ?_
  rintro e w9 ⟨rfl, hb9⟩
  obtain ⟨y15, rfl⟩ := later_of hb9
  clear hb9
  go_wp2_with fail
  refine (parts_any a cap _ t.flat (hx.below y15.ok) hR).mono ?_
  rintro e w9 ⟨a1, cap1, rfl, r1, hb9⟩
  obtain ⟨y16, rfl⟩ := later_of hb9
  clear hb9
  have q1 := r1
  go_wp2_with fail
  refine (refparts_any a cap _ t.flat (hx.below y16.ok) hR).mono ?_
  rintro e w9 ⟨a2, cap2, rfl, r2, hb9⟩
  replace q1 := q1.below hb9
  obtain ⟨y17, rfl⟩ := later_of hb9
  clear hb9
  go_wp2_with fail
  refine (sameall_lit rfl q1 rfl r2 (decide_eq_true rfl)).mono ?_
  rintro e w9 ⟨rfl, hb9⟩
  obtain ⟨y18, rfl⟩ := later_of hb9
  clear hb9 q1 r1 r2
  go_wp2_with fail
  refine (shift_any a cap d _ t.flat (hx.below y18.ok) (by omega) h0).mono ?_
  rintro e w9 ⟨a1, cap1, rfl, r1, hb9⟩
  obtain ⟨y19, rfl⟩ := later_of hb9
  clear hb9
  have q1 := r1
  go_wp2_with fail
  refine (refshift_any a cap d _ t.flat (hx.below y19.ok) (by omega) h0).mono ?_
  rintro e w9 ⟨a2, cap2, rfl, r2, hb9⟩
  replace q1 := q1.below hb9
  obtain ⟨y20, rfl⟩ := later_of hb9
  clear hb9
  go_wp2_with fail
  refine (refsame_lit rfl q1 rfl r2 (decide_eq_true rfl)).mono ?_
  rintro e w9 ⟨rfl, hb9⟩
  obtain ⟨y21, rfl⟩ := later_of hb9
  clear hb9 q1 r1 r2
  go_wp2_with fail
  refine (number_any a cap _ t.flat (hx.below y21.ok) (by omega) h0).mono ?_
  rintro e w9 ⟨a1, cap1, rfl, r1, hb9⟩
  obtain ⟨y22, rfl⟩ := later_of hb9
  clear hb9
  have q1 := r1
  go_wp2_with fail
  refine (refnumber_any a cap _ t.flat (hx.below y22.ok) (by omega) h0).mono ?_
  rintro e w9 ⟨a2, cap2, rfl, r2, hb9⟩
  replace q1 := q1.below hb9
  obtain ⟨y23, rfl⟩ := later_of hb9
  clear hb9
  go_wp2_with fail
  refine (refsame_lit rfl q1 rfl r2 (decide_eq_true rfl)).mono ?_
  rintro e w9 ⟨rfl, hb9⟩
  obtain ⟨y24, rfl⟩ := later_of hb9
  clear hb9 q1 r1 r2
  go_wp2_with fail
  refine (refright_lit rfl (hy.below y24.ok) hR2).mono ?_
  rintro e w9 ⟨rfl, hb9⟩
  obtain ⟨y25, rfl⟩ := later_of hb9
  clear hb9
  go_wp2_with fail
  refine (compare_lit rfl (hx.below y25.ok) rfl (hy.below y25.ok) hcmp).mono ?_
  rintro e w9 ⟨rfl, hb9⟩
  obtain ⟨y26, rfl⟩ := later_of hb9
  clear hb9
  go_wp2_with fail
  refine (refcompare_any a cap a' cap' _ t.flat ys (hx.below y26.ok) (hy.below y26.ok)).mono ?_
  rintro e w9 ⟨rfl, hb9⟩
  obtain ⟨y27, rfl⟩ := later_of hb9
  clear hb9
  go_wp2_with fail
  go_ret
  exact ⟨rfl, y27.ok⟩

set_option maxHeartbeats 4000000 in
set_option maxRecDepth 100000 in
theorem tells_4false (w : World) (t : Tm) (a : Option Addr) (cap : Nat) (hx : Row w a cap t.flat) (ys : List Cel) (a' : Option Addr) (cap' : Nat) (hy : Row w a' cap' ys) (d : Int) (ht : t.ok) (h200 : t.flat.length ≤ 200) (hg : ¬ 300 < t.flat.length) (hg2 : ¬ 300 < ys.length) (hR : rightB t.flat = true) (hR2 : rightB ys = false) (_hlo : -9223372036854775808 ≤ d) (_hhi : d ≤ 9223372036854775807) (hd1 : ¬ 2000 < d) (hd2 : ¬ d < -2000) :
    Calls Try.prog 3 #[.slice a t.flat.length cap, .slice a' ys.length cap', .int .i64 d] w fun e w' => e = .returned (.bool true) ∧ Below w.heap.size w w' := by
  have hm1 := hx.max
  have hm2 := hx.le
  have hm3 := hy.max
  have hm4 := hy.le
  have h0 := flat_pos t
  go_enter Try.func3, Try.ntmps3
  go_wp2_with fail
  refine (head_any _).mono ?_
  rintro e w9 ⟨rfl, hb9⟩
  obtain ⟨y1, rfl⟩ := later_first hb9
  clear hb9
  go_wp2_with fail
  refine (great_no hg).mono ?_
  rintro e w9 ⟨rfl, hb9⟩
  obtain ⟨y2, rfl⟩ := later_of hb9
  clear hb9
  go_wp2_with fail
  refine (great_no hg2).mono ?_
  rintro e w9 ⟨rfl, hb9⟩
  obtain ⟨y3, rfl⟩ := later_of hb9
  clear hb9
  go_wp2_with fail
  refine (right_lit rfl (hx.below y3.ok) hR).mono ?_
  rintro e w9 ⟨rfl, hb9⟩
  obtain ⟨y4, rfl⟩ := later_of hb9
  clear hb9
  go_wp2_with fail
  refine (refright_lit rfl (hx.below y4.ok) hR).mono ?_
  rintro e w9 ⟨rfl, hb9⟩
  obtain ⟨y5, rfl⟩ := later_of hb9
  clear hb9
  go_wp2_with fail
  refine (same_lit rfl (hx.below y5.ok) rfl (hy.below y5.ok) (d := decide (t.flat = ys)) rfl).mono ?_
  rintro e w9 ⟨rfl, hb9⟩
  obtain ⟨y6, rfl⟩ := later_of hb9
  clear hb9
  go_wp2_with fail
  refine (refsame_lit rfl (hx.below y6.ok) rfl (hy.below y6.ok) (d := decide (t.flat = ys)) rfl).mono ?_
  rintro e w9 ⟨rfl, hb9⟩
  obtain ⟨y7, rfl⟩ := later_of hb9
  clear hb9
  go_wp2_with fail
  refine (refright_lit rfl (hx.below y7.ok) hR).mono ?_
  rintro e w9 ⟨rfl, hb9⟩
  obtain ⟨y8, rfl⟩ := later_of hb9
  clear hb9
  go_wp2_with fail
  refine (depth_lit rfl ht rfl h200 (hx.below y8.ok) rfl).mono ?_
  rintro e w9 ⟨rfl, hb9⟩
  obtain ⟨y9, rfl⟩ := later_of hb9
  clear hb9
  go_wp2_with fail
  refine (refdepth_any _ t a cap _ (Nat.le_refl _) ht h200 (hx.below y9.ok)).mono ?_
  rintro e w9 ⟨rfl, hb9⟩
  obtain ⟨y10, rfl⟩ := later_of hb9
  clear hb9
  go_wp2_with fail
  refine (vars_any a cap _ t.flat (hx.below y10.ok) (by omega)).mono ?_
  rintro e w9 ⟨a1, cap1, rfl, r1, hb9⟩
  obtain ⟨y11, rfl⟩ := later_of hb9
  clear hb9
  have q1 := r1
  go_wp2_with fail
  refine (refvars_any a cap _ t.flat (hx.below y11.ok) (by omega)).mono ?_
  rintro e w9 ⟨a2, cap2, rfl, r2, hb9⟩
  replace q1 := q1.below hb9
  obtain ⟨y12, rfl⟩ := later_of hb9
  clear hb9
  go_wp2_with fail
  refine (ints_lit rfl q1 rfl r2 (decide_eq_true rfl)).mono ?_
  rintro e w9 ⟨rfl, hb9⟩
  obtain ⟨y13, rfl⟩ := later_of hb9
  clear hb9 q1 r1 r2
  go_wp2_with fail
  refine (ground_lit rfl (hx.below y13.ok) (b := groundB t.flat) rfl).mono ?_
  rintro e w9 ⟨rfl, hb9⟩
  obtain ⟨y14, rfl⟩ := later_of hb9
  clear hb9
  go_wp2_with fail
  refine (refground_any a cap _ t.flat (hx.below y14.ok) (by omega)).mono ?_
  rintro e w9 ⟨rfl, hb9⟩
  obtain ⟨y15, rfl⟩ := later_of hb9
  clear hb9
  go_wp2_with fail
  refine (parts_any a cap _ t.flat (hx.below y15.ok) hR).mono ?_
  rintro e w9 ⟨a1, cap1, rfl, r1, hb9⟩
  obtain ⟨y16, rfl⟩ := later_of hb9
  clear hb9
  have q1 := r1
  go_wp2_with fail
  refine (refparts_any a cap _ t.flat (hx.below y16.ok) hR).mono ?_
  rintro e w9 ⟨a2, cap2, rfl, r2, hb9⟩
  replace q1 := q1.below hb9
  obtain ⟨y17, rfl⟩ := later_of hb9
  clear hb9
  go_wp2_with fail
  refine (sameall_lit rfl q1 rfl r2 (decide_eq_true rfl)).mono ?_
  rintro e w9 ⟨rfl, hb9⟩
  obtain ⟨y18, rfl⟩ := later_of hb9
  clear hb9 q1 r1 r2
  go_wp2_with fail
  refine (shift_any a cap d _ t.flat (hx.below y18.ok) (by omega) h0).mono ?_
  rintro e w9 ⟨a1, cap1, rfl, r1, hb9⟩
  obtain ⟨y19, rfl⟩ := later_of hb9
  clear hb9
  have q1 := r1
  go_wp2_with fail
  refine (refshift_any a cap d _ t.flat (hx.below y19.ok) (by omega) h0).mono ?_
  rintro e w9 ⟨a2, cap2, rfl, r2, hb9⟩
  replace q1 := q1.below hb9
  obtain ⟨y20, rfl⟩ := later_of hb9
  clear hb9
  go_wp2_with fail
  refine (refsame_lit rfl q1 rfl r2 (decide_eq_true rfl)).mono ?_
  rintro e w9 ⟨rfl, hb9⟩
  obtain ⟨y21, rfl⟩ := later_of hb9
  clear hb9 q1 r1 r2
  go_wp2_with fail
  refine (number_any a cap _ t.flat (hx.below y21.ok) (by omega) h0).mono ?_
  rintro e w9 ⟨a1, cap1, rfl, r1, hb9⟩
  obtain ⟨y22, rfl⟩ := later_of hb9
  clear hb9
  have q1 := r1
  go_wp2_with fail
  refine (refnumber_any a cap _ t.flat (hx.below y22.ok) (by omega) h0).mono ?_
  rintro e w9 ⟨a2, cap2, rfl, r2, hb9⟩
  replace q1 := q1.below hb9
  obtain ⟨y23, rfl⟩ := later_of hb9
  clear hb9
  go_wp2_with fail
  refine (refsame_lit rfl q1 rfl r2 (decide_eq_true rfl)).mono ?_
  rintro e w9 ⟨rfl, hb9⟩
  obtain ⟨y24, rfl⟩ := later_of hb9
  clear hb9 q1 r1 r2
  go_wp2_with fail
  refine (refright_lit rfl (hy.below y24.ok) hR2).mono ?_
  rintro e w9 ⟨rfl, hb9⟩
  obtain ⟨y25, rfl⟩ := later_of hb9
  clear hb9
  go_wp2_with fail
  go_ret
  exact ⟨rfl, y25.ok⟩

set_option maxHeartbeats 4000000 in
set_option maxRecDepth 100000 in
theorem tells_5true (w : World) (t : Tm) (a : Option Addr) (cap : Nat) (hx : Row w a cap t.flat) (ys : List Cel) (a' : Option Addr) (cap' : Nat) (hy : Row w a' cap' ys) (d : Int) (ht : t.ok) (h200 : t.flat.length ≤ 200) (hg : ¬ 300 < t.flat.length) (hg2 : ¬ 300 < ys.length) (hR : rightB t.flat = true) (hR2 : rightB ys = true) (_hlo : -9223372036854775808 ≤ d) (_hhi : d ≤ 9223372036854775807) (hd1 : 2000 < d) :
    Calls Try.prog 3 #[.slice a t.flat.length cap, .slice a' ys.length cap', .int .i64 d] w fun e w' => e = .returned (.bool true) ∧ Below w.heap.size w w' := by
  have hm1 := hx.max
  have hm2 := hx.le
  have hm3 := hy.max
  have hm4 := hy.le
  have h0 := flat_pos t
  have hcmp := comp_right hR hR2
  go_enter Try.func3, Try.ntmps3
  go_wp2_with fail
  refine (head_any _).mono ?_
  rintro e w9 ⟨rfl, hb9⟩
  obtain ⟨y1, rfl⟩ := later_first hb9
  clear hb9
  go_wp2_with fail
  refine (great_no hg).mono ?_
  rintro e w9 ⟨rfl, hb9⟩
  obtain ⟨y2, rfl⟩ := later_of hb9
  clear hb9
  go_wp2_with fail
  refine (great_no hg2).mono ?_
  rintro e w9 ⟨rfl, hb9⟩
  obtain ⟨y3, rfl⟩ := later_of hb9
  clear hb9
  go_wp2_with fail
  refine (right_lit rfl (hx.below y3.ok) hR).mono ?_
  rintro e w9 ⟨rfl, hb9⟩
  obtain ⟨y4, rfl⟩ := later_of hb9
  clear hb9
  go_wp2_with fail
  refine (refright_lit rfl (hx.below y4.ok) hR).mono ?_
  rintro e w9 ⟨rfl, hb9⟩
  obtain ⟨y5, rfl⟩ := later_of hb9
  clear hb9
  go_wp2_with fail
  refine (same_lit rfl (hx.below y5.ok) rfl (hy.below y5.ok) (d := decide (t.flat = ys)) rfl).mono ?_
  rintro e w9 ⟨rfl, hb9⟩
  obtain ⟨y6, rfl⟩ := later_of hb9
  clear hb9
  go_wp2_with fail
  refine (refsame_lit rfl (hx.below y6.ok) rfl (hy.below y6.ok) (d := decide (t.flat = ys)) rfl).mono ?_
  rintro e w9 ⟨rfl, hb9⟩
  obtain ⟨y7, rfl⟩ := later_of hb9
  clear hb9
  go_wp2_with fail
  refine (refright_lit rfl (hx.below y7.ok) hR).mono ?_
  rintro e w9 ⟨rfl, hb9⟩
  obtain ⟨y8, rfl⟩ := later_of hb9
  clear hb9
  go_wp2_with fail
  refine (depth_lit rfl ht rfl h200 (hx.below y8.ok) rfl).mono ?_
  rintro e w9 ⟨rfl, hb9⟩
  obtain ⟨y9, rfl⟩ := later_of hb9
  clear hb9
  go_wp2_with fail
  refine (refdepth_any _ t a cap _ (Nat.le_refl _) ht h200 (hx.below y9.ok)).mono ?_
  rintro e w9 ⟨rfl, hb9⟩
  obtain ⟨y10, rfl⟩ := later_of hb9
  clear hb9
  go_wp2_with fail
  refine (vars_any a cap _ t.flat (hx.below y10.ok) (by omega)).mono ?_
  rintro e w9 ⟨a1, cap1, rfl, r1, hb9⟩
  obtain ⟨y11, rfl⟩ := later_of hb9
  clear hb9
  have q1 := r1
  go_wp2_with fail
  refine (refvars_any a cap _ t.flat (hx.below y11.ok) (by omega)).mono ?_
  rintro e w9 ⟨a2, cap2, rfl, r2, hb9⟩
  replace q1 := q1.below hb9
  obtain ⟨y12, rfl⟩ := later_of hb9
  clear hb9
  go_wp2_with fail
  refine (ints_lit rfl q1 rfl r2 (decide_eq_true rfl)).mono ?_
  rintro e w9 ⟨rfl, hb9⟩
  obtain ⟨y13, rfl⟩ := later_of hb9
  clear hb9 q1 r1 r2
  go_wp2_with fail
  refine (ground_lit rfl (hx.below y13.ok) (b := groundB t.flat) rfl).mono ?_
  rintro e w9 ⟨rfl, hb9⟩
  obtain ⟨y14, rfl⟩ := later_of hb9
  clear hb9
  go_wp2_with fail
  refine (refground_any a cap _ t.flat (hx.below y14.ok) (by omega)).mono ?_
  rintro e w9 ⟨rfl, hb9⟩
  obtain ⟨y15, rfl⟩ := later_of hb9
  clear hb9
  go_wp2_with fail
  refine (parts_any a cap _ t.flat (hx.below y15.ok) hR).mono ?_
  rintro e w9 ⟨a1, cap1, rfl, r1, hb9⟩
  obtain ⟨y16, rfl⟩ := later_of hb9
  clear hb9
  have q1 := r1
  go_wp2_with fail
  refine (refparts_any a cap _ t.flat (hx.below y16.ok) hR).mono ?_
  rintro e w9 ⟨a2, cap2, rfl, r2, hb9⟩
  replace q1 := q1.below hb9
  obtain ⟨y17, rfl⟩ := later_of hb9
  clear hb9
  go_wp2_with fail
  refine (sameall_lit rfl q1 rfl r2 (decide_eq_true rfl)).mono ?_
  rintro e w9 ⟨rfl, hb9⟩
  obtain ⟨y18, rfl⟩ := later_of hb9
  clear hb9 q1 r1 r2
  go_wp2_with fail
  refine (shift_any a cap (d % 2000) _ t.flat (hx.below y18.ok) (by omega) h0).mono ?_
  rintro e w9 ⟨a1, cap1, rfl, r1, hb9⟩
  obtain ⟨y19, rfl⟩ := later_of hb9
  clear hb9
  have q1 := r1
  go_wp2_with fail
  refine (refshift_any a cap (d % 2000) _ t.flat (hx.below y19.ok) (by omega) h0).mono ?_
  rintro e w9 ⟨a2, cap2, rfl, r2, hb9⟩
  replace q1 := q1.below hb9
  obtain ⟨y20, rfl⟩ := later_of hb9
  clear hb9
  go_wp2_with fail
  refine (refsame_lit rfl q1 rfl r2 (decide_eq_true rfl)).mono ?_
  rintro e w9 ⟨rfl, hb9⟩
  obtain ⟨y21, rfl⟩ := later_of hb9
  clear hb9 q1 r1 r2
  go_wp2_with fail
  refine (number_any a cap _ t.flat (hx.below y21.ok) (by omega) h0).mono ?_
  rintro e w9 ⟨a1, cap1, rfl, r1, hb9⟩
  obtain ⟨y22, rfl⟩ := later_of hb9
  clear hb9
  have q1 := r1
  go_wp2_with fail
  refine (refnumber_any a cap _ t.flat (hx.below y22.ok) (by omega) h0).mono ?_
  rintro e w9 ⟨a2, cap2, rfl, r2, hb9⟩
  replace q1 := q1.below hb9
  obtain ⟨y23, rfl⟩ := later_of hb9
  clear hb9
  go_wp2_with fail
  refine (refsame_lit rfl q1 rfl r2 (decide_eq_true rfl)).mono ?_
  rintro e w9 ⟨rfl, hb9⟩
  obtain ⟨y24, rfl⟩ := later_of hb9
  clear hb9 q1 r1 r2
  go_wp2_with fail
  refine (refright_lit rfl (hy.below y24.ok) hR2).mono ?_
  rintro e w9 ⟨rfl, hb9⟩
  obtain ⟨y25, rfl⟩ := later_of hb9
  clear hb9
  go_wp2_with fail
  refine (compare_lit rfl (hx.below y25.ok) rfl (hy.below y25.ok) hcmp).mono ?_
  rintro e w9 ⟨rfl, hb9⟩
  obtain ⟨y26, rfl⟩ := later_of hb9
  clear hb9
  go_wp2_with fail
  refine (refcompare_any a cap a' cap' _ t.flat ys (hx.below y26.ok) (hy.below y26.ok)).mono ?_
  rintro e w9 ⟨rfl, hb9⟩
  obtain ⟨y27, rfl⟩ := later_of hb9
  clear hb9
  go_wp2_with fail
  go_ret
  exact ⟨rfl, y27.ok⟩

set_option maxHeartbeats 4000000 in
set_option maxRecDepth 100000 in
theorem tells_5false (w : World) (t : Tm) (a : Option Addr) (cap : Nat) (hx : Row w a cap t.flat) (ys : List Cel) (a' : Option Addr) (cap' : Nat) (hy : Row w a' cap' ys) (d : Int) (ht : t.ok) (h200 : t.flat.length ≤ 200) (hg : ¬ 300 < t.flat.length) (hg2 : ¬ 300 < ys.length) (hR : rightB t.flat = true) (hR2 : rightB ys = false) (_hlo : -9223372036854775808 ≤ d) (_hhi : d ≤ 9223372036854775807) (hd1 : 2000 < d) :
    Calls Try.prog 3 #[.slice a t.flat.length cap, .slice a' ys.length cap', .int .i64 d] w fun e w' => e = .returned (.bool true) ∧ Below w.heap.size w w' := by
  have hm1 := hx.max
  have hm2 := hx.le
  have hm3 := hy.max
  have hm4 := hy.le
  have h0 := flat_pos t
  go_enter Try.func3, Try.ntmps3
  go_wp2_with fail
  refine (head_any _).mono ?_
  rintro e w9 ⟨rfl, hb9⟩
  obtain ⟨y1, rfl⟩ := later_first hb9
  clear hb9
  go_wp2_with fail
  refine (great_no hg).mono ?_
  rintro e w9 ⟨rfl, hb9⟩
  obtain ⟨y2, rfl⟩ := later_of hb9
  clear hb9
  go_wp2_with fail
  refine (great_no hg2).mono ?_
  rintro e w9 ⟨rfl, hb9⟩
  obtain ⟨y3, rfl⟩ := later_of hb9
  clear hb9
  go_wp2_with fail
  refine (right_lit rfl (hx.below y3.ok) hR).mono ?_
  rintro e w9 ⟨rfl, hb9⟩
  obtain ⟨y4, rfl⟩ := later_of hb9
  clear hb9
  go_wp2_with fail
  refine (refright_lit rfl (hx.below y4.ok) hR).mono ?_
  rintro e w9 ⟨rfl, hb9⟩
  obtain ⟨y5, rfl⟩ := later_of hb9
  clear hb9
  go_wp2_with fail
  refine (same_lit rfl (hx.below y5.ok) rfl (hy.below y5.ok) (d := decide (t.flat = ys)) rfl).mono ?_
  rintro e w9 ⟨rfl, hb9⟩
  obtain ⟨y6, rfl⟩ := later_of hb9
  clear hb9
  go_wp2_with fail
  refine (refsame_lit rfl (hx.below y6.ok) rfl (hy.below y6.ok) (d := decide (t.flat = ys)) rfl).mono ?_
  rintro e w9 ⟨rfl, hb9⟩
  obtain ⟨y7, rfl⟩ := later_of hb9
  clear hb9
  go_wp2_with fail
  refine (refright_lit rfl (hx.below y7.ok) hR).mono ?_
  rintro e w9 ⟨rfl, hb9⟩
  obtain ⟨y8, rfl⟩ := later_of hb9
  clear hb9
  go_wp2_with fail
  refine (depth_lit rfl ht rfl h200 (hx.below y8.ok) rfl).mono ?_
  rintro e w9 ⟨rfl, hb9⟩
  obtain ⟨y9, rfl⟩ := later_of hb9
  clear hb9
  go_wp2_with fail
  refine (refdepth_any _ t a cap _ (Nat.le_refl _) ht h200 (hx.below y9.ok)).mono ?_
  rintro e w9 ⟨rfl, hb9⟩
  obtain ⟨y10, rfl⟩ := later_of hb9
  clear hb9
  go_wp2_with fail
  refine (vars_any a cap _ t.flat (hx.below y10.ok) (by omega)).mono ?_
  rintro e w9 ⟨a1, cap1, rfl, r1, hb9⟩
  obtain ⟨y11, rfl⟩ := later_of hb9
  clear hb9
  have q1 := r1
  go_wp2_with fail
  refine (refvars_any a cap _ t.flat (hx.below y11.ok) (by omega)).mono ?_
  rintro e w9 ⟨a2, cap2, rfl, r2, hb9⟩
  replace q1 := q1.below hb9
  obtain ⟨y12, rfl⟩ := later_of hb9
  clear hb9
  go_wp2_with fail
  refine (ints_lit rfl q1 rfl r2 (decide_eq_true rfl)).mono ?_
  rintro e w9 ⟨rfl, hb9⟩
  obtain ⟨y13, rfl⟩ := later_of hb9
  clear hb9 q1 r1 r2
  go_wp2_with fail
  refine (ground_lit rfl (hx.below y13.ok) (b := groundB t.flat) rfl).mono ?_
  rintro e w9 ⟨rfl, hb9⟩
  obtain ⟨y14, rfl⟩ := later_of hb9
  clear hb9
  go_wp2_with fail
  refine (refground_any a cap _ t.flat (hx.below y14.ok) (by omega)).mono ?_
  rintro e w9 ⟨rfl, hb9⟩
  obtain ⟨y15, rfl⟩ := later_of hb9
  clear hb9
  go_wp2_with fail
  refine (parts_any a cap _ t.flat (hx.below y15.ok) hR).mono ?_
  rintro e w9 ⟨a1, cap1, rfl, r1, hb9⟩
  obtain ⟨y16, rfl⟩ := later_of hb9
  clear hb9
  have q1 := r1
  go_wp2_with fail
  refine (refparts_any a cap _ t.flat (hx.below y16.ok) hR).mono ?_
  rintro e w9 ⟨a2, cap2, rfl, r2, hb9⟩
  replace q1 := q1.below hb9
  obtain ⟨y17, rfl⟩ := later_of hb9
  clear hb9
  go_wp2_with fail
  refine (sameall_lit rfl q1 rfl r2 (decide_eq_true rfl)).mono ?_
  rintro e w9 ⟨rfl, hb9⟩
  obtain ⟨y18, rfl⟩ := later_of hb9
  clear hb9 q1 r1 r2
  go_wp2_with fail
  refine (shift_any a cap (d % 2000) _ t.flat (hx.below y18.ok) (by omega) h0).mono ?_
  rintro e w9 ⟨a1, cap1, rfl, r1, hb9⟩
  obtain ⟨y19, rfl⟩ := later_of hb9
  clear hb9
  have q1 := r1
  go_wp2_with fail
  refine (refshift_any a cap (d % 2000) _ t.flat (hx.below y19.ok) (by omega) h0).mono ?_
  rintro e w9 ⟨a2, cap2, rfl, r2, hb9⟩
  replace q1 := q1.below hb9
  obtain ⟨y20, rfl⟩ := later_of hb9
  clear hb9
  go_wp2_with fail
  refine (refsame_lit rfl q1 rfl r2 (decide_eq_true rfl)).mono ?_
  rintro e w9 ⟨rfl, hb9⟩
  obtain ⟨y21, rfl⟩ := later_of hb9
  clear hb9 q1 r1 r2
  go_wp2_with fail
  refine (number_any a cap _ t.flat (hx.below y21.ok) (by omega) h0).mono ?_
  rintro e w9 ⟨a1, cap1, rfl, r1, hb9⟩
  obtain ⟨y22, rfl⟩ := later_of hb9
  clear hb9
  have q1 := r1
  go_wp2_with fail
  refine (refnumber_any a cap _ t.flat (hx.below y22.ok) (by omega) h0).mono ?_
  rintro e w9 ⟨a2, cap2, rfl, r2, hb9⟩
  replace q1 := q1.below hb9
  obtain ⟨y23, rfl⟩ := later_of hb9
  clear hb9
  go_wp2_with fail
  refine (refsame_lit rfl q1 rfl r2 (decide_eq_true rfl)).mono ?_
  rintro e w9 ⟨rfl, hb9⟩
  obtain ⟨y24, rfl⟩ := later_of hb9
  clear hb9 q1 r1 r2
  go_wp2_with fail
  refine (refright_lit rfl (hy.below y24.ok) hR2).mono ?_
  rintro e w9 ⟨rfl, hb9⟩
  obtain ⟨y25, rfl⟩ := later_of hb9
  clear hb9
  go_wp2_with fail
  go_ret
  exact ⟨rfl, y25.ok⟩

set_option maxHeartbeats 4000000 in
set_option maxRecDepth 100000 in
theorem tells_6true (w : World) (t : Tm) (a : Option Addr) (cap : Nat) (hx : Row w a cap t.flat) (ys : List Cel) (a' : Option Addr) (cap' : Nat) (hy : Row w a' cap' ys) (d : Int) (ht : t.ok) (h200 : t.flat.length ≤ 200) (hg : ¬ 300 < t.flat.length) (hg2 : ¬ 300 < ys.length) (hR : rightB t.flat = true) (hR2 : rightB ys = true) (_hlo : -9223372036854775808 ≤ d) (_hhi : d ≤ 9223372036854775807) (hd1 : ¬ 2000 < d) (hd2 : d < -2000) :
    Calls Try.prog 3 #[.slice a t.flat.length cap, .slice a' ys.length cap', .int .i64 d] w fun e w' => e = .returned (.bool true) ∧ Below w.heap.size w w' := by
  have hm1 := hx.max
  have hm2 := hx.le
  have hm3 := hy.max
  have hm4 := hy.le
  have h0 := flat_pos t
  have hcmp := comp_right hR hR2
  go_enter Try.func3, Try.ntmps3
  go_wp2_with fail
  refine (head_any _).mono ?_
  rintro e w9 ⟨rfl, hb9⟩
  obtain ⟨y1, rfl⟩ := later_first hb9
  clear hb9
  go_wp2_with fail
  refine (great_no hg).mono ?_
  rintro e w9 ⟨rfl, hb9⟩
  obtain ⟨y2, rfl⟩ := later_of hb9
  clear hb9
  go_wp2_with fail
  refine (great_no hg2).mono ?_
  rintro e w9 ⟨rfl, hb9⟩
  obtain ⟨y3, rfl⟩ := later_of hb9
  clear hb9
  go_wp2_with fail
  refine (right_lit rfl (hx.below y3.ok) hR).mono ?_
  rintro e w9 ⟨rfl, hb9⟩
  obtain ⟨y4, rfl⟩ := later_of hb9
  clear hb9
  go_wp2_with fail
  refine (refright_lit rfl (hx.below y4.ok) hR).mono ?_
  rintro e w9 ⟨rfl, hb9⟩
  obtain ⟨y5, rfl⟩ := later_of hb9
  clear hb9
  go_wp2_with fail
  refine (same_lit rfl (hx.below y5.ok) rfl (hy.below y5.ok) (d := decide (t.flat = ys)) rfl).mono ?_
  rintro e w9 ⟨rfl, hb9⟩
  obtain ⟨y6, rfl⟩ := later_of hb9
  clear hb9
  go_wp2_with fail
  refine (refsame_lit rfl (hx.below y6.ok) rfl (hy.below y6.ok) (d := decide (t.flat = ys)) rfl).mono ?_
  rintro e w9 ⟨rfl, hb9⟩
  obtain ⟨y7, rfl⟩ := later_of hb9
  clear hb9
  go_wp2_with fail
  refine (refright_lit rfl (hx.below y7.ok) hR).mono ?_
  rintro e w9 ⟨rfl, hb9⟩
  obtain ⟨y8, rfl⟩ := later_of hb9
  clear hb9
  go_wp2_with fail
  refine (depth_lit rfl ht rfl h200 (hx.below y8.ok) rfl).mono ?_
  rintro e w9 ⟨rfl, hb9⟩
  obtain ⟨y9, rfl⟩ := later_of hb9
  clear hb9
  go_wp2_with fail
  refine (refdepth_any _ t a cap _ (Nat.le_refl _) ht h200 (hx.below y9.ok)).mono ?_
  rintro e w9 ⟨rfl, hb9⟩
  obtain ⟨y10, rfl⟩ := later_of hb9
  clear hb9
  go_wp2_with fail
  refine (vars_any a cap _ t.flat (hx.below y10.ok) (by omega)).mono ?_
  rintro e w9 ⟨a1, cap1, rfl, r1, hb9⟩
  obtain ⟨y11, rfl⟩ := later_of hb9
  clear hb9
  have q1 := r1
  go_wp2_with fail
  refine (refvars_any a cap _ t.flat (hx.below y11.ok) (by omega)).mono ?_
  rintro e w9 ⟨a2, cap2, rfl, r2, hb9⟩
  replace q1 := q1.below hb9
  obtain ⟨y12, rfl⟩ := later_of hb9
  clear hb9
  go_wp2_with fail
  refine (ints_lit rfl q1 rfl r2 (decide_eq_true rfl)).mono ?_
  rintro e w9 ⟨rfl, hb9⟩
  obtain ⟨y13, rfl⟩ := later_of hb9
  clear hb9 q1 r1 r2
  go_wp2_with fail
  refine (ground_lit rfl (hx.below y13.ok) (b := groundB t.flat) rfl).mono ?_
  rintro e w9 ⟨rfl, hb9⟩
  obtain ⟨y14, rfl⟩ := later_of hb9
  clear hb9
  go_wp2_with fail
  refine (refground_any a cap _ t.flat (hx.below y14.ok) (by omega)).mono ?_
  rintro e w9 ⟨rfl, hb9⟩
  obtain ⟨y15, rfl⟩ := later_of hb9
  clear hb9
  go_wp2_with fail
  refine (parts_any a cap _ t.flat (hx.below y15.ok) hR).mono ?_
  rintro e w9 ⟨a1, cap1, rfl, r1, hb9⟩
  obtain ⟨y16, rfl⟩ := later_of hb9
  clear hb9
  have q1 := r1
  go_wp2_with fail
  refine (refparts_any a cap _ t.flat (hx.below y16.ok) hR).mono ?_
  rintro e w9 ⟨a2, cap2, rfl, r2, hb9⟩
  replace q1 := q1.below hb9
  obtain ⟨y17, rfl⟩ := later_of hb9
  clear hb9
  go_wp2_with fail
  refine (sameall_lit rfl q1 rfl r2 (decide_eq_true rfl)).mono ?_
  rintro e w9 ⟨rfl, hb9⟩
  obtain ⟨y18, rfl⟩ := later_of hb9
  clear hb9 q1 r1 r2
  go_wp2_with fail
  refine (shift_any a cap (d.tmod 2000) _ t.flat (hx.below y18.ok) (by omega) h0).mono ?_
  rintro e w9 ⟨a1, cap1, rfl, r1, hb9⟩
  obtain ⟨y19, rfl⟩ := later_of hb9
  clear hb9
  have q1 := r1
  go_wp2_with fail
  refine (refshift_any a cap (d.tmod 2000) _ t.flat (hx.below y19.ok) (by omega) h0).mono ?_
  rintro e w9 ⟨a2, cap2, rfl, r2, hb9⟩
  replace q1 := q1.below hb9
  obtain ⟨y20, rfl⟩ := later_of hb9
  clear hb9
  go_wp2_with fail
  refine (refsame_lit rfl q1 rfl r2 (decide_eq_true rfl)).mono ?_
  rintro e w9 ⟨rfl, hb9⟩
  obtain ⟨y21, rfl⟩ := later_of hb9
  clear hb9 q1 r1 r2
  go_wp2_with fail
  refine (number_any a cap _ t.flat (hx.below y21.ok) (by omega) h0).mono ?_
  rintro e w9 ⟨a1, cap1, rfl, r1, hb9⟩
  obtain ⟨y22, rfl⟩ := later_of hb9
  clear hb9
  have q1 := r1
  go_wp2_with fail
  refine (refnumber_any a cap _ t.flat (hx.below y22.ok) (by omega) h0).mono ?_
  rintro e w9 ⟨a2, cap2, rfl, r2, hb9⟩
  replace q1 := q1.below hb9
  obtain ⟨y23, rfl⟩ := later_of hb9
  clear hb9
  go_wp2_with fail
  refine (refsame_lit rfl q1 rfl r2 (decide_eq_true rfl)).mono ?_
  rintro e w9 ⟨rfl, hb9⟩
  obtain ⟨y24, rfl⟩ := later_of hb9
  clear hb9 q1 r1 r2
  go_wp2_with fail
  refine (refright_lit rfl (hy.below y24.ok) hR2).mono ?_
  rintro e w9 ⟨rfl, hb9⟩
  obtain ⟨y25, rfl⟩ := later_of hb9
  clear hb9
  go_wp2_with fail
  refine (compare_lit rfl (hx.below y25.ok) rfl (hy.below y25.ok) hcmp).mono ?_
  rintro e w9 ⟨rfl, hb9⟩
  obtain ⟨y26, rfl⟩ := later_of hb9
  clear hb9
  go_wp2_with fail
  refine (refcompare_any a cap a' cap' _ t.flat ys (hx.below y26.ok) (hy.below y26.ok)).mono ?_
  rintro e w9 ⟨rfl, hb9⟩
  obtain ⟨y27, rfl⟩ := later_of hb9
  clear hb9
  go_wp2_with fail
  go_ret
  exact ⟨rfl, y27.ok⟩

set_option maxHeartbeats 4000000 in
set_option maxRecDepth 100000 in
theorem tells_6false (w : World) (t : Tm) (a : Option Addr) (cap : Nat) (hx : Row w a cap t.flat) (ys : List Cel) (a' : Option Addr) (cap' : Nat) (hy : Row w a' cap' ys) (d : Int) (ht : t.ok) (h200 : t.flat.length ≤ 200) (hg : ¬ 300 < t.flat.length) (hg2 : ¬ 300 < ys.length) (hR : rightB t.flat = true) (hR2 : rightB ys = false) (_hlo : -9223372036854775808 ≤ d) (_hhi : d ≤ 9223372036854775807) (hd1 : ¬ 2000 < d) (hd2 : d < -2000) :
    Calls Try.prog 3 #[.slice a t.flat.length cap, .slice a' ys.length cap', .int .i64 d] w fun e w' => e = .returned (.bool true) ∧ Below w.heap.size w w' := by
  have hm1 := hx.max
  have hm2 := hx.le
  have hm3 := hy.max
  have hm4 := hy.le
  have h0 := flat_pos t
  go_enter Try.func3, Try.ntmps3
  go_wp2_with fail
  refine (head_any _).mono ?_
  rintro e w9 ⟨rfl, hb9⟩
  obtain ⟨y1, rfl⟩ := later_first hb9
  clear hb9
  go_wp2_with fail
  refine (great_no hg).mono ?_
  rintro e w9 ⟨rfl, hb9⟩
  obtain ⟨y2, rfl⟩ := later_of hb9
  clear hb9
  go_wp2_with fail
  refine (great_no hg2).mono ?_
  rintro e w9 ⟨rfl, hb9⟩
  obtain ⟨y3, rfl⟩ := later_of hb9
  clear hb9
  go_wp2_with fail
  refine (right_lit rfl (hx.below y3.ok) hR).mono ?_
  rintro e w9 ⟨rfl, hb9⟩
  obtain ⟨y4, rfl⟩ := later_of hb9
  clear hb9
  go_wp2_with fail
  refine (refright_lit rfl (hx.below y4.ok) hR).mono ?_
  rintro e w9 ⟨rfl, hb9⟩
  obtain ⟨y5, rfl⟩ := later_of hb9
  clear hb9
  go_wp2_with fail
  refine (same_lit rfl (hx.below y5.ok) rfl (hy.below y5.ok) (d := decide (t.flat = ys)) rfl).mono ?_
  rintro e w9 ⟨rfl, hb9⟩
  obtain ⟨y6, rfl⟩ := later_of hb9
  clear hb9
  go_wp2_with fail
  refine (refsame_lit rfl (hx.below y6.ok) rfl (hy.below y6.ok) (d := decide (t.flat = ys)) rfl).mono ?_
  rintro e w9 ⟨rfl, hb9⟩
  obtain ⟨y7, rfl⟩ := later_of hb9
  clear hb9
  go_wp2_with fail
  refine (refright_lit rfl (hx.below y7.ok) hR).mono ?_
  rintro e w9 ⟨rfl, hb9⟩
  obtain ⟨y8, rfl⟩ := later_of hb9
  clear hb9
  go_wp2_with fail
  refine (depth_lit rfl ht rfl h200 (hx.below y8.ok) rfl).mono ?_
  rintro e w9 ⟨rfl, hb9⟩
  obtain ⟨y9, rfl⟩ := later_of hb9
  clear hb9
  go_wp2_with fail
  refine (refdepth_any _ t a cap _ (Nat.le_refl _) ht h200 (hx.below y9.ok)).mono ?_
  rintro e w9 ⟨rfl, hb9⟩
  obtain ⟨y10, rfl⟩ := later_of hb9
  clear hb9
  go_wp2_with fail
  refine (vars_any a cap _ t.flat (hx.below y10.ok) (by omega)).mono ?_
  rintro e w9 ⟨a1, cap1, rfl, r1, hb9⟩
  obtain ⟨y11, rfl⟩ := later_of hb9
  clear hb9
  have q1 := r1
  go_wp2_with fail
  refine (refvars_any a cap _ t.flat (hx.below y11.ok) (by omega)).mono ?_
  rintro e w9 ⟨a2, cap2, rfl, r2, hb9⟩
  replace q1 := q1.below hb9
  obtain ⟨y12, rfl⟩ := later_of hb9
  clear hb9
  go_wp2_with fail
  refine (ints_lit rfl q1 rfl r2 (decide_eq_true rfl)).mono ?_
  rintro e w9 ⟨rfl, hb9⟩
  obtain ⟨y13, rfl⟩ := later_of hb9
  clear hb9 q1 r1 r2
  go_wp2_with fail
  refine (ground_lit rfl (hx.below y13.ok) (b := groundB t.flat) rfl).mono ?_
  rintro e w9 ⟨rfl, hb9⟩
  obtain ⟨y14, rfl⟩ := later_of hb9
  clear hb9
  go_wp2_with fail
  refine (refground_any a cap _ t.flat (hx.below y14.ok) (by omega)).mono ?_
  rintro e w9 ⟨rfl, hb9⟩
  obtain ⟨y15, rfl⟩ := later_of hb9
  clear hb9
  go_wp2_with fail
  refine (parts_any a cap _ t.flat (hx.below y15.ok) hR).mono ?_
  rintro e w9 ⟨a1, cap1, rfl, r1, hb9⟩
  obtain ⟨y16, rfl⟩ := later_of hb9
  clear hb9
  have q1 := r1
  go_wp2_with fail
  refine (refparts_any a cap _ t.flat (hx.below y16.ok) hR).mono ?_
  rintro e w9 ⟨a2, cap2, rfl, r2, hb9⟩
  replace q1 := q1.below hb9
  obtain ⟨y17, rfl⟩ := later_of hb9
  clear hb9
  go_wp2_with fail
  refine (sameall_lit rfl q1 rfl r2 (decide_eq_true rfl)).mono ?_
  rintro e w9 ⟨rfl, hb9⟩
  obtain ⟨y18, rfl⟩ := later_of hb9
  clear hb9 q1 r1 r2
  go_wp2_with fail
  refine (shift_any a cap (d.tmod 2000) _ t.flat (hx.below y18.ok) (by omega) h0).mono ?_
  rintro e w9 ⟨a1, cap1, rfl, r1, hb9⟩
  obtain ⟨y19, rfl⟩ := later_of hb9
  clear hb9
  have q1 := r1
  go_wp2_with fail
  refine (refshift_any a cap (d.tmod 2000) _ t.flat (hx.below y19.ok) (by omega) h0).mono ?_
  rintro e w9 ⟨a2, cap2, rfl, r2, hb9⟩
  replace q1 := q1.below hb9
  obtain ⟨y20, rfl⟩ := later_of hb9
  clear hb9
  go_wp2_with fail
  refine (refsame_lit rfl q1 rfl r2 (decide_eq_true rfl)).mono ?_
  rintro e w9 ⟨rfl, hb9⟩
  obtain ⟨y21, rfl⟩ := later_of hb9
  clear hb9 q1 r1 r2
  go_wp2_with fail
  refine (number_any a cap _ t.flat (hx.below y21.ok) (by omega) h0).mono ?_
  rintro e w9 ⟨a1, cap1, rfl, r1, hb9⟩
  obtain ⟨y22, rfl⟩ := later_of hb9
  clear hb9
  have q1 := r1
  go_wp2_with fail
  refine (refnumber_any a cap _ t.flat (hx.below y22.ok) (by omega) h0).mono ?_
  rintro e w9 ⟨a2, cap2, rfl, r2, hb9⟩
  replace q1 := q1.below hb9
  obtain ⟨y23, rfl⟩ := later_of hb9
  clear hb9
  go_wp2_with fail
  refine (refsame_lit rfl q1 rfl r2 (decide_eq_true rfl)).mono ?_
  rintro e w9 ⟨rfl, hb9⟩
  obtain ⟨y24, rfl⟩ := later_of hb9
  clear hb9 q1 r1 r2
  go_wp2_with fail
  refine (refright_lit rfl (hy.below y24.ok) hR2).mono ?_
  rintro e w9 ⟨rfl, hb9⟩
  obtain ⟨y25, rfl⟩ := later_of hb9
  clear hb9
  go_wp2_with fail
  go_ret
  exact ⟨rfl, y25.ok⟩

theorem lawTells_any (w : World) (xs : List Cel) (a : Option Addr) (cap : Nat) (hx : Row w a cap xs) (ys : List Cel) (a' : Option Addr) (cap' : Nat) (hy : Row w a' cap' ys) (d : Int) (hd : (Lit.int .i64 d).wf = true) :
    Calls Try.prog 3 #[.slice a xs.length cap, .slice a' ys.length cap', .int .i64 d] w fun e w' => e = .returned (.bool true) ∧ Below w.heap.size w w' := by
  have hlh : -9223372036854775808 ≤ d ∧ d ≤ 9223372036854775807 := by
    simp [Lit.wf, IntKind.min, IntKind.max, IntKind.signed, IntKind.bits] at hd
    omega
  obtain ⟨hlo, hhi⟩ := hlh
  by_cases hg : 300 < xs.length
  · exact tells_1 w xs a cap hx ys a' cap' hy d hg
  by_cases hg2 : 300 < ys.length
  · exact tells_2 w xs a cap hx ys a' cap' hy d hg hg2
  cases hR : rightB xs with
  | false => exact tells_3 w xs a cap hx ys a' cap' hy d hg hg2 hR
  | true =>
    obtain ⟨t, ht, rfl, h200⟩ := right_tm hR
    by_cases hd1 : 2000 < d
    · cases hR2 : rightB ys with
      | true => exact tells_5true w t a cap hx ys a' cap' hy d ht h200 hg hg2 hR hR2 hlo hhi hd1
      | false => exact tells_5false w t a cap hx ys a' cap' hy d ht h200 hg hg2 hR hR2 hlo hhi hd1
    by_cases hd2 : d < -2000
    · cases hR2 : rightB ys with
      | true => exact tells_6true w t a cap hx ys a' cap' hy d ht h200 hg hg2 hR hR2 hlo hhi hd1 hd2
      | false => exact tells_6false w t a cap hx ys a' cap' hy d ht h200 hg hg2 hR hR2 hlo hhi hd1 hd2
    · cases hR2 : rightB ys with
      | true => exact tells_4true w t a cap hx ys a' cap' hy d ht h200 hg hg2 hR hR2 hlo hhi hd1 hd2
      | false => exact tells_4false w t a cap hx ys a' cap' hy d ht h200 hg hg2 hR hR2 hlo hhi hd1 hd2
end Go.Proofs.Ytkbgdpgmnigcbaa
