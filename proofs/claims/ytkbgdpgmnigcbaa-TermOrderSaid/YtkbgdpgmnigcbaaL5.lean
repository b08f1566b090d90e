import Derived.Test.YtkbgdpgmnigcbaaL4
import Derived.Test.YtkbgdpgmnigcbaaS4
namespace Go.Proofs.Ytkbgdpgmnigcbaa
open Go.RowKit

set_option maxHeartbeats 4000000 in
set_option maxRecDepth 100000 in
theorem order_0 (w : World) (xs : List Cel) (a : Option Addr) (cap : Nat) (hx : Row w a cap xs) (ys : List Cel) (a' : Option Addr) (cap' : Nat) (hy : Row w a' cap' ys) (zs : List Cel) (b : Option Addr) (bcap : Nat) (hz : Row w b bcap zs) (hg1 : 300 < xs.length) :
    Calls Try.prog 11 #[.slice a xs.length cap, .slice a' ys.length cap', .slice b zs.length bcap] w fun e w' => e = .returned (.bool true) ∧ Below w.heap.size w w' := by
  have hm1 := hx.max
  have hm2 := hx.le
  have hm3 := hy.max
  have hm4 := hy.le
  have hm5 := hz.max
  have hm6 := hz.le
  go_enter Try.func11, Try.ntmps11
  go_wp2_with fail
  refine (head_any _).mono ?_
  rintro e w9 ⟨rfl, hb9⟩
  obtain ⟨y1, rfl⟩ := later_first hb9
  clear hb9
  go_wp2_with fail
  refine (great_yes hg1).mono ?_
  rintro e w9 ⟨rfl, hb9⟩
  obtain ⟨y2, rfl⟩ := later_of hb9
  clear hb9
  go_wp2_with fail
  go_ret
  exact ⟨rfl, y2.ok⟩

set_option maxHeartbeats 4000000 in
set_option maxRecDepth 100000 in
theorem order_1 (w : World) (xs : List Cel) (a : Option Addr) (cap : Nat) (hx : Row w a cap xs) (ys : List Cel) (a' : Option Addr) (cap' : Nat) (hy : Row w a' cap' ys) (zs : List Cel) (b : Option Addr) (bcap : Nat) (hz : Row w b bcap zs) (hg1 : ¬ 300 < xs.length) (hg2 : 300 < ys.length) :
    Calls Try.prog 11 #[.slice a xs.length cap, .slice a' ys.length cap', .slice b zs.length bcap] w fun e w' => e = .returned (.bool true) ∧ Below w.heap.size w w' := by
  have hm1 := hx.max
  have hm2 := hx.le
  have hm3 := hy.max
  have hm4 := hy.le
  have hm5 := hz.max
  have hm6 := hz.le
  go_enter Try.func11, Try.ntmps11
  go_wp2_with fail
  refine (head_any _).mono ?_
  rintro e w9 ⟨rfl, hb9⟩
  obtain ⟨y1, rfl⟩ := later_first hb9
  clear hb9
  go_wp2_with fail
  refine (great_no hg1).mono ?_
  rintro e w9 ⟨rfl, hb9⟩
  obtain ⟨y2, rfl⟩ := later_of hb9
  clear hb9
  go_wp2_with fail
  refine (great_yes hg2).mono ?_
  rintro e w9 ⟨rfl, hb9⟩
  obtain ⟨y3, rfl⟩ := later_of hb9
  clear hb9
  go_wp2_with fail
  go_ret
  exact ⟨rfl, y3.ok⟩

set_option maxHeartbeats 4000000 in
set_option maxRecDepth 100000 in
theorem order_2 (w : World) (xs : List Cel) (a : Option Addr) (cap : Nat) (hx : Row w a cap xs) (ys : List Cel) (a' : Option Addr) (cap' : Nat) (hy : Row w a' cap' ys) (zs : List Cel) (b : Option Addr) (bcap : Nat) (hz : Row w b bcap zs) (hg1 : ¬ 300 < xs.length) (hg2 : ¬ 300 < ys.length) (hg3 : 300 < zs.length) :
    Calls Try.prog 11 #[.slice a xs.length cap, .slice a' ys.length cap', .slice b zs.length bcap] w fun e w' => e = .returned (.bool true) ∧ Below w.heap.size w w' := by
  have hm1 := hx.max
  have hm2 := hx.le
  have hm3 := hy.max
  have hm4 := hy.le
  have hm5 := hz.max
  have hm6 := hz.le
  go_enter Try.func11, Try.ntmps11
  go_wp2_with fail
  refine (head_any _).mono ?_
  rintro e w9 ⟨rfl, hb9⟩
  obtain ⟨y1, rfl⟩ := later_first hb9
  clear hb9
  go_wp2_with fail
  refine (great_no hg1).mono ?_
  rintro e w9 ⟨rfl, hb9⟩
  obtain ⟨y2, rfl⟩ := later_of hb9
  clear hb9
  go_wp2_with fail
  refine (great_no hg2).mono ?_
  rintro e w9 ⟨rfl, hb9⟩
  obtain ⟨y3, rfl⟩ := later_of hb9
  clear hb9
  go_wp2_with fail
  refine (great_yes hg3).mono ?_
  rintro e w9 ⟨rfl, hb9⟩
  obtain ⟨y4, rfl⟩ := later_of hb9
  clear hb9
  go_wp2_with fail
  go_ret
  exact ⟨rfl, y4.ok⟩

set_option maxHeartbeats 4000000 in
set_option maxRecDepth 100000 in
theorem order_3 (w : World) (xs : List Cel) (a : Option Addr) (cap : Nat) (hx : Row w a cap xs) (ys : List Cel) (a' : Option Addr) (cap' : Nat) (hy : Row w a' cap' ys) (zs : List Cel) (b : Option Addr) (bcap : Nat) (hz : Row w b bcap zs) (hg1 : ¬ 300 < xs.length) (hg2 : ¬ 300 < ys.length) (hg3 : ¬ 300 < zs.length) (hR1 : rightB xs = false) :
    Calls Try.prog 11 #[.slice a xs.length cap, .slice a' ys.length cap', .slice b zs.length bcap] w fun e w' => e = .returned (.bool true) ∧ Below w.heap.size w w' := by
  have hm1 := hx.max
  have hm2 := hx.le
  have hm3 := hy.max
  have hm4 := hy.le
  have hm5 := hz.max
  have hm6 := hz.le
  go_enter Try.func11, Try.ntmps11
  go_wp2_with fail
  refine (head_any _).mono ?_
  rintro e w9 ⟨rfl, hb9⟩
  obtain ⟨y1, rfl⟩ := later_first hb9
  clear hb9
  go_wp2_with fail
  refine (great_no hg1).mono ?_
  rintro e w9 ⟨rfl, hb9⟩
  obtain ⟨y2, rfl⟩ := later_of hb9
  clear hb9
  go_wp2_with fail
  refine (great_no hg2).mono ?_
  rintro e w9 ⟨rfl, hb9⟩
  obtain ⟨y3, rfl⟩ := later_of hb9
  clear hb9
  go_wp2_with fail
  refine (great_no hg3).mono ?_
  rintro e w9 ⟨rfl, hb9⟩
  obtain ⟨y4, rfl⟩ := later_of hb9
  clear hb9
  go_wp2_with fail
  refine (right_lit rfl (hx.below y4.ok) hR1).mono ?_
  rintro e w9 ⟨rfl, hb9⟩
  obtain ⟨y5, rfl⟩ := later_of hb9
  clear hb9
  go_wp2_with fail
  go_ret
  exact ⟨rfl, y5.ok⟩

set_option maxHeartbeats 4000000 in
set_option maxRecDepth 100000 in
theorem order_4 (w : World) (xs : List Cel) (a : Option Addr) (cap : Nat) (hx : Row w a cap xs) (ys : List Cel) (a' : Option Addr) (cap' : Nat) (hy : Row w a' cap' ys) (zs : List Cel) (b : Option Addr) (bcap : Nat) (hz : Row w b bcap zs) (hg1 : ¬ 300 < xs.length) (hg2 : ¬ 300 < ys.length) (hg3 : ¬ 300 < zs.length) (hR1 : rightB xs = true) (hR2 : rightB ys = false) :
    Calls Try.prog 11 #[.slice a xs.length cap, .slice a' ys.length cap', .slice b zs.length bcap] w fun e w' => e = .returned (.bool true) ∧ Below w.heap.size w w' := by
  have hm1 := hx.max
  have hm2 := hx.le
  have hm3 := hy.max
  have hm4 := hy.le
  have hm5 := hz.max
  have hm6 := hz.le
  go_enter Try.func11, Try.ntmps11
  go_wp2_with fail
  refine (head_any _).mono ?_
  rintro e w9 ⟨rfl, hb9⟩
  obtain ⟨y1, rfl⟩ := later_first hb9
  clear hb9
  go_wp2_with fail
  refine (great_no hg1).mono ?_
  rintro e w9 ⟨rfl, hb9⟩
  obtain ⟨y2, rfl⟩ := later_of hb9
  clear hb9
  go_wp2_with fail
  refine (great_no hg2).mono ?_
  rintro e w9 ⟨rfl, hb9⟩
  obtain ⟨y3, rfl⟩ := later_of hb9
  clear hb9
  go_wp2_with fail
  refine (great_no hg3).mono ?_
  rintro e w9 ⟨rfl, hb9⟩
  obtain ⟨y4, rfl⟩ := later_of hb9
  clear hb9
  go_wp2_with fail
  refine (right_lit rfl (hx.below y4.ok) hR1).mono ?_
  rintro e w9 ⟨rfl, hb9⟩
  obtain ⟨y5, rfl⟩ := later_of hb9
  clear hb9
  go_wp2_with fail
  refine (right_lit rfl (hy.below y5.ok) hR2).mono ?_
  rintro e w9 ⟨rfl, hb9⟩
  obtain ⟨y6, rfl⟩ := later_of hb9
  clear hb9
  go_wp2_with fail
  go_ret
  exact ⟨rfl, y6.ok⟩

set_option maxHeartbeats 4000000 in
set_option maxRecDepth 100000 in
theorem order_5 (w : World) (xs : List Cel) (a : Option Addr) (cap : Nat) (hx : Row w a cap xs) (ys : List Cel) (a' : Option Addr) (cap' : Nat) (hy : Row w a' cap' ys) (zs : List Cel) (b : Option Addr) (bcap : Nat) (hz : Row w b bcap zs) (hg1 : ¬ 300 < xs.length) (hg2 : ¬ 300 < ys.length) (hg3 : ¬ 300 < zs.length) (hR1 : rightB xs = true) (hR2 : rightB ys = true) (hR3 : rightB zs = false) :
    Calls Try.prog 11 #[.slice a xs.length cap, .slice a' ys.length cap', .slice b zs.length bcap] w fun e w' => e = .returned (.bool true) ∧ Below w.heap.size w w' := by
  have hm1 := hx.max
  have hm2 := hx.le
  have hm3 := hy.max
  have hm4 := hy.le
  have hm5 := hz.max
  have hm6 := hz.le
  go_enter Try.func11, Try.ntmps11
  go_wp2_with fail
  refine (head_any _).mono ?_
  rintro e w9 ⟨rfl, hb9⟩
  obtain ⟨y1, rfl⟩ := later_first hb9
  clear hb9
  go_wp2_with fail
  refine (great_no hg1).mono ?_
  rintro e w9 ⟨rfl, hb9⟩
  obtain ⟨y2, rfl⟩ := later_of hb9
  clear hb9
  go_wp2_with fail
  refine (great_no hg2).mono ?_
  rintro e w9 ⟨rfl, hb9⟩
  obtain ⟨y3, rfl⟩ := later_of hb9
  clear hb9
  go_wp2_with fail
  refine (great_no hg3).mono ?_
  rintro e w9 ⟨rfl, hb9⟩
  obtain ⟨y4, rfl⟩ := later_of hb9
  clear hb9
  go_wp2_with fail
  refine (right_lit rfl (hx.below y4.ok) hR1).mono ?_
  rintro e w9 ⟨rfl, hb9⟩
  obtain ⟨y5, rfl⟩ := later_of hb9
  clear hb9
  go_wp2_with fail
  refine (right_lit rfl (hy.below y5.ok) hR2).mono ?_
  rintro e w9 ⟨rfl, hb9⟩
  obtain ⟨y6, rfl⟩ := later_of hb9
  clear hb9
  go_wp2_with fail
  refine (right_lit rfl (hz.below y6.ok) hR3).mono ?_
  rintro e w9 ⟨rfl, hb9⟩
  obtain ⟨y7, rfl⟩ := later_of hb9
  clear hb9
  go_wp2_with fail
  go_ret
  exact ⟨rfl, y7.ok⟩

set_option maxHeartbeats 4000000 in
set_option maxRecDepth 100000 in
theorem order_6A (w : World) (xs : List Cel) (a : Option Addr) (cap : Nat) (hx : Row w a cap xs) (ys : List Cel) (a' : Option Addr) (cap' : Nat) (hy : Row w a' cap' ys) (zs : List Cel) (b : Option Addr) (bcap : Nat) (hz : Row w b bcap zs) (hg1 : ¬ 300 < xs.length) (hg2 : ¬ 300 < ys.length) (hg3 : ¬ 300 < zs.length) (hR1 : rightB xs = true) (hR2 : rightB ys = true) (hR3 : rightB zs = true) (x y z : Int) (b0 : Bool) (hcx : compP xs ys = x) (hcy : compP ys zs = y) (hcz : compP xs zs = z) (hcn : compP ys xs = -x) (hsame : decide (xs = ys) = b0) (hb0 : (x == 0) = b0) (hcs : compP xs xs = 0) (l1 : -1 ≤ x) (l2 : x ≤ 1) (l3 : -1 ≤ y) (l4 : y ≤ 1) (l5 : -1 ≤ z) (l6 : z ≤ 1) (s1 : 0 < x) :
    Calls Try.prog 11 #[.slice a xs.length cap, .slice a' ys.length cap', .slice b zs.length bcap] w fun e w' => e = .returned (.bool true) ∧ Below w.heap.size w w' := by
  have hm1 := hx.max
  have hm2 := hx.le
  have hm3 := hy.max
  have hm4 := hy.le
  have hm5 := hz.max
  have hm6 := hz.le
  have hnx : ((-x != -x) : Bool) = false := by simp
  have hbb : ((b0 != b0) : Bool) = false := by simp
  go_enter Try.func11, Try.ntmps11
  go_wp2_with fail
  refine (head_any _).mono ?_
  rintro e w9 ⟨rfl, hb9⟩
  obtain ⟨y1, rfl⟩ := later_first hb9
  clear hb9
  go_wp2_with fail
  refine (great_no hg1).mono ?_
  rintro e w9 ⟨rfl, hb9⟩
  obtain ⟨y2, rfl⟩ := later_of hb9
  clear hb9
  go_wp2_with fail
  refine (great_no hg2).mono ?_
  rintro e w9 ⟨rfl, hb9⟩
  obtain ⟨y3, rfl⟩ := later_of hb9
  clear hb9
  go_wp2_with fail
  refine (great_no hg3).mono ?_
  rintro e w9 ⟨rfl, hb9⟩
  obtain ⟨y4, rfl⟩ := later_of hb9
  clear hb9
  go_wp2_with fail
  refine (right_lit rfl (hx.below y4.ok) hR1).mono ?_
  rintro e w9 ⟨rfl, hb9⟩
  obtain ⟨y5, rfl⟩ := later_of hb9
  clear hb9
  go_wp2_with fail
  refine (right_lit rfl (hy.below y5.ok) hR2).mono ?_
  rintro e w9 ⟨rfl, hb9⟩
  obtain ⟨y6, rfl⟩ := later_of hb9
  clear hb9
  go_wp2_with fail
  refine (right_lit rfl (hz.below y6.ok) hR3).mono ?_
  rintro e w9 ⟨rfl, hb9⟩
  obtain ⟨y7, rfl⟩ := later_of hb9
  clear hb9
  go_wp2_with fail
  refine (compare_lit rfl (hx.below y7.ok) rfl (hy.below y7.ok) hcx).mono ?_
  rintro e w9 ⟨rfl, hb9⟩
  obtain ⟨y8, rfl⟩ := later_of hb9
  clear hb9
  go_wp2_with fail
  refine (compare_lit rfl (hy.below y8.ok) rfl (hz.below y8.ok) hcy).mono ?_
  rintro e w9 ⟨rfl, hb9⟩
  obtain ⟨y9, rfl⟩ := later_of hb9
  clear hb9
  go_wp2_with fail
  refine (compare_lit rfl (hx.below y9.ok) rfl (hz.below y9.ok) hcz).mono ?_
  rintro e w9 ⟨rfl, hb9⟩
  obtain ⟨y10, rfl⟩ := later_of hb9
  clear hb9
  go_wp2_with fail
  refine (compare_lit rfl (hy.below y10.ok) rfl (hx.below y10.ok) hcn).mono ?_
  rintro e w9 ⟨rfl, hb9⟩
  obtain ⟨y11, rfl⟩ := later_of hb9
  clear hb9
  go_wp2_with fail
  refine (same_lit rfl (hx.below y11.ok) rfl (hy.below y11.ok) hsame).mono ?_
  rintro e w9 ⟨rfl, hb9⟩
  obtain ⟨y12, rfl⟩ := later_of hb9
  clear hb9
  go_wp2_with fail
  refine (compare_lit rfl (hx.below y12.ok) rfl (hx.below y12.ok) hcs).mono ?_
  rintro e w9 ⟨rfl, hb9⟩
  obtain ⟨y13, rfl⟩ := later_of hb9
  clear hb9
  go_wp2_with fail
  go_ret
  first | exact ⟨rfl, y13.ok⟩ | exact ⟨ret_bool (by simp; omega), y13.ok⟩

set_option maxHeartbeats 4000000 in
set_option maxRecDepth 100000 in
theorem order_6B (w : World) (xs : List Cel) (a : Option Addr) (cap : Nat) (hx : Row w a cap xs) (ys : List Cel) (a' : Option Addr) (cap' : Nat) (hy : Row w a' cap' ys) (zs : List Cel) (b : Option Addr) (bcap : Nat) (hz : Row w b bcap zs) (hg1 : ¬ 300 < xs.length) (hg2 : ¬ 300 < ys.length) (hg3 : ¬ 300 < zs.length) (hR1 : rightB xs = true) (hR2 : rightB ys = true) (hR3 : rightB zs = true) (x y z : Int) (b0 : Bool) (hcx : compP xs ys = x) (hcy : compP ys zs = y) (hcz : compP xs zs = z) (hcn : compP ys xs = -x) (hsame : decide (xs = ys) = b0) (hb0 : (x == 0) = b0) (hcs : compP xs xs = 0) (l1 : -1 ≤ x) (l2 : x ≤ 1) (l3 : -1 ≤ y) (l4 : y ≤ 1) (l5 : -1 ≤ z) (l6 : z ≤ 1) (s1 : x ≤ 0) (s2 : 0 ≤ x) (s3 : 0 < y) :
    Calls Try.prog 11 #[.slice a xs.length cap, .slice a' ys.length cap', .slice b zs.length bcap] w fun e w' => e = .returned (.bool true) ∧ Below w.heap.size w w' := by
  have hm1 := hx.max
  have hm2 := hx.le
  have hm3 := hy.max
  have hm4 := hy.le
  have hm5 := hz.max
  have hm6 := hz.le
  have hnx : ((-x != -x) : Bool) = false := by simp
  have hbb : ((b0 != b0) : Bool) = false := by simp
  go_enter Try.func11, Try.ntmps11
  go_wp2_with fail
  refine (head_any _).mono ?_
  rintro e w9 ⟨rfl, hb9⟩
  obtain ⟨y1, rfl⟩ := later_first hb9
  clear hb9
  go_wp2_with fail
  refine (great_no hg1).mono ?_
  rintro e w9 ⟨rfl, hb9⟩
  obtain ⟨y2, rfl⟩ := later_of hb9
  clear hb9
  go_wp2_with fail
  refine (great_no hg2).mono ?_
  rintro e w9 ⟨rfl, hb9⟩
  obtain ⟨y3, rfl⟩ := later_of hb9
  clear hb9
  go_wp2_with fail
  refine (great_no hg3).mono ?_
  rintro e w9 ⟨rfl, hb9⟩
  obtain ⟨y4, rfl⟩ := later_of hb9
  clear hb9
  go_wp2_with fail
  refine (right_lit rfl (hx.below y4.ok) hR1).mono ?_
  rintro e w9 ⟨rfl, hb9⟩
  obtain ⟨y5, rfl⟩ := later_of hb9
  clear hb9
  go_wp2_with fail
  refine (right_lit rfl (hy.below y5.ok) hR2).mono ?_
  rintro e w9 ⟨rfl, hb9⟩
  obtain ⟨y6, rfl⟩ := later_of hb9
  clear hb9
  go_wp2_with fail
  refine (right_lit rfl (hz.below y6.ok) hR3).mono ?_
  rintro e w9 ⟨rfl, hb9⟩
  obtain ⟨y7, rfl⟩ := later_of hb9
  clear hb9
  go_wp2_with fail
  refine (compare_lit rfl (hx.below y7.ok) rfl (hy.below y7.ok) hcx).mono ?_
  rintro e w9 ⟨rfl, hb9⟩
  obtain ⟨y8, rfl⟩ := later_of hb9
  clear hb9
  go_wp2_with fail
  refine (compare_lit rfl (hy.below y8.ok) rfl (hz.below y8.ok) hcy).mono ?_
  rintro e w9 ⟨rfl, hb9⟩
  obtain ⟨y9, rfl⟩ := later_of hb9
  clear hb9
  go_wp2_with fail
  refine (compare_lit rfl (hx.below y9.ok) rfl (hz.below y9.ok) hcz).mono ?_
  rintro e w9 ⟨rfl, hb9⟩
  obtain ⟨y10, rfl⟩ := later_of hb9
  clear hb9
  go_wp2_with fail
  refine (compare_lit rfl (hy.below y10.ok) rfl (hx.below y10.ok) hcn).mono ?_
  rintro e w9 ⟨rfl, hb9⟩
  obtain ⟨y11, rfl⟩ := later_of hb9
  clear hb9
  go_wp2_with fail
  refine (same_lit rfl (hx.below y11.ok) rfl (hy.below y11.ok) hsame).mono ?_
  rintro e w9 ⟨rfl, hb9⟩
  obtain ⟨y12, rfl⟩ := later_of hb9
  clear hb9
  go_wp2_with fail
  refine (compare_lit rfl (hx.below y12.ok) rfl (hx.below y12.ok) hcs).mono ?_
  rintro e w9 ⟨rfl, hb9⟩
  obtain ⟨y13, rfl⟩ := later_of hb9
  clear hb9
  go_wp2_with fail
  go_ret
  first | exact ⟨rfl, y13.ok⟩ | exact ⟨ret_bool (by simp; omega), y13.ok⟩

set_option maxHeartbeats 4000000 in
set_option maxRecDepth 100000 in
theorem order_6C (w : World) (xs : List Cel) (a : Option Addr) (cap : Nat) (hx : Row w a cap xs) (ys : List Cel) (a' : Option Addr) (cap' : Nat) (hy : Row w a' cap' ys) (zs : List Cel) (b : Option Addr) (bcap : Nat) (hz : Row w b bcap zs) (hg1 : ¬ 300 < xs.length) (hg2 : ¬ 300 < ys.length) (hg3 : ¬ 300 < zs.length) (hR1 : rightB xs = true) (hR2 : rightB ys = true) (hR3 : rightB zs = true) (x y z : Int) (b0 : Bool) (hcx : compP xs ys = x) (hcy : compP ys zs = y) (hcz : compP xs zs = z) (hcn : compP ys xs = -x) (hsame : decide (xs = ys) = b0) (hb0 : (x == 0) = b0) (hcs : compP xs xs = 0) (l1 : -1 ≤ x) (l2 : x ≤ 1) (l3 : -1 ≤ y) (l4 : y ≤ 1) (l5 : -1 ≤ z) (l6 : z ≤ 1) (s1 : x ≤ 0) (s2 : 0 ≤ x) (s3 : y ≤ 0) (s4 : 0 ≤ y) (s5 : z ≤ 0) :
    Calls Try.prog 11 #[.slice a xs.length cap, .slice a' ys.length cap', .slice b zs.length bcap] w fun e w' => e = .returned (.bool true) ∧ Below w.heap.size w w' := by
  have hm1 := hx.max
  have hm2 := hx.le
  have hm3 := hy.max
  have hm4 := hy.le
  have hm5 := hz.max
  have hm6 := hz.le
  have hnx : ((-x != -x) : Bool) = false := by simp
  have hbb : ((b0 != b0) : Bool) = false := by simp
  go_enter Try.func11, Try.ntmps11
  go_wp2_with fail
  refine (head_any _).mono ?_
  rintro e w9 ⟨rfl, hb9⟩
  obtain ⟨y1, rfl⟩ := later_first hb9
  clear hb9
  go_wp2_with fail
  refine (great_no hg1).mono ?_
  rintro e w9 ⟨rfl, hb9⟩
  obtain ⟨y2, rfl⟩ := later_of hb9
  clear hb9
  go_wp2_with fail
  refine (great_no hg2).mono ?_
  rintro e w9 ⟨rfl, hb9⟩
  obtain ⟨y3, rfl⟩ := later_of hb9
  clear hb9
  go_wp2_with fail
  refine (great_no hg3).mono ?_
  rintro e w9 ⟨rfl, hb9⟩
  obtain ⟨y4, rfl⟩ := later_of hb9
  clear hb9
  go_wp2_with fail
  refine (right_lit rfl (hx.below y4.ok) hR1).mono ?_
  rintro e w9 ⟨rfl, hb9⟩
  obtain ⟨y5, rfl⟩ := later_of hb9
  clear hb9
  go_wp2_with fail
  refine (right_lit rfl (hy.below y5.ok) hR2).mono ?_
  rintro e w9 ⟨rfl, hb9⟩
  obtain ⟨y6, rfl⟩ := later_of hb9
  clear hb9
  go_wp2_with fail
  refine (right_lit rfl (hz.below y6.ok) hR3).mono ?_
  rintro e w9 ⟨rfl, hb9⟩
  obtain ⟨y7, rfl⟩ := later_of hb9
  clear hb9
  go_wp2_with fail
  refine (compare_lit rfl (hx.below y7.ok) rfl (hy.below y7.ok) hcx).mono ?_
  rintro e w9 ⟨rfl, hb9⟩
  obtain ⟨y8, rfl⟩ := later_of hb9
  clear hb9
  go_wp2_with fail
  refine (compare_lit rfl (hy.below y8.ok) rfl (hz.below y8.ok) hcy).mono ?_
  rintro e w9 ⟨rfl, hb9⟩
  obtain ⟨y9, rfl⟩ := later_of hb9
  clear hb9
  go_wp2_with fail
  refine (compare_lit rfl (hx.below y9.ok) rfl (hz.below y9.ok) hcz).mono ?_
  rintro e w9 ⟨rfl, hb9⟩
  obtain ⟨y10, rfl⟩ := later_of hb9
  clear hb9
  go_wp2_with fail
  refine (compare_lit rfl (hy.below y10.ok) rfl (hx.below y10.ok) hcn).mono ?_
  rintro e w9 ⟨rfl, hb9⟩
  obtain ⟨y11, rfl⟩ := later_of hb9
  clear hb9
  go_wp2_with fail
  refine (same_lit rfl (hx.below y11.ok) rfl (hy.below y11.ok) hsame).mono ?_
  rintro e w9 ⟨rfl, hb9⟩
  obtain ⟨y12, rfl⟩ := later_of hb9
  clear hb9
  go_wp2_with fail
  refine (compare_lit rfl (hx.below y12.ok) rfl (hx.below y12.ok) hcs).mono ?_
  rintro e w9 ⟨rfl, hb9⟩
  obtain ⟨y13, rfl⟩ := later_of hb9
  clear hb9
  go_wp2_with fail
  go_ret
  first | exact ⟨rfl, y13.ok⟩ | exact ⟨ret_bool (by simp; omega), y13.ok⟩

set_option maxHeartbeats 4000000 in
set_option maxRecDepth 100000 in
theorem order_6D (w : World) (xs : List Cel) (a : Option Addr) (cap : Nat) (hx : Row w a cap xs) (ys : List Cel) (a' : Option Addr) (cap' : Nat) (hy : Row w a' cap' ys) (zs : List Cel) (b : Option Addr) (bcap : Nat) (hz : Row w b bcap zs) (hg1 : ¬ 300 < xs.length) (hg2 : ¬ 300 < ys.length) (hg3 : ¬ 300 < zs.length) (hR1 : rightB xs = true) (hR2 : rightB ys = true) (hR3 : rightB zs = true) (x y z : Int) (b0 : Bool) (hcx : compP xs ys = x) (hcy : compP ys zs = y) (hcz : compP xs zs = z) (hcn : compP ys xs = -x) (hsame : decide (xs = ys) = b0) (hb0 : (x == 0) = b0) (hcs : compP xs xs = 0) (l1 : -1 ≤ x) (l2 : x ≤ 1) (l3 : -1 ≤ y) (l4 : y ≤ 1) (l5 : -1 ≤ z) (l6 : z ≤ 1) (s1 : x ≤ 0) (s2 : 0 ≤ x) (s3 : y < 0) (s5 : z < 0) :
    Calls Try.prog 11 #[.slice a xs.length cap, .slice a' ys.length cap', .slice b zs.length bcap] w fun e w' => e = .returned (.bool true) ∧ Below w.heap.size w w' := by
  have hm1 := hx.max
  have hm2 := hx.le
  have hm3 := hy.max
  have hm4 := hy.le
  have hm5 := hz.max
  have hm6 := hz.le
  have hnx : ((-x != -x) : Bool) = false := by simp
  have hbb : ((b0 != b0) : Bool) = false := by simp
  go_enter Try.func11, Try.ntmps11
  go_wp2_with fail
  refine (head_any _).mono ?_
  rintro e w9 ⟨rfl, hb9⟩
  obtain ⟨y1, rfl⟩ := later_first hb9
  clear hb9
  go_wp2_with fail
  refine (great_no hg1).mono ?_
  rintro e w9 ⟨rfl, hb9⟩
  obtain ⟨y2, rfl⟩ := later_of hb9
  clear hb9
  go_wp2_with fail
  refine (great_no hg2).mono ?_
  rintro e w9 ⟨rfl, hb9⟩
  obtain ⟨y3, rfl⟩ := later_of hb9
  clear hb9
  go_wp2_with fail
  refine (great_no hg3).mono ?_
  rintro e w9 ⟨rfl, hb9⟩
  obtain ⟨y4, rfl⟩ := later_of hb9
  clear hb9
  go_wp2_with fail
  refine (right_lit rfl (hx.below y4.ok) hR1).mono ?_
  rintro e w9 ⟨rfl, hb9⟩
  obtain ⟨y5, rfl⟩ := later_of hb9
  clear hb9
  go_wp2_with fail
  refine (right_lit rfl (hy.below y5.ok) hR2).mono ?_
  rintro e w9 ⟨rfl, hb9⟩
  obtain ⟨y6, rfl⟩ := later_of hb9
  clear hb9
  go_wp2_with fail
  refine (right_lit rfl (hz.below y6.ok) hR3).mono ?_
  rintro e w9 ⟨rfl, hb9⟩
  obtain ⟨y7, rfl⟩ := later_of hb9
  clear hb9
  go_wp2_with fail
  refine (compare_lit rfl (hx.below y7.ok) rfl (hy.below y7.ok) hcx).mono ?_
  rintro e w9 ⟨rfl, hb9⟩
  obtain ⟨y8, rfl⟩ := later_of hb9
  clear hb9
  go_wp2_with fail
  refine (compare_lit rfl (hy.below y8.ok) rfl (hz.below y8.ok) hcy).mono ?_
  rintro e w9 ⟨rfl, hb9⟩
  obtain ⟨y9, rfl⟩ := later_of hb9
  clear hb9
  go_wp2_with fail
  refine (compare_lit rfl (hx.below y9.ok) rfl (hz.below y9.ok) hcz).mono ?_
  rintro e w9 ⟨rfl, hb9⟩
  obtain ⟨y10, rfl⟩ := later_of hb9
  clear hb9
  go_wp2_with fail
  refine (compare_lit rfl (hy.below y10.ok) rfl (hx.below y10.ok) hcn).mono ?_
  rintro e w9 ⟨rfl, hb9⟩
  obtain ⟨y11, rfl⟩ := later_of hb9
  clear hb9
  go_wp2_with fail
  refine (same_lit rfl (hx.below y11.ok) rfl (hy.below y11.ok) hsame).mono ?_
  rintro e w9 ⟨rfl, hb9⟩
  obtain ⟨y12, rfl⟩ := later_of hb9
  clear hb9
  go_wp2_with fail
  refine (compare_lit rfl (hx.below y12.ok) rfl (hx.below y12.ok) hcs).mono ?_
  rintro e w9 ⟨rfl, hb9⟩
  obtain ⟨y13, rfl⟩ := later_of hb9
  clear hb9
  go_wp2_with fail
  go_ret
  first | exact ⟨rfl, y13.ok⟩ | exact ⟨ret_bool (by simp; omega), y13.ok⟩

set_option maxHeartbeats 4000000 in
set_option maxRecDepth 100000 in
theorem order_6E (w : World) (xs : List Cel) (a : Option Addr) (cap : Nat) (hx : Row w a cap xs) (ys : List Cel) (a' : Option Addr) (cap' : Nat) (hy : Row w a' cap' ys) (zs : List Cel) (b : Option Addr) (bcap : Nat) (hz : Row w b bcap zs) (hg1 : ¬ 300 < xs.length) (hg2 : ¬ 300 < ys.length) (hg3 : ¬ 300 < zs.length) (hR1 : rightB xs = true) (hR2 : rightB ys = true) (hR3 : rightB zs = true) (x y z : Int) (b0 : Bool) (hcx : compP xs ys = x) (hcy : compP ys zs = y) (hcz : compP xs zs = z) (hcn : compP ys xs = -x) (hsame : decide (xs = ys) = b0) (hb0 : (x == 0) = b0) (hcs : compP xs xs = 0) (l1 : -1 ≤ x) (l2 : x ≤ 1) (l3 : -1 ≤ y) (l4 : y ≤ 1) (l5 : -1 ≤ z) (l6 : z ≤ 1) (s1 : x < 0) (s3 : 0 < y) :
    Calls Try.prog 11 #[.slice a xs.length cap, .slice a' ys.length cap', .slice b zs.length bcap] w fun e w' => e = .returned (.bool true) ∧ Below w.heap.size w w' := by
  have hm1 := hx.max
  have hm2 := hx.le
  have hm3 := hy.max
  have hm4 := hy.le
  have hm5 := hz.max
  have hm6 := hz.le
  have hnx : ((-x != -x) : Bool) = false := by simp
  have hbb : ((b0 != b0) : Bool) = false := by simp
  go_enter Try.func11, Try.ntmps11
  go_wp2_with fail
  refine (head_any _).mono ?_
  rintro e w9 ⟨rfl, hb9⟩
  obtain ⟨y1, rfl⟩ := later_first hb9
  clear hb9
  go_wp2_with fail
  refine (great_no hg1).mono ?_
  rintro e w9 ⟨rfl, hb9⟩
  obtain ⟨y2, rfl⟩ := later_of hb9
  clear hb9
  go_wp2_with fail
  refine (great_no hg2).mono ?_
  rintro e w9 ⟨rfl, hb9⟩
  obtain ⟨y3, rfl⟩ := later_of hb9
  clear hb9
  go_wp2_with fail
  refine (great_no hg3).mono ?_
  rintro e w9 ⟨rfl, hb9⟩
  obtain ⟨y4, rfl⟩ := later_of hb9
  clear hb9
  go_wp2_with fail
  refine (right_lit rfl (hx.below y4.ok) hR1).mono ?_
  rintro e w9 ⟨rfl, hb9⟩
  obtain ⟨y5, rfl⟩ := later_of hb9
  clear hb9
  go_wp2_with fail
  refine (right_lit rfl (hy.below y5.ok) hR2).mono ?_
  rintro e w9 ⟨rfl, hb9⟩
  obtain ⟨y6, rfl⟩ := later_of hb9
  clear hb9
  go_wp2_with fail
  refine (right_lit rfl (hz.below y6.ok) hR3).mono ?_
  rintro e w9 ⟨rfl, hb9⟩
  obtain ⟨y7, rfl⟩ := later_of hb9
  clear hb9
  go_wp2_with fail
  refine (compare_lit rfl (hx.below y7.ok) rfl (hy.below y7.ok) hcx).mono ?_
  rintro e w9 ⟨rfl, hb9⟩
  obtain ⟨y8, rfl⟩ := later_of hb9
  clear hb9
  go_wp2_with fail
  refine (compare_lit rfl (hy.below y8.ok) rfl (hz.below y8.ok) hcy).mono ?_
  rintro e w9 ⟨rfl, hb9⟩
  obtain ⟨y9, rfl⟩ := later_of hb9
  clear hb9
  go_wp2_with fail
  refine (compare_lit rfl (hx.below y9.ok) rfl (hz.below y9.ok) hcz).mono ?_
  rintro e w9 ⟨rfl, hb9⟩
  obtain ⟨y10, rfl⟩ := later_of hb9
  clear hb9
  go_wp2_with fail
  refine (compare_lit rfl (hy.below y10.ok) rfl (hx.below y10.ok) hcn).mono ?_
  rintro e w9 ⟨rfl, hb9⟩
  obtain ⟨y11, rfl⟩ := later_of hb9
  clear hb9
  go_wp2_with fail
  refine (same_lit rfl (hx.below y11.ok) rfl (hy.below y11.ok) hsame).mono ?_
  rintro e w9 ⟨rfl, hb9⟩
  obtain ⟨y12, rfl⟩ := later_of hb9
  clear hb9
  go_wp2_with fail
  refine (compare_lit rfl (hx.below y12.ok) rfl (hx.below y12.ok) hcs).mono ?_
  rintro e w9 ⟨rfl, hb9⟩
  obtain ⟨y13, rfl⟩ := later_of hb9
  clear hb9
  go_wp2_with fail
  go_ret
  first | exact ⟨rfl, y13.ok⟩ | exact ⟨ret_bool (by simp; omega), y13.ok⟩

set_option maxHeartbeats 4000000 in
set_option maxRecDepth 100000 in
theorem order_6F (w : World) (xs : List Cel) (a : Option Addr) (cap : Nat) (hx : Row w a cap xs) (ys : List Cel) (a' : Option Addr) (cap' : Nat) (hy : Row w a' cap' ys) (zs : List Cel) (b : Option Addr) (bcap : Nat) (hz : Row w b bcap zs) (hg1 : ¬ 300 < xs.length) (hg2 : ¬ 300 < ys.length) (hg3 : ¬ 300 < zs.length) (hR1 : rightB xs = true) (hR2 : rightB ys = true) (hR3 : rightB zs = true) (x y z : Int) (b0 : Bool) (hcx : compP xs ys = x) (hcy : compP ys zs = y) (hcz : compP xs zs = z) (hcn : compP ys xs = -x) (hsame : decide (xs = ys) = b0) (hb0 : (x == 0) = b0) (hcs : compP xs xs = 0) (l1 : -1 ≤ x) (l2 : x ≤ 1) (l3 : -1 ≤ y) (l4 : y ≤ 1) (l5 : -1 ≤ z) (l6 : z ≤ 1) (s1 : x < 0) (s3 : y ≤ 0) (s4 : 0 ≤ y) (s5 : z < 0) :
    Calls Try.prog 11 #[.slice a xs.length cap, .slice a' ys.length cap', .slice b zs.length bcap] w fun e w' => e = .returned (.bool true) ∧ Below w.heap.size w w' := by
  have hm1 := hx.max
  have hm2 := hx.le
  have hm3 := hy.max
  have hm4 := hy.le
  have hm5 := hz.max
  have hm6 := hz.le
  have hnx : ((-x != -x) : Bool) = false := by simp
  have hbb : ((b0 != b0) : Bool) = false := by simp
  go_enter Try.func11, Try.ntmps11
  go_wp2_with fail
  refine (head_any _).mono ?_
  rintro e w9 ⟨rfl, hb9⟩
  obtain ⟨y1, rfl⟩ := later_first hb9
  clear hb9
  go_wp2_with fail
  refine (great_no hg1).mono ?_
  rintro e w9 ⟨rfl, hb9⟩
  obtain ⟨y2, rfl⟩ := later_of hb9
  clear hb9
  go_wp2_with fail
  refine (great_no hg2).mono ?_
  rintro e w9 ⟨rfl, hb9⟩
  obtain ⟨y3, rfl⟩ := later_of hb9
  clear hb9
  go_wp2_with fail
  refine (great_no hg3).mono ?_
  rintro e w9 ⟨rfl, hb9⟩
  obtain ⟨y4, rfl⟩ := later_of hb9
  clear hb9
  go_wp2_with fail
  refine (right_lit rfl (hx.below y4.ok) hR1).mono ?_
  rintro e w9 ⟨rfl, hb9⟩
  obtain ⟨y5, rfl⟩ := later_of hb9
  clear hb9
  go_wp2_with fail
  refine (right_lit rfl (hy.below y5.ok) hR2).mono ?_
  rintro e w9 ⟨rfl, hb9⟩
  obtain ⟨y6, rfl⟩ := later_of hb9
  clear hb9
  go_wp2_with fail
  refine (right_lit rfl (hz.below y6.ok) hR3).mono ?_
  rintro e w9 ⟨rfl, hb9⟩
  obtain ⟨y7, rfl⟩ := later_of hb9
  clear hb9
  go_wp2_with fail
  refine (compare_lit rfl (hx.below y7.ok) rfl (hy.below y7.ok) hcx).mono ?_
  rintro e w9 ⟨rfl, hb9⟩
  obtain ⟨y8, rfl⟩ := later_of hb9
  clear hb9
  go_wp2_with fail
  refine (compare_lit rfl (hy.below y8.ok) rfl (hz.below y8.ok) hcy).mono ?_
  rintro e w9 ⟨rfl, hb9⟩
  obtain ⟨y9, rfl⟩ := later_of hb9
  clear hb9
  go_wp2_with fail
  refine (compare_lit rfl (hx.below y9.ok) rfl (hz.below y9.ok) hcz).mono ?_
  rintro e w9 ⟨rfl, hb9⟩
  obtain ⟨y10, rfl⟩ := later_of hb9
  clear hb9
  go_wp2_with fail
  refine (compare_lit rfl (hy.below y10.ok) rfl (hx.below y10.ok) hcn).mono ?_
  rintro e w9 ⟨rfl, hb9⟩
  obtain ⟨y11, rfl⟩ := later_of hb9
  clear hb9
  go_wp2_with fail
  refine (same_lit rfl (hx.below y11.ok) rfl (hy.below y11.ok) hsame).mono ?_
  rintro e w9 ⟨rfl, hb9⟩
  obtain ⟨y12, rfl⟩ := later_of hb9
  clear hb9
  go_wp2_with fail
  refine (compare_lit rfl (hx.below y12.ok) rfl (hx.below y12.ok) hcs).mono ?_
  rintro e w9 ⟨rfl, hb9⟩
  obtain ⟨y13, rfl⟩ := later_of hb9
  clear hb9
  go_wp2_with fail
  go_ret
  first | exact ⟨rfl, y13.ok⟩ | exact ⟨ret_bool (by simp; omega), y13.ok⟩

set_option maxHeartbeats 4000000 in
set_option maxRecDepth 100000 in
theorem order_6H (w : World) (xs : List Cel) (a : Option Addr) (cap : Nat) (hx : Row w a cap xs) (ys : List Cel) (a' : Option Addr) (cap' : Nat) (hy : Row w a' cap' ys) (zs : List Cel) (b : Option Addr) (bcap : Nat) (hz : Row w b bcap zs) (hg1 : ¬ 300 < xs.length) (hg2 : ¬ 300 < ys.length) (hg3 : ¬ 300 < zs.length) (hR1 : rightB xs = true) (hR2 : rightB ys = true) (hR3 : rightB zs = true) (x y z : Int) (b0 : Bool) (hcx : compP xs ys = x) (hcy : compP ys zs = y) (hcz : compP xs zs = z) (hcn : compP ys xs = -x) (hsame : decide (xs = ys) = b0) (hb0 : (x == 0) = b0) (hcs : compP xs xs = 0) (l1 : -1 ≤ x) (l2 : x ≤ 1) (l3 : -1 ≤ y) (l4 : y ≤ 1) (l5 : -1 ≤ z) (l6 : z ≤ 1) (s1 : x < 0) (s3 : y < 0) (s5 : z < 0) :
    Calls Try.prog 11 #[.slice a xs.length cap, .slice a' ys.length cap', .slice b zs.length bcap] w fun e w' => e = .returned (.bool true) ∧ Below w.heap.size w w' := by
  have hm1 := hx.max
  have hm2 := hx.le
  have hm3 := hy.max
  have hm4 := hy.le
  have hm5 := hz.max
  have hm6 := hz.le
  have hnx : ((-x != -x) : Bool) = false := by simp
  have hbb : ((b0 != b0) : Bool) = false := by simp
  go_enter Try.func11, Try.ntmps11
  go_wp2_with fail
  refine (head_any _).mono ?_
  rintro e w9 ⟨rfl, hb9⟩
  obtain ⟨y1, rfl⟩ := later_first hb9
  clear hb9
  go_wp2_with fail
  refine (great_no hg1).mono ?_
  rintro e w9 ⟨rfl, hb9⟩
  obtain ⟨y2, rfl⟩ := later_of hb9
  clear hb9
  go_wp2_with fail
  refine (great_no hg2).mono ?_
  rintro e w9 ⟨rfl, hb9⟩
  obtain ⟨y3, rfl⟩ := later_of hb9
  clear hb9
  go_wp2_with fail
  refine (great_no hg3).mono ?_
  rintro e w9 ⟨rfl, hb9⟩
  obtain ⟨y4, rfl⟩ := later_of hb9
  clear hb9
  go_wp2_with fail
  refine (right_lit rfl (hx.below y4.ok) hR1).mono ?_
  rintro e w9 ⟨rfl, hb9⟩
  obtain ⟨y5, rfl⟩ := later_of hb9
  clear hb9
  go_wp2_with fail
  refine (right_lit rfl (hy.below y5.ok) hR2).mono ?_
  rintro e w9 ⟨rfl, hb9⟩
  obtain ⟨y6, rfl⟩ := later_of hb9
  clear hb9
  go_wp2_with fail
  refine (right_lit rfl (hz.below y6.ok) hR3).mono ?_
  rintro e w9 ⟨rfl, hb9⟩
  obtain ⟨y7, rfl⟩ := later_of hb9
  clear hb9
  go_wp2_with fail
  refine (compare_lit rfl (hx.below y7.ok) rfl (hy.below y7.ok) hcx).mono ?_
  rintro e w9 ⟨rfl, hb9⟩
  obtain ⟨y8, rfl⟩ := later_of hb9
  clear hb9
  go_wp2_with fail
  refine (compare_lit rfl (hy.below y8.ok) rfl (hz.below y8.ok) hcy).mono ?_
  rintro e w9 ⟨rfl, hb9⟩
  obtain ⟨y9, rfl⟩ := later_of hb9
  clear hb9
  go_wp2_with fail
  refine (compare_lit rfl (hx.below y9.ok) rfl (hz.below y9.ok) hcz).mono ?_
  rintro e w9 ⟨rfl, hb9⟩
  obtain ⟨y10, rfl⟩ := later_of hb9
  clear hb9
  go_wp2_with fail
  refine (compare_lit rfl (hy.below y10.ok) rfl (hx.below y10.ok) hcn).mono ?_
  rintro e w9 ⟨rfl, hb9⟩
  obtain ⟨y11, rfl⟩ := later_of hb9
  clear hb9
  go_wp2_with fail
  refine (same_lit rfl (hx.below y11.ok) rfl (hy.below y11.ok) hsame).mono ?_
  rintro e w9 ⟨rfl, hb9⟩
  obtain ⟨y12, rfl⟩ := later_of hb9
  clear hb9
  go_wp2_with fail
  refine (compare_lit rfl (hx.below y12.ok) rfl (hx.below y12.ok) hcs).mono ?_
  rintro e w9 ⟨rfl, hb9⟩
  obtain ⟨y13, rfl⟩ := later_of hb9
  clear hb9
  go_wp2_with fail
  go_ret
  first | exact ⟨rfl, y13.ok⟩ | exact ⟨ret_bool (by simp; omega), y13.ok⟩

theorem lawOrder_any (w : World) (xs : List Cel) (a : Option Addr) (cap : Nat) (hx : Row w a cap xs) (ys : List Cel) (a' : Option Addr) (cap' : Nat) (hy : Row w a' cap' ys) (zs : List Cel) (b : Option Addr) (bcap : Nat) (hz : Row w b bcap zs) :
    Calls Try.prog 11 #[.slice a xs.length cap, .slice a' ys.length cap', .slice b zs.length bcap] w fun e w' => e = .returned (.bool true) ∧ Below w.heap.size w w' := by
  by_cases hg1 : 300 < xs.length
  · exact order_0 w xs a cap hx ys a' cap' hy zs b bcap hz hg1
  by_cases hg2 : 300 < ys.length
  · exact order_1 w xs a cap hx ys a' cap' hy zs b bcap hz hg1 hg2
  by_cases hg3 : 300 < zs.length
  · exact order_2 w xs a cap hx ys a' cap' hy zs b bcap hz hg1 hg2 hg3
  by_cases hR1 : rightB xs = true
  case neg => exact order_3 w xs a cap hx ys a' cap' hy zs b bcap hz hg1 hg2 hg3 (by simpa using hR1)
  by_cases hR2 : rightB ys = true
  case neg => exact order_4 w xs a cap hx ys a' cap' hy zs b bcap hz hg1 hg2 hg3 hR1 (by simpa using hR2)
  by_cases hR3 : rightB zs = true
  case neg => exact order_5 w xs a cap hx ys a' cap' hy zs b bcap hz hg1 hg2 hg3 hR1 hR2 (by simpa using hR3)
  have h1 := compP_ok.range xs ys
  have h2 := compP_ok.range ys zs
  have h3 := compP_ok.range xs zs
  have hsame : decide (xs = ys) = ((compP xs ys) == 0) := by
    by_cases e : xs = ys
    · rw [decide_eq_true e, (compP_ok.zero xs ys).2 e]; rfl
    · rw [decide_eq_false e]
      have := mt (compP_ok.zero xs ys).1 e
      simp [this]
  by_cases e1 : 0 < compP xs ys
  · exact order_6A w xs a cap hx ys a' cap' hy zs b bcap hz hg1 hg2 hg3 hR1 hR2 hR3 _ _ _ _ rfl rfl rfl (compP_ok.neg xs ys) hsame rfl (compP_ok.self xs) (by omega) (by omega) (by omega) (by omega) (by omega) (by omega) (by omega)
  by_cases e2 : 0 < compP ys zs
  · by_cases e3 : 0 ≤ compP xs ys
    · exact order_6B w xs a cap hx ys a' cap' hy zs b bcap hz hg1 hg2 hg3 hR1 hR2 hR3 _ _ _ _ rfl rfl rfl (compP_ok.neg xs ys) hsame rfl (compP_ok.self xs) (by omega) (by omega) (by omega) (by omega) (by omega) (by omega) (by omega) (by omega) (by omega)
    · exact order_6E w xs a cap hx ys a' cap' hy zs b bcap hz hg1 hg2 hg3 hR1 hR2 hR3 _ _ _ _ rfl rfl rfl (compP_ok.neg xs ys) hsame rfl (compP_ok.self xs) (by omega) (by omega) (by omega) (by omega) (by omega) (by omega) (by omega) (by omega)
  have t1 := compP_ok.trans xs ys zs (by omega) (by omega)
  by_cases e3 : 0 ≤ compP xs ys
  · by_cases e4 : 0 ≤ compP ys zs
    · exact order_6C w xs a cap hx ys a' cap' hy zs b bcap hz hg1 hg2 hg3 hR1 hR2 hR3 _ _ _ _ rfl rfl rfl (compP_ok.neg xs ys) hsame rfl (compP_ok.self xs) (by omega) (by omega) (by omega) (by omega) (by omega) (by omega) (by omega) (by omega) (by omega) (by omega) (by omega)
    · have t2 := compP_ok.le_lt (x := xs) (y := ys) (z := zs) (by omega) (by omega)
      exact order_6D w xs a cap hx ys a' cap' hy zs b bcap hz hg1 hg2 hg3 hR1 hR2 hR3 _ _ _ _ rfl rfl rfl (compP_ok.neg xs ys) hsame rfl (compP_ok.self xs) (by omega) (by omega) (by omega) (by omega) (by omega) (by omega) (by omega) (by omega) (by omega) (by omega)
  · have t2 := compP_ok.lt_le (x := xs) (y := ys) (z := zs) (by omega) (by omega)
    by_cases e4 : 0 ≤ compP ys zs
    · exact order_6F w xs a cap hx ys a' cap' hy zs b bcap hz hg1 hg2 hg3 hR1 hR2 hR3 _ _ _ _ rfl rfl rfl (compP_ok.neg xs ys) hsame rfl (compP_ok.self xs) (by omega) (by omega) (by omega) (by omega) (by omega) (by omega) (by omega) (by omega) (by omega) (by omega)
    · exact order_6H w xs a cap hx ys a' cap' hy zs b bcap hz hg1 hg2 hg3 hR1 hR2 hR3 _ _ _ _ rfl rfl rfl (compP_ok.neg xs ys) hsame rfl (compP_ok.self xs) (by omega) (by omega) (by omega) (by omega) (by omega) (by omega) (by omega) (by omega) (by omega)
end Go.Proofs.Ytkbgdpgmnigcbaa
